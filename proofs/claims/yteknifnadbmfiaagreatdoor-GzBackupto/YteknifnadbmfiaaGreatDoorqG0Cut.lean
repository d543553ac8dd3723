/- gz: qG0Cut. -/
import Derived.Test.YteknifnadbmfiaaGreatDoorpAg06PRun
import Derived.Test.YteknifnadbmfiaaGreatDoorpKg01CMore
import Derived.Test.YteknifnadbmfiaaGreatDoorpKg00FPut
import Derived.Laws.BytesArg
import Derived.Test.YteknifnadbmfiaaGreatDoorpAg02HMath
import Derived.Test.YteknifnadbmfiaaGreatDoorpAg04ISpec
import Derived.Lib.BytesEntry
import Derived.Laws.Externs
namespace Go.Proofs.YteknifnadbmfiaaGreatDoor
set_option maxRecDepth 100000
open Go Go.RowKit

structure Mb where
 name : ByteArray
 comment : ByteArray
 extra : ByteArray
 time : Nat
 text : Bool
 data : ByteArray
def Mb.cells (m : Mb) : Array Value := #[.string m.name, .string m.comment, .string m.extra, .int .u32 (m.time : Int), .bool m.text, .string m.data]
def mb0 : Mb := ⟨.empty, .empty, .empty, 0, false, .empty⟩
def uB (zs : List Int) : List UInt8 := zs.map fun z => UInt8.ofNat z.toNat
def nB (zs : List Int) : List Nat := zs.map Int.toNat
def crc (zs : List Int) : Nat := C.mr 0 (nB zs)
def le (zs : List Int) : Nat := F.leN (uB zs)
theorem uB_length (zs : List Int) : (uB zs).length = zs.length := List.length_map ..
theorem nB_length (zs : List Int) : (nB zs).length = zs.length := List.length_map ..
theorem crc_lt (zs : List Int) : crc zs < 4294967296 := C.mr_lt _ _
theorem le_lt (zs : List Int) : le zs < 256 ^ zs.length := by have := F.leN_lt (uB zs); rwa [uB_length] at this
theorem nB_lt {zs : List Int} (h : ∀ x ∈ zs, 0 <= x /\ x <= 255) : ∀ x ∈ nB zs, x < 256 := fun x hx => by
 obtain ⟨y, hy, rfl⟩ := List.mem_map.1 hx
 have := h y hy
 omega

def gLine : List Int -> Option (List Int × List Int)
 | [] => none
 | x :: r => if x = 0 then some ([], r) else match gLine r with
  | none => none
  | some p => some (x :: p.1, p.2)
theorem gLine_none {r : List Int} (h : ∀ x ∈ r, x ≠ 0) : gLine r = none := by
 induction r with
 | nil => rfl
 | cons x r ih => simp [gLine, h x (by simp), ih fun y hy => h y (by simp [hy])]
theorem gLine_some {a b : List Int} (h : ∀ x ∈ a, x ≠ 0) : gLine (a ++ 0 :: b) = some (a, b) := by
 induction a with
 | nil => simp [gLine]
 | cons x r ih => simp [gLine, h x (by simp), ih fun y hy => h y (by simp [hy])]
theorem ne_cons {x : Int} {r : List Int} (hx : x ≠ 0) (h : ∀ y ∈ r, y ≠ 0) : ∀ y ∈ x :: r, y ≠ 0 := by
 intro y hy
 rcases List.mem_cons.1 hy with e | hy
 ·rw [e]; exact hx
 ·exact h y hy
theorem zero_cases (r : List Int) : (∀ x ∈ r, x ≠ 0) \/ ∃ a b, r = a ++ 0 :: b /\ ∀ x ∈ a, x ≠ 0 := by
 induction r with
 | nil => exact .inl (by simp)
 | cons x r ih =>
  by_cases hx : x = 0
  ·subst hx; exact .inr ⟨[], r, rfl, by simp⟩
  ·rcases ih with h | ⟨a, b, rfl, h⟩
   ·exact .inl (ne_cons hx h)
   ·exact .inr ⟨x :: a, b, rfl, ne_cons hx h⟩

def gMark (r : List Int) : Prop := r.getD 0 0 = 31 /\ r.getD 1 0 = 139 /\ r.getD 2 0 = 8 /\ r.getD 3 0 < 32
instance (r : List Int) : Decidable (gMark r) := by unfold gMark; exact inferInstance
def gFl (r : List Int) : Nat := (r.getD 3 0).toNat
def gFirst (r : List Int) : Except Int (List Int) := if r.length < 10 then .error 90 else if gMark r then .ok (r.drop 10) else .error 91
def gExtra (on : Bool) (r : List Int) : Except Int (ByteArray × List Int) :=
 if on = true then (if r.length < 2 then .error 90 else if r.length - 2 < le (r.take 2) then .error 90 else .ok (strOfNums ((r.drop 2).take (le (r.take 2))), (r.drop 2).drop (le (r.take 2)))) else .ok (.empty, r)
def gText (on : Bool) (r : List Int) : Except Int (ByteArray × List Int) :=
 if on = true then (match gLine r with | none => .error 90 | some p => .ok (strOfNums p.1, p.2)) else .ok (.empty, r)
def gSum (on : Bool) (whole r : List Int) : Except Int (List Int) :=
 if on = true then (if r.length < 2 then .error 90 else if le (r.take 2) = crc (whole.take (whole.length - r.length)) % 65536 then .ok (r.drop 2) else .error 92) else .ok r
def gB (f k : Nat) : Bool := decide (f / k % 2 = 1)
def gTexts (f : Nat) (r : List Int) : Except Int (ByteArray × ByteArray × ByteArray × List Int) :=
 match gExtra (gB f 4) r with
 | .error e => .error e
 | .ok x => match gText (gB f 8) x.2 with
  | .error e => .error e
  | .ok n => match gText (gB f 16) n.2 with
   | .error e => .error e
   | .ok c => .ok (n.1, c.1, x.1, c.2)
def gTime (r : List Int) : Nat := le ((r.drop 4).take 4)
def gHead (r : List Int) : Except Int (Mb × List Int) :=
 match gFirst r with
 | .error e => .error e
 | .ok r1 => match gTexts (gFl r) r1 with
  | .error e => .error e
  | .ok t => match gSum (gB (gFl r) 2) r t.2.2.2 with
   | .error e => .error e
   | .ok r5 => .ok (⟨t.1, t.2.1, t.2.2.1, gTime r, gB (gFl r) 1, .empty⟩, r5)
def gErr (e : Int) : Int := if e = 60 then 90 else if e = 65 then 93 else 91
noncomputable def gStream (left : Nat) (r : List Int) : Except Int (List Int × List Int) :=
 if (iAns r left).2.2 = 0 then .ok ((iAns r left).1, r.drop (iAns r left).2.1) else .error (gErr (iAns r left).2.2)
def gEnd (d r : List Int) : Except Int (List Int) :=
 if r.length < 8 then .error 90 else if le (r.take 4) = crc d /\ le ((r.drop 4).take 4) = d.length % 4294967296 then .ok (r.drop 8) else .error 92
noncomputable def gMember (left : Nat) (r : List Int) : Except Int (Mb × List Int) :=
 match gHead r with
 | .error e => .error e
 | .ok h => match gStream left h.2 with
  | .error e => .error e
  | .ok s => match gEnd s.1 s.2 with
   | .error e => .error e
   | .ok r3 => .ok ({ h.1 with data := strOfNums s.1 }, r3)
noncomputable def gRd : Nat -> Nat -> List Int -> List Mb -> Except Int (List Mb)
 | 0, _, _, _ => .error 90
 | k + 1, left, r, acc => match gMember left r with
  | .error e => .error e
  | .ok p => if p.2 = [] then .ok (acc ++ [p.1]) else gRd k (left - p.1.data.size) p.2 (acc ++ [p.1])
noncomputable def gRead (zs : List Int) (most : Int) : Except Int (List Mb) := gRd (zs.length + 1) most.toNat zs []

/-! What was read is shorter. -/
theorem gFirst_len {r r1 : List Int} (h : gFirst r = .ok r1) : r1 = r.drop 10 /\ 10 <= r.length /\ gMark r := by
 unfold gFirst at h
 split at h
 ·cases h
 ·split at h
  ·cases h; exact ⟨rfl, by omega, by assumption⟩
  ·cases h
theorem gExtra_suf {on : Bool} {r : List Int} {p : ByteArray × List Int} (h : gExtra on r = .ok p) : p.2 <:+ r := by
 unfold gExtra at h
 split at h
 ·split at h
  ·cases h
  ·split at h
   ·cases h
   ·cases h; exact (List.drop_suffix _ _).trans (List.drop_suffix _ _)
 ·cases h; exact List.suffix_refl _
theorem gLine_suf {r : List Int} {p : List Int × List Int} (h : gLine r = some p) : p.2 <:+ r := by
 rcases zero_cases r with hz | ⟨a, b, rfl, hz⟩
 ·rw [gLine_none hz] at h; cases h
 ·rw [gLine_some hz] at h; cases h; exact ⟨a ++ [0], by simp⟩
theorem gText_suf {on : Bool} {r : List Int} {p : ByteArray × List Int} (h : gText on r = .ok p) : p.2 <:+ r := by
 unfold gText at h
 split at h
 ·split at h
  ·cases h
  ·next hl => cases h; exact gLine_suf hl
 ·cases h; exact List.suffix_refl _
theorem gTexts_suf {f : Nat} {r : List Int} {t : ByteArray × ByteArray × ByteArray × List Int} (h : gTexts f r = .ok t) : t.2.2.2 <:+ r := by
 unfold gTexts at h
 split at h
 ·cases h
 ·next hx =>
  split at h
  ·cases h
  ·next hn =>
   split at h
   ·cases h
   ·next hc => cases h; exact (gText_suf hc).trans ((gText_suf hn).trans (gExtra_suf hx))
theorem gSum_suf {on : Bool} {w r r5 : List Int} (h : gSum on w r = .ok r5) : r5 <:+ r := by
 unfold gSum at h
 split at h
 ·split at h
  ·cases h
  ·split at h
   ·cases h; exact List.drop_suffix _ _
   ·cases h
 ·cases h; exact List.suffix_refl _
theorem gHead_suf {r : List Int} {p : Mb × List Int} (h : gHead r = .ok p) : p.2 <:+ r /\ p.2.length + 10 <= r.length := by
 unfold gHead at h
 split at h
 ·cases h
 ·next h1 =>
  split at h
  ·cases h
  ·next h2 =>
   split at h
   ·cases h
   ·next h3 =>
    cases h
    obtain ⟨rfl, hl, _⟩ := gFirst_len h1
    have hs := (gSum_suf h3).trans (gTexts_suf h2)
    have := hs.length_le
    simp at this
    exact ⟨hs.trans (List.drop_suffix _ _), by simp; omega⟩
theorem gStream_suf {left : Nat} {r : List Int} {p : List Int × List Int} (h : gStream left r = .ok p) : p.2 <:+ r := by
 unfold gStream at h
 split at h
 ·cases h; exact List.drop_suffix _ _
 ·cases h
theorem gEnd_suf {d r r3 : List Int} (h : gEnd d r = .ok r3) : r3 <:+ r := by
 unfold gEnd at h
 split at h
 ·cases h
 ·split at h
  ·cases h; exact List.drop_suffix _ _
  ·cases h
theorem gMember_suf {left : Nat} {r : List Int} {p : Mb × List Int} (h : gMember left r = .ok p) : p.2 <:+ r /\ p.2.length + 10 <= r.length := by
 unfold gMember at h
 split at h
 ·cases h
 ·next h1 =>
  split at h
  ·cases h
  ·next h2 =>
   split at h
   ·cases h
   ·next h3 =>
    cases h
    have hh := gHead_suf h1
    have hs := (gEnd_suf h3).trans (gStream_suf h2)
    have := hs.length_le
    exact ⟨hs.trans hh.1, Nat.le_trans (Nat.add_le_add_right this 10) hh.2⟩
theorem gEnd_err {d r : List Int} {e : Int} (h : gEnd d r = .error e) : e = 90 \/ e = 92 := by
 unfold gEnd at h
 split at h
 ·cases h; simp
 ·split at h
  ·cases h
  ·cases h; simp
end Go.Proofs.YteknifnadbmfiaaGreatDoor

namespace Go.Proofs.YteknifnadbmfiaaGreatDoor
set_option maxRecDepth 100000
open Go Go.RowKit

structure Bi (w : World) (B : Nat) (a : Option Addr) (cap : Nat) (zs : List Int) : Prop where
 t : Text B w a zs.length zs
 le : zs.length <= cap
 nil : a = none -> cap = 0
 max : cap <= 9223372036854775807
theorem add_at (b off i : Nat) : ((⟨b, off, none⟩ : Addr).add i) = ⟨b, off + i, none⟩ := by unfold Addr.add; split <;> simp_all
theorem getD_take {zs : List Int} {n i : Nat} (h : i < n) : (zs.take n).getD i 0 = zs.getD i 0 := by simp [List.getD, h]
theorem getD_drop {zs : List Int} {n i : Nat} : (zs.drop n).getD i 0 = zs.getD (n + i) 0 := by simp [List.getD]
section
variable {w w' : World} {B : Nat} {a : Option Addr} {cap : Nat} {zs : List Int}
theorem Bi.mem (h : Bi w B a cap zs) : ∀ x ∈ zs, 0 <= x /\ x <= 255 := by
 intro x hx
 obtain ⟨i, hi, rfl⟩ := List.getElem_of_mem hx
 have := h.t.2.1 i
 simpa [List.getD, hi] using this
theorem Bi.nil0 (h : Bi w B none cap zs) : zs = [] /\ cap = 0 := by
 have h1 := h.nil rfl
 have h2 := h.le
 exact ⟨List.eq_nil_of_length_eq_zero (by omega), h1⟩
theorem Bi.take (h : Bi w B a cap zs) (n : Nat) : Bi w B a cap (zs.take n) := by
 have hl := h.le
 refine ⟨⟨rfl, fun i => ?_, ?_⟩, by simp; omega, h.nil, h.max⟩
 ·by_cases hi : i < n
  ·rw [getD_take hi]; exact h.t.2.1 i
  ·simp [List.getD, List.getElem?_take, hi]
 ·rcases h.t.2.2 with h0 | ⟨b, off, hb, e, hc⟩
  ·left; rw [List.length_take]; omega
  ·right
   refine ⟨b, off, hb, e, fun i hi => ?_⟩
   simp at hi
   rw [getD_take (by omega)]
   exact hc i (by omega)
theorem Bi.none (hm : cap <= 9223372036854775807) (hn : a = none -> cap = 0) : Bi w B a cap [] := ⟨⟨rfl, by intro i; simp, .inl rfl⟩, by simp, hn, hm⟩
theorem Bi.drop {ad : Addr} (h : Bi w B (some ad) cap zs) {n : Nat} (hn : n <= zs.length) : Bi w B (some (ad.add n)) (cap - n) (zs.drop n) := by
 have hl := h.le
 have hm := h.max
 refine ⟨⟨rfl, fun i => by rw [getD_drop]; exact h.t.2.1 _, ?_⟩, by simp; omega, by simp, by omega⟩
 rcases h.t.2.2 with h0 | ⟨b, off, hb, e, hc⟩
 ·left; simp; omega
 ·cases e
  right
  refine ⟨b, off + n, hb, by rw [add_at], fun i hi => ?_⟩
  simp at hi
  rw [getD_drop, <- hc (n + i) (by omega), Nat.add_assoc]
theorem Bi.kept {M : Nat -> Prop} (h : Bi w B a cap zs) (k : Kept M w w') (hM : ∀ b, b < B -> ¬ M b) : Bi w' B a cap zs := by
 refine ⟨⟨rfl, h.t.2.1, ?_⟩, h.le, h.nil, h.max⟩
 rcases h.t.2.2 with h0 | ⟨b, off, hb, e, hc⟩
 ·exact .inl h0
 ·refine .inr ⟨b, off, hb, e, fun i hi => ?_⟩
  have := hc i hi
  rw [k.cell (lt_of_cell this) (hM b hb)]
  exact this
theorem Bi.below (h : Bi w B a cap zs) (k : Below B w w') : Bi w' B a cap zs := h.kept (Kept.of_below k) fun b hb => by omega
theorem Bi.up {B' : Nat} (h : Bi w B a cap zs) (hB : B <= B') : Bi w B' a cap zs := by
 refine ⟨⟨rfl, h.t.2.1, ?_⟩, h.le, h.nil, h.max⟩
 rcases h.t.2.2 with h0 | ⟨b, off, hb, r⟩
 ·exact .inl h0
 ·exact .inr ⟨b, off, by omega, r⟩
theorem Bi.nums (h : Bi w B a cap zs) : C.BytesAt w (.slice a zs.length cap) (nB zs) := by
 by_cases h0 : zs = []
 ·subst h0; exact .inl ⟨rfl, a, cap, rfl⟩
 rcases h.t.2.2 with h1 | ⟨b, off, hb, e, hc⟩
 ·exact absurd (List.eq_nil_of_length_eq_zero h1) h0
 ·subst e
  refine .inr ⟨b, off, cap, by rw [nB_length], fun i hi => ?_⟩
  rw [nB_length] at hi
  rw [hc i hi]
  have hx := h.mem zs[i] (List.getElem_mem hi)
  simp only [nB, List.getD, List.getElem?_eq_getElem hi, List.getElem?_map, Option.map_some, Option.getD_some]
  congr 2
  omega
theorem Bi.u8 (h : Bi w B a cap zs) : F.Bs w (.slice a zs.length cap) (uB zs) := by
 by_cases h0 : zs = []
 ·subst h0; exact .inl ⟨rfl, a, cap, rfl⟩
 rcases h.t.2.2 with h1 | ⟨b, off, hb, e, hc⟩
 ·exact absurd (List.eq_nil_of_length_eq_zero h1) h0
 ·subst e
  refine .inr ⟨b, off, cap, by rw [uB_length], by rw [uB_length]; exact h.le, fun i hi => ?_⟩
  rw [uB_length] at hi
  rw [hc i hi]
  have hx := h.mem zs[i] (List.getElem_mem hi)
  simp only [uB, List.getD, List.getElem?_eq_getElem hi, List.getElem?_map, Option.map_some, Option.getD_some]
  congr 2
  rw [UInt8.toNat_ofNat']
  omega
theorem Bi.conv (h : Bi w B a cap zs) : (convert 24 9 (.slice a zs.length cap)).run Tryz.prog w = .ok (.string (strOfNums zs)) w := conv_text h.t
end
def rdA (v : Value) (room : Int) : Array Value := #[v, .int .i64 room] ++ C.tabA 256
theorem rdA_0 (v : Value) (room : Int) : (rdA v room)[0]? = some v := by unfold rdA; rw [Array.getElem?_append_left (by simp)]; rfl
theorem rdA_1 (v : Value) (room : Int) : (rdA v room)[1]? = some (.int .i64 room) := by unfold rdA; rw [Array.getElem?_append_left (by simp)]; rfl
theorem rdA_tab (v : Value) (room : Int) (i : Nat) (h : i < 256) : (rdA v room)[2 + i]? = some (.int .u32 (C.e8 i : Nat)) := by
 unfold rdA
 rw [Array.getElem?_append_right (by simp)]
 simp only [List.size_toArray, List.length_cons, List.length_nil, Nat.zero_add, Nat.add_sub_cancel_left]
 exact C.tabA_at h h
theorem rdA_set0 (v u : Value) (room : Int) : (rdA v room).setIfInBounds 0 u = rdA u room := by
 unfold rdA
 apply Array.ext_getElem?
 intro i
 rw [Array.getElem?_setIfInBounds]
 rcases i with _ | _ | i <;> simp [Array.getElem?_append, C.tabA_size]
theorem rdA_set1 (v : Value) (room r2 : Int) : (rdA v room).setIfInBounds 1 (.int .i64 r2) = rdA v r2 := by
 unfold rdA
 apply Array.ext_getElem?
 intro i
 rw [Array.getElem?_setIfInBounds]
 rcases i with _ | _ | i <;> simp [Array.getElem?_append, C.tabA_size]
structure RdAt (w : World) (B br : Nat) (zs : List Int) (room : Int) (a : Option Addr) (cap : Nat) : Prop where
 h : w.heap[br]? = some (.cells (rdA (.slice a zs.length cap) room) 47 (0, 0))
 b : Bi w B a cap zs
 lt : B <= br
theorem RdAt.tab {w : World} {B br : Nat} {zs : List Int} {room : Int} {a : Option Addr} {cap : Nat} (h : RdAt w B br zs room a cap) : C.TabIn w br 2 := fun i hi => by
 rw [cells_of h.h, rdA_tab _ _ _ hi]
theorem RdAt.kept {M : Nat -> Prop} {w w' : World} {B br : Nat} {zs : List Int} {room : Int} {a : Option Addr} {cap : Nat} (h : RdAt w B br zs room a cap) (k : Kept M w w') (hM : ∀ b, b < B -> ¬ M b) (hb : ¬ M br) : RdAt w' B br zs room a cap :=
 ⟨k.heap h.h hb, h.b.kept k hM, h.lt⟩
def On (br : Nat) (w w' : World) : Prop := Kept (fun b => b = br) w w'
theorem RdAt.put {w : World} {B br : Nat} {zs ys : List Int} {room : Int} {a a' : Option Addr} {cap cap' : Nat} (h : RdAt w B br zs room a cap) (hb : Bi w B a' cap' ys) : RdAt (w.setCell ⟨br, 0, none⟩ (.slice a' ys.length cap')) B br ys room a' cap' /\ On br w (w.setCell ⟨br, 0, none⟩ (.slice a' ys.length cap')) := by
 have k : On br w (w.setCell ⟨br, 0, none⟩ (.slice a' ys.length cap')) := (Kept.refl (fun b => b = br) w).setCell (p := ⟨br, 0, none⟩) (fun _ => rfl) _
 refine ⟨⟨?_, hb.kept k (fun b h1 e => by have := h.lt; omega), h.lt⟩, k⟩
 rw [set_of h.h, rdA_set0]
def TkOk (w : World) (B br : Nat) (zs : List Int) (room : Int) (n : Nat) (e : Ending) (w' : World) : Prop :=
 ∃ a1 c1 a2 c2, e = .returned (.tuple #[.slice a1 n c1, .int .i64 0]) /\ Bi w' B a1 c1 (zs.take n) /\ RdAt w' B br (zs.drop n) room a2 c2 /\ On br w w'
theorem take_no (w : World) (B br : Nat) (zs : List Int) (room : Int) (a : Option Addr) (cap : Nat) (h : RdAt w B br zs room a cap) (n : Nat) (hn : zs.length < n) :
  Calls Tryz.prog 41 #[.pointer (some ⟨br, 0, none⟩), .int .i64 (n : Int)] w fun e w' => e = .returned (.tuple #[.slice none 0 0, .int .i64 90]) /\ w' = w := by
 have c0 := cells_of h.h 0
 rw [rdA_0] at c0
 have hn' : (zs.length : Int) < (n : Int) := by omega
 clear h
 go_enter Tryz.func41, Tryz.ntmps41
 go_wp2
 go_ret2
 exact ⟨rfl, rfl⟩
set_option maxHeartbeats 1000000 in
theorem take_yes (w : World) (B br : Nat) (zs : List Int) (room : Int) (a : Option Addr) (cap : Nat) (h : RdAt w B br zs room a cap) (n : Nat) (hn : n <= zs.length) :
  Calls Tryz.prog 41 #[.pointer (some ⟨br, 0, none⟩), .int .i64 (n : Int)] w (TkOk w B br zs room n) := by
 have c0 := cells_of h.h 0
 rw [rdA_0] at c0
 have f0 := free_of h.h 0
 have hn' : ¬ (zs.length : Int) < (n : Int) := by omega
 have hle := h.b.le
 have hmx := h.b.max
 have hnc : n <= cap := by omega
 have H := hide h
 have hl : (zs.length - n : Nat) = (zs.drop n).length := by simp
 cases a with
 | none =>
  obtain ⟨rfl, rfl⟩ := h.b.nil0
  obtain rfl : n = 0 := by simpa using hn
  clear h hl
  have HP := hide (H.out.put H.out.b)
  go_enter Tryz.func41, Tryz.ntmps41
  go_wp2
  go_ret2
  exact ⟨none, 0, none, 0, rfl, (H.out.b.kept HP.out.2 (fun b h1 e => by have := H.out.lt; omega)), HP.out.1, HP.out.2⟩
 | some ad =>
  by_cases hcn : cap = n
  ·have hz : zs.drop n = [] := List.eq_nil_of_length_eq_zero (by simp; omega)
   have HP := hide (H.out.put (a' := some ad) (cap' := 0) (ys := []) (Bi.none (by omega) (by simp)))
   have hzn : zs.length - n = 0 := by omega
   have e1 : zs.length = n := by omega
   clear h
   subst hcn
   go_enter Tryz.func41, Tryz.ntmps41
   go_wp2
   go_ret2
   refine ⟨some ad, cap, some ad, 0, rfl, ((H.out.b.take _).kept HP.out.2 (fun b h1 e => by have := H.out.lt; omega)), ?_, HP.out.2⟩
   rw [hz]
   exact HP.out.1
  ·have HP := hide (H.out.put (H.out.b.drop hn))
   rw [<- hl] at HP
   clear h hl hle hmx
   go_enter Tryz.func41, Tryz.ntmps41
   go_wp2
   go_ret2
   exact ⟨some ad, cap, some (ad.add n), cap - n, rfl, ((H.out.b.take _).kept HP.out.2 (fun b h1 e => by have := H.out.lt; omega)), HP.out.1, HP.out.2⟩
end Go.Proofs.YteknifnadbmfiaaGreatDoor

namespace Go.Proofs.YteknifnadbmfiaaGreatDoor
set_option maxRecDepth 100000
open Go Go.RowKit

theorem byte_ne {x : Int} (h : 0 <= x /\ x <= 255) (h0 : x ≠ 0) : (UInt8.ofNat x.toNat == 0) = false := by
 rw [beq_eq_false_iff_ne]
 intro e
 have := congrArg UInt8.toNat e
 rw [UInt8.toNat_ofNat'] at this
 simp at this
 omega
theorem index_none {zs : List Int} (h : ∀ x ∈ zs, 0 <= x /\ x <= 255) (hz : ∀ x ∈ zs, x ≠ 0) : Lib.indexByte (Lib.bytesOf zs) 0 = -1 := by
 induction zs with
 | nil => rfl
 | cons x r ih =>
  have e := byte_ne (h x (by simp)) (hz x (by simp))
  have := ih (fun y hy => h y (by simp [hy])) (fun y hy => hz y (by simp [hy]))
  show Lib.indexByte (UInt8.ofNat x.toNat :: Lib.bytesOf r) 0 = -1
  simp [Lib.indexByte, this, beq_eq_false_iff_ne.1 e]
theorem index_some {a b : List Int} (h : ∀ x ∈ a, 0 <= x /\ x <= 255) (hz : ∀ x ∈ a, x ≠ 0) : Lib.indexByte (Lib.bytesOf (a ++ 0 :: b)) 0 = a.length := by
 induction a with
 | nil => rfl
 | cons x r ih =>
  have e := byte_ne (h x (by simp)) (hz x (by simp))
  have := ih (fun y hy => h y (by simp [hy])) (fun y hy => hz y (by simp [hy]))
  show Lib.indexByte (UInt8.ofNat x.toNat :: Lib.bytesOf (r ++ 0 :: b)) 0 = _
  have h1 : ¬ ((r.length : Int) = -1) := by omega
  simp [Lib.indexByte, this, beq_eq_false_iff_ne.1 e, h1]

set_option maxHeartbeats 1000000 in
theorem indexByte_c (a : Option Addr) (cap : Nat) (zs : List Int) (w : World) (B : Nat) (h : Bi w B a cap zs) :
  Calls Tryz.prog 118 #[.slice a zs.length cap, .int .u8 0] w fun e w' => e = .returned (.int .i64 (Lib.indexByte (Lib.bytesOf zs) 0)) /\ w' = w := by
 have hr : (Extern.BytealgIndexByte.indexByte #[.slice a zs.length cap, .int .u8 0]).run Tryz.prog w = .ok (.int .i64 (Lib.indexByte (Lib.bytesOf zs) 0)) w := by
  cases a with
  | none =>
   obtain ⟨rfl, rfl⟩ := h.nil0
   exact Lib.run_indexByteNil w 0 0 0
  | some ad =>
   rcases h.t.2.2 with h0 | ⟨b, off, _, e, hc⟩
   ·have := List.eq_nil_of_length_eq_zero h0
    subst this
    obtain ⟨b, off, sp⟩ := ad
    rfl
   ·cases e
    exact Lib.run_indexByteSlice w b off zs.length cap zs rfl hc 0
 clear h
 generalize Lib.indexByte (Lib.bytesOf zs) 0 = R at hr ⊢
 go_enter Tryz.func118, Tryz.ntmps118
 go_wp2
 rw [run_callFunc_extern Tryz.func136 (by kernel_rfl) (by kernel_rfl) (by kernel_rfl) (e := Extern.BytealgIndexByte.indexByte) (by kernel_rfl), hr]
 simp only [Result.andThen]
 rw [Oper.upon_value]
 go_wp2
 go_ret
 exact ⟨rfl, rfl⟩
set_option maxHeartbeats 1000000 in
theorem index_c (a : Option Addr) (cap : Nat) (zs : List Int) (w : World) (B : Nat) (h : Bi w B a cap zs) (b2 : Nat) (hc2 : w.cell? ⟨b2, 0, none⟩ = some (.int .u8 0)) :
  Calls Tryz.prog 97 #[.slice a zs.length cap, .slice (some ⟨b2, 0, none⟩) 1 1] w fun e w' => e = .returned (.int .i64 (Lib.indexByte (Lib.bytesOf zs) 0)) /\ w' = w := by
 have H := hide (indexByte_c a cap zs w B h)
 clear h
 generalize Lib.indexByte (Lib.bytesOf zs) 0 = R at H ⊢
 go_enter Tryz.func97, Tryz.ntmps97
 go_wp2_with (go_at_call 118; refine H.out.mono ?_; rintro e w' ⟨rfl, rfl⟩)
 go_ret
 exact ⟨rfl, rfl⟩
set_option maxHeartbeats 1000000 in
theorem cut_no (a : Option Addr) (cap : Nat) (zs : List Int) (w : World) (B : Nat) (h : Bi w B a cap zs) (b2 : Nat) (hc2 : w.cell? ⟨b2, 0, none⟩ = some (.int .u8 0)) (hz : ∀ x ∈ zs, x ≠ 0) :
  Calls Tryz.prog 75 #[.slice a zs.length cap, .slice (some ⟨b2, 0, none⟩) 1 1] w fun e w' => e = .returned (.tuple #[.slice a zs.length cap, .slice none 0 0, .bool false]) /\ w' = w := by
 have H := hide (index_c a cap zs w B h b2 hc2)
 rw [index_none h.mem hz] at H
 clear h hz
 go_enter Tryz.func75, Tryz.ntmps75
 go_wp2_with (go_at_call 97; refine H.out.mono ?_; rintro e w' ⟨rfl, rfl⟩)
 go_ret3
 exact ⟨rfl, rfl⟩
set_option maxHeartbeats 2000000 in
theorem cut_yes (a : Option Addr) (cap : Nat) (xs ys : List Int) (w : World) (B : Nat) (h : Bi w B a cap (xs ++ 0 :: ys)) (b2 : Nat) (hc2 : w.cell? ⟨b2, 0, none⟩ = some (.int .u8 0)) (hz : ∀ x ∈ xs, x ≠ 0) :
  Calls Tryz.prog 75 #[.slice a (xs ++ 0 :: ys).length cap, .slice (some ⟨b2, 0, none⟩) 1 1] w fun e w' => (∃ a2 c2, e = .returned (.tuple #[.slice a xs.length cap, .slice a2 ys.length c2, .bool true]) /\ Bi w B a cap xs /\ Bi w B a2 c2 ys) /\ ∃ q, w' = w.drewN q := by
 have H := hide (index_c a cap _ w B h b2 hc2)
 rw [index_some (fun x hx => h.mem x (by simp [hx])) hz] at H
 have hle := h.le
 have hmx := h.max
 have hlen : (xs ++ 0 :: ys).length = xs.length + 1 + ys.length := by simp; omega
 rw [hlen] at hle
 have h1 : Bi w B a cap xs := by have := h.take xs.length; rwa [List.take_left] at this
 have hd : (xs ++ 0 :: ys).drop (xs.length + 1) = ys := by simp
 cases a with
 | none => have := h.nil rfl; omega
 | some ad =>
  have h2 : Bi w B (some (ad.add (xs.length + 1))) (cap - (xs.length + 1)) ys := by
   have := h.drop (n := xs.length + 1) (by omega)
   rwa [hd] at this
  have HB := hide h1
  have HB2 := hide h2
  have hyl : xs.length + 1 + ys.length - (xs.length + 1) = ys.length := by omega
  generalize hX : xs.length = X at *
  generalize hY : ys.length = Y at *
  rw [hlen] at H ⊢
  have HYL := hide hyl
  have HX := hide hX
  have HY := hide hY
  clear h h1 h2 hz hd hlen hX hY hyl
  by_cases hcn : cap = X + 1
  ·have hY0 : Y = 0 := by omega
   subst hY0
   have hcn' : (cap : Int) = (X : Int) + 1 := by omega
   subst hcn
   go_enter Tryz.func75, Tryz.ntmps75
   go_wp2_with (go_at_call 97; refine H.out.mono ?_; rintro e w' ⟨rfl, rfl⟩)
   go_region
   all_goals go_wp2
   all_goals go_ret3
   all_goals exact ⟨⟨some ad, 0, by simp, HB.out, by rw [List.eq_nil_of_length_eq_zero HY.out]; exact Bi.none (by omega) (by simp)⟩, _, rfl⟩
  ·go_enter Tryz.func75, Tryz.ntmps75
   go_wp2_with (go_at_call 97; refine H.out.mono ?_; rintro e w' ⟨rfl, rfl⟩)
   go_region
   all_goals go_wp2
   all_goals go_ret3
   all_goals refine ⟨⟨some (ad.add (X + 1)), cap - (X + 1), ?_, HB.out, HB2.out⟩, _, rfl⟩
   all_goals (have e := HYL.out; simp only [Nat.add_sub_cancel_left] at e ⊢; rfl)
end Go.Proofs.YteknifnadbmfiaaGreatDoor
