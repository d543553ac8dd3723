/- Several texts, laid together: Data, Open, RefRow, RefLay, RefBytes, HMath. -/
import Derived.Test.YteknifnadbmfiaaGreatDoorpWrite
import Derived.Laws.CopyOwn
import Derived.Laws.BytesArg
import Derived.Deep.DeepMust
import Derived.ProofKit
import Derived.OpenShut
import Derived.ShutString
import Derived.ChangeOld
import Derived.SizedLaws
import Derived.Deep.Slices
import Derived.Lib.SmallJoins
import Derived.Laws.AppendOwnNone
import Derived.Test.YteknifnadbmfiaaGreatDoorpAg00Row
/- The writer's Data: the bytes, in a row of its own. -/
namespace Go.Proofs.YteknifnadbmfiaaGreatDoor
set_option maxRecDepth 100000
open Go.RowKit

def dataOf (bs : List Int) (t : Int) (m : Nat) : List Int := if 0 < m then bs ++ [t] else bs

theorem Wr.form {base bw : Nat} {w : World} {v : Value} {bs : List Int} {t : Int} {m : Nat} (h : Wr base bw w v bs t m) : ∃ a cap, v = .slice a bs.length cap /\ (0 < bs.length -> ∃ ad, a = some ad /\ ∀ j u, (bs.map (Value.int .u8))[j]? = some u -> w.cell? (ad.add j) = some u) := by
 rcases h.owns.2 with ⟨rfl, h2⟩ | ⟨g, cap, cur, rfl, hg, hh, hr⟩
 ·exact ⟨none, 0, by rw [h2], fun h => by omega⟩
 ·refine ⟨_, _, rfl, fun _ => ⟨_, rfl, fun j u hj => ?_⟩⟩
  have hjl : j < bs.length := by
   rcases Nat.lt_or_ge j bs.length with h' | h'
   ·exact h'
   ·simp [List.getElem?_eq_none (show (bs.map (Value.int .u8)).length <= j by simpa using h')] at hj
  have := h.owns.cellAt j (by omega)
  have hplain : (⟨g, 0, none⟩ : Addr).add j = ⟨g, j, none⟩ := by unfold Addr.add; split <;> simp_all
  rw [hplain, this, hj]

theorem made_bytes (n : Nat) (i : TypeInfo) (hi : Tryz.prog.info? 5 = some i) (hz : i.zero = some (.int .u8 0)) (hs : i.size = 1) (hb : i.bytes = 1) (hn : n <= 1000000000000) (W : World) :
  (Instr.makeSlice 24 (.int .i64 (n : Int)) (.int .i64 ((n : Int) + 1))).run Tryz.prog W = .ok (.slice (some ⟨W.heap.size, 0, none⟩) n (n + 1)) (W.alloc (.cells (List.replicate (n + 1) (Value.int .u8 0)).toArray 5)) := by
 have := run_make (P := Tryz.prog) W 24 5 i (.int .u8 0) Tryz.underlying24 hi hz .i64 .i64 n (n + 1) (by omega) (by omega) (by rw [hb]; omega) (by omega)
 rw [this, hs]
 have e1 : ((n : Int) + 1).toNat = n + 1 := by omega
 have e2 : madeCells (Value.int .u8 0).cells (n + 1) = (List.replicate (n + 1) (Value.int .u8 0)).toArray := by
  have := toList_madeCells_one (Value.int .u8 0) (n + 1)
  rw [<- Array.toList_inj]
  simpa [Value.cells] using this
 rw [e1, Nat.mul_one, e2]
 simp

theorem own_splice {B g n : Nat} {w : World} {ZS CS : List Value} (h : w.heap[g]? = some (.cells (splice ZS 0 CS).toArray 5 (0, 0))) (hB : B <= g) (hn : n <= 1000000000) (hc : CS.length = n) (hz : ZS.length = n + 1) : w.ownsRow B 5 1 (.slice (some ⟨g, 0, none⟩) n (n + 1)) n CS := by
 refine ⟨by omega, .inr ⟨g, n + 1, _, rfl, hB, h, by omega, by unfold maxLen; omega, ?_, ?_⟩⟩
 ·simp [splice]; omega
 ·simp [splice]
  rw [List.take_append_of_le_length (by omega), List.take_of_length_le (by omega)]

set_option maxHeartbeats 1000000 in
theorem data_any (base bw : Nat) (v : Value) (bs : List Int) (t : Int) (m : Nat) (w : World) (h : Wr base bw w v bs t m) (hb : bs.length <= 1000000000) :
  Calls Tryz.prog 47 #[.pointer (some ⟨bw, 0, none⟩)] w fun e w' => ∃ g cap, e = .returned (.slice (some ⟨g, 0, none⟩) (dataOf bs t m).length cap) /\ w'.ownsRow w.heap.size 5 1 (.slice (some ⟨g, 0, none⟩) (dataOf bs t m).length cap) (dataOf bs t m).length ((dataOf bs t m).map (Value.int .u8)) /\ Below w.heap.size w w' := by
 have c0 := cells_of h.block 0
 have hbw := lt_of_block h.block
 have hm := h.m1
 have ht0 := h.t0
 have ht1 := h.t1
 simp at c0
 obtain ⟨a, cp, rfl, hsrc⟩ := h.form
 obtain ⟨i0, hi, hz0, hz1, hz2⟩ := info_parts Tryz.info5
 have ew : IntKind.i64.wrap ((bs.length : Int) + 1) = (bs.length : Int) + 1 := by rw [IntKind.wrap_i64]; omega
 have hmk := made_bytes bs.length i0 hi hz0 hz1 hz2 (by omega)
 rw [<- ew] at hmk
 clear ew
 have HS : Hid (0 < bs.length -> ∃ ad, a = some ad /\ ∀ j u, (bs.map (Value.int .u8))[j]? = some u -> w.cell? (ad.add j) = some u) := hsrc
 clear hsrc
 obtain ⟨ZS, hZS⟩ : ∃ ZS : List Value, ZS = List.replicate (bs.length + 1) (Value.int .u8 0) := ⟨_, rfl⟩
 rw [<- hZS] at hmk
 obtain ⟨CS, hCS⟩ : ∃ CS : List Value, CS = bs.map (Value.int .u8) := ⟨_, rfl⟩
 have hcl : CS.length = bs.length := by rw [hCS]; simp
 have hzl : ZS.length = bs.length + 1 := by rw [hZS]; simp
 have hsz1 : (Tryz.prog.info? 5).map (fun x => x.size) = some 1 := by rw [hi]; simp [hz1]
 have hone : ∀ u ∈ CS, u.oneCell' = true := by intro u hu; rw [hCS] at hu; simp at hu; obtain ⟨x, _, rfl⟩ := hu; rfl
 have HZ : Hid (ZS = List.replicate (bs.length + 1) (Value.int .u8 0)) := hZS
 have HC : Hid (CS = bs.map (Value.int .u8)) := hCS
 have HO : Hid (∀ u ∈ CS, u.oneCell' = true) := hone
 have HW : Hid (Below w.heap.size w (w.alloc (.cells ZS.toArray 5)).drew) := (Below.alloc (Below.refl _ _) (Nat.le_refl _) _).drew
 have HP : Hid (0 < CS.length -> some (⟨w.heap.size, 0, none⟩ : Addr) = some ⟨w.heap.size, 0, none⟩ /\ ∃ ad, a = some ad /\ ∀ j u, CS[j]? = some u -> (w.alloc (.cells ZS.toArray 5)).drew.cell? (ad.add j) = some u) := by
  intro hp
  obtain ⟨ad, ha, hc⟩ := HS.out (by omega)
  refine ⟨rfl, ad, ha, fun j u hj => ?_⟩
  have h1 := hc j u (by rw [<- hCS]; exact hj)
  have h2 := lt_of_cell h1
  rw [<- h1]
  exact World.cell?_of_block (w := w) (Below.heap_alloc w _ _ h2)
 clear hZS hCS hone
 go_enter Tryz.func47, Tryz.ntmps47
 go_wp2
 go_region_held3 (fun w' => w'.cell? ⟨bw, 0, none⟩ = some (.slice a bs.length cp)) (go_keep) (fail)
 all_goals (go_wp2_with (first
  | (refine wpList_copy_splice rfl (.tmp 16) (.tmp 20) 24 24 rfl 5 Tryz.underlying24 hsz1 _ _ _ _ _ _ (by rfl) (by rfl) w.heap.size 0 ZS 5 (heap_new w _) CS (by rw [hcl]; exact (Nat.min_self _).symm) (fun hp => ⟨rfl, (HP.out hp).2⟩) (by omega) HO.out w.heap.size w HW.out (Nat.le_refl _) ?_; intro w2 HG2 hB2; have kb := (hB2.block bw hbw).trans h.block; have k1 := cells_of kb 1; have k2 := cells_of kb 2; simp at k1 k2; have HR : Hid (w2.ownsRow w.heap.size 5 1 (.slice (some ⟨w.heap.size, 0, none⟩) bs.length (bs.length + 1)) bs.length CS) := own_splice HG2.out (Nat.le_refl _) hb hcl hzl)
  | (at_builtin; go_must (refine wpList_append_lies _ rfl (.tmp 27) (.tmp 33) 24 rfl w.heap.size 5 i0 (.int .u8 0) 1 1 Tryz.underlying24 hi hz0 hz1 hz2 rfl (by decide) _ bs.length CS (by rfl) (HR.out.alloc _) ⟨w2.heap.size, 0, none⟩ 1 1 [.int .u8 (t % 256)] (by rfl) (by rfl) (World.news_of_block (heap_new w2 _)) (by intro u hu; simp at hu; subst hu; rfl) (by decide) (by unfold maxLen; omega) (by omega) (by have := hB2.size; simp; omega) _ rfl ?_; intro g cap w3 hown3 hgrow3 hat3 hlt3))))
 ·go_ret
  have et : t % 256 = t := by
   have := pow_pos' m
   have a3 : (2 : Int) ^ m <= 128 := by
    have : (2 : Nat) ^ m <= 2 ^ 7 := Nat.pow_le_pow_right (by decide) hm
    have h2 : ((2 ^ m : Nat) : Int) <= ((2 ^ 7 : Nat) : Int) := by exact_mod_cast this
    simpa using h2
   omega
  have hd : dataOf bs t m = bs ++ [t] := by
   have : 0 < m := by assumption
   simp [dataOf, this]
  rw [et, HC.out] at hown3
  refine ⟨g, cap, ?_, ?_, ?_⟩
  ·rw [hd]; simp
  ·rw [hd]; simpa using hown3
  ·exact (hB2.alloc hB2.size _).grown hgrow3 (by have := hB2.size; simp; omega) (fun k e => by simp [Value.ownBlock] at e; omega)
 ·go_ret
  have hd : dataOf bs t m = bs := by
   have : m = 0 := by omega
   simp [dataOf, this]
  have hr := HR.out
  rw [HC.out] at hr
  exact ⟨w.heap.size, bs.length + 1, by rw [hd]; rfl, by rw [hd]; exact hr, hB2⟩
#print axioms data_any
end Go.Proofs.YteknifnadbmfiaaGreatDoor

/- How the arguments of the laws are opened: bytes, and calls of a reader or a writer. -/
namespace Go.Proofs.YteknifnadbmfiaaGreatDoor
set_option maxRecDepth 100000
open Go.ChangeShapes Go.WideShapes Go.ChangeAt Go.RowKit

theorem own : ownKnob Tryz.prog.godebug = none := by kernel_rfl
section
variable {H : Type} {enc : TypeId × Value -> H} {W : World}


end
end Go.Proofs.YteknifnadbmfiaaGreatDoor

/- The reference's lists of bits: Row, Lay, Fill: contracts. -/
namespace Go.Proofs.YteknifnadbmfiaaGreatDoor
set_option maxRecDepth 100000
open Go.RowKit

def Owns (w : World) (base : Nat) (v : Value) (L : List Int) : Prop := w.ownsRow base 3 1 v L.length (L.map (Value.int .i64))

theorem Owns.nil (w : World) (base : Nat) : Owns w base (.slice none 0 0) [] := World.ownsRow_nil _ _ _ _
theorem Owns.kept {M : Nat -> Prop} {w w' : World} {base : Nat} {v : Value} {L : List Int} (h : Owns w base v L) (k : Kept M w w') (hn : ∀ g, v.ownBlock = some g -> ¬ M g) : Owns w' base v L := ownsRow_kept h k hn
theorem Owns.low {w : World} {base base' : Nat} {v : Value} {L : List Int} (h : Owns w base v L) (hb : base' <= base) : Owns w base' v L := by
 obtain ⟨h1, h2⟩ := h
 refine ⟨h1, ?_⟩
 rcases h2 with h2 | ⟨g, cap, cur, hv, hg, r⟩
 ·exact .inl h2
 ·exact .inr ⟨g, cap, cur, hv, by omega, r⟩
theorem Owns.form {w : World} {base : Nat} {v : Value} {L : List Int} (h : Owns w base v L) : ∃ a cap, v = .slice a L.length cap /\ (0 < L.length -> ∃ g, v.ownBlock = some g /\ base <= g /\ g < w.heap.size /\ a = some ⟨g, 0, none⟩ /\ ∀ j, j < L.length -> w.cell? ⟨g, j, none⟩ = some (.int .i64 (L.getD j 0))) := by
 rcases h.2 with ⟨rfl, h2⟩ | ⟨g, cap, cur, rfl, hg, hh, hr⟩
 ·exact ⟨none, 0, by rw [h2], fun h => by omega⟩
 ·refine ⟨_, _, rfl, fun _ => ⟨g, rfl, hg, lt_of_block hh, rfl, fun j hj => ?_⟩⟩
  have := World.ownsRow.cellAt h j (by omega)
  rw [this]
  simp [List.getD, hj]
theorem Owns.push {w : World} {base : Nat} {v : Value} {L : List Int} {x : Int} (h : w.ownsRow base 3 1 v (L.length + 1) (L.map (Value.int .i64) ++ [.int .i64 x])) : Owns w base v (L ++ [x]) := by
 unfold Owns
 simpa using h

theorem one_int (w : World) (x : Value) : ∀ j u, [x][j]? = some u -> (w.alloc (.cells #[x] 3)).cell? ((⟨w.heap.size, 0, none⟩ : Addr).add j) = some u := World.news_of_block (heap_new w (.cells #[x] 3))

end Go.Proofs.YteknifnadbmfiaaGreatDoor

/- The reference's Lay and Fill: contracts. -/
namespace Go.Proofs.YteknifnadbmfiaaGreatDoor
set_option maxRecDepth 100000
open Go.RowKit

def pad (n : Nat) : Nat := (8 - n % 8) % 8

end Go.Proofs.YteknifnadbmfiaaGreatDoor

/- The reference's Bytes: bits become bytes. -/
namespace Go.Proofs.YteknifnadbmfiaaGreatDoor
set_option maxRecDepth 100000
open Go.RowKit

def OwnsB (w : World) (base : Nat) (v : Value) (D : List Int) : Prop := w.ownsRow base 5 1 v D.length (D.map (Value.int .u8))
theorem OwnsB.nil (w : World) (base : Nat) : OwnsB w base (.slice none 0 0) [] := World.ownsRow_nil _ _ _ _
theorem OwnsB.push {w : World} {base : Nat} {v : Value} {L : List Int} {x : Int} (h : w.ownsRow base 5 1 v (L.length + 1) (L.map (Value.int .u8) ++ [.int .u8 x])) : OwnsB w base v (L ++ [x]) := by
 unfold OwnsB
 simpa using h
def Nums (w : World) (a : Option Addr) (L : List Int) : Prop := L.length = 0 \/ ∃ b off, b < w.heap.size /\ a = some ⟨b, off, none⟩ /\ ∀ i, i < L.length -> w.cell? ⟨b, off + i, none⟩ = some (.int .i64 (L.getD i 0))

def Bin (L : List Int) : Prop := ∀ i, 0 <= L.getD i 0 /\ L.getD i 0 <= 1

def packB (L : List Int) (i : Nat) : Nat -> Int
 | 0 => 0
 | j + 1 => packB L i j + 2 ^ j * L.getD (i + j) 0

def bytesL (L : List Int) (q : Nat) : List Int := (List.range q).map fun r => packB L (8 * r) 8

theorem packB_bd (L : List Int) (h : Bin L) (i j : Nat) : 0 <= packB L i j /\ packB L i j < 2 ^ j := by
 induction j with
 | zero => simp [packB]
 | succ j ih =>
  have hb := h (i + j)
  have hp := pow_pos' j
  rw [packB, Int.pow_succ]
  have : L.getD (i + j) 0 = 0 \/ L.getD (i + j) 0 = 1 := by omega
  rcases this with e | e <;> rw [e] <;> omega

end Go.Proofs.YteknifnadbmfiaaGreatDoor

/- Codes of unlike lengths as plain arithmetic: how many codes a length has, the first code of a length, each symbol's code, the symbols as their codes rise, which row of bits begins with which code. No Go text in sight. -/
namespace Go.Proofs.YteknifnadbmfiaaGreatDoor
set_option maxRecDepth 100000

def ct (ls : List Int) : Nat -> Nat
 | 0 => 0
 | n + 1 => ls.count ((n + 1 : Nat) : Int)
def fc (ls : List Int) : Nat -> Nat
 | 0 => 0
 | n + 1 => 2 * (fc ls n + ct ls n)
def sh (ls : List Int) : Nat -> Nat
 | 0 => 0
 | n + 1 => sh ls n + ct ls (n + 1)
def ws (ls : List Int) : Nat -> Nat
 | 0 => 0
 | n + 1 => ws ls n + ct ls (n + 1) * 2 ^ (15 - (n + 1))
def wt : List Int -> Nat
 | [] => 0
 | x :: r => (if x = 0 then 0 else 2 ^ (15 - x.toNat)) + wt r
def ln (ls : List Int) (s : Nat) : Int := ls.getD s 0
def rk (ls : List Int) (s : Nat) : Nat := (ls.take s).count (ln ls s)
def cd (ls : List Int) (s : Nat) : Nat := fc ls (ln ls s).toNat + rk ls s
def Fit (ls : List Int) : Prop := ∀ x ∈ ls, 0 <= x /\ x <= 15
def idx (ls : List Int) (n : Nat) : Nat -> List Nat
 | 0 => []
 | k + 1 => if ln ls k = (n : Int) then idx ls n k ++ [k] else idx ls n k
def od (ls : List Int) : Nat -> List Nat
 | 0 => []
 | n + 1 => od ls n ++ idx ls (n + 1) ls.length

theorem ln_fit {ls : List Int} (h : Fit ls) (s : Nat) : 0 <= ln ls s /\ ln ls s <= 15 := by
 unfold ln
 by_cases hs : s < ls.length
 ·have := h _ (List.getElem_mem hs)
  simpa [List.getD, hs] using this
 ·simp [List.getD, List.getElem?_eq_none (show ls.length <= s by omega)]

theorem take_count_succ (ls : List Int) (k : Nat) (n : Int) (h : k < ls.length) : (ls.take (k + 1)).count n = (ls.take k).count n + if ln ls k = n then 1 else 0 := by
 rw [List.take_succ_eq_append_getElem h, List.count_append]
 have e : ln ls k = ls[k] := by simp [ln, List.getD, h]
 rw [e]
 by_cases hx : ls[k] = n <;> simp [hx]

theorem ct_eq (ls : List Int) (n : Nat) (h : 1 <= n) : ct ls n = ls.count (n : Int) := by
 obtain ⟨m, rfl⟩ : ∃ m, n = m + 1 := ⟨n - 1, by omega⟩
 rfl

theorem take_count_le (ls : List Int) (k : Nat) (n : Int) : (ls.take k).count n <= ls.count n := by
 conv => rhs; rw [<- List.take_append_drop k ls, List.count_append]
 omega

theorem rk_lt {ls : List Int} {s : Nat} (hs : s < ls.length) (h1 : 1 <= ln ls s) : rk ls s < ct ls (ln ls s).toNat := by
 have e : ((ln ls s).toNat : Int) = ln ls s := Int.toNat_of_nonneg (by omega)
 rw [ct_eq _ _ (by omega), e]
 have := take_count_succ ls s (ln ls s) hs
 have h2 := take_count_le ls (s + 1) (ln ls s)
 simp at this
 unfold rk; omega

theorem ws_cons (x : Int) (r : List Int) (hx : 0 <= x /\ x <= 15) : ws (x :: r) 15 = (if x = 0 then 0 else 2 ^ (15 - x.toNat)) + ws r 15 := by
 obtain ⟨n, rfl⟩ := Int.eq_ofNat_of_zero_le hx.1
 have hn : n <= 15 := by omega
 have e : ∀ m : Nat, ct ((n : Int) :: r) (m + 1) = ct r (m + 1) + if n = m + 1 then 1 else 0 := by
  intro m
  simp only [ct, List.count_cons]
  by_cases h : n = m + 1
  ·subst h; simp
  ·have : ¬ (n : Int) = (m : Int) + 1 := by omega
   simp [h, this]
 simp only [ws, e]
 rcases (show n = 0 \/ n = 1 \/ n = 2 \/ n = 3 \/ n = 4 \/ n = 5 \/ n = 6 \/ n = 7 \/ n = 8 \/ n = 9 \/ n = 10 \/ n = 11 \/ n = 12 \/ n = 13 \/ n = 14 \/ n = 15 by omega) with h | h | h | h | h | h | h | h | h | h | h | h | h | h | h | h <;> subst h <;> simp <;> omega

theorem ws_wt (ls : List Int) (h : Fit ls) : ws ls 15 = wt ls := by
 induction ls with
 | nil => rfl
 | cons x r ih =>
  rw [ws_cons x r (h x (by simp)), wt, ih (fun y hy => h y (by simp [hy]))]

theorem ws_mono (ls : List Int) {m n : Nat} (h : m <= n) : ws ls m <= ws ls n := by
 induction n with
 | zero => have : m = 0 := by omega
           subst this; omega
 | succ n ih =>
  by_cases hm : m = n + 1
  ·subst hm; omega
  ·have := ih (by omega); rw [ws]; omega

theorem up_ws (ls : List Int) (n : Nat) (h : n <= 15) : (fc ls n + ct ls n) * 2 ^ (15 - n) = ws ls n := by
 induction n with
 | zero => simp [fc, ct, ws]
 | succ n ih =>
  have i := ih (by omega)
  have e : 15 - n = (15 - (n + 1)) + 1 := by omega
  rw [e, Nat.pow_succ] at i
  have i2 : (2 * (fc ls n + ct ls n)) * 2 ^ (15 - (n + 1)) = ws ls n := by
   rw [<- i, Nat.mul_comm 2, Nat.mul_assoc, Nat.mul_comm 2]
  rw [fc, ws, Nat.add_mul, i2]

theorem up_le (ls : List Int) (hw : ws ls 15 <= 32768) (n : Nat) (h : n <= 15) : fc ls n + ct ls n <= 2 ^ n := by
 have e := up_ws ls n h
 have m := ws_mono ls h
 have p : (2 : Nat) ^ n * 2 ^ (15 - n) = 32768 := by rw [<- Nat.pow_add, show n + (15 - n) = 15 by omega]
 apply Nat.le_of_mul_le_mul_right (c := 2 ^ (15 - n)) _ (Nat.two_pow_pos _)
 omega

theorem cd_lt {ls : List Int} (hw : ws ls 15 <= 32768) (hf : Fit ls) {s : Nat} (hs : s < ls.length) (h1 : 1 <= ln ls s) : cd ls s < fc ls (ln ls s).toNat + ct ls (ln ls s).toNat /\ cd ls s < 2 ^ (ln ls s).toNat := by
 have := rk_lt hs h1
 have b := ln_fit hf s
 have u := up_le ls hw (ln ls s).toNat (by omega)
 unfold cd; omega

/-! The symbols as their codes rise. -/
theorem idx_length (ls : List Int) (n k : Nat) (hk : k <= ls.length) : (idx ls n k).length = (ls.take k).count (n : Int) := by
 induction k with
 | zero => simp [idx]
 | succ k ih =>
  rw [idx, take_count_succ ls k _ (by omega), <- ih (by omega)]
  by_cases h : ln ls k = (n : Int) <;> simp [h]

theorem idx_at (ls : List Int) (n k s : Nat) (hk : k <= ls.length) (hs : s < k) (h : ln ls s = (n : Int)) : (idx ls n k)[rk ls s]? = some s := by
 induction k with
 | zero => omega
 | succ k ih =>
  have hl := idx_length ls n k (by omega)
  rw [idx]
  by_cases e : s = k
  ·subst e
   have : rk ls s = (idx ls n s).length := by rw [hl, rk, h]
   simp [h, this]
  ·have i := ih (by omega) (by omega)
   have hlt : rk ls s < (idx ls n k).length := by
    rcases Nat.lt_or_ge (rk ls s) (idx ls n k).length with h' | h'
    ·exact h'
    ·rw [List.getElem?_eq_none h'] at i; simp at i
   split
   ·rw [List.getElem?_append_left hlt]; exact i
   ·exact i

theorem idx_has (ls : List Int) (n k r : Nat) (hk : k <= ls.length) (hr : r < (ls.take k).count (n : Int)) : ∃ s, s < k /\ ln ls s = (n : Int) /\ rk ls s = r := by
 induction k with
 | zero => simp at hr
 | succ k ih =>
  rw [take_count_succ ls k _ (by omega)] at hr
  by_cases h : r < (ls.take k).count (n : Int)
  ·obtain ⟨s, h1, h2⟩ := ih (by omega) h
   exact ⟨s, by omega, h2⟩
  ·by_cases e : ln ls k = (n : Int)
   ·simp [e] at hr
    exact ⟨k, by omega, e, by rw [rk, e]; omega⟩
   ·simp [e] at hr; omega

theorem od_length (ls : List Int) (n : Nat) : (od ls n).length = sh ls n := by
 induction n with
 | zero => rfl
 | succ n ih => rw [od, sh, List.length_append, ih, idx_length _ _ _ (Nat.le_refl _), List.take_length]; rfl

theorem sh_mono (ls : List Int) {m n : Nat} (h : m <= n) : sh ls m <= sh ls n := by
 induction n with
 | zero => have : m = 0 := by omega
           subst this; omega
 | succ n ih =>
  by_cases hm : m = n + 1
  ·subst hm; omega
  ·have := ih (by omega); rw [sh]; omega

theorem od_at (ls : List Int) (n s : Nat) (hs : s < ls.length) (h : ln ls s = ((n + 1 : Nat) : Int)) (N : Nat) (hN : n + 1 <= N) : (od ls N)[sh ls n + rk ls s]? = some s := by
 induction N with
 | zero => omega
 | succ N ih =>
  rw [od]
  by_cases e : n = N
  ·subst e
   rw [List.getElem?_append_right (by rw [od_length]; omega), od_length, Nat.add_sub_cancel_left]
   exact idx_at ls (n + 1) ls.length s (Nat.le_refl _) hs h
  ·have i := ih (by omega)
   have hlt : sh ls n + rk ls s < (od ls N).length := by
    rcases Nat.lt_or_ge (sh ls n + rk ls s) (od ls N).length with h' | h'
    ·exact h'
    ·rw [List.getElem?_eq_none h'] at i; simp at i
   rw [List.getElem?_append_left hlt]; exact i

theorem rk_inj {ls : List Int} {s t : Nat} (hs : s < ls.length) (ht : t < ls.length) (hl : ln ls s = ln ls t) (h0 : 0 <= ln ls s) (hr : rk ls s = rk ls t) : s = t := by
 have e : ((ln ls s).toNat : Int) = ln ls s := Int.toNat_of_nonneg h0
 have a := idx_at ls (ln ls s).toNat ls.length s (Nat.le_refl _) hs e.symm
 have b := idx_at ls (ln ls s).toNat ls.length t (Nat.le_refl _) ht (by rw [<- hl]; exact e.symm)
 rw [hr, b] at a
 simpa using a.symm

/-! Rows of bits. -/
def vl (b : Nat -> Nat) : Nat -> Nat
 | 0 => 0
 | n + 1 => 2 * vl b n + b n
def Hit (ls : List Int) (b : Nat -> Nat) (n : Nat) : Prop := fc ls n <= vl b n /\ vl b n < fc ls n + ct ls n

theorem vl_lt (b : Nat -> Nat) (hb : ∀ i, b i <= 1) (n : Nat) : vl b n < 2 ^ n := by
 induction n with
 | zero => simp [vl]
 | succ n ih => rw [vl, Nat.pow_succ]; have := hb n; omega

theorem vl_congr {b c : Nat -> Nat} (n : Nat) (h : ∀ i, i < n -> b i = c i) : vl b n = vl c n := by
 induction n with
 | zero => rfl
 | succ n ih => rw [vl, vl, ih (fun i hi => h i (by omega)), h n (by omega)]

theorem not_below (ls : List Int) (b : Nat -> Nat) (n : Nat) (h : ∀ k, k < n -> ¬ Hit ls b k) : fc ls n <= vl b n := by
 induction n with
 | zero => simp [fc]
 | succ n ih =>
  have i := ih (fun k hk => h k (by omega))
  have g := h n (by omega)
  unfold Hit at g
  rw [fc, vl]; omega

theorem hit_below (ls : List Int) (b : Nat -> Nat) (hb : ∀ i, b i <= 1) (n m : Nat) (h : Hit ls b n) (hm : n < m) : vl b m < fc ls m := by
 induction m with
 | zero => omega
 | succ m ih =>
  have hbm := hb m
  rw [fc, vl]
  by_cases e : n = m
  ·subst e; unfold Hit at h; omega
  ·have := ih (by omega); omega

theorem hit_one (ls : List Int) (b : Nat -> Nat) (hb : ∀ i, b i <= 1) (n m : Nat) (h : Hit ls b n) (k : Hit ls b m) : n = m := by
 rcases Nat.lt_trichotomy n m with l | l | l
 ·have := hit_below ls b hb n m h l; unfold Hit at k; omega
 ·exact l
 ·have := hit_below ls b hb m n k l; unfold Hit at h; omega

theorem hit_pos {ls : List Int} {b : Nat -> Nat} {n : Nat} (h : Hit ls b n) : 1 <= n := by
 rcases n with _ | n
 ·simp [Hit, fc, ct] at h
 ·omega

theorem hit_sym {ls : List Int} {b : Nat -> Nat} {n : Nat} (h : Hit ls b n) : ∃ s, s < ls.length /\ ln ls s = (n : Int) /\ cd ls s = vl b n := by
 have h1 := hit_pos h
 unfold Hit at h
 have c := ct_eq ls n h1
 obtain ⟨s, hs, hl, hr⟩ := idx_has ls n ls.length (vl b n - fc ls n) (Nat.le_refl _) (by rw [List.take_length, <- c]; omega)
 exact ⟨s, hs, hl, by rw [cd, hl, hr]; simp; omega⟩

theorem sym_hit {ls : List Int} {b : Nat -> Nat} {s : Nat} (hs : s < ls.length) (h1 : 1 <= ln ls s) (h : cd ls s = vl b (ln ls s).toNat) : Hit ls b (ln ls s).toNat := by
 have := rk_lt hs h1
 unfold cd at h
 unfold Hit; omega

theorem sym_one {ls : List Int} {b : Nat -> Nat} (hb : ∀ i, b i <= 1) {s t : Nat} (hs : s < ls.length) (ht : t < ls.length) (h1 : 1 <= ln ls s) (k1 : 1 <= ln ls t) (h : cd ls s = vl b (ln ls s).toNat) (k : cd ls t = vl b (ln ls t).toNat) : s = t := by
 have e := hit_one ls b hb _ _ (sym_hit hs h1 h) (sym_hit ht k1 k)
 have el : ln ls s = ln ls t := by omega
 refine rk_inj hs ht el (by omega) ?_
 rw [el] at h
 unfold cd at h k
 rw [el] at h
 omega

def cutB (b : Nat -> Nat) (j : Nat) (i : Nat) : Nat := if i < j then b i else 0
def bitC (c n k : Nat) : Nat := c / 2 ^ (n - 1 - k) % 2
theorem vl_code (b : Nat -> Nat) (c n : Nat) (hc : c < 2 ^ n) (j : Nat) (hj : j <= n) : (∀ k, k < j -> b k = bitC c n k) ↔ vl b j = c / 2 ^ (n - j) /\ ∀ k, k < j -> b k <= 1 := by
 induction j with
 | zero => simp [vl, Nat.div_eq_of_lt hc]
 | succ j ih =>
  have i := ih (by omega)
  have e : c / 2 ^ (n - j) = c / 2 ^ (n - (j + 1)) / 2 := by
   have e2 : 2 ^ (n - j) = 2 ^ (n - (j + 1)) * 2 := by rw [<- Nat.pow_succ]; congr 1; omega
   rw [Nat.div_div_eq_div_mul, e2]
  have eb : bitC c n j = c / 2 ^ (n - (j + 1)) % 2 := by unfold bitC; rw [show n - 1 - j = n - (j + 1) by omega]
  rw [e] at i
  constructor
  ·intro h
   obtain ⟨i1, i2⟩ := i.1 (fun k hk => h k (by omega))
   have hj' := h j (by omega)
   rw [eb] at hj'
   refine ⟨by rw [vl, i1, hj']; omega, fun k hk => ?_⟩
   by_cases ek : k = j
   ·subst ek; omega
   ·exact i2 k (by omega)
  ·rintro ⟨h1, h2⟩
   rw [vl] at h1
   have hj' := h2 j (by omega)
   have i1 := i.2 ⟨by omega, fun k hk => h2 k (by omega)⟩
   intro k hk
   by_cases ek : k = j
   ·subst ek; rw [eb]; omega
   ·exact i1 k (by omega)

/-! The longest code. -/
structure Longest (ls : List Int) (N : Nat) : Prop where
 le : N <= 15
 up : ∀ s, s < ls.length -> ln ls s <= (N : Int)
 at_ : N = 0 \/ ∃ s, s < ls.length /\ ln ls s = (N : Int)

theorem Longest.zero {ls : List Int} {N : Nat} (h : Longest ls N) (k : Nat) (hk : N < k) : ct ls k = 0 := by
 rw [ct_eq _ _ (by omega)]
 rw [List.count_eq_zero]
 intro hm
 obtain ⟨i, hi, he⟩ := List.getElem_of_mem hm
 have := h.up i hi
 simp [ln, List.getD, hi, he] at this
 omega

structure Good (ls : List Int) : Prop where
 fit : Fit ls
 le : ws ls 15 <= 32768
 way : ws ls 15 = 32768 \/ (∀ s, s < ls.length -> ln ls s <= 1)
end Go.Proofs.YteknifnadbmfiaaGreatDoor
