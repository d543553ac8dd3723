/- Several texts, laid together: DStream, DFixed, DSto, DShort, DCut. -/
import Derived.Test.YteknifnadbmfiaaGreatDoorpDg07DDyn
import Derived.Test.YteknifnadbmfiaaGreatDoorpMg03MTell
/- stream: blocks laid one behind the other: contract. -/
namespace Go.Proofs.YteknifnadbmfiaaGreatDoor
set_option maxRecDepth 100000
open Go Go.RowKit

/-- A block, told apart into its parts. -/
structure Bq where
  ta : Option Addr
  ct : Nat
  ts : List M.Tk
  k : Nat
  sa : Option Addr
  cs : Nat
  da : Option Addr
  cd : Nat
  S : List Int
  D : List Int
  sz : Int
def Bq.v (q : Bq) : Array Value := bA q.ta q.ts.length q.ct q.k q.sa q.S.length q.cs q.da q.D.length q.cd q.sz
structure Bq.In (B : Nat) (w : World) (q : Bq) : Prop where
  ok : BkOk q.k q.ts q.S q.D
  at_ : BkAt B w q.ta q.sa q.da q.ts q.S q.D
theorem Bq.In.below {B : Nat} {w w' : World} {q : Bq} (h : q.In B w) (k : Below B w w') : q.In B w' := ⟨h.ok, h.at_.below k⟩
theorem Bq.In.wide {B B' : Nat} {w : World} {q : Bq} (h : q.In B w) (k : B ≤ B') : q.In B' w := ⟨h.ok, h.at_.wide k⟩
/-- Blocks in a row. -/
def qAt (qs : List Bq) (i : Nat) : Bq := qs.getD i ⟨none, 0, [], 0, none, 0, none, 0, [], [], 0⟩
theorem qAt_in {qs : List Bq} {i : Nat} (h : i < qs.length) : qAt qs i = qs[i] := by simp [qAt, List.getD, h]
def Bqs (w : World) (b off : Nat) (qs : List Bq) : Prop := b < w.heap.size ∧ ∀ i, i < qs.length → w.cell? ⟨b, off + i * 5, none⟩ = some (.slice (qAt qs i).ta (qAt qs i).ts.length (qAt qs i).ct) ∧ w.cell? ⟨b, off + i * 5 + 1, none⟩ = some (.int .i64 ((qAt qs i).k : Int)) ∧ w.cell? ⟨b, off + i * 5 + 2, none⟩ = some (.slice (qAt qs i).sa (qAt qs i).S.length (qAt qs i).cs) ∧ w.cell? ⟨b, off + i * 5 + 3, none⟩ = some (.slice (qAt qs i).da (qAt qs i).D.length (qAt qs i).cd) ∧ w.cell? ⟨b, off + i * 5 + 4, none⟩ = some (.int .i64 (qAt qs i).sz)
theorem Bqs.below {B : Nat} {w w' : World} {b off : Nat} {qs : List Bq} (h : Bqs w b off qs) (k : Below B w w') (hb : b < B) : Bqs w' b off qs := by
  refine ⟨Nat.lt_of_lt_of_le h.1 k.size, fun i hi => ?_⟩
  obtain ⟨h1, h2, h3, h4, h5⟩ := h.2 i hi
  exact ⟨(k.cell (p := ⟨b, _, none⟩) hb).trans h1, (k.cell (p := ⟨b, _, none⟩) hb).trans h2, (k.cell (p := ⟨b, _, none⟩) hb).trans h3, (k.cell (p := ⟨b, _, none⟩) hb).trans h4, (k.cell (p := ⟨b, _, none⟩) hb).trans h5⟩
/-- The bits of the first blocks of n. -/
def strN (n : Nat) (xs : List (Bq × List Int)) : List Int := (xs.zipIdx).flatMap fun p => blB p.1.1.k (decide (p.2 + 1 = n)) p.1.2 p.1.1.S p.1.1.D p.1.1.ts
theorem strN_snoc (n : Nat) (xs : List (Bq × List Int)) (x : Bq × List Int) : strN n (xs ++ [x]) = strN n xs ++ blB x.1.k (decide (xs.length + 1 = n)) x.2 x.1.S x.1.D x.1.ts := by
  unfold strN
  rw [List.zipIdx_append, List.flatMap_append]
  simp
/-- Heads of the first blocks. -/
def Heads (qs : List Bq) (xs : List (Bq × List Int)) : Prop := xs.map (·.1) = qs ∧ ∀ x ∈ xs, HdIs x.1.k x.1.S x.1.D x.2
def StRet (w : World) (qs : List Bq) (e : Ending) (w' : World) : Prop := ∃ xs g cap, Heads qs xs ∧ e = .returned (.slice (some ⟨g, 0, none⟩) (dataL (strN qs.length xs)).length cap) ∧ OwnsB w' w.heap.size (.slice (some ⟨g, 0, none⟩) (dataL (strN qs.length xs)).length cap) (dataL (strN qs.length xs)) ∧ Below w.heap.size w w'
/-- The bits together are not too many. -/
def few (qs : List Bq) : Prop := (qs.map fun q => 60 * q.ts.length + 200000).sum ≤ 400000000
theorem bl_len {k : Nat} {last : Bool} {H S D : List Int} {ts : List M.Tk} (hb : BkOk k ts S D) (hH : HdIs k S D H) : (blB k last H S D ts).length ≤ 60 * ts.length + 200000 := by
  have h1 := hd_len hH
  have hmk := emk_ok hb.ok
  have h2 := eB_le (check_ok hb.cs).2.1 (check_ok hb.cd).2.1 (ms := emk ts) (fun x hx => (hmk x hx).2.2.2)
  have h3 := emk_len ts
  rw [eB_dat] at h2
  unfold blB
  rw [List.length_append, List.length_append, knd_length]
  omega
theorem OwnsB.low {w : World} {b b' : Nat} {v : Value} {D : List Int} (h : OwnsB w b v D) (hb : b' ≤ b) : OwnsB w b' v D := by
  obtain ⟨h1, h2⟩ := h
  refine ⟨h1, ?_⟩
  rcases h2 with h2 | ⟨g, cap, cur, e, hg, r⟩
  · exact .inl h2
  · exact .inr ⟨g, cap, cur, e, Nat.le_trans hb hg, r⟩
theorem str_len {n : Nat} : ∀ (xs : List (Bq × List Int)), (∀ x ∈ xs, BkOk x.1.k x.1.ts x.1.S x.1.D ∧ HdIs x.1.k x.1.S x.1.D x.2) → (strN n xs).length ≤ ((xs.map (·.1)).map fun q => 60 * q.ts.length + 200000).sum := by
  intro xs
  refine snoc_ind (P := fun xs => (∀ x ∈ xs, BkOk x.1.k x.1.ts x.1.S x.1.D ∧ HdIs x.1.k x.1.S x.1.D x.2) → (strN n xs).length ≤ ((xs.map (·.1)).map fun q => 60 * q.ts.length + 200000).sum) ?_ ?_ xs
  · intro _; simp [strN]
  · intro xs x ih h
    have h1 := ih (fun y hy => h y (by simp [hy]))
    have h2 := bl_len (last := decide (xs.length + 1 = n)) (h x (by simp)).1 (h x (by simp)).2
    rw [strN_snoc, List.length_append]
    simp only [List.map_append, List.sum_append, List.map_cons, List.map_nil, List.sum_cons, List.sum_nil]
    omega
theorem sum_take_le (f : Bq → Nat) : ∀ (qs : List Bq) (i : Nat), ((qs.take i).map f).sum ≤ (qs.map f).sum := by
  intro qs
  induction qs with
  | nil => intro i; simp
  | cons q qs ih =>
    intro i
    cases i with
    | zero => simp
    | succ i => have := ih i; simp only [List.take_succ_cons, List.map_cons, List.sum_cons]; omega
set_option maxHeartbeats 4000000 in
theorem stream_c (w : World) (hT : Tab w) (h0 : 2 < w.heap.size) (b off cap : Nat) (qs : List Bq) (hq : Bqs w b off qs) (hn : 0 < qs.length ∧ qs.length ≤ 1000000) (hin : ∀ q ∈ qs, q.In w.heap.size w) (hf : few qs) :
    Calls Tryz.prog 32 #[.slice (some ⟨b, off, none⟩) qs.length cap] w (StRet w qs) := by
  have HN := hide (newW w)
  have HT := hide hT
  have HQ := hide hq
  have HIN := hide hin
  have HF := hide hf
  have hbb := hq.1
  clear hT hq hin hf
  go_enter Tryz.func32, Tryz.ntmps32
  go_upto_region 2 with (go_at_call 45; refine HN.out.mono ?_; rintro e w1 ⟨rfl, s1, b1⟩; have S1 := hide s1; have B1 := hide b1; clear s1 b1 HN)
  have HS0 : Hid (∃ xs, Heads (qs.take 0) xs ∧ WTo w.heap.size w.heap.size none w1 (strN qs.length xs) w1) := ⟨[], ⟨rfl, by simp⟩, S1.out.to⟩
  go_wp2_with fail
  go_loopg [9] qs.length (fun gk v9 wx => ∃ i : Nat, i + gk = qs.length ∧ v9 = .int .i64 i ∧ Hid (∃ xs, Heads (qs.take i) xs ∧ WTo w.heap.size w.heap.size none w1 (strN qs.length xs) wx))
  case atStart => exact ⟨0, by omega, rfl, HS0⟩
  case round =>
    obtain ⟨i, hig, rfl, HI⟩ := hrel
    clear HS0
    obtain ⟨xs, hh, hk⟩ := HI.out
    have hxl : xs.length = i := by have := congrArg List.length hh.1; rw [List.length_map, List.length_take] at this; omega
    have hbl1 : Below w.heap.size w wr := B1.out.trans (hk.blw B1.out.size (Nat.le_refl _) (fun g e => by cases e))
    have hok : ∀ x ∈ xs, BkOk x.1.k x.1.ts x.1.S x.1.D ∧ HdIs x.1.k x.1.S x.1.D x.2 := fun x hx => by
      have hm : x.1 ∈ qs.take i := by rw [← hh.1]; exact List.mem_map.2 ⟨x, hx, rfl⟩
      exact ⟨(HIN.out x.1 (List.mem_of_mem_take hm)).ok, hh.2 x hx⟩
    have hlen : (strN qs.length xs).length ≤ 400000000 := by
      have h1 := str_len (n := qs.length) xs hok
      rw [hh.1] at h1
      have h2 := sum_take_le (fun q => 60 * q.ts.length + 200000) qs i
      have h3 : (qs.map fun q => 60 * q.ts.length + 200000).sum ≤ 400000000 := HF.out
      omega
    cases gk with
    | zero =>
      obtain rfl : i = qs.length := by omega
      rw [List.take_length] at hh
      obtain ⟨o, s, kk, oo⟩ := hk
      have HD := hide (dataW s (by omega))
      have HHH := hide hh
      have HBL := hide hbl1
      clear hh s kk oo hbl1 hxl hlen HI hok
      go_wp2_with (go_at_call 47; refine HD.out.mono ?_; rintro e w2 ⟨g, cp, rfl, ow, b2⟩; have HR := hide (show StRet w qs (.returned (.slice (some ⟨g, 0, none⟩) (dataL (strN qs.length xs)).length cp)) w2 from ⟨xs, g, cp, HHH.out, rfl, OwnsB.low ow HBL.out.size, HBL.out.trans (b2.mono HBL.out.size)⟩); clear ow b2 HD)
      go_ret
      exact HR.out
    | succ g1 =>
      have hi : i < qs.length := by omega
      have hlt : (i : Int) < (qs.length : Int) := by omega
      have hqb := HQ.out.below hbl1 hbb
      obtain ⟨c0, c1, c2, c3, c4⟩ := hqb.2 i hi
      have hin := (HIN.out _ (List.getElem_mem hi)).below hbl1
      have htk : qs.take (i + 1) = qs.take i ++ [qs[i]] := List.take_succ_eq_append_getElem hi
      rw [qAt_in hi] at c0 c1 c2 c3 c4
      have hbe : ((i : Int) == (qs.length : Int) - 1) = decide (xs.length + 1 = qs.length) := by
        rw [hxl]
        by_cases e : i + 1 = qs.length
        · rw [decide_eq_true e]; simp; omega
        · rw [decide_eq_false e]; simp; omega
      generalize qs[i] = q at c0 c1 c2 c3 c4 hin htk
      obtain ⟨ta, ct, ts, k, sa, cs, da, cd, S, D, sz⟩ := q
      simp only at c0 c1 c2 c3 c4
      obtain ⟨LB, hLB⟩ : ∃ LB, decide (xs.length + 1 = qs.length) = LB := ⟨_, rfl⟩
      rw [hLB] at hbe
      obtain ⟨W, hWW⟩ : ∃ W, W = wr.alloc (.cells (bA ta ts.length ct k sa S.length cs da D.length cd sz) 99) := ⟨_, rfl⟩
      have blW : Below wr.heap.size wr W := by rw [hWW]; exact (Below.refl _ _).alloc (Nat.le_refl _) _
      have hWb : W.heap[wr.heap.size]? = some (.cells (bA ta ts.length ct k sa S.length cs da D.length cd sz) 99 (0, 0)) := by rw [hWW]; exact heap_new wr _
      have hkW := hk.below blW
      have hzw := hbl1.size
      have HLY : Hid (Calls Tryz.prog 48 #[.agg (bA ta ts.length ct k sa S.length cs da D.length cd sz), .pointer (some ⟨w.heap.size, 0, none⟩), .bool LB] W fun e w' => e = .returned (.tuple #[]) ∧ ∃ xs, Heads (qs.take (i + 1)) xs ∧ WTo w.heap.size w.heap.size none w1 (strN qs.length xs) w') := by
        obtain ⟨o, s, kk, oo⟩ := hkW
        have hblW : Below w.heap.size w W := hbl1.trans (blW.mono hzw)
        refine (lay_b w.heap.size o W (strN qs.length xs) s hlen (HT.out.below hblW h0) h0 ta sa da ct cs cd k sz ts S D LB hin.ok (hin.at_.below (blW.mono hzw))).mono ?_
        rintro e w' ⟨rfl, H, hH, k2⟩
        refine ⟨rfl, xs ++ [(⟨ta, ct, ts, k, sa, cs, da, cd, S, D, sz⟩, H)], ⟨by rw [List.map_append, hh.1, htk]; rfl, fun x hx => ?_⟩, ?_⟩
        · rcases List.mem_append.1 hx with hx | hx
          · exact hh.2 x hx
          · rw [List.mem_singleton.1 hx]; exact hH
        · rw [strN_snoc, hLB]
          exact WTo.trans kk oo k2
      have d0 := cells_of hWb 0
      have d1 := cells_of hWb 1
      have d2 := cells_of hWb 2
      have d3 := cells_of hWb 3
      have d4 := cells_of hWb 4
      simp at d0 d1 d2 d3 d4
      have HE : Hid (wr.alloc (.cells (bA ta ts.length ct k sa S.length cs da D.length cd sz) 99) = W) := hWW.symm
      clear hh hk hxl hbl1 hlen hok hqb hin htk hLB hWW blW hWb hkW hzw HI
      go_upto_region 5 with fail
      rw [HE.out]
      go_wp2_with (go_at_call 48; refine HLY.out.mono ?_; rintro e w2 ⟨rfl, k2⟩; have HK2 := hide k2; clear k2 HLY)
      go_roundg g1
      case measure => omega
      case rel => exact ⟨i + 1, by omega, by go_num, HK2⟩
end Go.Proofs.YteknifnadbmfiaaGreatDoor

/- Fixed, Dynamic: contracts. -/
namespace Go.Proofs.YteknifnadbmfiaaGreatDoor
set_option maxRecDepth 100000
open Go Go.RowKit

/-- A stream of one block, told. -/
def OneRet (w : World) (ts : List M.Tk) (kk : Nat) (e : Ending) (w' : World) : Prop :=
  ∃ S D H g cap, BkOk kk ts S D ∧ (kk = 2 → DynOk ts S D) ∧ HdIs kk S D H ∧ e = .returned (.tuple #[.slice (some ⟨g, 0, none⟩) (dataL (blB kk true H S D ts)).length cap, .bool true]) ∧ OwnsB w' w.heap.size (.slice (some ⟨g, 0, none⟩) (dataL (blB kk true H S D ts)).length cap) (dataL (blB kk true H S D ts)) ∧ Below w.heap.size w w'
/-- A stream of one block. -/
def StOne (w : World) (ts : List M.Tk) (kk : Nat) (e : Ending) (w' : World) : Prop := ∃ S D H g cap, BkOk kk ts S D ∧ (kk = 2 → DynOk ts S D) ∧ HdIs kk S D H ∧ e = .returned (.slice (some ⟨g, 0, none⟩) (dataL (blB kk true H S D ts)).length cap) ∧ OwnsB w' w.heap.size (.slice (some ⟨g, 0, none⟩) (dataL (blB kk true H S D ts)).length cap) (dataL (blB kk true H S D ts)) ∧ Below w.heap.size w w'
end Go.Proofs.YteknifnadbmfiaaGreatDoor

/- layStored, Stored: contracts. -/
namespace Go.Proofs.YteknifnadbmfiaaGreatDoor
set_option maxRecDepth 100000
open Go Go.RowKit
set_option linter.unusedVariables false

theorem bits_eq {x y : Int} {n : Nat} (h : x % 2 ^ n = y % 2 ^ n) : bitsN x n = bitsN y n := by
  rw [← bitsN_mod x n n (Nat.le_refl _), ← bitsN_mod y n n (Nat.le_refl _), h]
theorem two_bytes (n : Nat) : bitsN (n : Int) 16 = bitsN ((n % 256 : Nat) : Int) 8 ++ bitsN ((n / 256 : Nat) : Int) 8 := by
  rw [show (16 : Nat) = 8 + 8 from rfl, bitsN_add]
  congr 1
  · exact bits_eq (by omega)
theorem two_nots (n : Nat) (hn : n ≤ 65535) : bitsN (-(n : Int) - 1) 16 = bitsN ((255 - n % 256 : Nat) : Int) 8 ++ bitsN ((255 - n / 256 : Nat) : Int) 8 := by
  rw [show (16 : Nat) = 8 + 8 from rfl, bitsN_add]
  congr 1
  · exact bits_eq (by omega)
  · exact bits_eq (by omega)
theorem row_head (l : Bool) (n : Nat) (hn : n ≤ 65535) : knd l 0 ++ bitsN 0 5 ++ bitsN (n : Int) 16 ++ bitsN (-(n : Int) - 1) 16 = rowOf (iHead (if l then 1 else 0) n) := by
  rw [two_bytes, two_nots n hn]
  have e : knd l 0 ++ bitsN 0 5 = bitsN ((if l then 1 else 0 : Nat) : Int) 8 := by cases l <;> rfl
  rw [e]
  unfold iHead rowOf
  simp
theorem not_int (n : Nat) (h : n ≤ 65535) : bits .xor .i64 (if IntKind.i64.signed = true then -1 else 9223372036854775807) (n : Int) = -(n : Int) - 1 := by
  have e : (if IntKind.i64.signed = true then (-1 : Int) else 9223372036854775807) = -1 := rfl
  rw [e]
  show IntKind.i64.wrap (((BitVec.ofInt 64 (-1) ^^^ BitVec.ofInt 64 (n : Int)).toNat : Nat) : Int) = _
  have h1 : BitVec.ofInt 64 (-1) = BitVec.allOnes 64 := by decide
  have h2 : (BitVec.ofInt 64 (n : Int)).toNat = n := ofInt_nat _ (by omega)
  have h3 : (BitVec.ofInt 64 (-1) ^^^ BitVec.ofInt 64 (n : Int)).toNat = 18446744073709551615 - n := by
    rw [h1, BitVec.xor_comm, BitVec.xor_allOnes, BitVec.toNat_not, h2]
  rw [h3, IntKind.wrap_i64]
  omega
/-- Stored blocks. -/
def stB (zs : List Int) : List Int := if h : 65535 < zs.length then iHead 0 65535 ++ (zs.take 65535 ++ stB (zs.drop 65535)) else iHead 1 zs.length ++ zs
termination_by zs.length
decreasing_by rw [List.length_drop]; omega
theorem stB_big {zs : List Int} (h : 65535 < zs.length) : stB zs = iHead 0 65535 ++ (zs.take 65535 ++ stB (zs.drop 65535)) := by rw [stB, dif_pos h]
theorem stB_small {zs : List Int} (h : zs.length ≤ 65535) : stB zs = iHead 1 zs.length ++ zs := by rw [stB, dif_neg (by omega)]
set_option maxHeartbeats 4000000 in
theorem layStored_c (bw B : Nat) (ow : Option Nat) (w : World) (Z : List Int) (hW : WS bw bw ow w (rowOf Z)) (hL : Z.length ≤ 100000000) (a : Option Addr) (len cap : Nat) (zs : List Int) (ht : Text B w a len zs) (hnil : a = none → len = 0 ∧ cap = 0) (hB : B ≤ bw) (hlen : len ≤ 65535) (last : Bool) :
    Calls Tryz.prog 46 #[.pointer (some ⟨bw, 0, none⟩), .slice a len cap, .bool last] w (WRet bw bw ow w (rowOf (Z ++ (iHead (if last then 1 else 0) len ++ zs))) (.tuple #[])) := by
  have hbb : bw ≤ w.heap.size := by have := hW.lt; omega
  have hzl : (rowOf Z).length = 8 * Z.length := rowOf_length Z
  have HK := hide (layKind_c bw ow w (rowOf Z) hW (by omega) 0 last)
  have HA : Hid (∀ w1, WTo bw bw ow w (rowOf Z ++ knd last 0) w1 → Calls Tryz.prog 62 #[.pointer (some ⟨bw, 0, none⟩)] w1 fun e w' => e = .returned (.tuple #[]) ∧ WTo bw bw ow w (rowOf Z ++ knd last 0 ++ bitsN 0 5) w') := fun w1 k => by
    obtain ⟨o, s, kk, oo⟩ := k
    have hl : (rowOf Z ++ knd last 0).length = 8 * Z.length + 3 := by rw [List.length_append, hzl, knd_length]
    have hp : pad (rowOf Z ++ knd last 0).length = 5 := by rw [hl]; exact pad_pos (by decide) (by decide)
    refine (alignW s (by have := kk.size; omega) (by omega)).mono ?_
    rintro e w' ⟨rfl, k2⟩
    rw [hp] at k2
    exact ⟨rfl, WTo.trans kk oo k2⟩
  have HB1 : Hid (∀ w1, WTo bw bw ow w (rowOf Z ++ knd last 0 ++ bitsN 0 5) w1 → Calls Tryz.prog 63 #[.pointer (some ⟨bw, 0, none⟩), .int .i64 (len : Int), .int .i64 16] w1 fun e w' => e = .returned (.tuple #[]) ∧ WTo bw bw ow w (rowOf Z ++ knd last 0 ++ bitsN 0 5 ++ bitsN (len : Int) 16) w') := fun w1 k => k.bits hbb (by simp only [List.length_append, hzl, knd_length, bitsN_length]; omega) (len : Int) 16 (by omega)
  have HB2 : Hid (∀ w1, WTo bw bw ow w (rowOf Z ++ knd last 0 ++ bitsN 0 5 ++ bitsN (len : Int) 16) w1 → Calls Tryz.prog 63 #[.pointer (some ⟨bw, 0, none⟩), .int .i64 (-(len : Int) - 1), .int .i64 16] w1 fun e w' => e = .returned (.tuple #[]) ∧ WTo bw bw ow w (rowOf (Z ++ iHead (if last then 1 else 0) len)) w') := fun w1 k => by
    refine (k.bits hbb (by simp only [List.length_append, hzl, knd_length, bitsN_length]; omega) (-(len : Int) - 1) 16 (by omega)).mono ?_
    rintro e w' ⟨rfl, k2⟩
    refine ⟨rfl, ?_⟩
    rw [show (16 : Int).toNat = 16 from rfl] at k2
    have := row_head last len hlen
    rw [rowOf_append, ← this]
    simpa only [List.append_assoc] using k2
  have HB3 : Hid (∀ w1, WTo bw bw ow w (rowOf (Z ++ iHead (if last then 1 else 0) len)) w1 → Calls Tryz.prog 64 #[.pointer (some ⟨bw, 0, none⟩), .slice a len cap] w1 fun e w' => e = .returned (.tuple #[]) ∧ WRet bw bw ow w (rowOf (Z ++ (iHead (if last then 1 else 0) len ++ zs))) (.tuple #[]) (.returned (.tuple #[])) w') := fun w1 k => by
    have hbl : Below bw w w1 := k.blw hbb (Nat.le_refl _) (fun g e => (hW.own e).1)
    obtain ⟨o, s, kk, oo⟩ := k
    have hl : (rowOf (Z ++ iHead (if last then 1 else 0) len)).length = 8 * (Z.length + 5) := by rw [rowOf_length, List.length_append, iHead_length]
    have hp : pad (rowOf (Z ++ iHead (if last then 1 else 0) len)).length = 0 := pad_zero (by omega)
    refine (bytesW (B := B) s (by have := kk.size; omega) (by omega) a len cap zs (ht.kept (Kept.of_below hbl) (fun b hb e => by omega)) hnil hB hB (by omega)).mono ?_
    rintro e w' ⟨rfl, k2⟩
    refine ⟨rfl, rfl, ?_⟩
    rw [hp] at k2
    rw [← List.append_assoc, rowOf_append (Z ++ _)]
    have := WTo.trans kk oo k2
    simpa [bitsN] using this
  generalize WRet bw bw ow w (rowOf (Z ++ (iHead (if last then 1 else 0) len ++ zs))) (.tuple #[]) = Q at HB3 ⊢
  clear hW ht hnil hzl
  go_enter Tryz.func46, Tryz.ntmps46
  go_upto_region 1 with (go_at_call 61; refine HK.out.mono ?_; rintro e w1 ⟨rfl, k1⟩; have H1 := hide (HA.out w1 k1); clear k1 HK HA)
  go_upto_region 2 with (go_at_call 62; refine H1.out.mono ?_; rintro e w2 ⟨rfl, k2⟩; have H2 := hide (HB1.out w2 k2); clear k2 H1 HB1)
  go_upto_region 3 with (go_at_call 63; refine H2.out.mono ?_; rintro e w3 ⟨rfl, k3⟩; have H3 := hide (HB2.out w3 k3); clear k3 H2 HB2)
  have hx := not_int len hlen
  go_upto_region 4 with (go_at_call 63; (try rw [hx]); refine H3.out.mono ?_; rintro e w4 ⟨rfl, k4⟩; have H4 := hide (HB3.out w4 k4); clear k4 H3 HB3)
  go_wp2_with (go_at_call 64; refine H4.out.mono ?_; rintro e w5 ⟨rfl, k5⟩; have H5 := hide k5; clear k5 H4)
  go_end0
  exact H5.out

theorem Text.part {B : Nat} {w : World} {b off n : Nat} {zs : List Int} (h : Text B w (some ⟨b, off, none⟩) zs.length zs) (i : Nat) (hi : i + n ≤ zs.length) : Text B w (some ⟨b, off + i, none⟩) n ((zs.drop i).take n) := by
  obtain ⟨_, h2, h3⟩ := h
  have hg : ∀ j, j < n → ((zs.drop i).take n).getD j 0 = zs.getD (i + j) 0 := fun j hj => by simp [List.getD, hj]
  refine ⟨by rw [List.length_take, List.length_drop]; omega, fun j => ?_, ?_⟩
  · by_cases hj : j < n
    · rw [hg j hj]; exact h2 _
    · rw [List.getD_eq_getElem?_getD, List.getElem?_eq_none (by rw [List.length_take]; omega)]; simp
  · by_cases h0 : n = 0
    · exact .inl h0
    · obtain ⟨b', o', hb, e, hc⟩ := h3.resolve_left (by omega)
      simp only [Option.some.injEq, Addr.mk.injEq, and_true] at e
      obtain ⟨rfl, rfl⟩ := e
      refine .inr ⟨b, off + i, hb, rfl, fun j hj => ?_⟩
      rw [hg j hj, Nat.add_assoc]
      exact hc (i + j) (by omega)
/-- Stored's answer. -/
def StoRet (w : World) (zs : List Int) (e : Ending) (w' : World) : Prop := ∃ g cap, e = .returned (.slice (some ⟨g, 0, none⟩) (stB zs).length cap) ∧ OwnsB w' w.heap.size (.slice (some ⟨g, 0, none⟩) (stB zs).length cap) (stB zs) ∧ Below w.heap.size w w'
theorem stB_len : ∀ (n : Nat) (zs : List Int), zs.length = n → (stB zs).length ≤ 2 * n + 5 := by
  intro n
  induction n using Nat.strongRecOn with
  | ind n ih =>
    intro zs hn
    by_cases h : 65535 < zs.length
    · have := ih (n - 65535) (by omega) (zs.drop 65535) (by rw [List.length_drop]; omega)
      rw [stB_big h]
      simp only [List.length_append, iHead_length, List.length_take]
      omega
    · rw [stB_small (by omega), List.length_append, iHead_length]; omega
theorem stB_bytes : ∀ (n : Nat) (zs : List Int), zs.length = n → (∀ x ∈ zs, 0 ≤ x ∧ x ≤ 255) → ∀ x ∈ stB zs, 0 ≤ x ∧ x ≤ 255 := by
  intro n
  have hd : ∀ (l n : Nat), l ≤ 1 → n ≤ 65535 → ∀ x ∈ iHead l n, 0 ≤ x ∧ x ≤ 255 := fun l n h1 h2 x hx => by
    unfold iHead at hx
    simp only [List.mem_cons, List.not_mem_nil, or_false] at hx
    rcases hx with rfl | rfl | rfl | rfl | rfl <;> omega
  induction n using Nat.strongRecOn with
  | ind n ih =>
    intro zs hn hz x hx
    by_cases h : 65535 < zs.length
    · rw [stB_big h] at hx
      rcases List.mem_append.1 hx with hx | hx
      · exact hd 0 65535 (by decide) (by decide) x hx
      · rcases List.mem_append.1 hx with hx | hx
        · exact hz x (List.mem_of_mem_take hx)
        · exact ih (n - 65535) (by omega) (zs.drop 65535) (by rw [List.length_drop]; omega) (fun y hy => hz y (List.mem_of_mem_drop hy)) x hx
    · rw [stB_small (by omega)] at hx
      rcases List.mem_append.1 hx with hx | hx
      · exact hd 1 _ (by decide) (by omega) x hx
      · exact hz x hx
theorem data_row {Z : List Int} (h : ∀ x ∈ Z, 0 ≤ x ∧ x ≤ 255) : dataL (rowOf Z) = Z := by
  have := dataL_row Z 0 0 h (by decide) (by decide) (by decide)
  simpa [bitsN, dataOf] using this
set_option maxHeartbeats 4000000 in
theorem dstored_c (w : World) (a : Option Addr) (cap : Nat) (zs : List Int) (ht : Text w.heap.size w a zs.length zs) (hnil : a = none → zs.length = 0 ∧ cap = 0) (hcap : zs.length ≤ cap) (hl : zs.length ≤ 1200000) :
    Calls Tryz.prog 31 #[.slice a zs.length cap] w (StoRet w zs) := by
  have HN := hide (newW w)
  have hby : ∀ x ∈ zs, 0 ≤ x ∧ x ≤ 255 := ht.mem
  have HBY := hide (stB_bytes _ zs rfl hby)
  have hsl := stB_len _ zs rfl
  have HT := hide ht
  have HNIL := hide hnil
  obtain ⟨ST, hST⟩ : ∃ ST, stB zs = ST := ⟨_, rfl⟩
  have HS0 : Hid ([] ++ stB (zs.drop 0) = ST) := hide (by rw [← hST]; simp)
  have HST := hide hST
  rw [hST] at HBY hsl
  clear ht hnil hby hST
  go_enter Tryz.func31, Tryz.ntmps31
  go_upto_region 2 with (go_at_call 45; refine HN.out.mono ?_; rintro e w1 ⟨rfl, s1, b1⟩; have S1 := hide s1; have B1 := hide b1; clear s1 b1 HN)
  have HK0 : Hid (WTo w.heap.size w.heap.size none w1 (rowOf []) w1) := hide (by simpa [rowOf] using S1.out.to)
  go_loopg [0] zs.length (fun gk v0 wx => ∃ (k : Nat) (a' : Option Addr) (c' : Nat) (Z : List Int), k + gk = zs.length ∧ gk ≤ c' ∧ v0 = .slice a' gk c' ∧ (a' = none → gk = 0 ∧ c' = 0) ∧ (gk = 0 ∨ ∃ b off, a = some ⟨b, off, none⟩ ∧ a' = some ⟨b, off + k, none⟩) ∧ Hid (Z ++ stB (zs.drop k) = ST) ∧ Hid (WTo w.heap.size w.heap.size none w1 (rowOf Z) wx))
  case atStart =>
    refine ⟨0, a, cap, [], by omega, hcap, rfl, HNIL.out, ?_, HS0, HK0⟩
    rcases HT.out.2.2 with h | ⟨b, off, _, e, _⟩
    · exact .inl h
    · exact .inr ⟨b, off, e, e⟩
  case round =>
    obtain ⟨k, a', c', Z, hkg, hgc, rfl, hn', ha', HZ, HK⟩ := hrel
    clear HS0 HK0
    have hZl : Z.length ≤ 3000000 := by have := congrArg List.length HZ.out; rw [List.length_append] at this; omega
    have hbl : Below w.heap.size w wr := B1.out.trans (HK.out.blw B1.out.size (Nat.le_refl _) (fun g e => by cases e))
    have hTr : Text w.heap.size wr a zs.length zs := HT.out.kept (Kept.of_below hbl) (fun b hb e => by omega)
    have hdl : (zs.drop k).length = gk := by rw [List.length_drop]; omega
    by_cases hbig : 65535 < gk
    · obtain ⟨b, off, rfl, rfl⟩ := ha'.resolve_left (by omega)
      have htp := hTr.part (n := 65535) k (by omega)
      have hZ := HZ.out
      rw [stB_big (by omega), List.drop_drop] at hZ
      have HLS : Hid (Calls Tryz.prog 46 #[.pointer (some ⟨w.heap.size, 0, none⟩), .slice (some ⟨b, off + k, none⟩) 65535 c', .bool false] wr fun e w' => e = .returned (.tuple #[]) ∧ WTo w.heap.size w.heap.size none w1 (rowOf (Z ++ (iHead 0 65535 ++ (zs.drop k).take 65535))) w') := by
        obtain ⟨o, s, kk, oo⟩ := HK.out
        refine (layStored_c w.heap.size w.heap.size o wr Z s (by omega) (some ⟨b, off + k, none⟩) 65535 c' ((zs.drop k).take 65535) htp (fun e => by cases e) (Nat.le_refl _) (by omega) false).mono ?_
        rintro e w' ⟨rfl, k2⟩
        exact ⟨rfl, WTo.trans kk oo k2⟩
      have HZ2 : Hid (Z ++ (iHead 0 65535 ++ (zs.drop k).take 65535) ++ stB (zs.drop (k + 65535)) = ST) := hide (by rw [← hZ]; simp only [List.append_assoc])
      have hgt : (65535 : Int) < (gk : Int) := by omega
      have hc1 : (65535 : Int) ≤ (c' : Int) := by omega
      have hcn : ¬ (c' : Int) = 65535 := by omega
      have hcn2 : ¬ c' = 65535 := by omega
      have hc2 : 65535 ≤ c' := by omega
      have hc3 : 65535 ≤ gk := by omega
      clear htp hZ hbl hTr hdl HK HZ hn' ha' hbig
      go_wp2_with (go_at_call 46; refine HLS.out.mono ?_; rintro e w2 ⟨rfl, k2⟩; have HK2 := hide k2; clear k2 HLS)
      go_roundg (gk - 65535)
      case measure => omega
      case rel => exact ⟨k + 65535, some ⟨b, off + k + 65535, none⟩, c' - 65535, _, by omega, by omega, rfl, (fun e => by cases e), .inr ⟨b, off, rfl, by rw [Nat.add_assoc]⟩, HZ2, HK2⟩
    · have htp : Text w.heap.size wr a' gk (zs.drop k) := by
        rcases ha' with h0 | ⟨b, off, e1, e2⟩
        · subst h0
          refine ⟨hdl, fun i => ?_, .inl rfl⟩
          have := List.eq_nil_of_length_eq_zero hdl
          rw [this]; simp
        · subst e1 e2
          have := hTr.part (n := gk) k (by omega)
          rwa [List.take_of_length_le (by omega)] at this
      have hZ := HZ.out
      rw [stB_small (by omega), hdl] at hZ
      have HLS : Hid (Calls Tryz.prog 46 #[.pointer (some ⟨w.heap.size, 0, none⟩), .slice a' gk c', .bool true] wr fun e w' => e = .returned (.tuple #[]) ∧ WTo w.heap.size w.heap.size none w1 (rowOf ST) w') := by
        obtain ⟨o, s, kk, oo⟩ := HK.out
        refine (layStored_c w.heap.size w.heap.size o wr Z s (by omega) a' gk c' (zs.drop k) htp hn' (Nat.le_refl _) (by omega) true).mono ?_
        rintro e w' ⟨rfl, k2⟩
        rw [← hZ]
        exact ⟨rfl, WTo.trans kk oo k2⟩
      have hng : ¬ (65535 : Int) < (gk : Int) := by omega
      clear htp hZ hTr hdl HZ HK hn' ha' hbig hbl
      go_upto_region 6 with (go_at_call 46; refine HLS.out.mono ?_; rintro e w2 ⟨rfl, k2⟩; have HK2 := hide k2; clear k2 HLS)
      have hbl2 : Below w.heap.size w w2 := B1.out.trans (HK2.out.blw B1.out.size (Nat.le_refl _) (fun g e => by cases e))
      obtain ⟨o2, s2, kk2, oo2⟩ := HK2.out
      have hD := dataW s2 (by rw [rowOf_length]; omega)
      rw [data_row HBY.out] at hD
      have HD := hide hD
      have HBL2 := hide hbl2
      clear s2 kk2 oo2 hD hbl2 HK2
      go_wp2_with (go_at_call 47; refine HD.out.mono ?_; rintro e w3 ⟨g, cp, rfl, ow, b3⟩; have HR := hide (show StoRet w zs (.returned (.slice (some ⟨g, 0, none⟩) ST.length cp)) w3 from ⟨g, cp, by rw [HST.out], by rw [HST.out]; exact OwnsB.low ow HBL2.out.size, HBL2.out.trans (b3.mono HBL2.out.size)⟩); clear ow b3 HD)
      go_ret
      exact HR.out
end Go.Proofs.YteknifnadbmfiaaGreatDoor

/- shorter: contract. -/
namespace Go.Proofs.YteknifnadbmfiaaGreatDoor
set_option maxRecDepth 100000
open Go Go.RowKit

/-- A dynamic block's lengths, its head: one answer each. -/
theorem DynOk.uniq {ts : List M.Tk} {S D S' D' : List Int} (h : DynOk ts S D) (h' : DynOk ts S' D') : S = S' ∧ D = D' := by
  obtain ⟨FS, FD, a1, rfl, a2, rfl⟩ := h
  obtain ⟨GS, GD, b1, rfl, b2, rfl⟩ := h'
  obtain rfl := a1.uniq b1
  obtain rfl := a2.uniq b2
  exact ⟨rfl, rfl⟩
theorem LLOk.uniq {S D F F' : List Int} {m m' : Nat} (h : LLOk S D F m) (h' : LLOk S D F' m') : F = F' ∧ m = m' := by
  obtain rfl := h.good.uniq h'.good
  refine ⟨rfl, ?_⟩
  have a0 := h.m0
  have a1 := h.m1
  have b0 := h'.m0
  have b1 := h'.m1
  rcases Nat.lt_trichotomy m m' with c | c | c
  · rcases h'.ml with e | e
    · omega
    · exact absurd (h.mz (m' - 1) (by omega) (by omega)) e
  · exact c
  · rcases h.ml with e | e
    · omega
    · exact absurd (h'.mz (m - 1) (by omega) (by omega)) e
theorem HdIs.uniq {k : Nat} {S D H H' : List Int} (h : HdIs k S D H) (h' : HdIs k S D H') : H = H' := by
  rcases h with ⟨rfl, rfl⟩ | ⟨rfl, _, F, m, hl, rfl⟩
  · rcases h' with ⟨_, rfl⟩ | ⟨h, _⟩
    · rfl
    · omega
  · rcases h' with ⟨h, _⟩ | ⟨_, _, F', m', hl', rfl⟩
    · omega
    · obtain ⟨rfl, rfl⟩ := hl.uniq hl'
      rfl
/-- Which of both blocks is chosen. -/
def Chs (ts : List M.Tk) (k : Nat) (S D : List Int) (X : Int) : Prop := X ≤ szB 1 [] iFix iFive ts ∧ ((k = 1 ∧ ∀ S' D' H', DynOk ts S' D' → HdIs 2 S' D' H' → szB 1 [] iFix iFive ts ≤ szB 2 H' S' D' ts) ∨ (k = 2 ∧ DynOk ts S D ∧ X < szB 1 [] iFix iFive ts))
/-- The shorter of two blocks, told. -/
def SRet (w : World) (ta : Option Addr) (ct : Nat) (ts : List M.Tk) (e : Ending) (w' : World) : Prop :=
  ∃ k sa cs da cd S D H, (k = 1 ∨ k = 2) ∧ BkOk k ts S D ∧ (k = 2 → DynOk ts S D) ∧ HdIs k S D H ∧ Chs ts k S D (szB k H S D ts) ∧ e = .returned (.agg (bA ta ts.length ct k sa S.length cs da D.length cd (szB k H S D ts))) ∧ BkAt w'.heap.size w' ta sa da ts S D ∧ (Ints w.heap.size w'.heap.size w' sa S ∧ Ints w.heap.size w'.heap.size w' da D) ∧ Below w.heap.size w w'
theorem kind_one {ts : List M.Tk} {S D H : List Int} (hb : BkOk 1 ts S D) (hH : HdIs 1 S D H) : S = iFix ∧ D = iFive ∧ H = [] := by
  rcases hb.kind with ⟨_, h1, h2⟩ | ⟨h, _⟩
  · rcases hH with ⟨_, h3⟩ | ⟨h3, _⟩
    · exact ⟨h1, h2, h3⟩
    · omega
  · omega
set_option maxHeartbeats 8000000 in
theorem shorter_c (w : World) (hT : Tab w) (h0 : 2 < w.heap.size) (ta : Option Addr) (ct : Nat) (ts : List M.Tk) (hI : TkIn w ta ts) :
    Calls Tryz.prog 49 #[.slice ta ts.length ct] w (SRet w ta ct ts) := by
  obtain ⟨W, hWW⟩ : ∃ W, W = w.alloc (.cells bZ 99) := ⟨_, rfl⟩
  have blW : Below w.heap.size w W := by rw [hWW]; exact (Below.refl _ _).alloc (Nat.le_refl _) _
  have hWb : W.heap[w.heap.size]? = some (.cells bZ 99 (0, 0)) := by rw [hWW]; exact heap_new w _
  have hIW := hI.stay blW
  have hl := hI.len
  have HC := hide (count_c ta ct ts W hIW.t hIW.ok (by omega))
  have hTW : Tab W := hT.below blW h0
  have hzW : w.heap.size < W.heap.size := lt_of_block hWb
  have HF : Hid (∀ w1, TlOf w1 W.heap.size ts → Below W.heap.size W w1 → Calls Tryz.prog 70 #[.slice ta ts.length ct, .pointer (some ⟨W.heap.size, 0, none⟩)] w1 (BRet w1 ta ct ts 1)) := fun w1 ht hb => fixedBlock_c w1 (hTW.below hb (by omega)) (by have := hb.size; omega) ta ct W.heap.size ts (hIW.stay hb) ht
  have HDY : Hid (∀ w1, TlOf w1 W.heap.size ts → Below W.heap.size W w1 → Calls Tryz.prog 71 #[.slice ta ts.length ct, .pointer (some ⟨W.heap.size, 0, none⟩)] w1 (BRet w1 ta ct ts 2)) := fun w1 ht hb => dynamicBlock_c w1 (hTW.below hb (by omega)) (by have := hb.size; omega) ta ct W.heap.size ts (hIW.stay hb) ht
  have HE : Hid (w.alloc (.cells bZ 99) = W) := hWW.symm
  have HWB := hide hWb
  have HBW := hide blW
  have HI := hide hI
  clear hWW blW hWb hIW hTW hT hI
  go_enter Tryz.func49, Tryz.ntmps49
  go_upto_region 1 with fail
  rw [HE.out]
  go_upto_region 3 with (first
    | (go_at_call 69; refine HC.out.mono ?_; rintro e w1 ⟨rfl, t1, b1⟩; have HF1 := hide (HF.out w1 t1 b1); have T1 := hide t1; have B1 := hide b1; clear t1 b1 HC HF)
    | (go_at_call 70; refine HF1.out.mono ?_; rintro e w2 ⟨sa, cs, da, cd, S, D, H, hbk, hdy, hH, rfl, hat, hti, hb⟩; have HD2 := hide (HDY.out w2 (T1.out.below hb) (B1.out.trans (hb.mono B1.out.size))); have FB := hide hbk; have FH := hide hH; have FA := hide hti; have B2 := hide hb; clear hbk hdy hH hat hti hb HF1 HDY)
    | (go_at_call 71; refine HD2.out.mono ?_; rintro e w3 ⟨sa2, cs2, da2, cd2, S2, D2, H2, hbk, hdy, hH, rfl, hat, hti, hb⟩; have GB := hide hbk; have GD := hide (hdy rfl); have GH := hide hH; have GA := hide hti; have B3 := hide hb; clear hbk hdy hH hat hti hb HD2))
  obtain ⟨X1, hX1⟩ : ∃ X1, szB 1 H S D ts = X1 := ⟨_, rfl⟩
  obtain ⟨X2, hX2⟩ : ∃ X2, szB 2 H2 S2 D2 ts = X2 := ⟨_, rfl⟩
  rw [hX1, hX2]
  have HX1 := hide hX1
  have HX2 := hide hX2
  have kf : szB 1 H S D ts = szB 1 [] iFix iFive ts := by obtain ⟨rfl, rfl, rfl⟩ := kind_one FB.out FH.out; rfl
  have bl03 : Below W.heap.size W w3 := B1.out.trans ((B2.out.trans (B3.out.mono B2.out.size)).mono B1.out.size)
  obtain ⟨w4, hw4⟩ : ∃ w4, w4 = (w3.alloc (.cells #[.slice ta ts.length ct, .int .i64 1, .slice sa S.length cs, .slice da D.length cd, .int .i64 X1] 99)).alloc (.cells #[.slice ta ts.length ct, .int .i64 2, .slice sa2 S2.length cs2, .slice da2 D2.length cd2, .int .i64 X2] 99) := ⟨_, rfl⟩
  have bl34 : Below w3.heap.size w3 w4 := by rw [hw4]; exact ((Below.refl _ _).alloc (Nat.le_refl _) _).alloc (by simp) _
  have hp4 : w4.heap[w3.heap.size]? = some (.cells #[.slice ta ts.length ct, .int .i64 1, .slice sa S.length cs, .slice da D.length cd, .int .i64 X1] 99 (0, 0)) := by rw [hw4]; exact heap_new1 _ _ _
  have hp5 : w4.heap[w3.heap.size + 1]? = some (.cells #[.slice ta ts.length ct, .int .i64 2, .slice sa2 S2.length cs2, .slice da2 D2.length cd2, .int .i64 X2] 99 (0, 0)) := by rw [hw4]; exact heap_new2 _ _ _
  have hz4 : w4.heap[w.heap.size]? = some (.cells bZ 99 (0, 0)) := ((bl03.trans (bl34.mono bl03.size)).block _ (lt_of_block HWB.out)).trans HWB.out
  have hb4 : Below w.heap.size w w4 := HBW.out.trans ((bl03.trans (bl34.mono bl03.size)).mono HBW.out.size)
  have hs1 := B1.out.size
  have hs2 := B2.out.size
  have hs3 := B3.out.size
  have hs4 := bl34.size
  have fa : Ints w1.heap.size w3.heap.size w4 sa S ∧ Ints w1.heap.size w3.heap.size w4 da D := ⟨(((FA.out.1.stay B3.out).stay bl34)).wide (Nat.le_refl _) (by omega), (((FA.out.2.stay B3.out).stay bl34)).wide (Nat.le_refl _) (by omega)⟩
  have ga : Ints w2.heap.size w3.heap.size w4 sa2 S2 ∧ Ints w2.heap.size w3.heap.size w4 da2 D2 := ⟨GA.out.1.stay bl34, GA.out.2.stay bl34⟩
  have HE4 : Hid ((w3.alloc (.cells #[.slice ta ts.length ct, .int .i64 1, .slice sa S.length cs, .slice da D.length cd, .int .i64 X1] 99)).alloc (.cells #[.slice ta ts.length ct, .int .i64 2, .slice sa2 S2.length cs2, .slice da2 D2.length cd2, .int .i64 X2] 99) = w4) := hw4.symm
  rw [HE4.out]
  have a0 := cells_of hp4 0
  have a1 := cells_of hp4 1
  have a2 := cells_of hp4 2
  have a3 := cells_of hp4 3
  have a4 := cells_of hp4 4
  have b0 := cells_of hp5 0
  have b1 := cells_of hp5 1
  have b2 := cells_of hp5 2
  have b3 := cells_of hp5 3
  have b4 := cells_of hp5 4
  have z0 := cells_of hz4 0
  have z1 := cells_of hz4 1
  have z2 := cells_of hz4 2
  have z3 := cells_of hz4 3
  have z4 := cells_of hz4 4
  have y0 := free_of hz4 0
  have y1 := free_of hz4 1
  have y2 := free_of hz4 2
  have y3 := free_of hz4 3
  have y4 := free_of hz4 4
  simp at a0 a1 a2 a3 a4 b0 b1 b2 b3 b4 z0 z1 z2 z3 z4
  have hm : w.heap.size < w1.heap.size := by omega
  have hsz43 : w3.heap.size ≤ w4.heap.size := hs4
  clear hX1 hX2 hw4 bl03 bl34 hp4 hp5 hs4
  by_cases hlt : X2 < X1
  case pos =>
      have HFIN : Hid (∀ wf, wf = setBk w4 w.heap.size (.slice ta ts.length ct) (.int .i64 2) (.slice sa2 S2.length cs2) (.slice da2 D2.length cd2) (.int .i64 X2) → wf.heap[w.heap.size]? = some (.cells #[.slice ta ts.length ct, .int .i64 2, .slice sa2 S2.length cs2, .slice da2 D2.length cd2, .int .i64 X2] 99 (0, 0)) ∧ SRet w ta ct ts (.returned (.agg #[.slice ta ts.length ct, .int .i64 2, .slice sa2 S2.length cs2, .slice da2 D2.length cd2, .int .i64 X2])) wf) := fun wf hwf => by
        have hkf : Kept (fun i => i = w.heap.size) w4 wf := by rw [hwf]; exact setBk_kept (Kept.refl _ _) rfl
        have hbf : Below w.heap.size w wf := hb4.trans (hkf.below hb4.size (fun i hi e => by omega))
        refine ⟨by rw [hwf]; exact setBk_at hz4, 2, sa2, cs2, da2, cd2, S2, D2, H2, .inr rfl, GB.out, fun _ => GD.out, GH.out, ⟨by rw [HX2.out, ← kf, HX1.out]; omega, .inr ⟨rfl, GD.out, by rw [HX2.out, ← kf, HX1.out]; exact hlt⟩⟩, (by rw [HX2.out]; rfl), ⟨HI.out.t.stay hbf, fun b off e => Nat.lt_of_lt_of_le (HI.out.b b off e) hbf.size, ?_, ?_⟩, ⟨?_, ?_⟩, hbf⟩
        · exact ((ga.1.kept hkf (fun b h1 h2 e => by omega)).wide (Nat.zero_le _) (Nat.le_trans hsz43 hkf.size))
        · exact ((ga.2.kept hkf (fun b h1 h2 e => by omega)).wide (Nat.zero_le _) (Nat.le_trans hsz43 hkf.size))
        · exact ((ga.1.kept hkf (fun b h1 h2 e => by omega)).wide (by omega) (Nat.le_trans hsz43 hkf.size))
        · exact ((ga.2.kept hkf (fun b h1 h2 e => by omega)).wide (by omega) (Nat.le_trans hsz43 hkf.size))
      clear hz4 hb4 fa ga hm
      go_wp2_with fail
      obtain ⟨hf1, hf2⟩ := HFIN.out _ rfl
      exact bodyPost_ret (results_cell_row rfl _ _ w.heap.size 99 _ (0, 0) _ (by rfl) hf1 Tryz.underlying99 rfl infoBk) rfl hf2
  case neg =>
      have HFIN : Hid (∀ wf, wf = setBk w4 w.heap.size (.slice ta ts.length ct) (.int .i64 1) (.slice sa S.length cs) (.slice da D.length cd) (.int .i64 X1) → wf.heap[w.heap.size]? = some (.cells #[.slice ta ts.length ct, .int .i64 1, .slice sa S.length cs, .slice da D.length cd, .int .i64 X1] 99 (0, 0)) ∧ SRet w ta ct ts (.returned (.agg #[.slice ta ts.length ct, .int .i64 1, .slice sa S.length cs, .slice da D.length cd, .int .i64 X1])) wf) := fun wf hwf => by
        have hkf : Kept (fun i => i = w.heap.size) w4 wf := by rw [hwf]; exact setBk_kept (Kept.refl _ _) rfl
        have hbf : Below w.heap.size w wf := hb4.trans (hkf.below hb4.size (fun i hi e => by omega))
        refine ⟨by rw [hwf]; exact setBk_at hz4, 1, sa, cs, da, cd, S, D, H, .inl rfl, FB.out, fun e => (by omega), FH.out, ⟨by rw [← kf]; exact Int.le_refl _, .inl ⟨rfl, fun S' D' H' d1 d2 => by obtain ⟨rfl, rfl⟩ := GD.out.uniq d1; obtain rfl := GH.out.uniq d2; rw [HX2.out, ← kf, HX1.out]; omega⟩⟩, (by rw [HX1.out]; rfl), ⟨HI.out.t.stay hbf, fun b off e => Nat.lt_of_lt_of_le (HI.out.b b off e) hbf.size, ?_, ?_⟩, ⟨?_, ?_⟩, hbf⟩
        · exact ((fa.1.kept hkf (fun b h1 h2 e => by omega)).wide (Nat.zero_le _) (Nat.le_trans hsz43 hkf.size))
        · exact ((fa.2.kept hkf (fun b h1 h2 e => by omega)).wide (Nat.zero_le _) (Nat.le_trans hsz43 hkf.size))
        · exact ((fa.1.kept hkf (fun b h1 h2 e => by omega)).wide (by omega) (Nat.le_trans hsz43 hkf.size))
        · exact ((fa.2.kept hkf (fun b h1 h2 e => by omega)).wide (by omega) (Nat.le_trans hsz43 hkf.size))
      clear hz4 hb4 fa ga hm
      go_wp2_with fail
      obtain ⟨hf1, hf2⟩ := HFIN.out _ rfl
      exact bodyPost_ret (results_cell_row rfl _ _ w.heap.size 99 _ (0, 0) _ (by rfl) hf1 Tryz.underlying99 rfl infoBk) rfl hf2
end Go.Proofs.YteknifnadbmfiaaGreatDoor

/- cut (of tokens that make one row), size: contracts. -/
namespace Go.Proofs.YteknifnadbmfiaaGreatDoor
set_option maxRecDepth 100000
open Go Go.RowKit

theorem Tryz.infoToks : (Tryz.prog.info? 79).map (fun i => (i.zero, i.size, i.bytes)) = some (some (.slice none 0 0), 1, 24) := by kernel_rfl
/-- One row. -/
def CutOne (w : World) (ta : Option Addr) (n : Nat) (e : Ending) (w' : World) : Prop := ∃ g cap, e = .returned (.slice (some ⟨g, 0, none⟩) 1 cap) ∧ w.heap.size ≤ g ∧ w'.cell? ⟨g, 0, none⟩ = some (.slice ta n n) ∧ Below w.heap.size w w'
set_option maxHeartbeats 1000000 in
theorem cut_one (w : World) (ta : Option Addr) (ct n : Nat) (hn : n ≤ 16384) (hc : n ≤ ct) (hnil : ta = none → ct = 0) :
    Calls Tryz.prog 50 #[.slice ta n ct, .int .i64 16384] w (CutOne w ta n) := by
  obtain ⟨i0, hi, hz0, hz1, hz2⟩ := info_parts Tryz.infoToks
  have hng : ¬ (16384 : Int) < (n : Int) := by omega
  have hcc : (n : Int) ≤ (ct : Int) := by omega
  have hz : (0 : Int) ≤ (n : Int) := by omega
  have HF : Hid (∀ v w', (w.alloc (.cells #[.slice ta n n] 79)).grownBy w' none → w'.ownsRow w.heap.size 79 1 v (0 + 1) ([] ++ [.slice ta n n]) → ∃ a cap, v = .slice a 1 cap ∧ CutOne w ta n (.returned (.slice a 1 cap)) w') := fun v w' hg ho => by
    rcases ho.2 with ⟨_, h2⟩ | ⟨g, cap, cur, rfl, hg1, hh, _, _, _, h4⟩
    · omega
    · refine ⟨_, cap, rfl, g, cap, rfl, hg1, ?_, ?_⟩
      · rw [cells_of hh]
        have e : (cur.toList.take ((0 + 1) * 1))[0]? = ([] ++ [Value.slice ta n n])[0]? := by rw [h4]
        rw [List.getElem?_take_of_lt (by decide), Array.getElem?_toList] at e
        rw [e]; rfl
      · exact (Kept.trans (Kept.alloc (fun _ => False) (Kept.refl _ w) _) (Kept.of_grown hg) (fun i _ e => by cases e)).below (Nat.le_refl _) (fun _ _ e => e)
  cases ta with
  | none =>
    obtain rfl := hnil rfl
    obtain rfl : n = 0 := by omega
    go_enter Tryz.func50, Tryz.ntmps50
    go_wp2_with fail
    go_loopg [0, 5] 0 (fun gk v0 v5 wx => v0 = .slice none 0 0 ∧ v5 = .slice none 0 0 ∧ w = wx)
    case atStart => exact ⟨rfl, rfl, rfl⟩
    case round =>
    obtain ⟨rfl, rfl, rfl⟩ := hrel
    go_wp2_with (at_builtin; refine wpList_append_own _ rfl (.tmp 20) (.tmp 27) 102 rfl w.heap.size 79 i0 (.slice none 0 0) 1 24 Tryz.underlying102 hi hz0 hz1 hz2 rfl (by decide) (.slice none 0 0) 0 [] (by rfl) (World.ownsRow_nil _ _ _ _) ⟨w.heap.size, 0, none⟩ 1 1 [.slice none 0 0] (by rfl) (by rfl) (World.news_of_block (heap_new w _)) (by intro u hu; simp at hu; subst hu; rfl) (by unfold maxLen; omega) (by omega) (by simp) ?_; intro v9 w9 ow9 gr9 nl9; obtain ⟨a9, c9, rfl, hq⟩ := HF.out v9 w9 gr9 ow9; have HQ := hide hq; clear ow9 gr9 nl9 hq)
    go_ret
    exact HQ.out
  | some ad =>
    go_enter Tryz.func50, Tryz.ntmps50
    go_wp2_with fail
    go_loopg [0, 5] 0 (fun gk v0 v5 wx => v0 = .slice (some ad) n ct ∧ v5 = .slice none 0 0 ∧ w = wx)
    case atStart => exact ⟨rfl, rfl, rfl⟩
    case round =>
    obtain ⟨rfl, rfl, rfl⟩ := hrel
    go_wp2_with (at_builtin; refine wpList_append_own _ rfl (.tmp 20) (.tmp 27) 102 rfl w.heap.size 79 i0 (.slice none 0 0) 1 24 Tryz.underlying102 hi hz0 hz1 hz2 rfl (by decide) (.slice none 0 0) 0 [] (by rfl) (World.ownsRow_nil _ _ _ _) ⟨w.heap.size, 0, none⟩ 1 1 [.slice (some ad) n n] (by rfl) (by rfl) (World.news_of_block (heap_new w _)) (by intro u hu; simp at hu; subst hu; rfl) (by unfold maxLen; omega) (by omega) (by simp) ?_; intro v9 w9 ow9 gr9 nl9; obtain ⟨a9, c9, rfl, hq⟩ := HF.out v9 w9 gr9 ow9; have HQ := hide hq; clear ow9 gr9 nl9 hq)
    go_ret
    exact HQ.out
set_option maxHeartbeats 1000000 in
theorem size_one (w : World) (b off cap : Nat) (q : Bq) (hq : Bqs w b off [q]) (hs : 0 ≤ q.sz ∧ q.sz ≤ 1000000000) :
    Calls Tryz.prog 51 #[.slice (some ⟨b, off, none⟩) 1 cap] w fun e w' => e = .returned (.int .i64 q.sz) ∧ Below w.heap.size w w' := by
  obtain ⟨c0, c1, c2, c3, c4⟩ := hq.2 0 (by simp)
  have e : qAt [q] 0 = q := rfl
  rw [e] at c0 c1 c2 c3 c4
  simp only [Nat.zero_mul, Nat.add_zero] at c0 c1 c2 c3 c4
  obtain ⟨ta, ct, ts, k, sa, cs, da, cd, S, D, sz⟩ := q
  simp only at c0 c1 c2 c3 c4 hs
  have HB : Hid (Below w.heap.size w (w.alloc (.cells (bA ta ts.length ct k sa S.length cs da D.length cd sz) 99))) := (Below.refl _ _).alloc (Nat.le_refl _) _
  clear hq e
  go_enter Tryz.func51, Tryz.ntmps51
  go_wp2_with fail
  go_loopg [3, 8] 1 (fun gk v3 v8 wx => (gk = 1 ∧ v3 = .int .i64 0 ∧ v8 = .int .i64 0 ∧ w = wx) ∨ (gk = 0 ∧ v3 = .int .i64 sz ∧ v8 = .int .i64 1 ∧ Hid (Below w.heap.size w wx)))
  case atStart => exact .inl ⟨rfl, rfl, rfl, rfl⟩
  case round =>
    rcases hrel with ⟨rfl, rfl, rfl, rfl⟩ | ⟨rfl, rfl, rfl, HW⟩
    · go_wp2_with fail
      go_roundg 0
      case measure => omega
      case rel => exact .inr ⟨rfl, by go_num, rfl, HB⟩
    · go_wp2_with fail
      go_ret
      exact ⟨rfl, HW.out⟩
end Go.Proofs.YteknifnadbmfiaaGreatDoor
