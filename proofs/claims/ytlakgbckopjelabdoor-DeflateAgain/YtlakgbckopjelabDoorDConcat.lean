/- slices.Grow of nothing, slices.Concat of two rows of numbers: contracts. -/
import Derived.Test.YtlakgbckopjelabDoorE00DSplit
import Derived.Lib.AppendZeros
namespace Go.Proofs.YtlakgbckopjelabDoor
set_option maxRecDepth 100000
open Go Go.RowKit

theorem wpList_app_run {P : Program} {ops : Array Oper} {rest : List Oper} {o : Oper} {a : Act} {w : World} {Q : Exit → Act → World → Prop} (hgd : o.guard = none) (s x : Operand) (t tn ty : TypeId)
    (ho : o.op = .call { callee := .builtin .append, args := #[s, x], argTypes := #[t, tn] }) (hty : o.type = ty) (vs vx v : Value) (w2 : World) (hs : a.eval s = vs) (hx : a.eval x = vx)
    (hr : (Builtin.append_ #[t, tn] ty #[vs, vx]).run P w = .ok v w2) (h : wpList P ops Q rest (a.put o.dst v) w2) : wpList P ops Q (o :: rest) a w :=
  wpList_plain hgd fun _ hK => by
    unfold Oper.wp execOp
    subst hty
    simp only [ho, resolve, invoke, builtin, Sem.run_bind, Sem.run_pure, Result.andThen_ok, List.map_toArray, List.map_cons, List.map_nil, hs, hx, hr]
    exact hK _ _ h
theorem grow_c (n : Nat) (h0 : 0 < n) (hn : n ≤ 1000000) (w : World) :
    Calls Tryd.prog 77 #[.slice none 0 0, .int .i64 (n : Int)] w fun e w' => ∃ cap, e = .returned (.slice (some ⟨w.heap.size, 0, none⟩) 0 cap) ∧ Owns w' w.heap.size (.slice (some ⟨w.heap.size, 0, none⟩) 0 cap) [] ∧ Below w.heap.size w w' ∧ n ≤ cap := by
  obtain ⟨i0, hi, hz0, hz1, hz2⟩ := info_parts Tryd.info3
  have hr := Go.Lib.run_append_nil_zeros (P := Tryd.prog) w 41 3 41 3 i0 (.int .i64 0) .i64 .i64 Tryd.underlying41 Tryd.underlying3 hi hz0 n h0 (by omega) (by omega) (by rw [hz2]; omega)
  obtain ⟨C, hC⟩ : ∃ C, grownCap w n 0 3 = C := ⟨_, rfl⟩
  have hge := grownCap_ge w n 0 3
  have hmx := grownCap_le_maxLen w n 0 3 (by unfold maxLen; omega)
  rw [hC] at hr hge hmx
  obtain ⟨Z, hZ⟩ : ∃ Z, Z = Builtin.zeroCells (Value.int .i64 0).cells n ++ Builtin.zeroCells (Value.int .i64 0).cells (C - n) := ⟨_, rfl⟩
  rw [← hZ] at hr
  have hsz : Z.size = C * 1 := by rw [hZ, Array.size_append, size_zeroCells, size_zeroCells]; simp [Value.cells]; omega
  have HO : Hid (Owns (w.drew.alloc (.cells Z 3)) w.heap.size (.slice (some ⟨w.heap.size, 0, none⟩) 0 C) []) := World.ownsRow_made w.drew Z C (Nat.le_refl _) hmx hsz
  have HB : Hid (Below w.heap.size w (w.drew.alloc (.cells Z 3))) := ((Below.refl _ _).drew).alloc (Nat.le_refl _) _
  have hC0 : (0 : Int) ≤ (C : Int) := by omega
  have hpos : (0 : Int) < (n : Int) := by omega
  have HR := hide hr
  clear hZ hsz hC hmx hr
  go_enter Tryd.func77, Tryd.ntmps77
  go_wp2_with (at_builtin; refine wpList_app_run rfl (.tmp 20) (.tmp 21) 41 3 41 rfl rfl _ _ _ _ (by rfl) (by rfl) HR.out ?_)
  go_ret
  exact ⟨C, rfl, HO.out, HB.out, hge⟩

/-- Two rows, one behind the other. -/
def catT (A B : List Int) (i : Nat) : List Int := if i = 0 then [] else if i = 1 then A else A ++ B
theorem catT_zero (A B : List Int) : catT A B 0 = [] := rfl
theorem catT_one (A B : List Int) : catT A B 1 = A := rfl
theorem catT_two (A B : List Int) : catT A B 2 = A ++ B := rfl
set_option maxHeartbeats 2000000 in
theorem concat_c (bs : Nat) (a b : Option Addr) (ca cb : Nat) (A B : List Int) (w : World) (hs : w.heap[bs]? = some (.cells #[.slice a A.length ca, .slice b B.length cb] 41 (0, 0))) (hA : Ints 0 w.heap.size w a A) (hB : Ints 0 w.heap.size w b B)
    (hA0 : 0 < A.length ∧ A.length ≤ 1000) (hB0 : 0 < B.length ∧ B.length ≤ 1000) :
    Calls Tryd.prog 66 #[.slice (some ⟨bs, 0, none⟩) 2 2] w fun e w' => ∃ ad cp, e = .returned (.slice ad (A ++ B).length cp) ∧ Owns w' w.heap.size (.slice ad (A ++ B).length cp) (A ++ B) ∧ Below w.heap.size w w' := by
  obtain ⟨i0, hi0, hz0, hz1, hz2⟩ := info_parts Tryd.info3
  have c0 := cells_of hs 0
  have c1 := cells_of hs 1
  simp at c0 c1
  have HS := hide hs
  have HA := hide hA
  have HB := hide hB
  have hcl : (A ++ B).length = A.length + B.length := by simp
  obtain ⟨N, hN⟩ : ∃ N, A.length + B.length = N := ⟨_, rfl⟩
  have hNi : (A.length : Int) + (B.length : Int) = (N : Int) := by omega
  have HG := hide (grow_c N (by omega) (by omega) w)
  clear hA hB hs
  go_enter Tryd.func66, Tryd.ntmps66
  go_wp2_with fail
  go_loopg [3, 11] 2 (fun gk v3 v11 wx => ∃ i : Nat, i + gk = 2 ∧ v11 = .int .i64 i ∧ v3 = .int .i64 ((catT A B i).length : Int) ∧ w = wx)
  case atStart => exact ⟨0, by omega, rfl, rfl, rfl⟩
  case round =>
    obtain ⟨i, hig, rfl, rfl, rfl⟩ := hrel
    have hi3 : i = 0 ∨ i = 1 ∨ i = 2 := by omega
    rcases hi3 with rfl | rfl | rfl
    · rw [catT_zero]
      go_wp2_with fail
      go_roundg 1
      case measure => omega
      case rel => exact ⟨1, by omega, by go_num, by rw [catT_one], rfl⟩
    · rw [catT_one]
      go_wp2_with fail
      go_roundg 0
      case measure => omega
      case rel => exact ⟨2, by omega, by go_num, by rw [catT_two, hcl, hN], rfl⟩
    · rw [catT_two, hcl, hN]
      go_upto_region 11 with (go_at_call 77; refine HG.out.mono ?_; rintro e w1 ⟨C, rfl, o1, b1, hC⟩; have O1 := hide o1; have B1 := hide b1; clear o1 b1)
      clear HG
      have hbz := B1.out.size
      go_loopg [6, 27] 2 (fun gk v6 v27 wx => ∃ (i : Nat) (a6 : Option Addr) (c6 : Nat), i + gk = 2 ∧ v27 = .int .i64 i ∧ v6 = .slice a6 (catT A B i).length c6 ∧ Hid (Owns wx w.heap.size (.slice a6 (catT A B i).length c6) (catT A B i)) ∧ Hid (Below w.heap.size w wx))
      case atStart => exact ⟨0, _, C, by omega, rfl, rfl, O1.out, B1.out⟩
      case round =>
      obtain ⟨i, a6, c6, hig, rfl, rfl, O2, B2⟩ := hrel
      have hi3 : i = 0 ∨ i = 1 ∨ i = 2 := by omega
      rcases hi3 with rfl | rfl | rfl
      · have hbl := B2.out
        have d0 : wr.cell? ⟨bs, 0, none⟩ = some (.slice a A.length ca) := (hbl.cell (p := ⟨bs, 0, none⟩) (lt_of_block HS.out)).trans c0
        obtain ⟨ad, had, hsrc⟩ := (HA.out.stay hbl).src (by omega)
        subst had
        have O2' := hide O2.out
        obtain ⟨XS, hXS⟩ : ∃ XS, XS = A.map (Value.int .i64) := ⟨_, rfl⟩
        have HSRC : Hid (∀ j u, XS[j]? = some u → wr.cell? (ad.add j) = some u) := by rw [hXS]; exact hsrc
        have HXL : Hid (XS.length = A.length * 1) := hide (by rw [hXS]; simp)
        have HX1 : Hid (∀ u ∈ XS, u.oneCell' = true) := hide (by rw [hXS]; intro u hu; simp at hu; obtain ⟨x, _, rfl⟩ := hu; rfl)
        have HXS := hide hXS
        have hbs : w.heap.size ≤ wr.heap.size := hbl.size
        clear hbl hsrc hXS
        rw [catT_zero] at O2' ⊢
        unfold Owns at O2'
        have hcl2 := hcl
        go_wp2_with (at_builtin; refine wpList_append_own wr rfl (.tmp 31) (.tmp 32) 41 rfl w.heap.size 3 i0 (.int .i64 0) 1 8 Tryd.underlying41 hi0 hz0 hz1 hz2 rfl (by decide) _ _ _ (by rfl) O2'.out ad A.length ca XS (by rfl) HXL.out HSRC.out HX1.out (by unfold maxLen; first | omega | (simp; omega)) (by first | omega | (simp; omega)) hbs ?_; intro v9 w9 ow9 gr9 nil9; have OW9 : Hid (Owns w9 w.heap.size v9 (catT A B 1)) := hide (by unfold Owns; rw [catT_one]; rw [HXS.out] at ow9; simpa using ow9); have BW9 : Hid (Below w.heap.size w w9) := hide (B2.out.trans ((Kept.of_grown gr9).below hbs (fun i hi e => by have := (ownsRow_lt O2'.out e.symm).1; omega))); obtain ⟨a9, c9, rfl⟩ := own_form ow9; clear ow9 gr9 nil9)
        go_roundg 1
        case measure => omega
        case rel => exact ⟨1, a9, c9, by omega, by go_num, by rw [catT_one], hide (by have := OW9.out; rw [catT_one] at this ⊢; simpa using this), BW9⟩
      · have hbl := B2.out
        have d0 : wr.cell? ⟨bs, 1, none⟩ = some (.slice b B.length cb) := (hbl.cell (p := ⟨bs, 1, none⟩) (lt_of_block HS.out)).trans c1
        obtain ⟨ad, had, hsrc⟩ := (HB.out.stay hbl).src (by omega)
        subst had
        have O2' := hide O2.out
        obtain ⟨XS, hXS⟩ : ∃ XS, XS = B.map (Value.int .i64) := ⟨_, rfl⟩
        have HSRC : Hid (∀ j u, XS[j]? = some u → wr.cell? (ad.add j) = some u) := by rw [hXS]; exact hsrc
        have HXL : Hid (XS.length = B.length * 1) := hide (by rw [hXS]; simp)
        have HX1 : Hid (∀ u ∈ XS, u.oneCell' = true) := hide (by rw [hXS]; intro u hu; simp at hu; obtain ⟨x, _, rfl⟩ := hu; rfl)
        have HXS := hide hXS
        have hbs : w.heap.size ≤ wr.heap.size := hbl.size
        clear hbl hsrc hXS
        rw [catT_one] at O2' ⊢
        unfold Owns at O2'
        have hcl2 := hcl
        go_wp2_with (at_builtin; refine wpList_append_own wr rfl (.tmp 31) (.tmp 32) 41 rfl w.heap.size 3 i0 (.int .i64 0) 1 8 Tryd.underlying41 hi0 hz0 hz1 hz2 rfl (by decide) _ _ _ (by rfl) O2'.out ad B.length cb XS (by rfl) HXL.out HSRC.out HX1.out (by unfold maxLen; first | omega | (simp; omega)) (by first | omega | (simp; omega)) hbs ?_; intro v9 w9 ow9 gr9 nil9; have OW9 : Hid (Owns w9 w.heap.size v9 (catT A B 2)) := hide (by unfold Owns; rw [catT_two]; rw [HXS.out] at ow9; simpa using ow9); have BW9 : Hid (Below w.heap.size w w9) := hide (B2.out.trans ((Kept.of_grown gr9).below hbs (fun i hi e => by have := (ownsRow_lt O2'.out e.symm).1; omega))); obtain ⟨a9, c9, rfl⟩ := own_form ow9; clear ow9 gr9 nil9)
        go_roundg 0
        case measure => omega
        case rel => exact ⟨2, a9, c9, by omega, by go_num, by rw [catT_two, hcl2, hN], hide (by have := OW9.out; rw [catT_two] at this ⊢; rw [hcl2]; exact this), BW9⟩
      · rw [catT_two] at O2 ⊢
        clear hcl
        go_wp2_with fail
        go_ret
        exact ⟨a6, c6, rfl, O2.out, B2.out⟩
end Go.Proofs.YtlakgbckopjelabDoor
