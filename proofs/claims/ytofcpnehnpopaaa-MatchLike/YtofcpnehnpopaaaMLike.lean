/- The law on like bytes: walked. -/
import Derived.Test.YtofcpnehnpopaaaMFinds0
import Derived.Deep.DeepFit
namespace Go.Proofs.Ytofcpnehnpopaaa
set_option maxRecDepth 100000
open Go Go.RowKit

/-- Bytes in a block of their own. -/
def BRo (g : Nat) (xs : List Int) (w : World) : Prop := w.heap[g]? = some (.cells (xs.map (Value.int .u8)).toArray 5 (0, 0))
theorem BRo.cell {g : Nat} {xs : List Int} {w : World} (h : BRo g xs w) {i : Nat} (hi : i < xs.length) : w.cell? ⟨g, i, none⟩ = some (.int .u8 (ln xs i)) := by
  rw [cells_of h]; simp [ln_in hi, hi]
theorem BRo.set {g : Nat} {xs : List Int} {w : World} (h : BRo g xs w) (i : Nat) (v : Int) : BRo g (xs.set i v) (w.setCell ⟨g, i, none⟩ (.int .u8 v)) := by
  unfold BRo at h ⊢
  rw [set_of h]
  simp
theorem BRo.bys {g : Nat} {xs : List Int} {w : World} (h : BRo g xs w) (hr : ∀ x ∈ xs, 0 ≤ x ∧ x ≤ 255) : Bys w (some ⟨g, 0, none⟩) xs := by
  refine ⟨.inr ⟨g, 0, lt_of_block h, rfl, fun i hi => by rw [Nat.zero_add]; exact h.cell hi⟩, fun i => ?_⟩
  by_cases hi : i < xs.length
  · rw [ln_in hi]; exact hr _ (List.getElem_mem hi)
  · simp [ln, List.getD, List.getElem?_eq_none (show xs.length ≤ i by omega)]
/-- Like bytes, so far. -/
def lk (c : Int) (M i : Nat) : List Int := List.replicate i c ++ List.replicate (M - i) 0
theorem lk_length (c : Int) (M i : Nat) (h : i ≤ M) : (lk c M i).length = M := by simp [lk]; omega
theorem lk_set (c : Int) (M i : Nat) (h : i < M) : (lk c M i).set i c = lk c M (i + 1) := by
  apply List.ext_getElem?
  intro k
  rw [List.getElem?_set]
  unfold lk
  by_cases e : i = k
  · subst e
    have hl : i < (List.replicate i c ++ List.replicate (M - i) 0).length := by simp; omega
    rw [if_pos rfl, if_pos hl, List.getElem?_append_left (by simp)]
    simp
  · rw [if_neg e]
    by_cases hk : k < i
    · rw [List.getElem?_append_left (by simpa using hk), List.getElem?_append_left (by simp; omega)]
      simp [hk, show k < i + 1 by omega]
    · rw [List.getElem?_append_right (by simpa using hk), List.getElem?_append_right (by simp; omega)]
      simp only [List.length_replicate, List.getElem?_replicate]
      have : (k - i < M - i) ↔ (k - (i + 1) < M - (i + 1)) := by omega
      simp only [this]
theorem lk_all (c : Int) (M : Nat) : lk c M M = List.replicate M c := by simp [lk]
theorem made_bytes (n : Nat) (hn : n ≤ 1000000000) (W : World) :
    (Instr.makeSlice 24 (.int .i64 (n : Int)) (.int .i64 (n : Int))).run Try.prog W = .ok (.slice (some ⟨W.heap.size, 0, none⟩) n n) (W.alloc (.cells ((List.replicate n (0 : Int)).map (Value.int .u8)).toArray 5)) := by
  obtain ⟨i, hi, hz, hs, hb⟩ := info_parts Try.info5
  have := run_make (P := Try.prog) W 24 5 i (.int .u8 0) Try.underlying24 hi hz .i64 .i64 n n (by omega) (by omega) (by rw [hb]; omega) (by omega)
  rw [this, hs]
  have e2 : madeCells (Value.int .u8 0).cells n = ((List.replicate n (0 : Int)).map (Value.int .u8)).toArray := by
    have := toList_madeCells_one (Value.int .u8 0) n
    rw [← Array.toList_inj]
    simpa [Value.cells] using this
  rw [Int.toNat_natCast, Nat.mul_one, e2]
theorem few_of {M n : Nat} (h : n ≤ (M + 516) / 258 + (M - (M - 2))) (hM : 4 ≤ M) : n ≤ 4 + M / 200 := by omega

set_option maxHeartbeats 4000000 in
theorem like_walk (c many lv : Int) (w : World) (wf : (Lit.int .u8 c).wf = true) :
    Calls Try.prog 7 #[.int .u8 c, .int .i64 many, .int .i64 lv] w (Yes w) := by
  have hcb := bounds_u8 wf
  by_cases h1 : many < 4
  case pos =>
    go_enter Try.func7, Try.ntmps7
    go_wp2_with (go_at_call 9; refine (alive_c _).mono ?_; rintro e w1 ⟨rfl, b1⟩)
    go_ret
    exact ⟨rfl, b1⟩
  by_cases h2 : 20000 < many
  case pos =>
    go_enter Try.func7, Try.ntmps7
    go_wp2_with (go_at_call 9; refine (alive_c _).mono ?_; rintro e w1 ⟨rfl, b1⟩)
    go_ret
    exact ⟨rfl, b1⟩
  by_cases h3 : lv < 1
  case pos =>
    go_enter Try.func7, Try.ntmps7
    go_wp2_with (go_at_call 9; refine (alive_c _).mono ?_; rintro e w1 ⟨rfl, b1⟩)
    go_ret
    exact ⟨rfl, b1⟩
  obtain ⟨M, rfl⟩ : ∃ M : Nat, many = M := ⟨many.toNat, by omega⟩
  have hmk := made_bytes M (by omega)
  have HZ : Hid (Array.replicate M (Value.int .u8 0) = ((lk c M 0).map (Value.int .u8)).toArray) := hide (by simp [lk])
  go_enter Try.func7, Try.ntmps7
  go_wp2_with fail
  go_loopg [8, 25] M (fun gk v8 v25 wx => ∃ i : Nat, i + gk = M ∧ v25 = .int .i64 i ∧ Hid (BRo w.heap.size (lk c M i) wx ∧ Below w.heap.size w wx))
  case atStart =>
    refine ⟨0, by omega, rfl, ?_, (Below.refl _ w).alloc (Nat.le_refl _) _⟩
    unfold BRo
    rw [← HZ.out]
    exact heap_new w _
  case round =>
    clear HZ hmk
    obtain ⟨i, hig, rfl, HR⟩ := hrel
    cases gk with
    | succ g1 =>
      have hlt : (i : Int) < (M : Int) := by omega
      have t0 := HR.out.1.cell (i := i) (by rw [lk_length c M i (by omega)]; omega)
      have f0 := free_of HR.out.1 i
      have hset := HR.out.1.set i c
      rw [lk_set c M i (by omega)] at hset
      have HSET := hide hset
      clear hset
      generalize ln (lk c M i) i = E0 at t0
      go_wp2_with fail
      go_roundg g1
      case measure => omega
      case rel => exact ⟨i + 1, by omega, by go_num, HSET.out, HR.out.2.setCell (Nat.le_refl _) _⟩
    | zero =>
      obtain rfl : i = M := by omega
      obtain ⟨W1, hW1⟩ : ∃ W1, W1 = wr := ⟨_, rfl⟩
      rw [← hW1] at HR ⊢
      clear hW1
      have hro := HR.out.1
      rw [lk_all] at hro
      obtain ⟨zs, hzs⟩ : ∃ zs, List.replicate i c = zs := ⟨_, rfl⟩
      rw [hzs] at hro
      have hzl : zs.length = i := by rw [← hzs]; simp
      have hzm : ∀ x ∈ zs, 0 ≤ x ∧ x ≤ 255 := fun x hx => by rw [← hzs] at hx; rw [List.eq_of_mem_replicate hx]; omega
      have hlike : ∀ k, k < zs.length → ln zs k = ln zs 0 := fun k hk => by
        rw [ln_in hk, ln_in (by omega)]
        simp only [← hzs, List.getElem_replicate]
      have HBY := hide (hro.bys hzm)
      have HLK := hide hlike
      have HBW := hide HR.out.2
      have HZL := hide hzl
      have HF : Hid (Calls Try.prog 14 #[.slice (some ⟨w.heap.size, 0, none⟩) i i, .int .i64 lv] W1 fun e w' => ∃ a1 c1 xs, e = .returned (.slice a1 xs.length c1) ∧ Toks w' a1 xs ∧ Below W1.heap.size W1 w' ∧ Rt xs ∧ tel xs = zs ∧ xs.length ≤ i ∧ xs.length ≤ 4 + i / 200) := by
        have := (find_c (some ⟨w.heap.size, 0, none⟩) i zs lv W1 HBY.out (by omega) (by omega) (by omega)).mono fun _ _ k => k.all HBY.out.rng
        rw [hzl] at this
        refine this.mono ?_
        rintro e w' ⟨a1, c1, xs, he, k1, k2, k3, _, k5, k6, k7, _⟩
        refine ⟨a1, c1, xs, he, k1, k2, k3, k5, k6, ?_⟩
        have hf := (k7 (by omega)).like HLK.out
        rw [hzl] at hf
        exact few_of hf (by omega)
      obtain ⟨S, hS⟩ : ∃ S, strOfNums zs = S := ⟨_, rfl⟩
      have HT' : Hid (∀ W, Below W1.heap.size W1 W → (convert 24 9 (.slice (some ⟨w.heap.size, 0, none⟩) i i)).run Try.prog W = .ok (.string S) W) := fun W hW => by
        have := conv_bys (cap := i) (HBY.out.stay hW)
        rw [hzl, hS] at this
        exact this
      have HC' : Hid (∀ W o c base, OwnsB W base (.slice o i c) zs → (convert 24 9 (.slice o i c)).run Try.prog W = .ok (.string S) W) := fun W o c base h => by rw [← hS]; exact conv_own h
      clear hro hzs hzm hlike HR HLK hS hzl HBY
      go_upto_region 10 with (go_at_call 14; refine HF.out.mono ?_; rintro e w1 ⟨a1, c1, xs, rfl, k1, k2, k3, k5, k6, k7⟩; have T1 := hide k1; have B1 := hide k2; have R1 := hide k3; have E1 := hide k5; have hn := k6; have hn2 := k7; clear k1 k2 k3 k5 k6 k7 HF)
      have hq : (i : Int).tdiv 200 = ((i / 200 : Nat) : Int) := by rw [Int.tdiv_eq_ediv_of_nonneg (by omega)]; omega
      obtain ⟨Q, hQ⟩ : ∃ Q, i / 200 = Q := ⟨_, rfl⟩
      rw [hQ] at hq hn2
      have hQ2 : Q ≤ 100 := by omega
      have hw1 : IntKind.i64.wrap (Q : Int) = (Q : Int) := by simp only [IntKind.wrap_i64]; omega
      have hw2 : IntKind.i64.wrap (4 + (Q : Int)) = 4 + (Q : Int) := by simp only [IntKind.wrap_i64]; omega
      have hle : (xs.length : Int) ≤ 4 + (Q : Int) := by omega
      have hle2 : decide ((xs.length : Int) ≤ 4 + (Q : Int)) = true := by simpa using hle
      have H2 : Hid (∀ W, Below w1.heap.size w1 W → Calls Try.prog 11 #[.slice a1 xs.length c1] W fun e w' => e = .returned (.bool true) ∧ Below W.heap.size W w') := fun W hW => qright_yes a1 c1 xs W (T1.out.stay hW) (by omega) R1.out
      have H4 : Hid (∀ W, Below w1.heap.size w1 W → Calls Try.prog 13 #[.slice a1 xs.length c1] W fun e w' => ∃ o oc, e = .returned (.slice o i oc) ∧ TSt W w' (.slice o i oc) zs) := fun W hW => by
        have := qtell_c a1 c1 xs W (T1.out.stay hW) (by omega) R1.out
        rw [E1.out, HZL.out] at this
        exact this
      clear T1 R1 E1 hQ hn hn2 HZL
      refine wp_region_any (by kernel_rfl) ?_
      change wpAny _ _ _ _ _ _ _ (World.drew _)
      refine wpAny_ready (rs := [0]) (by kernel_rfl) (by simp) ?_
      refine AllReady.cons rfl (fun K hK => ?_) AllReady.nil
      go_simp
      go_wp2_with (go_at_call 9; go_fit (alive_c _); rintro e w4 ⟨rfl, q4⟩; have B4 : Hid (Below w1.heap.size w1 w4) := hide ((Below.refl _ w1).drew.trans q4); clear q4)
      try (refine hK _ _ ?_; clear hK K)
      try simp only [Act.put, List.getElem_toArray, List.getElem_cons_zero, List.getElem_cons_succ, List.setIfInBounds_toArray, List.set_cons_zero, List.set_cons_succ]
      (refine wpAny_take (i := 1) (v := ?_) rfl (by kernel_rfl) (by kernel_rfl) (by kernel_rfl) (fun _ _ _ h => h) (Or.inl ⟨by rfl, ?_⟩) ?_; rotate_left; (intro w; go_simp); (try with_reducible rfl); try simp only [Act.put, List.getElem_toArray, List.getElem_cons_zero, List.getElem_cons_succ, List.setIfInBounds_toArray, List.set_cons_zero, List.set_cons_succ])
      (refine wpAny_take (i := 2) (v := ?_) rfl (by kernel_rfl) (by kernel_rfl) (by kernel_rfl) (fun _ _ _ h => h) (Or.inl ⟨by rfl, ?_⟩) ?_; rotate_left; (intro w; go_simp); (try with_reducible rfl); try simp only [Act.put, List.getElem_toArray, List.getElem_cons_zero, List.getElem_cons_succ, List.setIfInBounds_toArray, List.set_cons_zero, List.set_cons_succ])
      (refine wpAny_take (i := 3) (v := ?_) rfl (by kernel_rfl) (by kernel_rfl) (by kernel_rfl) (fun _ _ _ h => h) (Or.inl ⟨by rfl, ?_⟩) ?_; rotate_left; (intro w; go_simp); (try with_reducible rfl); try simp only [Act.put, List.getElem_toArray, List.getElem_cons_zero, List.getElem_cons_succ, List.setIfInBounds_toArray, List.set_cons_zero, List.set_cons_succ])
      (refine wpAny_take (i := 4) (v := ?_) rfl (by kernel_rfl) (by kernel_rfl) (by kernel_rfl) (fun _ _ _ h => h) (Or.inl ⟨by rfl, ?_⟩) ?_; rotate_left; (intro w; go_simp); (try with_reducible rfl); try simp only [Act.put, List.getElem_toArray, List.getElem_cons_zero, List.getElem_cons_succ, List.setIfInBounds_toArray, List.set_cons_zero, List.set_cons_succ])
      refine wpAny_ready (rs := [5]) (by kernel_rfl) (by simp) ?_
      refine AllReady.cons rfl (fun K hK => ?_) AllReady.nil
      go_simp
      try (refine hK _ _ ?_; clear hK K)
      try simp only [Act.put, List.getElem_toArray, List.getElem_cons_zero, List.getElem_cons_succ, List.setIfInBounds_toArray, List.set_cons_zero, List.set_cons_succ]
      (refine wpAny_take (i := 6) (v := ?_) rfl (by kernel_rfl) (by kernel_rfl) (by kernel_rfl) (fun _ _ _ h => h) (Or.inl ⟨by rfl, ?_⟩) ?_; rotate_left; (intro w; go_simp); (try with_reducible rfl); try simp only [Act.put, List.getElem_toArray, List.getElem_cons_zero, List.getElem_cons_succ, List.setIfInBounds_toArray, List.set_cons_zero, List.set_cons_succ])
      (refine wpAny_take (i := 7) (v := ?_) rfl (by kernel_rfl) (by kernel_rfl) (by kernel_rfl) (fun _ _ _ h => h) (Or.inl ⟨by rfl, ?_⟩) ?_; rotate_left; (intro w; go_simp); (try with_reducible rfl); try simp only [Act.put, List.getElem_toArray, List.getElem_cons_zero, List.getElem_cons_succ, List.setIfInBounds_toArray, List.set_cons_zero, List.set_cons_succ])
      (refine wpAny_take (i := 8) (v := ?_) rfl (by kernel_rfl) (by kernel_rfl) (by kernel_rfl) (fun _ _ _ h => h) (Or.inl ⟨by rfl, ?_⟩) ?_; rotate_left; (intro w; go_simp); (try with_reducible rfl); try simp only [Act.put, List.getElem_toArray, List.getElem_cons_zero, List.getElem_cons_succ, List.setIfInBounds_toArray, List.set_cons_zero, List.set_cons_succ])
      (refine wpAny_take (i := 9) (v := ?_) rfl (by kernel_rfl) (by kernel_rfl) (by kernel_rfl) (fun _ _ _ h => h) (Or.inl ⟨by rfl, ?_⟩) ?_; rotate_left; (intro w; go_simp); (try with_reducible rfl); try simp only [Act.put, List.getElem_toArray, List.getElem_cons_zero, List.getElem_cons_succ, List.setIfInBounds_toArray, List.set_cons_zero, List.set_cons_succ])
      (refine wpAny_take (i := 10) (v := ?_) rfl (by kernel_rfl) (by kernel_rfl) (by kernel_rfl) (fun _ _ _ h => h) (Or.inl ⟨by rfl, ?_⟩) ?_; rotate_left; (intro w; go_simp); (try with_reducible rfl); try simp only [Act.put, List.getElem_toArray, List.getElem_cons_zero, List.getElem_cons_succ, List.setIfInBounds_toArray, List.set_cons_zero, List.set_cons_succ])
      refine wpAny_ready (rs := [11]) (by kernel_rfl) (by simp) ?_
      refine AllReady.cons rfl (fun K hK => ?_) AllReady.nil
      go_simp
      go_wp2_with (go_at_call 11; go_fit (H2.out w4 B4.out); rintro e w5 ⟨rfl, q5⟩; have B5 := hide (B4.out.trans (q5.mono B4.out.size)); have hc5 := HT'.out w5 (B1.out.trans (B5.out.mono B1.out.size)); clear q5)
      try (refine hK _ _ ?_; clear hK K)
      try simp only [Act.put, List.getElem_toArray, List.getElem_cons_zero, List.getElem_cons_succ, List.setIfInBounds_toArray, List.set_cons_zero, List.set_cons_succ]
      (refine wpAny_take (i := 12) (v := ?_) rfl (by kernel_rfl) (by kernel_rfl) (by kernel_rfl) (fun _ _ _ h => h) (Or.inl ⟨by rfl, ?_⟩) ?_; rotate_left; (intro w; go_simp); (try with_reducible rfl); try simp only [Act.put, List.getElem_toArray, List.getElem_cons_zero, List.getElem_cons_succ, List.setIfInBounds_toArray, List.set_cons_zero, List.set_cons_succ])
      (refine wpAny_take (i := 13) (v := ?_) rfl (by kernel_rfl) (by kernel_rfl) (by kernel_rfl) (fun _ _ _ h => h) (Or.inl ⟨by rfl, ?_⟩) ?_; rotate_left; (intro w; go_simp); (try with_reducible rfl); try simp only [Act.put, List.getElem_toArray, List.getElem_cons_zero, List.getElem_cons_succ, List.setIfInBounds_toArray, List.set_cons_zero, List.set_cons_succ])
      (refine wpAny_take (i := 14) (v := ?_) rfl (by kernel_rfl) (by kernel_rfl) (by kernel_rfl) (fun _ _ _ h => h) (Or.inl ⟨by rfl, ?_⟩) ?_; rotate_left; (intro w; go_simp); (try with_reducible rfl); try simp only [Act.put, List.getElem_toArray, List.getElem_cons_zero, List.getElem_cons_succ, List.setIfInBounds_toArray, List.set_cons_zero, List.set_cons_succ])
      (refine wpAny_take (i := 17) (v := ?_) rfl (by kernel_rfl) (by kernel_rfl) (by kernel_rfl) (fun _ _ _ h => h) (Or.inl ⟨by rfl, ?_⟩) ?_; rotate_left; (intro w; go_simp); (try with_reducible rfl); try simp only [Act.put, List.getElem_toArray, List.getElem_cons_zero, List.getElem_cons_succ, List.setIfInBounds_toArray, List.set_cons_zero, List.set_cons_succ])
      refine wpAny_ready (rs := [15, 18]) (by kernel_rfl) (by simp) ?_
      refine AllReady.cons rfl (fun K hK => ?_) (AllReady.cons rfl (fun K hK => ?_) AllReady.nil)
      · go_simp
        go_wp2_with (go_at_call 13; go_fit (H4.out w5 B5.out); rintro e w6 ⟨o6, c6, rfl, k6⟩; have B6 := hide (B5.out.trans (k6.2.mono B5.out.size)); have hc7 := HT'.out w6 (B1.out.trans (B6.out.mono B1.out.size)); have hc6 := HC'.out _ _ _ _ k6.1; clear k6)
        try (refine hK _ _ ?_; clear hK K)
        try simp only [Act.put, List.getElem_toArray, List.getElem_cons_zero, List.getElem_cons_succ, List.setIfInBounds_toArray, List.set_cons_zero, List.set_cons_succ]
        refine wpAny_ready (rs := [16, 18]) (by kernel_rfl) (by simp) ?_
        refine AllReady.cons rfl (fun K hK => ?_) (AllReady.cons rfl (fun K hK => ?_) AllReady.nil)
        · go_simp
          try (refine hK _ _ ?_; clear hK K)
          try simp only [Act.put, List.getElem_toArray, List.getElem_cons_zero, List.getElem_cons_succ, List.setIfInBounds_toArray, List.set_cons_zero, List.set_cons_succ]
          refine wpAny_ready (rs := [18]) (by kernel_rfl) (by simp) ?_
          refine AllReady.cons rfl (fun K hK => ?_) AllReady.nil
          go_simp
          try (refine hK _ _ ?_; clear hK K)
          try simp only [Act.put, List.getElem_toArray, List.getElem_cons_zero, List.getElem_cons_succ, List.setIfInBounds_toArray, List.set_cons_zero, List.set_cons_succ]
          (refine wpAny_take (i := 19) (v := ?_) rfl (by kernel_rfl) (by kernel_rfl) (by kernel_rfl) (fun _ _ _ h => h) (Or.inl ⟨by rfl, ?_⟩) ?_; rotate_left; (intro w; go_simp); (try with_reducible rfl); try simp only [Act.put, List.getElem_toArray, List.getElem_cons_zero, List.getElem_cons_succ, List.setIfInBounds_toArray, List.set_cons_zero, List.set_cons_succ])
          (refine wpAny_take (i := 20) (v := ?_) rfl (by kernel_rfl) (by kernel_rfl) (by kernel_rfl) (fun _ _ _ h => h) (Or.inl ⟨by rfl, ?_⟩) ?_; rotate_left; (intro w; go_simp); (try with_reducible rfl); try simp only [Act.put, List.getElem_toArray, List.getElem_cons_zero, List.getElem_cons_succ, List.setIfInBounds_toArray, List.set_cons_zero, List.set_cons_succ])
          (refine wpAny_take (i := 21) (v := ?_) rfl (by kernel_rfl) (by kernel_rfl) (by kernel_rfl) (fun _ _ _ h => h) (Or.inl ⟨by rfl, ?_⟩) ?_; rotate_left; (intro w; go_simp); (try with_reducible rfl); try simp only [Act.put, List.getElem_toArray, List.getElem_cons_zero, List.getElem_cons_succ, List.setIfInBounds_toArray, List.set_cons_zero, List.set_cons_succ])
          refine wpAny_done (by kernel_rfl) ?_ _
          go_wp2_with fail
          go_ret
          exact ⟨rfl, HBW.out.trans ((B1.out.trans (B6.out.mono B1.out.size)).mono HBW.out.size)⟩
        · go_simp
          try (refine hK _ _ ?_; clear hK K)
          try simp only [Act.put, List.getElem_toArray, List.getElem_cons_zero, List.getElem_cons_succ, List.setIfInBounds_toArray, List.set_cons_zero, List.set_cons_succ]
          refine wpAny_ready (rs := [16]) (by kernel_rfl) (by simp) ?_
          refine AllReady.cons rfl (fun K hK => ?_) AllReady.nil
          go_simp
          try (refine hK _ _ ?_; clear hK K)
          try simp only [Act.put, List.getElem_toArray, List.getElem_cons_zero, List.getElem_cons_succ, List.setIfInBounds_toArray, List.set_cons_zero, List.set_cons_succ]
          (refine wpAny_take (i := 19) (v := ?_) rfl (by kernel_rfl) (by kernel_rfl) (by kernel_rfl) (fun _ _ _ h => h) (Or.inl ⟨by rfl, ?_⟩) ?_; rotate_left; (intro w; go_simp); (try with_reducible rfl); try simp only [Act.put, List.getElem_toArray, List.getElem_cons_zero, List.getElem_cons_succ, List.setIfInBounds_toArray, List.set_cons_zero, List.set_cons_succ])
          (refine wpAny_take (i := 20) (v := ?_) rfl (by kernel_rfl) (by kernel_rfl) (by kernel_rfl) (fun _ _ _ h => h) (Or.inl ⟨by rfl, ?_⟩) ?_; rotate_left; (intro w; go_simp); (try with_reducible rfl); try simp only [Act.put, List.getElem_toArray, List.getElem_cons_zero, List.getElem_cons_succ, List.setIfInBounds_toArray, List.set_cons_zero, List.set_cons_succ])
          (refine wpAny_take (i := 21) (v := ?_) rfl (by kernel_rfl) (by kernel_rfl) (by kernel_rfl) (fun _ _ _ h => h) (Or.inl ⟨by rfl, ?_⟩) ?_; rotate_left; (intro w; go_simp); (try with_reducible rfl); try simp only [Act.put, List.getElem_toArray, List.getElem_cons_zero, List.getElem_cons_succ, List.setIfInBounds_toArray, List.set_cons_zero, List.set_cons_succ])
          refine wpAny_done (by kernel_rfl) ?_ _
          go_wp2_with fail
          go_ret
          exact ⟨rfl, HBW.out.trans ((B1.out.trans (B6.out.mono B1.out.size)).mono HBW.out.size)⟩
      · go_simp
        try (refine hK _ _ ?_; clear hK K)
        try simp only [Act.put, List.getElem_toArray, List.getElem_cons_zero, List.getElem_cons_succ, List.setIfInBounds_toArray, List.set_cons_zero, List.set_cons_succ]
        refine wpAny_ready (rs := [15]) (by kernel_rfl) (by simp) ?_
        refine AllReady.cons rfl (fun K hK => ?_) AllReady.nil
        go_simp
        go_wp2_with (go_at_call 13; go_fit (H4.out w5 B5.out); rintro e w6 ⟨o6, c6, rfl, k6⟩; have B6 := hide (B5.out.trans (k6.2.mono B5.out.size)); have hc7 := HT'.out w6 (B1.out.trans (B6.out.mono B1.out.size)); have hc6 := HC'.out _ _ _ _ k6.1; clear k6)
        try (refine hK _ _ ?_; clear hK K)
        try simp only [Act.put, List.getElem_toArray, List.getElem_cons_zero, List.getElem_cons_succ, List.setIfInBounds_toArray, List.set_cons_zero, List.set_cons_succ]
        refine wpAny_ready (rs := [16]) (by kernel_rfl) (by simp) ?_
        refine AllReady.cons rfl (fun K hK => ?_) AllReady.nil
        go_simp
        try (refine hK _ _ ?_; clear hK K)
        try simp only [Act.put, List.getElem_toArray, List.getElem_cons_zero, List.getElem_cons_succ, List.setIfInBounds_toArray, List.set_cons_zero, List.set_cons_succ]
        (refine wpAny_take (i := 19) (v := ?_) rfl (by kernel_rfl) (by kernel_rfl) (by kernel_rfl) (fun _ _ _ h => h) (Or.inl ⟨by rfl, ?_⟩) ?_; rotate_left; (intro w; go_simp); (try with_reducible rfl); try simp only [Act.put, List.getElem_toArray, List.getElem_cons_zero, List.getElem_cons_succ, List.setIfInBounds_toArray, List.set_cons_zero, List.set_cons_succ])
        (refine wpAny_take (i := 20) (v := ?_) rfl (by kernel_rfl) (by kernel_rfl) (by kernel_rfl) (fun _ _ _ h => h) (Or.inl ⟨by rfl, ?_⟩) ?_; rotate_left; (intro w; go_simp); (try with_reducible rfl); try simp only [Act.put, List.getElem_toArray, List.getElem_cons_zero, List.getElem_cons_succ, List.setIfInBounds_toArray, List.set_cons_zero, List.set_cons_succ])
        (refine wpAny_take (i := 21) (v := ?_) rfl (by kernel_rfl) (by kernel_rfl) (by kernel_rfl) (fun _ _ _ h => h) (Or.inl ⟨by rfl, ?_⟩) ?_; rotate_left; (intro w; go_simp); (try with_reducible rfl); try simp only [Act.put, List.getElem_toArray, List.getElem_cons_zero, List.getElem_cons_succ, List.setIfInBounds_toArray, List.set_cons_zero, List.set_cons_succ])
        refine wpAny_done (by kernel_rfl) ?_ _
        go_wp2_with fail
        go_ret
        exact ⟨rfl, HBW.out.trans ((B1.out.trans (B6.out.mono B1.out.size)).mono HBW.out.size)⟩
end Go.Proofs.Ytofcpnehnpopaaa
