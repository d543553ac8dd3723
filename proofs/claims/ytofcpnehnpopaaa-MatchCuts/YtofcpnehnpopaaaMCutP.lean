/- The program's Cut: contract. -/
import Derived.Test.YtofcpnehnpopaaaMCutM
import Derived.Laws.CopyOwn
namespace Go.Proofs.Ytofcpnehnpopaaa
set_option maxRecDepth 100000
open Go Go.RowKit

theorem run_copy_row3 (P : Program) (w : World) (dT sT ty elem : TypeId) (g o dLen dCap : Nat) (a : Addr) (sLen sCap : Nat) (cur : Array Value) (t : TypeId) (cs : List Value)
    (hu : P.underlying dT = some (.slice elem)) (hs : (P.info? elem).map (·.size) = some 3)
    (hg : w.heap[g]? = some (.cells cur t (0, 0))) (hn : cs.length = Nat.min sLen dLen * 3)
    (hsrc : ∀ j v, cs[j]? = some v → w.cell? (a.add j) = some v) (hfit : o + cs.length ≤ cur.size) (h1 : ∀ v ∈ cs, v.oneCell' = true) :
    (Builtin.copy_ #[dT, sT] ty #[.slice (some ⟨g, o, none⟩) dLen dCap, .slice (some a) sLen sCap]).run P w =
      .ok (goInt (Nat.min sLen dLen)) (w.setRow g (cur.toList.take o ++ cs ++ cur.toList.drop (o + cs.length)).toArray) := by
  have hl := run_loadCells_list (P := P) w a cs hsrc
  have hst := run_storeCells_at P g o t cs 0 cur w hg (by simpa using hfit) h1
  cases hq : P.info? elem with
  | none => simp [hq] at hs
  | some i =>
    have hi : i.size = 3 := by simpa [hq] using hs
    simp [Builtin.copy_, run_underlying hu, Builtin.lenOf, Builtin.firstCells, sizeOf, typeInfo, hq, hi, ← hn, hl, hst]
theorem setRow_new (w : World) (c d : Array Value) (t : TypeId) : (w.alloc (.cells c t)).setRow w.heap.size d = w.alloc (.cells d t) := by
  simp only [World.setRow, World.alloc]
  congr 1
  apply Array.ext_getElem?
  intro i
  rw [Array.getElem?_modify, Array.getElem?_push, Array.getElem?_push]
  by_cases h1 : i = w.heap.size
  · subst h1; simp
  · have : ¬ w.heap.size = i := fun e => h1 e.symm
    simp [h1, this]
/-- A row, copied whole into a new block. -/
theorem copy_toks (ty : TypeId) (n sLen sCap : Nat) (ad : Addr) (w : World) (row : List Tk) (hr : row.length = n) (hn : n ≤ sLen)
    (hsrc : ∀ j u, (tc row)[j]? = some u → (w.alloc (.cells (tc (List.replicate n (0, 0, 0))).toArray 32)).cell? (ad.add j) = some u) :
    (Builtin.copy_ #[22, 22] ty #[.slice (some ⟨w.heap.size, 0, none⟩) n n, .slice (some ad) sLen sCap]).run Try.prog (w.alloc (.cells (tc (List.replicate n (0, 0, 0))).toArray 32)) = .ok (.int .i64 (n : Int)) (w.alloc (.cells (tc row).toArray 32)) := by
  have hsz : (Try.prog.info? 32).map (·.size) = some 3 := by
    obtain ⟨i0, hi0, _, hz1, _⟩ := info_parts Try.infoTok
    rw [hi0]; simp [hz1]
  have hmin : Nat.min sLen n = n := Nat.min_eq_right hn
  have := run_copy_row3 Try.prog (w.alloc (.cells (tc (List.replicate n (0, 0, 0))).toArray 32)) 22 22 ty 32 w.heap.size 0 n n ad sLen sCap _ 32 (tc row) Try.underlying22 hsz (heap_new w _) (by rw [tc_length, hr, hmin]) hsrc (by simp [tc_length, hr]) (tc_one row)
  rw [this, hmin, setRow_new]
  have e : ((tc (List.replicate n ((0 : Int), (0 : Int), (0 : Int)))).toArray.toList.take 0 ++ tc row ++ (tc (List.replicate n ((0 : Int), (0 : Int), (0 : Int)))).toArray.toList.drop (0 + (tc row).length)).toArray = (tc row).toArray := by
    rw [List.drop_eq_nil_of_le (by simp [tc_length, hr])]
    simp
  rw [e]
  rfl
theorem Toks.part {w : World} {b off : Nat} {xs : List Tk} (h : Toks w (some ⟨b, off, none⟩) xs) (i n : Nat) (hi : i + n ≤ xs.length) : Toks w (some ⟨b, off + i * 3, none⟩) ((xs.drop i).take n) := by
  rcases h with h | ⟨b', off', h1, ha, hc⟩
  · left; simp; omega
  · simp at ha
    obtain ⟨rfl, rfl⟩ := ha
    refine .inr ⟨b, off + i * 3, h1, rfl, fun j hj => ?_⟩
    have hj' : j < n := by simp at hj; omega
    have e : tk ((xs.drop i).take n) j = tk xs (i + j) := by simp [tk, List.getD, hj']
    rw [e, show off + i * 3 + j * 3 = off + (i + j) * 3 by omega]
    exact hc (i + j) (by omega)

/-- How long Cut's rows are. -/
def rowLen (many : Int) (n : Nat) : Nat := if many < 1 then n else min many.toNat n
def CutOk (xs : List Tk) (k : Nat) (w : World) (e : Ending) (w' : World) : Prop := ∃ v vs, e = .returned v ∧ RowsT w.heap.size w' v (cutR k xs) vs ∧ Below w.heap.size w w'

set_option maxHeartbeats 8000000 in
theorem rows_c (a : Option Addr) (cap : Nat) (xs : List Tk) (many : Int) (w : World) (h : Toks w a xs) (hcp : xs.length ≤ cap) (hl : xs.length ≤ 1000000) :
    Calls Try.prog 27 #[.slice a xs.length cap, .int .i64 many] w (CutOk xs (rowLen many xs.length) w) := by
  obtain ⟨K', hK'⟩ : ∃ K' : Int, (if many < 1 then (xs.length : Int) else many) = K' := ⟨_, rfl⟩
  by_cases h0 : xs.length = 0
  case pos =>
    have hx : xs = [] := List.eq_nil_of_length_eq_zero h0
    subst hx
    have HE : Hid (CutOk [] (rowLen many 0) w (.returned (.slice none 0 0)) w) := ⟨_, [], rfl, RowsT.nil _ _, Below.refl _ _⟩
    clear h
    by_cases hm : many < 1
    · go_enter Try.func27, Try.ntmps27
      go_wp2_with fail
      go_loopg [0, 5, 6] 0 (fun gk v0 v5 v6 wx => v0 = .slice a 0 cap ∧ v5 = .slice none 0 0 ∧ wx = w)
      case atStart => exact ⟨rfl, rfl, rfl⟩
      case round =>
        obtain ⟨rfl, rfl, rfl⟩ := hrel
        go_wp2_with fail
        go_ret
        exact HE.out
    · go_enter Try.func27, Try.ntmps27
      go_wp2_with fail
      go_loopg [0, 5, 6] 0 (fun gk v0 v5 v6 wx => v0 = .slice a 0 cap ∧ v5 = .slice none 0 0 ∧ wx = w)
      case atStart => exact ⟨rfl, rfl, rfl⟩
      case round =>
        obtain ⟨rfl, rfl, rfl⟩ := hrel
        go_wp2_with fail
        go_ret
        exact HE.out
  obtain ⟨b, off, hbl, rfl, hcells⟩ := h.resolve_left h0
  have HT : Hid (Toks w (some ⟨b, off, none⟩) xs) := .inr ⟨b, off, hbl, rfl, hcells⟩
  clear h hcells
  obtain ⟨k, hk⟩ : ∃ k, rowLen many xs.length = k := ⟨_, rfl⟩
  have hk1 : 1 ≤ k := by rw [← hk]; unfold rowLen; split <;> omega
  have hkl : k ≤ xs.length := by rw [← hk]; unfold rowLen; split <;> omega
  have hmin : ∀ L : Nat, L ≤ xs.length → (if (L : Int) < K' then (L : Int) else K') = ((min k L : Nat) : Int) := fun L hL => by
    rw [← hK', ← hk]
    unfold rowLen
    split <;> split <;> omega
  have HMIN := hide hmin
  rw [hk]
  clear hk hmin
  obtain ⟨i1, hi1, hy0, hy1', hy2'⟩ := info_parts Try.infoToks
  have HS0 : Hid ([] ++ cutR k (xs.drop 0) = cutR k xs) := hide (by simp)
  have HENT : Hid (∀ (K : Int), (if many < 1 then (xs.length : Int) else many) = K → K = K') := fun K hK => by rw [← hK, ← hK']
  by_cases hm : many < 1
  all_goals
    (first
      | (rw [if_pos hm] at hK')
      | (rw [if_neg hm] at hK'))
    subst hK'
    clear HENT
    go_enter Try.func27, Try.ntmps27
    go_wp2_with fail
    go_loopg [0, 5, 6] xs.length (fun gk v0 v5 v6 wx => ∃ (i o : Nat) (R : List (List Tk)) (vs : List Value) (a5 : Option Addr) (c5 : Nat), i + gk = xs.length ∧ v0 = .slice (some ⟨b, o, none⟩) (xs.length - i) (cap - i) ∧ v5 = .slice a5 R.length c5 ∧ R.length ≤ i ∧ Hid ((i < xs.length → o = off + i * 3) ∧ RowsT w.heap.size wx (.slice a5 R.length c5) R vs ∧ R ++ cutR k (xs.drop i) = cutR k xs ∧ Below w.heap.size w wx))
    case atStart => exact ⟨0, off, [], [], none, 0, by omega, rfl, rfl, by simp, fun _ => by omega, RowsT.nil _ _, HS0.out, Below.refl _ _⟩
    case round =>
      clear HS0
      obtain ⟨i, o, R, vs, a5, c5, hig, rfl, rfl, hRi, HS⟩ := hrel
      obtain ⟨L, hL⟩ : ∃ L, xs.length - i = L := ⟨_, rfl⟩
      obtain ⟨C, hC⟩ : ∃ C, cap - i = C := ⟨_, rfl⟩
      have hLC : L ≤ C := by omega
      have hCi : C + i = cap := by omega
      have hLi : L + i = xs.length := by omega
      rw [hL, hC]
      cases gk with
      | zero =>
        have hL0 : L = 0 := by omega
        subst hL0
        have HE : Hid (cutR k xs = R) := by
          have := HS.out.2.2.1
          rw [List.drop_eq_nil_of_le (by omega), cutR_nil, List.append_nil] at this
          exact this.symm
        clear hLi hL hC
        go_wp2_with fail
        go_ret
        exact ⟨_, vs, rfl, by rw [HE.out]; exact HS.out.2.1, HS.out.2.2.2⟩
      | succ g1 =>
        have hLp : (0 : Int) < (L : Int) := by omega
        obtain ⟨n, hn⟩ : ∃ n, min k L = n := ⟨_, rfl⟩
        have hmn := HMIN.out L (by omega)
        rw [hn] at hmn
        have hmn2 := hmn
        try simp only [Int.ofNat_lt] at hmn2
        have hn1 : 1 ≤ n := by omega
        have hnL : n ≤ L := by omega
        have hmk := made_toks n (by omega)
        obtain rfl : o = off + i * 3 := HS.out.1 (by omega)
        obtain ⟨row, hrow⟩ : ∃ row, (xs.drop i).take n = row := ⟨_, rfl⟩
        have hrl : row.length = n := by rw [← hrow]; simp; omega
        have hbz : Below w.heap.size w (wr.alloc (.cells (tc (List.replicate n (0, 0, 0))).toArray 32)) := HS.out.2.2.2.alloc HS.out.2.2.2.size _
        have hpart := (HT.out.stay hbz).part i n (by omega)
        rw [hrow] at hpart
        have hrun := copy_toks 3 n L C ⟨b, off + i * 3, none⟩ wr row hrl hnL (hpart.src rfl)
        have HCUT : Hid (R ++ [row] ++ cutR k (xs.drop (i + n)) = cutR k xs) := by
          have := HS.out.2.2.1
          rw [cutR_cons hk1 (by intro e; have := congrArg List.length e; simp at this; omega), List.drop_drop] at this
          rw [← this, List.append_assoc, ← hrow]
          congr 1
          have e1 : (xs.drop i).take k = (xs.drop i).take n := by
            by_cases c : k ≤ L
            · rw [show n = k by omega]
            · rw [List.take_of_length_le (by simp; omega), List.take_of_length_le (by simp; omega)]
          have e2 : xs.drop (i + k) = xs.drop (i + n) := by
            by_cases c : k ≤ L
            · rw [show n = k by omega]
            · rw [List.drop_eq_nil_of_le (by omega), List.drop_eq_nil_of_le (by omega)]
          rw [e1, e2]; rfl
        have HTR : Hid (TRo wr.heap.size row (wr.alloc (.cells (tc row).toArray 32))) := heap_new wr _
        have HRT := hide HS.out.2.1
        have HBW := hide HS.out.2.2.2
        have hsz := HBW.out.size
        have HOW : Hid (OwnsT (wr.alloc (.cells (tc row).toArray 32)) w.heap.size (.slice (some ⟨wr.heap.size, 0, none⟩) n n) row) := by
          have := HTR.out.owns hsz (by omega)
          rw [hrl] at this
          exact this
        have hbw : b < wr.heap.size := by omega
        clear HS hpart hbz hrow hn HTR hL hC
        have HFIN : Hid (∀ v4 w4, w4.ownsRow w.heap.size 22 1 v4 (R.length + 1) (vs ++ [.slice (some ⟨wr.heap.size, 0, none⟩) n n]) → World.grownBy ((wr.alloc (.cells (tc row).toArray 32)).alloc (.cells #[.slice (some ⟨wr.heap.size, 0, none⟩) n n] 22)) w4 (Value.slice a5 R.length c5).ownBlock → RowsT w.heap.size w4 v4 (R ++ [row]) (vs ++ [.slice (some ⟨wr.heap.size, 0, none⟩) n n]) ∧ Below w.heap.size w w4) := fun v4 w4 q1 q2 => by
          have bb : Below wr.heap.size wr (wr.alloc (.cells (tc row).toArray 32)) := (Below.refl _ wr).alloc (Nat.le_refl _) _
          have bc : Below (wr.alloc (.cells (tc row).toArray 32)).heap.size (wr.alloc (.cells (tc row).toArray 32)) ((wr.alloc (.cells (tc row).toArray 32)).alloc (.cells #[.slice (some ⟨wr.heap.size, 0, none⟩) n n] 22)) := (Below.refl _ _).alloc (Nat.le_refl _) _
          refine ⟨((HRT.out.stay bb).stay bc).push (HOW.out.stay bc) q1 q2, ?_⟩
          exact ((HBW.out.alloc hsz _).alloc (by simp; omega) _).grown q2 (by simp; omega) (fun g e => (ownsRow_lt HRT.out.own e).1)
        have HOWN : Hid (((wr.alloc (.cells (tc row).toArray 32)).alloc (.cells #[.slice (some ⟨wr.heap.size, 0, none⟩) n n] 22)).ownsRow w.heap.size 22 1 (.slice a5 R.length c5) R.length vs) := World.ownsRow.alloc (World.ownsRow.alloc HRT.out.own _) _
        generalize hZ0 : (tc (List.replicate n ((0 : Int), (0 : Int), (0 : Int)))).toArray = Z0 at hmk hrun
        generalize hZ1 : (tc row).toArray = Z1 at hrun HFIN HOWN
        clear hZ0 hZ1
        by_cases hCn : C = n
        · have hCn2 : n = C := hCn.symm
          have HCN := hide hCn2
          clear hCn2
          subst hCn
          go_wp2_with (at_builtin; refine wpList_append_own _ rfl _ _ 36 rfl w.heap.size 22 i1 (.slice none 0 0) 1 24 Try.underlying36 hi1 hy0 hy1' hy2' rfl (by decide) _ R.length vs rfl HOWN.out ⟨_, 0, none⟩ 1 1 [.slice (some ⟨wr.heap.size, 0, none⟩) C C] rfl rfl (one_row _ _ _ (by simp)) (by intro u hu; simp at hu; subst hu; rfl) (by unfold maxLen; omega) (by omega) (by simp; omega) ?_; intro v4 w4 q1 q2 _; obtain ⟨a7, c7, rfl⟩ := own_form1 q1; have HP := hide (HFIN.out _ _ q1 q2); clear q1 q2)
          go_roundg (xs.length - (i + C))
          case measure => omega
          case rel => exact ⟨i + C, _, R ++ [row], _, a7, c7, by omega, by rw [show xs.length - (i + C) = 0 by omega, show cap - (i + C) = 0 by omega], by simp, by simp; omega, fun h => by omega, by rw [List.length_append, List.length_singleton]; exact HP.out.1, HCUT.out, HP.out.2⟩
        · have hCn' : ¬ n = C := fun e => hCn e.symm
          go_wp2_with (at_builtin; refine wpList_append_own _ rfl _ _ 36 rfl w.heap.size 22 i1 (.slice none 0 0) 1 24 Try.underlying36 hi1 hy0 hy1' hy2' rfl (by decide) _ R.length vs rfl HOWN.out ⟨_, 0, none⟩ 1 1 [.slice (some ⟨wr.heap.size, 0, none⟩) n n] rfl rfl (one_row _ _ _ (by simp)) (by intro u hu; simp at hu; subst hu; rfl) (by unfold maxLen; omega) (by omega) (by simp; omega) ?_; intro v4 w4 q1 q2 _; obtain ⟨a7, c7, rfl⟩ := own_form1 q1; have HP := hide (HFIN.out _ _ q1 q2); clear q1 q2)
          go_roundg (xs.length - (i + n))
          case measure => omega
          case rel => exact ⟨i + n, _, R ++ [row], _, a7, c7, by omega, by rw [show xs.length - (i + n) = L - n by omega, show cap - (i + n) = C - n by omega], by simp, by simp; omega, fun h => by omega, by rw [List.length_append, List.length_singleton]; exact HP.out.1, HCUT.out, HP.out.2⟩
set_option maxHeartbeats 1000000 in
theorem cut_c (a : Option Addr) (cap : Nat) (xs : List Tk) (many : Int) (w : World) (h : Toks w a xs) (hcp : xs.length ≤ cap) (hl : xs.length ≤ 1000000) :
    Calls Try.prog 17 #[.slice a xs.length cap, .int .i64 many] w (CutOk xs (rowLen many xs.length) w) := by
  have HR := hide (rows_c a cap xs many w h hcp hl)
  clear h
  go_enter Try.func17, Try.ntmps17
  go_wp2_with (go_at_call 27; refine HR.out.mono ?_; rintro e w1 ⟨v, vs, rfl, k1, k2⟩; have K1 := hide k1; have K2 := hide k2; clear k1 k2)
  go_ret
  exact ⟨v, vs, rfl, K1.out, K2.out⟩
theorem cutR_bd {k : Nat} (hk : 1 ≤ k) : ∀ (n : Nat) (xs : List Tk), xs.length ≤ n → (cutR k xs).length ≤ xs.length ∧ ∀ r ∈ cutR k xs, r.length ≤ xs.length := by
  intro n
  induction n with
  | zero => intro xs h; have : xs = [] := List.eq_nil_of_length_eq_zero (by omega); subst this; rw [cutR_nil]; simp
  | succ n ih =>
    intro xs h
    by_cases h0 : xs = []
    · subst h0; rw [cutR_nil]; simp
    · have hp := List.length_pos_iff.2 h0
      obtain ⟨i1, i2⟩ := ih (xs.drop k) (by rw [List.length_drop]; omega)
      rw [List.length_drop] at i1 i2
      rw [cutR_cons hk h0]
      refine ⟨by rw [List.length_cons]; omega, fun r hr => ?_⟩
      rcases List.mem_cons.1 hr with rfl | hr
      · rw [List.length_take]; omega
      · have := i2 r hr; omega
theorem cut_bd (many : Int) (xs : List Tk) : (cutR (rowLen many xs.length) xs).length ≤ xs.length ∧ ∀ i, (rw_ (cutR (rowLen many xs.length) xs) i).length ≤ xs.length := by
  by_cases h0 : xs = []
  · subst h0
    rw [cutR_nil]
    simp [rw_]
  · have hp := List.length_pos_iff.2 h0
    have hk : 1 ≤ rowLen many xs.length := by unfold rowLen; split <;> omega
    obtain ⟨h1, h2⟩ := cutR_bd hk xs.length xs (Nat.le_refl _)
    refine ⟨h1, fun i => ?_⟩
    unfold rw_ List.getD
    cases e : (cutR (rowLen many xs.length) xs)[i]? with
    | none => simp
    | some r => exact h2 r (List.mem_of_getElem? e)
theorem cut_flat (many : Int) (xs : List Tk) : (cutR (rowLen many xs.length) xs).flatten = xs := by
  by_cases h0 : xs = []
  · subst h0; rfl
  · have hp := List.length_pos_iff.2 h0
    exact cutR_flat (by unfold rowLen; split <;> omega) xs.length xs (Nat.le_refl _)
end Go.Proofs.Ytofcpnehnpopaaa
