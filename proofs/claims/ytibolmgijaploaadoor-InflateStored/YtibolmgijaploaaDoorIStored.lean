/- Stored blocks, and what stands behind them. No Go text in sight. -/
import Derived.Test.YtibolmgijaploaaDoorILaws
namespace Go.Proofs.YtibolmgijaploaaDoor
set_option maxRecDepth 100000

theorem iNum_add (b : Nat → Nat) (p m n : Nat) : iNum b p (m + n) = iNum b p m + 2 ^ m * iNum b (p + m) n := by
  induction n with
  | zero => simp [iNum]
  | succ n ih =>
    rw [← Nat.add_assoc, iNum, ih, iNum, Nat.mul_add, Nat.pow_add, Nat.add_assoc p m n, Nat.add_assoc, Nat.mul_left_comm, Nat.mul_comm (b _) (2 ^ n)]
theorem ib_at (zs : List Int) (j r z : Nat) (hr : r < 8) (hz : zs.getD j 0 = (z : Int)) : ib zs (8 * j + r) = z / 2 ^ r % 2 := by
  unfold ib
  rw [show (8 * j + r) / 8 = j by omega, show (8 * j + r) % 8 = r by omega, hz]
  have e : (z : Int) / 2 ^ r % 2 = ((z / 2 ^ r % 2 : Nat) : Int) := by simp
  rw [e, Int.toNat_natCast]
theorem iNum_in (zs : List Int) (j z : Nat) (hz : zs.getD j 0 = (z : Int)) (r n : Nat) (h : r + n ≤ 8) : iNum (ib zs) (8 * j + r) n = z / 2 ^ r % 2 ^ n := by
  induction n with
  | zero => simp [iNum, Nat.mod_one]
  | succ n ih =>
    rw [iNum, ih (by omega), Nat.add_assoc, ib_at zs j (r + n) z (by omega) hz, Nat.mod_pow_succ, Nat.pow_add, Nat.div_div_eq_div_mul, Nat.mul_comm (2 ^ n)]
theorem iNum_byte (zs : List Int) (j z : Nat) (hz : zs.getD j 0 = (z : Int)) (h : z < 256) : iNum (ib zs) (8 * j) 8 = z := by
  have := iNum_in zs j z hz 0 8 (by omega)
  simp at this
  rw [this]; omega
theorem iNum_two (zs : List Int) (j y z : Nat) (hy : zs.getD j 0 = (y : Int)) (hz : zs.getD (j + 1) 0 = (z : Int)) (h : y < 256) (h' : z < 256) : iNum (ib zs) (8 * j) 16 = y + 256 * z := by
  have e := iNum_add (ib zs) (8 * j) 8 8
  rw [iNum_byte zs j y hy h, show 8 * j + 8 = 8 * (j + 1) by omega, iNum_byte zs (j + 1) z hz h'] at e
  exact e

/-- The five bytes ahead of a stored block's. -/
def iHead (l n : Nat) : List Int := [(l : Int), ((n % 256 : Nat) : Int), ((n / 256 : Nat) : Int), ((255 - n % 256 : Nat) : Int), ((255 - n / 256 : Nat) : Int)]
theorem iHead_length (l n : Nat) : (iHead l n).length = 5 := rfl
theorem getD_mid (A H B : List Int) (i : Nat) (hi : i < H.length) : (A ++ (H ++ B)).getD (A.length + i) 0 = H.getD i 0 := by
  simp [List.getD, List.getElem?_append_right, List.getElem?_append_left hi]
theorem iBytes_mid (A s B : List Int) (hs : ∀ x ∈ s, 0 ≤ x ∧ x ≤ 255) : iBytes (ib (A ++ (s ++ B))) (8 * A.length) s.length = s := by
  refine List.ext_getElem (by rw [iBytes_length]) fun i h1 h2 => ?_
  have hb := hs _ (List.getElem_mem h2)
  obtain ⟨z, hz⟩ := Int.eq_ofNat_of_zero_le hb.1
  have hg : (A ++ (s ++ B)).getD (A.length + i) 0 = (z : Int) := by rw [getD_mid A s B i h2, ← hz]; simp [List.getD, h2]
  simp only [iBytes, List.getElem_map, List.getElem_range]
  rw [show 8 * A.length + 8 * i = 8 * (A.length + i) by omega, iNum_byte _ _ z hg (by omega), hz]
/-- A stored block, read. -/
theorem iBlk_sto (A s B : List Int) (l : Nat) (hl : l ≤ 1) (hs : ∀ x ∈ s, 0 ≤ x ∧ x ≤ 255) (hn : s.length ≤ 65535) (most : Nat) (out : List Int) (hm : out.length + s.length ≤ most) (Z : List Int) (hZ : Z = A ++ (iHead l s.length ++ (s ++ B))) :
    iBlk (ib Z) (8 * Z.length) most (8 * A.length) out = .ok (8 * (A.length + 5 + s.length), (decide (l = 0), out ++ s)) := by
  have hlen : Z.length = A.length + (5 + (s.length + B.length)) := by subst hZ; simp only [List.length_append, iHead_length]
  have g : ∀ i, i < 5 → Z.getD (A.length + i) 0 = (iHead l s.length).getD i 0 := fun i hi => by subst hZ; exact getD_mid _ _ _ i hi
  have g0 := g 0 (by omega)
  have g1 := g 1 (by omega)
  have g2 := g 2 (by omega)
  have g3 := g 3 (by omega)
  have g4 := g 4 (by omega)
  replace g0 : Z.getD A.length 0 = ((l : Nat) : Int) := g0
  replace g1 : Z.getD (A.length + 1) 0 = ((s.length % 256 : Nat) : Int) := g1
  replace g2 : Z.getD (A.length + 2) 0 = ((s.length / 256 : Nat) : Int) := g2
  replace g3 : Z.getD (A.length + 3) 0 = ((255 - s.length % 256 : Nat) : Int) := g3
  replace g4 : Z.getD (A.length + 4) 0 = ((255 - s.length / 256 : Nat) : Int) := g4
  have t1 := iTk_ok (b := ib Z) (T := 8 * Z.length) (p := 8 * A.length) (n := 1) (by omega)
  have v1 := iNum_in Z A.length l g0 0 1 (by omega)
  simp at v1
  rw [v1, show l % 2 = l by omega] at t1
  have t2 := iTk_ok (b := ib Z) (T := 8 * Z.length) (p := 8 * A.length + 1) (n := 2) (by omega)
  have v2 := iNum_in Z A.length l g0 1 2 (by omega)
  rw [v2, show l / 2 ^ 1 % 2 ^ 2 = 0 by omega] at t2
  have t3 := iTk_ok (b := ib Z) (T := 8 * Z.length) (p := 8 * (A.length + 1)) (n := 16) (by omega)
  rw [iNum_two Z (A.length + 1) _ _ g1 g2 (by omega) (by omega), show s.length % 256 + 256 * (s.length / 256) = s.length by omega] at t3
  have t4 := iTk_ok (b := ib Z) (T := 8 * Z.length) (p := 8 * (A.length + 3)) (n := 16) (by omega)
  rw [iNum_two Z (A.length + 3) _ _ g3 g4 (by omega) (by omega)] at t4
  unfold iBlk
  rw [iThen_of_ok t1, iThen_of_ok t2]
  have hk : iKind (ib Z) (8 * Z.length) most 0 (8 * A.length + 1 + 2) out = .ok (8 * (A.length + 5 + s.length), out ++ s) := by
    unfold iKind iSto
    rw [if_pos rfl, show (8 * A.length + 1 + 2 + 7) / 8 * 8 = 8 * (A.length + 1) by omega, iThen_of_ok t3, show 8 * (A.length + 1) + 16 = 8 * (A.length + 3) by omega, iThen_of_ok t4, if_neg (by omega), if_neg (by omega), if_neg (by omega)]
    have hb := iBytes_mid (A ++ iHead l s.length) s B hs
    rw [List.append_assoc, ← hZ, List.length_append, iHead_length] at hb
    rw [show 8 * (A.length + 3) + 16 = 8 * (A.length + 5) by omega, hb]
    congr 2
    omega
  rw [iThen_of_ok hk]

/-- A stream behind a stored block that is not the last one. -/
theorem iAns_behind (s zs : List Int) (most : Nat) (hs : ∀ x ∈ s, 0 ≤ x ∧ x ≤ 255) (hn : s.length ≤ 65535) (h0 : (iAns zs most).2.2 = 0) :
    iAns (iHead 0 s.length ++ (s ++ zs)) (most + s.length) = (s ++ (iAns zs most).1, (iAns zs most).2.1 + 5 + s.length, 0) := by
  have hb := iBlk_sto [] s zs 0 (by omega) hs hn (most + s.length) [] (by simp) (iHead 0 s.length ++ (s ++ zs)) rfl
  have hlen : (iHead 0 s.length ++ (s ++ zs)).length = 5 + (s.length + zs.length) := by simp only [List.length_append, iHead_length]
  have hk : (iHead 0 s.length ++ s).length = 5 + s.length := by simp only [List.length_append, iHead_length]
  have h : iFar (fun _ => True) (8 * (5 + s.length)) (ib zs) (ib (iHead 0 s.length ++ (s ++ zs))) (8 * zs.length) (8 * (iHead 0 s.length ++ (s ++ zs)).length) := by
    refine ⟨fun i hi => ?_, by omega, .inr trivial, ib_le _, ib_le _, by omega⟩
    rw [← List.append_assoc, ← hk]
    exact ib_far zs _ i
  have hi := h.inf (s := s) (most := most) (most' := most + s.length) ⟨Nat.le_refl _, .inl rfl, .inr trivial⟩
  have hstep : iInf (ib (iHead 0 s.length ++ (s ++ zs))) (8 * (iHead 0 s.length ++ (s ++ zs)).length) (most + s.length) = iLoop (8 * (iHead 0 s.length ++ (s ++ zs)).length) (iBlk (ib (iHead 0 s.length ++ (s ++ zs))) (8 * (iHead 0 s.length ++ (s ++ zs)).length) (most + s.length)) (8 * (5 + s.length)) s := by
    simp only [List.length_nil, Nat.mul_zero, Nat.zero_add, List.nil_append, decide_true] at hb
    unfold iInf
    exact iLoop_on hb (by omega) (by omega)
  unfold iAns at h0 ⊢
  rw [hstep]
  cases hr : iInf (ib zs) (8 * zs.length) most with
  | error e =>
    have := iBad_inf _ _ _ e hr
    rw [hr] at h0
    simp only [iRes] at h0
    omega
  | ok x =>
    obtain ⟨q, o⟩ := x
    obtain ⟨o', h2, h3⟩ := hi.2 q o hr
    rw [h2, h3]
    simp only [iRes]
    congr 2
    omega

/-- Pieces in stored blocks, one behind the other, and an empty one at the end. -/
def iRow : List (List Int) → List Int
  | [] => iHead 1 0
  | s :: r => iHead 0 s.length ++ (s ++ iRow r)
theorem iLoop_row (ps : List (List Int)) (hs : ∀ s ∈ ps, s.length ≤ 65535 ∧ ∀ x ∈ s, 0 ≤ x ∧ x ≤ 255) (most : Nat) (A out : List Int) (hm : out.length + ps.flatten.length ≤ most) (Z : List Int) (hZ : Z = A ++ iRow ps) :
    iLoop (8 * Z.length) (iBlk (ib Z) (8 * Z.length) most) (8 * A.length) out = .ok (8 * Z.length, out ++ ps.flatten) := by
  induction ps generalizing A out with
  | nil =>
    have h := iBlk_sto A [] [] 1 (by omega) (by simp) (by simp) most out (by simpa using hm) Z (by rw [hZ]; simp [iRow])
    rw [iLoop_end h, hZ]
    simp [iRow, iHead_length]
  | cons s r ih =>
    have hl : (s :: r).flatten.length = s.length + r.flatten.length := by simp
    have h := iBlk_sto A s (iRow r) 0 (by omega) (hs s (by simp)).2 (hs s (by simp)).1 most out (by omega) Z (by rw [hZ]; rfl)
    have hlen : Z.length = A.length + (5 + (s.length + (iRow r).length)) := by rw [hZ, iRow]; simp only [List.length_append, iHead_length]
    rw [iLoop_on h (by omega) (by omega)]
    have := ih (fun t ht => hs t (by simp [ht])) (A ++ iHead 0 s.length ++ s) (out ++ s) (by rw [List.length_append]; omega) (by rw [hZ, iRow]; simp only [List.append_assoc])
    rw [List.length_append, List.length_append, iHead_length] at this
    rw [this, List.flatten_cons, List.append_assoc]
theorem iAns_row (ps : List (List Int)) (hs : ∀ s ∈ ps, s.length ≤ 65535 ∧ ∀ x ∈ s, 0 ≤ x ∧ x ≤ 255) (most : Nat) (hm : ps.flatten.length ≤ most) : iAns (iRow ps) most = (ps.flatten, (iRow ps).length, 0) := by
  have h := iLoop_row ps hs most [] [] (by simpa using hm) (iRow ps) rfl
  unfold iAns iInf
  rw [show (0 : Nat) = 8 * ([] : List Int).length from rfl, h]
  simp only [iRes, List.nil_append]
  congr 2
  omega
end Go.Proofs.YtibolmgijaploaaDoor
