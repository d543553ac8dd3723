/- PLAIN: what PutSeconds told is read as it was; what PutOctal tells is what the reference tells, and Octal reads it as it was; blanks do not count. -/
import Derived.Test.YtodkpmnkdplpiabDoorEq3
import Derived.Test.YtodkpmnkdplpiabDoorPutP
namespace Go.Proofs.YtodkpmnkdplpiabDoor
open Go
set_option linter.unusedVariables false

theorem numF_app (b z : Nat) : ∀ (l r : List UInt8) (o : Option Nat), numF b z (l ++ r) o = numF b z r (numF b z l o)
  | [], r, o => rfl
  | c :: l, r, o => by
    rw [List.cons_append]
    exact numF_app b z l r _
theorem num_dec (K : Nat) (hK : K ≤ 4611686018427387904) : numF 10 48 (Lib.decDigits K) (some 0) = some K := by
  induction K using Nat.strongRecOn with
  | _ K ih =>
    by_cases h : K < 10
    · rw [dec_small h]
      show add (some 0) 10 _ = _
      rw [byte_lt (by omega), add_yes (by omega)]
      congr 1
      omega
    · rw [dec_big h, numF_app, ih (K / 10) (by omega) (by omega)]
      show add (some (K / 10)) 10 _ = _
      rw [byte_lt (by omega), add_yes (by omega)]
      congr 1
      omega
theorem isD_mk {q : Nat} (h : q < 10) : isD (UInt8.ofNat (48 + q)) = true := by
  unfold isD
  rw [byte_lt (by omega)]
  exact decide_eq_true (by omega)
theorem dec_dig (K : Nat) : ∀ c ∈ Lib.decDigits K, isD c = true := by
  induction K using Nat.strongRecOn with
  | _ K ih =>
    by_cases h : K < 10
    · rw [dec_small h]
      intro c hc
      rw [List.mem_singleton.1 hc]
      exact isD_mk h
    · rw [dec_big h]
      intro c hc
      rcases List.mem_append.1 hc with hc | hc
      · exact ih (K / 10) (by omega) c hc
      · rw [List.mem_singleton.1 hc]
        exact isD_mk (by omega)
theorem frj_dig : ∀ (j P : Nat), P < 10 ^ j → ∀ c ∈ frj j P, isD c = true
  | 0, P, _, c, h => absurd h (by simp [frj])
  | j + 1, P, hP, c, h => by
    unfold frj at h
    split at h
    · exact absurd h (by simp)
    · rcases List.mem_cons.1 h with rfl | h
      · exact isD_mk (Nat.div_lt_of_lt_mul (by rw [Nat.pow_succ] at hP; exact hP))
      · exact frj_dig j _ (Nat.mod_lt _ (Nat.pow_pos (by decide))) c h
theorem vl_frj : ∀ (j P : Nat), P < 10 ^ j → vl (frj j P) j = P
  | 0, P, h => by
    have : P = 0 := by simpa using h
    rw [this]; rfl
  | j + 1, P, h => by
    have hq : P / 10 ^ j < 10 := Nat.div_lt_of_lt_mul (by rw [Nat.pow_succ] at h; exact h)
    unfold frj
    split
    · rename_i h0; rw [h0]; rfl
    · show ((UInt8.ofNat (48 + P / 10 ^ j)).toNat - 48) * 10 ^ j + vl (frj j (P % 10 ^ j)) j = P
      rw [byte_lt (by omega), vl_frj j _ (Nat.mod_lt _ (Nat.pow_pos (by decide))), Nat.add_sub_cancel_left, Nat.mul_comm]
      exact Nat.div_add_mod P (10 ^ j)
theorem frac_nine (P : Nat) (hP : P < 1000000000) : frac 9 P = frj 9 P := by
  have h9 : (1000000000 : Nat) = 10 ^ 9 := by decide
  have := frac_frj 9 P (by omega) (by rw [← h9]; exact hP)
  rw [Nat.sub_self, Nat.pow_zero, Nat.mul_one] at this
  exact this
theorem secT_psU (u : Nat) (hu : u < 9000000000000000000) : secT (psU u) = some (some u) := by
  have hK : u / 1000000000 ≤ 9000000000 := by omega
  have hD := dec_dig (u / 1000000000)
  have hn := num_dec (u / 1000000000) (by omega)
  have hl := dec_pos (u / 1000000000)
  have hr : ∀ r : List UInt8, (r = [] ∨ ∃ F, r = 46 :: F) → secT (Lib.decDigits (u / 1000000000) ++ r) = secC (Lib.decDigits (u / 1000000000)) r := by
    intro r h
    have h0 : rn r = 0 := by
      rcases h with rfl | ⟨F, rfl⟩
      · rfl
      · exact rn_cons_no (by decide)
    rw [secT_eq, rn_app _ _ hD, h0, Nat.add_zero, if_neg (by omega), List.take_left, List.drop_left]
  unfold psU
  by_cases h0 : u % 1000000000 = 0
  · rw [if_pos h0, hr [] (.inl rfl)]
    simp only [secC, secF]
    rw [hn]
    simp only
    rw [if_neg (by omega)]
    congr 2
    have : nanA 9 [] 0 = 0 := by decide
    omega
  · have hlt : u % 1000000000 < 1000000000 := Nat.mod_lt _ (by decide)
    have h9 : (1000000000 : Nat) = 10 ^ 9 := by decide
    have hlt9 : u % 1000000000 < 10 ^ 9 := by rw [← h9]; exact hlt
    rw [if_neg h0, hr _ (.inr ⟨_, rfl⟩), frac_nine _ hlt]
    have hFd := frj_dig 9 _ hlt9
    have hFn : ¬ frj 9 (u % 1000000000) = [] := fun e => h0 ((frj_nil 9 _ hlt9).1 e)
    have hrn := rn_all' _ hFd
    simp only [secC]
    rw [if_neg (by intro h; rcases h with h | h | h; exact h rfl; exact hFn h; omega)]
    simp only [secF]
    rw [hn]
    simp only
    rw [if_neg (by omega), nanA_eq, Nat.zero_mul, vl_frj 9 _ hlt9]
    congr 2
    omega
theorem dec_head (K : Nat) (r : List UInt8) : (Lib.decDigits K ++ r).head? ≠ some 45 := by
  have hl := dec_pos K
  cases hd : Lib.decDigits K with
  | nil => rw [hd] at hl; simp at hl
  | cons a b =>
    have := isD_of (dec_dig K a (by rw [hd]; simp))
    intro h
    have e : a = 45 := by simpa using h
    subst e
    have h45 : (45 : UInt8).toNat = 45 := rfl
    omega
theorem sec_back (t : Int) (h : -9000000000000000000 < t ∧ t < 9000000000000000000) : secP (psP t) = (t, 0) := by
  rw [sec_eq, ps_eq]
  unfold psR secR
  by_cases hn : t < 0
  · rw [if_pos hn, if_pos (show (45 :: psU t.natAbs).head? = some 45 from rfl), List.tail_cons, secT_psU _ (by omega), ansS_neg]
    congr 1
    omega
  · rw [if_neg hn, if_neg (show ¬ (psU t.natAbs).head? = some 45 from dec_head _ _), secT_psU _ (by omega), ansS_pos]
    congr 1
    omega

/- PutOctal. -/
theorem ol_iff (v m : Nat) (hm : 1 ≤ m) : ol v ≤ m ↔ v / 8 ^ m = 0 := by
  induction m generalizing v with
  | zero => omega
  | succ m ih =>
    by_cases h8 : v < 8
    · rw [ol_small h8]
      have : v / 8 ^ (m + 1) = 0 := Nat.div_eq_of_lt (Nat.lt_of_lt_of_le h8 (by
        have := Nat.one_le_pow m 8 (by decide)
        rw [Nat.pow_succ]; omega))
      rw [this]
      exact ⟨fun _ => rfl, fun _ => by omega⟩
    · rw [ol_big h8]
      rcases Nat.eq_zero_or_pos m with rfl | hm'
      · have := ol_pos (v / 8)
        constructor
        · intro h; omega
        · intro h
          have : v / 8 = 0 := by simpa using h
          omega
      · have := ih (v / 8) hm'
        rw [Nat.div_div_eq_div_mul, Nat.mul_comm, ← Nat.pow_succ] at this
        rw [← this]
        omega
theorem wri_zero (b : Nat) (hb : 2 ≤ b) : ∀ (m : Nat), wri b 0 m = List.replicate m 0
  | 0 => rfl
  | m + 1 => by
    rw [wri, Nat.zero_div, wri_zero b hb m, Nat.zero_mod, List.replicate_succ']
    rfl
theorem wri_pad (b : Nat) (hb : 2 ≤ b) : ∀ (k v m : Nat), v / b ^ k = 0 → wri b v (m + k) = List.replicate m 0 ++ wri b v k
  | 0, v, m, h => by
    have : v = 0 := by simpa using h
    rw [this, Nat.add_zero, wri_zero b hb m]
    simp [wri]
  | k + 1, v, m, h => by
    rw [← Nat.add_assoc, wri, wri, wri_pad b hb k (v / b) m (by rw [Nat.div_div_eq_div_mul, Nat.mul_comm, ← Nat.pow_succ]; exact h), List.append_assoc]
theorem rep_eq : ∀ (k : Nat), Lib.repeatL [48] k = (List.replicate k (0 : UInt8)).map (· + 48)
  | 0 => rfl
  | k + 1 => by
    rw [List.replicate_succ, List.map_cons]
    show [48] ++ Lib.repeatL [48] k = _
    rw [rep_eq k]
    rfl
theorem rev_put : ∀ (m v : Nat), (putN v m).reverse = wri 256 v m
  | 0, v => rfl
  | m + 1, v => by
    rw [putN, List.reverse_cons, rev_put m (v / 256), wri]
theorem leN_put : ∀ (m v : Nat), leN (putN v m) = v % 256 ^ m
  | 0, v => by simp [putN, leN, Nat.mod_one]
  | m + 1, v => by
    unfold putN leN
    rw [leN_put m, byte_of, Nat.pow_succ, Nat.mul_comm (256 ^ m), Nat.mod_mul]
theorem put_take : ∀ (m v : Nat), (putN v m).take 8 = putN v (min m 8) := by
  have : ∀ (k m v : Nat), (putN v m).take k = putN v (min m k) := by
    intro k
    induction k with
    | zero => intro m v; simp [putN]
    | succ k ih =>
      intro m v
      cases m with
      | zero => simp [putN]
      | succ m =>
        rw [putN, List.take_succ_cons, ih, Nat.succ_min_succ]
        rfl
  exact fun m v => this 8 m v
theorem le_iff (v m : Nat) (hv : v ≤ 4611686018427387904) (hm : 1 ≤ m) : leN ((putN v m).take 8) = v ↔ v / 256 ^ m = 0 := by
  rw [put_take, leN_put]
  have h8 : v < 256 ^ 8 := Nat.lt_of_le_of_lt hv (by decide)
  by_cases hm8 : m ≤ 8
  · rw [Nat.min_eq_left hm8]
    constructor
    · intro h
      have := Nat.mod_lt v (Nat.pow_pos (n := m) (show 0 < 256 by decide))
      exact Nat.div_eq_of_lt (by omega)
    · intro h
      rcases Nat.lt_or_ge v (256 ^ m) with h' | h'
      · exact Nat.mod_eq_of_lt h'
      · have := Nat.div_pos h' (Nat.pow_pos (by decide))
        omega
  · rw [Nat.min_eq_right (by omega)]
    have h9 : v < 256 ^ m := Nat.lt_of_lt_of_le h8 (Nat.pow_le_pow_right (by decide) (by omega))
    exact ⟨fun _ => Nat.div_eq_of_lt h9, fun _ => Nat.mod_eq_of_lt h8⟩
theorem put_eq (v n : Int) : putP v n = putR v n := by
  unfold putP putR
  by_cases h : v < 0 ∨ 4611686018427387904 < v ∨ n < 2 ∨ 64 < n
  · rw [if_pos h, if_pos h]
  · rw [if_neg h, if_neg h]
    obtain ⟨V, rfl⟩ : ∃ V : Nat, v = V := ⟨v.toNat, by omega⟩
    obtain ⟨m, rfl⟩ : ∃ m : Nat, n = (m : Int) + 1 := ⟨n.toNat - 1, by omega⟩
    rw [Int.toNat_natCast, show ((m : Int) + 1).toNat = m + 1 by omega, Nat.add_sub_cancel]
    have hm : 1 ≤ m := by omega
    have ho := ol_iff V m hm
    by_cases hf : ol V ≤ m
    · rw [if_pos (by omega), if_pos (ho.1 hf)]
      have hk := ol_iff V (ol V) (ol_pos V)
      have hw := wri_pad 8 (by omega) (ol V) V (m - ol V) (hk.1 (Nat.le_refl _))
      rw [Nat.sub_add_cancel hf] at hw
      rw [hw, List.map_append, rep_eq]
    · rw [if_neg (by omega), if_neg (fun e => hf (ho.2 e))]
      have hl := le_iff V m (by omega) hm
      by_cases hq : V / 256 ^ m = 0
      · rw [if_pos (hl.2 hq), if_pos hq, List.reverse_append, rev_put]
        rfl
      · rw [if_neg (fun e => hq (hl.1 e)), if_neg hq]
theorem num_wri (b : Nat) (hb : 2 ≤ b) (hb2 : b ≤ 256) : ∀ (m v : Nat), v ≤ 4611686018427387904 → v / b ^ m = 0 → numF b 0 (wri b v m) (some 0) = some v
  | 0, v, _, h => by
    have : v = 0 := by simpa using h
    rw [this]; rfl
  | m + 1, v, hv, h => by
    have hd : v / b ≤ v := Nat.div_le_self _ _
    have hml : v % b < b := Nat.mod_lt _ (by omega)
    rw [wri, numF_app, num_wri b hb hb2 m (v / b) (by omega) (by rw [Nat.div_div_eq_div_mul, Nat.mul_comm, ← Nat.pow_succ]; exact h)]
    show add (some (v / b)) b _ = _
    have hs := Nat.div_add_mod v b
    have hm2 : v / b * b + v % b = v := by rw [Nat.mul_comm]; exact hs
    rw [byte_lt (by omega), Nat.sub_zero, add_yes (by omega), hm2]
theorem num_map (b z : Nat) (hz : z + b ≤ 256) (zb : UInt8) (hzb : zb.toNat = z) : ∀ (l : List UInt8) (o : Option Nat), (∀ c ∈ l, c.toNat < b) → numF b z (l.map (· + zb)) o = numF b 0 l o
  | [], o, _ => rfl
  | c :: r, o, h => by
    have hc := h c (by simp)
    rw [List.map_cons]
    unfold numF
    rw [num_map b z hz zb hzb r _ (fun x hx => h x (by simp [hx])), UInt8.toNat_add, hzb, Nat.mod_eq_of_lt (by omega), Nat.add_sub_cancel, Nat.sub_zero]
theorem octD_app : ∀ (A r : List UInt8) (o : Option Nat), (∀ c ∈ A, isO c = true) → octD (A ++ r) o = octD r (numF 8 48 A o)
  | [], r, o, _ => rfl
  | c :: A, r, o, h => by
    rw [List.cons_append, octD, if_pos (h c (by simp)), octD_app A r _ (fun x hx => h x (by simp [hx]))]
    rfl
theorem octB_rep : ∀ (a : Nat) (r : List UInt8), octB (List.replicate a 32 ++ r) = octB r
  | 0, r => rfl
  | a + 1, r => by
    rw [List.replicate_succ, List.cons_append, octB, if_pos (show (32 : UInt8).toNat = 32 from rfl), octB_rep a r]
theorem octB_digit {A r : List UInt8} (h0 : A ≠ []) (h : ∀ c ∈ A, isO c = true) : octB (A ++ r) = octD (A ++ r) (some 0) := by
  cases A with
  | nil => exact absurd rfl h0
  | cons c A =>
    have := isO_of (h c (by simp))
    rw [List.cons_append, octB, if_neg (by omega)]
theorem octD_blank (B : List UInt8) (o : Option Nat) (h : ∀ c ∈ B, isB c = true) : octD B o = ans o := by
  cases B with
  | nil => rfl
  | cons c r =>
    rw [octD, if_neg (fun e => isO_notB e (h c (by simp))), octT_eq, if_pos (List.all_eq_true.2 h)]
theorem wri8_O (v m : Nat) : ∀ c ∈ (wri 8 v m).map (· + 48), isO c = true := by
  intro c hc
  obtain ⟨x, hx, rfl⟩ := List.mem_map.1 hc
  have := wri8_lt v m x hx
  unfold isO
  apply decide_eq_true
  have h48 : (48 : UInt8).toNat = 48 := rfl
  show 48 ≤ (x + 48).toNat ∧ (x + 48).toNat ≤ 55
  rw [UInt8.toNat_add, h48]
  omega
theorem num_oct (v m : Nat) (hv : v ≤ 4611686018427387904) (h : v / 8 ^ m = 0) : numF 8 48 ((wri 8 v m).map (· + 48)) (some 0) = some v := by
  rw [num_map 8 48 (by omega) 48 rfl _ _ (wri8_lt v m), num_wri 8 (by omega) (by omega) m v hv h]
/-- Blanks ahead, digits, blanks and bytes 0 behind: the number. -/
theorem oct_blank (a v m : Nat) (B : List UInt8) (hv : v ≤ 4611686018427387904) (hm : 1 ≤ m) (h : v / 8 ^ m = 0) (hB : ∀ c ∈ B, isB c = true) : octR (List.replicate a 32 ++ ((wri 8 v m).map (· + 48) ++ B)) = ((v : Int), 0) := by
  have hO := wri8_O v m
  have hne : (wri 8 v m).map (· + 48) ≠ [] := by
    intro e
    have := congrArg List.length e
    simp [wri_length] at this
    omega
  have hb : octB (List.replicate a 32 ++ ((wri 8 v m).map (· + 48) ++ B)) = ((v : Int), 0) := by
    rw [octB_rep, octB_digit hne hO, octD_app _ _ _ hO, num_oct v m hv h, octD_blank _ _ hB]
    rfl
  have h128 : ∀ c r, List.replicate a 32 ++ ((wri 8 v m).map (· + 48) ++ B) = c :: r → c.toNat ≠ 128 := by
    intro c r e h
    cases a with
    | zero =>
      cases hd : (wri 8 v m).map (· + 48) with
      | nil => exact hne hd
      | cons x A =>
        have hx := isO_of (hO x (by rw [hd]; simp))
        rw [hd] at e
        have : x = c := by simpa using (List.cons.inj e).1
        rw [this] at hx
        omega
    | succ a =>
      rw [List.replicate_succ] at e
      have : 32 = c := (List.cons.inj e).1
      rw [← this] at h
      exact absurd h (by decide)
  generalize List.replicate a 32 ++ ((wri 8 v m).map (· + 48) ++ B) = L at hb h128
  cases L with
  | nil => exact hb
  | cons c r =>
    simp only [octR]
    rw [if_neg (h128 c r rfl)]
    exact hb
theorem put_back (v n : Int) (X : List UInt8) (h : putR v n = some X) : octP X = (v, 0) := by
  rw [oct_eq]
  unfold putR at h
  split at h
  · cases h
  · rename_i hb
    obtain ⟨V, rfl⟩ : ∃ V : Nat, v = V := ⟨v.toNat, by omega⟩
    obtain ⟨m, rfl⟩ : ∃ m : Nat, n = (m : Int) + 1 := ⟨n.toNat - 1, by omega⟩
    rw [Int.toNat_natCast, show ((m : Int) + 1).toNat = m + 1 by omega, Nat.add_sub_cancel] at h
    split at h
    · rename_i hf
      obtain rfl := Option.some.inj h
      exact oct_blank 0 V m [0] (by omega) (by omega) hf (by intro c hc; rw [List.mem_singleton.1 hc]; rfl)
    · split at h
      · rename_i hf
        obtain rfl := Option.some.inj h
        simp only [octR]
        rw [if_pos (show (128 : UInt8).toNat = 128 from rfl), num_wri 256 (by omega) (by omega) m V (by omega) hf]
        rfl
      · cases h
theorem le_back (v : Nat) (hv : v < 18446744073709551616) : leN ((putN v 8).take 8) = v := by
  rw [put_take, leN_put]
  exact Nat.mod_eq_of_lt (Nat.lt_of_lt_of_le hv (by decide))
end Go.Proofs.YtodkpmnkdplpiabDoor
