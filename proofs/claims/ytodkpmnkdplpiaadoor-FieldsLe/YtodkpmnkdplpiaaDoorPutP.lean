/- PROVED: the contract of the program's PutOctal. -/
import Derived.Test.YtodkpmnkdplpiaaDoorPSP
import Derived.Test.YtodkpmnkdplpiaaDoorRefPutO
namespace Go.Proofs.YtodkpmnkdplpiaaDoor
open Go Go.RowKit
set_option linter.unusedVariables false

def enB : UInt8 → Value := fun (b : UInt8) => Value.int .u8 (b.toNat : Int)
theorem below_map {B g : Nat} {w : World} (n : Nat) (f : Array Value → Array Value) (hg : B ≤ g) : Below B w (Go.Sort.mapBlock (Go.Sort.ahead w n) g f) := by
  refine ⟨rfl, rfl, rfl, ?_, fun k hk => ?_⟩
  · show w.heap.size ≤ (w.heap.modify g _).size
    simp
  · show (w.heap.modify g _)[k]? = _
    rw [Array.getElem?_modify, if_neg (by omega)]
theorem getB (X : List UInt8) (j : Nat) (h : j < X.length) : X.toArray[j]! = X.getD j 0 := by
  rw [getElem!_pos _ j (by simpa using h)]
  simp [List.getD, h]
theorem rev_c (w : World) (v : Value) (B : Nat) (X : List UInt8) (hO : Own w v B X) (h0 : 0 < X.length) (hl : X.length ≤ 9223372036854775807) :
    Calls Tryd.prog 32 #[v] w fun e w' => e = .returned (.tuple #[]) ∧ Bs w' v X.reverse ∧ Below B w w' := by
  obtain ⟨h1, h2⟩ := hO
  rcases h2 with ⟨rfl, h2⟩ | ⟨g, cap, cur, rfl, hg, hh, hn, hm, hs, ht⟩
  · omega
  · have hc : ∀ j, j < X.length → w.cell? ⟨g, 0 + j, none⟩ = some (enB (X.getD j 0)) := fun j hj => by
      rw [Nat.zero_add, cells_of hh]
      have := congrArg (fun l : List Value => l[j]?) ht
      simp only [Nat.mul_one] at this
      rw [List.getElem?_take_of_lt hj, Array.getElem?_toList] at this
      rw [this, asB_at X j hj]
      rfl
    have hH : Go.Sort.Holds (fun (b : UInt8) => Value.int .u8 (b.toNat : Int)) w g 0 X.toArray := fun j hj => by
      have hj' : j < X.length := by simpa using hj
      refine ⟨?_, ?_⟩
      · rw [getB X j hj']; exact hc j hj'
      · rw [Nat.zero_add]; exact free_of hh j
    refine (sh_slices_Reverse (by intro _; rfl) g 0 cap X w hH hl).mono ?_
    rintro e w' ⟨rfl, n, rfl⟩
    refine ⟨rfl, Or.inr ⟨g, 0, cap, by rw [List.length_reverse], by rw [List.length_reverse]; exact hn, fun i hi => ?_⟩, below_map n _ hg⟩
    have hH2 : Go.Sort.Holds (fun (b : UInt8) => Value.int .u8 (b.toNat : Int)) (Go.Sort.ahead w n) g 0 X.toArray := hH
    have := Go.Sort.cell?_putRow (fun (b : UInt8) => Value.int .u8 (b.toNat : Int)) (Go.Sort.ahead w n) g 0 X.toArray X.reverse.toArray hH2 (by simp) i (by simpa using hi)
    rw [this, getB X.reverse i hi]

/-- What the program's PutOctal tells. -/
def putP (v n : Int) : Option (List UInt8) :=
  if v < 0 ∨ 4611686018427387904 < v ∨ n < 2 ∨ 64 < n then none
  else if ol v.toNat < n.toNat then some (Lib.repeatL [48] (n.toNat - 1 - ol v.toNat) ++ (wri 8 v.toNat (ol v.toNat)).map (· + 48) ++ [0])
  else if leN ((putN v.toNat (n.toNat - 1)).take 8) = v.toNat then some ((putN v.toNat (n.toNat - 1) ++ [128]).reverse)
  else none

set_option maxRecDepth 100000 in
theorem put_bad (v n : Int) (h : v < 0 ∨ 4611686018427387904 < v ∨ n < 2 ∨ 64 < n) (w : World) :
    Calls Tryd.prog 16 #[.int .i64 v, .int .i64 n] w fun e w' => e = .returned (.tuple #[.slice none 0 0, .bool false]) ∧ w' = w := by
  by_cases h1 : v < 0
  · clear h
    go_enter Tryd.func16, Tryd.ntmps16
    go_wp2_with fail
    go_ret2
    exact ⟨rfl, rfl⟩
  · by_cases h2 : 4611686018427387904 < v
    · clear h
      go_enter Tryd.func16, Tryd.ntmps16
      go_wp2_with fail
      go_ret2
      exact ⟨rfl, rfl⟩
    · by_cases h3 : n < 2
      · clear h
        go_enter Tryd.func16, Tryd.ntmps16
        go_wp2_with fail
        go_ret2
        exact ⟨rfl, rfl⟩
      · have h4 : 64 < n := by omega
        clear h
        go_enter Tryd.func16, Tryd.ntmps16
        go_wp2_with fail
        go_ret2
        exact ⟨rfl, rfl⟩

theorem own_mono {w : World} {v : Value} {B C : Nat} {X : List UInt8} (h : Own w v C X) (hB : B ≤ C) : Own w v B X := by
  obtain ⟨h1, h2⟩ := h
  refine ⟨h1, ?_⟩
  rcases h2 with h2 | ⟨g, cap, cur, e, hg, r⟩
  · exact Or.inl h2
  · exact Or.inr ⟨g, cap, cur, e, Nat.le_trans hB hg, r⟩
theorem rep_len (k : Nat) : (Lib.repeatL [48] k).length = k := by
  induction k with
  | zero => rfl
  | succ k ih => simp only [Lib.repeatL, List.length_append, List.length_singleton, ih]; omega
theorem conv_new (W : World) (S : ByteArray) : (convert 9 22 (.string S)).run Tryd.prog W = .ok (.slice (some ⟨W.heap.size, 0, none⟩) S.size (grownCap W S.size 0 5))
      (W.drew.alloc (.cells (bytesRow S (grownCap W S.size 0 5)) 5 ((bytesRow S (grownCap W S.size 0 5)).size, (bytesRow S (grownCap W S.size 0 5)).size + 1))) :=
  run_bytes_of_string W 9 22 5 S Tryd.underlying9 Tryd.underlying22 Tryd.underlying5
theorem rep_c (c : Nat) (hc : c ≤ 64) (W : World) :
    Calls Tryd.prog 31 #[.string ⟨#[48]⟩, .int .i64 (c : Int)] W fun e w' => e = .returned (.string ⟨(Lib.repeatL [48] c).toArray⟩) ∧ Below W.heap.size W w' := by
  have hsz : (⟨#[48]⟩ : ByteArray).size = 1 := rfl
  exact sh_strings_Repeat ⟨#[48]⟩ c W (by omega) (by rw [hsz]; omega)
theorem bs_new (w : World) (s : ByteArray) (c : Nat) (hc : s.size ≤ c) (fr : Nat × Nat) : Bs (w.drew.alloc (.cells (bytesRow s c) 5 fr)) (.slice (some ⟨w.heap.size, 0, none⟩) s.size c) s.data.toList := by
  have hl := len_eq s
  rw [← hl]
  refine Or.inr ⟨w.heap.size, 0, c, rfl, by omega, fun i hi => ?_⟩
  have h : (w.drew.alloc (.cells (bytesRow s c) 5 fr)).heap[w.heap.size]? = some (.cells (bytesRow s c) 5 fr) := heap_new w.drew _
  rw [Nat.zero_add, cells_of h]
  unfold bytesRow
  have hi2 : i < s.data.size := by rw [hl] at hi; exact hi
  rw [Array.getElem?_append_left (by simpa using hi2), Array.getElem?_map, Array.getElem?_eq_getElem hi2]
  simp only [Option.map_some]
  congr 3
  rw [List.getD_eq_getElem?_getD, List.getElem?_eq_getElem hi, Option.getD_some, Array.getElem_toList]

set_option maxRecDepth 100000 in
theorem put_fits (v n : Nat) (hv : v ≤ 4611686018427387904) (hn : 2 ≤ n ∧ n ≤ 64) (hf : ol v < n) (w : World) (hT : Tabs w) :
    Calls Tryd.prog 16 #[.int .i64 (v : Int), .int .i64 (n : Int)] w fun e w' => ∃ s, e = .returned (.tuple #[s, .bool true]) ∧ Bs w' s (Lib.repeatL [48] (n - 1 - ol v) ++ (wri 8 v (ol v)).map (· + 48) ++ [0]) ∧ Below w.heap.size w w' := by
  have h1 := formatInt_c v hv w hT.2
  have hTl : ((wri 8 v (ol v)).map (· + 48)).length = ol v := by simp [wri_length]
  obtain ⟨X, hX⟩ : ∃ X, (wri 8 v (ol v)).map (· + 48) = X := ⟨_, rfl⟩
  rw [hX] at h1 hTl ⊢
  obtain ⟨k, hk⟩ : ∃ k, ol v = k := ⟨_, rfl⟩
  rw [hk] at hf hTl ⊢
  clear hX hk hT
  obtain ⟨c, hc⟩ : ∃ c, n - 1 - k = c := ⟨_, rfl⟩
  rw [hc]
  have hci : (n : Int) - 1 - (k : Int) = (c : Int) := by omega
  have h2 := fun W => rep_c c (by omega) W
  have hRl := rep_len c
  obtain ⟨R, hR⟩ : ∃ R, Lib.repeatL [48] c = R := ⟨_, rfl⟩
  rw [hR] at h2 hRl ⊢
  have HS : Hid ((⟨R.toArray⟩ : ByteArray) ++ ⟨X.toArray⟩ ++ ⟨[0].toArray⟩ = ⟨(R ++ X ++ [0]).toArray⟩) := by rw [app_eq, app_eq]; exact rfl
  have hsX : (⟨X.toArray⟩ : ByteArray).size = k := by rw [size_mk]; exact hTl
  have hsR : (⟨R.toArray⟩ : ByteArray).size ≤ 64 := by rw [size_mk]; omega
  obtain ⟨SX, hSX⟩ : ∃ S : ByteArray, (⟨X.toArray⟩ : ByteArray) = S := ⟨_, rfl⟩
  obtain ⟨SR, hSR⟩ : ∃ S : ByteArray, (⟨R.toArray⟩ : ByteArray) = S := ⟨_, rfl⟩
  rw [hSX] at h1 hsX HS
  rw [hSR] at h2 hsR HS
  clear hSX hSR hR hRl hTl hc
  obtain ⟨S, hS⟩ : ∃ S : ByteArray, SR ++ SX ++ ⟨#[0]⟩ = S := ⟨_, rfl⟩
  have HS2 : Hid (S = ⟨(R ++ X ++ [0]).toArray⟩) := by rw [← hS]; exact HS.out
  clear HS
  have hcb := fun W => conv_new W S
  go_enter Tryd.func16, Tryd.ntmps16
  go_wp2_with (first
    | (go_at_call 30; go_fit h1; rintro e w2 ⟨rfl, b2⟩; have B2 : Hid (Below w.heap.size w w2) := b2; clear b2)
    | (go_at_call 31; go_fit (h2 _); rintro e w3 ⟨rfl, b3⟩; have B3 : Hid (Below w.heap.size w w3) := B2.out.trans (b3.mono B2.out.size); clear b3))
  go_ret2
  have hB := bs_new w3 S _ (grownCap_ge w3 _ 0 5) ((bytesRow S (grownCap w3 S.size 0 5)).size, (bytesRow S (grownCap w3 S.size 0 5)).size + 1)
  have hd : S.data.toList = R ++ X ++ [0] := congrArg (fun b : ByteArray => b.data.toList) HS2.out
  rw [hd] at hB
  exact ⟨_, rfl, hB, (B3.out.drew).alloc (by exact B3.out.size) _⟩

set_option maxRecDepth 100000 in
theorem put_more (v m : Nat) (hv : v ≤ 4611686018427387904) (hn : 1 ≤ m ∧ m ≤ 63) (hf : m < ol v) (w : World) (hT : Tabs w) :
    Calls Tryd.prog 16 #[.int .i64 (v : Int), .int .i64 ((m : Int) + 1)] w fun e w' => ∃ s, e = .returned (.tuple #[s, .bool (decide (leN ((putN v m).take 8) = v))]) ∧ Bs w' s (if leN ((putN v m).take 8) = v then (putN v m ++ [128]).reverse else []) ∧ Below w.heap.size w w' := by
  have h1 := formatInt_c v hv w hT.2
  have hTl : ((wri 8 v (ol v)).map (· + 48)).length = ol v := by simp [wri_length]
  obtain ⟨T, hT2⟩ : ∃ T : ByteArray, (⟨((wri 8 v (ol v)).map (· + 48)).toArray⟩ : ByteArray) = T := ⟨_, rfl⟩
  have hsT : m + 1 ≤ T.size := by rw [← hT2, size_mk, hTl]; omega
  rw [hT2] at h1
  clear hT2 hTl hf hT
  have h2 := fun W => putLe_c v (by omega) (m : Int) (by omega) W
  have hmm : (min (m : Int) 64).toNat = m := by omega
  rw [hmm] at h2
  have hl := putN_length v m
  obtain ⟨X, hX⟩ : ∃ X, putN v m = X := ⟨_, rfl⟩
  rw [hX] at h2 hl ⊢
  have H3 : Hid (∀ W s, Bs W s X → Calls Tryd.prog 10 #[s] W fun e w' => e = .returned (.int .u64 (leN (X.take 8) : Nat)) ∧ w' = W) := fun W s h => le_c s X (by omega) W h
  obtain ⟨L, hL⟩ : ∃ L, leN (X.take 8) = L := ⟨_, rfl⟩
  rw [hL] at H3 ⊢
  have hLlt : L < 18446744073709551616 := by
    rw [← hL]
    have h8 := leN_lt (X.take 8)
    have : (X.take 8).length ≤ 8 := by rw [List.length_take]; omega
    exact Nat.lt_of_lt_of_le h8 (Nat.le_trans (Nat.pow_le_pow_right (by decide) this) (by decide))
  have hm1 : (m : Int) + 1 - 1 = m := by omega
  have hw : IntKind.u64.wrap (v : Int) = (v : Int) := by rw [IntKind.wrap_u64]; omega
  obtain ⟨i5, hi5, hz5, hs5, hb5⟩ := info5
  have HI5 : Hid (_ ∧ _ ∧ _ ∧ _) := ⟨hi5, hz5, hs5, hb5⟩
  have HL : Hid (X.length = m) := hl
  clear hX hL hmm hl hi5 hz5 hs5 hb5
  by_cases he : L = v
  · rw [if_pos he, decide_eq_true he]
    subst he
    go_enter Tryd.func16, Tryd.ntmps16
    go_wp2_with (first
      | (go_at_call 30; go_fit h1; rintro e w2 ⟨rfl, b2⟩; have B2 : Hid (Below w.heap.size w w2) := b2; clear b2)
      | (go_at_call 12; go_fit (h2 _); rintro e w3 ⟨s3, rfl, o3, b3⟩; have O3 : Hid (Own w3 s3 w.heap.size X) := own_mono o3 B2.out.size; have B3 : Hid (Below w.heap.size w w3) := B2.out.trans (b3.mono B2.out.size); clear o3 b3)
      | (go_at_call 10; go_fit (H3.out _ _ (own_bs O3.out)); rintro e w4 ⟨rfl, hw4⟩; obtain rfl : w3 = w4 := hw4.symm)
      | (at_builtin; refine wpList_append_own _ rfl _ _ 22 rfl w.heap.size 5 i5 (.int .u8 0) 1 1 Tryd.underlying22 HI5.out.1 HI5.out.2.1 HI5.out.2.2.1 HI5.out.2.2.2 rfl (by decide) _ X.length (asB X) rfl (World.ownsRow.alloc O3.out _) ⟨w3.heap.size, 0, none⟩ 1 1 [.int .u8 128] rfl rfl (one_byte w3 _) (by intro u hu; simp at hu; subst hu; rfl) (by unfold maxLen; have := HL.out; omega) (by have := HL.out; omega) (by have := B3.out.size; simp; omega) ?_; intro s5 w5 hown hgrow hnil; have O5 : Hid (Own w5 s5 w.heap.size (X ++ [128])) := own_push rfl hown; have B5 : Hid (Below w.heap.size w w5) := (B3.out.alloc B3.out.size _).grown hgrow (by have := B3.out.size; simp; omega) (fun g e => ownsRow_lt O3.out e); clear hown hgrow hnil)
      | (go_at_call 32; go_fit (rev_c _ _ _ _ O5.out (by simp) (by have := HL.out; simp; omega)); rintro e w6 ⟨rfl, s6, b6⟩; have S6 : Hid (Bs w6 s5 (X ++ [128]).reverse) := s6; have B6 : Hid (Below w.heap.size w w6) := B5.out.trans b6; clear s6 b6))
    go_ret2
    exact ⟨_, rfl, S6.out, B6.out⟩
  · rw [if_neg he, decide_eq_false he]
    have heb : ((L : Int) != (v : Int)) = true := by
      have : ¬ (L : Int) = (v : Int) := by omega
      simpa using this
    clear he
    go_enter Tryd.func16, Tryd.ntmps16
    go_wp2_with (first
      | (go_at_call 30; go_fit h1; rintro e w2 ⟨rfl, b2⟩; have B2 : Hid (Below w.heap.size w w2) := b2; clear b2)
      | (go_at_call 12; go_fit (h2 _); rintro e w3 ⟨s3, rfl, o3, b3⟩; have O3 : Hid (Own w3 s3 w.heap.size X) := own_mono o3 B2.out.size; have B3 : Hid (Below w.heap.size w w3) := B2.out.trans (b3.mono B2.out.size); clear o3 b3)
      | (go_at_call 10; go_fit (H3.out _ _ (own_bs O3.out)); rintro e w4 ⟨rfl, hw4⟩; obtain rfl : w3 = w4 := hw4.symm))
    go_ret2
    exact ⟨_, rfl, Or.inl ⟨rfl, _, _, rfl⟩, B3.out⟩

/-- What the program's PutOctal answers. -/
theorem put_c (v n : Int) (w : World) (hT : Tabs w) :
    Calls Tryd.prog 16 #[.int .i64 v, .int .i64 n] w fun e w' => ∃ s, e = .returned (.tuple #[s, .bool (putP v n).isSome]) ∧ Bs w' s ((putP v n).getD []) ∧ Below w.heap.size w w' := by
  by_cases h : v < 0 ∨ 4611686018427387904 < v ∨ n < 2 ∨ 64 < n
  · unfold putP
    rw [if_pos h]
    exact (put_bad v n h w).mono fun e w' ⟨he, hw⟩ => ⟨_, he, Or.inl ⟨rfl, _, _, rfl⟩, by rw [hw]; exact Below.refl _ _⟩
  · unfold putP
    rw [if_neg h]
    obtain ⟨V, rfl⟩ : ∃ V : Nat, v = V := ⟨v.toNat, by omega⟩
    obtain ⟨m, rfl⟩ : ∃ m : Nat, n = (m : Int) + 1 := ⟨n.toNat - 1, by omega⟩
    rw [Int.toNat_natCast, show ((m : Int) + 1).toNat = m + 1 by omega, Nat.add_sub_cancel]
    by_cases hf : ol V < m + 1
    · rw [if_pos hf]
      have := put_fits V (m + 1) (by omega) (by omega) hf w hT
      rw [Nat.add_sub_cancel] at this
      exact this
    · rw [if_neg hf]
      refine (put_more V m (by omega) (by omega) (by omega) w hT).mono fun e w' ⟨s, he, ho, hb⟩ => ?_
      by_cases hq : leN ((putN V m).take 8) = V
      · rw [if_pos hq] at ho ⊢
        rw [decide_eq_true hq] at he
        exact ⟨s, he, ho, hb⟩
      · rw [if_neg hq] at ho ⊢
        rw [decide_eq_false hq] at he
        exact ⟨s, he, ho, hb⟩
end Go.Proofs.YtodkpmnkdplpiaaDoor
