/- PROVED: the walk of the law CheckBursts, where the place lies within the text. -/
import Derived.Test.YtddhegohecajcaaBurstsMath
import Derived.Deep.DeepCutAuto
import Derived.Deep.RegionWith
import Derived.Deep.DeepFit
import Derived.Deep.RegionLaw
namespace Go.Proofs.Ytddhegohecajcaa
open Go Go.RowKit

theorem own_empty (w : World) : (w.alloc (.cells #[] 5)).ownsRow w.heap.size 5 1 (.slice (some ⟨w.heap.size, 0, none⟩) 0 0) 0 [] :=
  ⟨rfl, Or.inr ⟨w.heap.size, 0, #[], rfl, Nat.le_refl _, heap_new _ _, Nat.le_refl _, by unfold maxLen; omega, rfl, rfl⟩⟩
theorem bytes_one (X : List Nat) : ∀ u ∈ X.map (fun x => Value.int .u8 ((x : Nat) : Int)), u.oneCell' = true := by
  intro u hu
  obtain ⟨x, _, rfl⟩ := List.mem_map.1 hu
  rfl
theorem bytes_src {w w' : World} {B b o : Nat} {X : List Nat} (h : Below B w w') (hb : b < B) (hc : ∀ i, i < X.length → w.cell? ⟨b, o + i, none⟩ = some (.int .u8 (X.getD i 0 : Nat))) : ∀ (j : Nat) (u : Value), (X.map fun x => Value.int .u8 ((x : Nat) : Int))[j]? = some u → w'.cell? ((⟨b, o, none⟩ : Addr).add j) = some u := by
  intro j u hj
  have hlt : j < X.length := by
    rcases Nat.lt_or_ge j X.length with h' | h'
    · exact h'
    · rw [List.getElem?_eq_none (by simpa using h')] at hj; simp at hj
  have hadd : (⟨b, o, none⟩ : Addr).add j = ⟨b, o + j, none⟩ := by unfold Addr.add; split <;> simp_all
  rw [hadd, h.cell hb, hc j hlt, ← hj]
  simp [List.getD, hlt]

set_option maxRecDepth 100000 in
theorem bursts_walk (aa : Option Addr) (la ca : Nat) (xs : List Nat) (a turn : Nat) (w : World) (ha : BytesAt w (.slice aa la ca) xs) (ea : xs.length = la) (ma : ∀ x ∈ xs, x < 256) (na : la ≤ 140737488351232)
    (h1 : a < 8 * la) (ht : turn < 4294967296) :
    Calls Try.prog 6 #[.slice aa la ca, .int .i64 (a : Int), .int .u32 (turn : Int)] w fun e w' => e = .returned (.bool true) ∧ Below w.heap.size w w' := by
  have hz := zeroA
  obtain ⟨b, o, rfl, hbw, hcell⟩ := bytes_addr ha ea (by omega)
  have h1' : (a : Int) < 8 * (la : Int) := by omega
  obtain ⟨i5, hi5, hz5, hs5, hb5⟩ := info5
  have HI : Hid (Try.prog.info? 5 = some i5) := hi5
  have HZ : Hid (i5.zero = some (.int .u8 0)) := hz5
  have HS5 : Hid (i5.size = 1) := hs5
  have HB5 : Hid (i5.bytes = 1) := hb5
  have HA : Hid (BytesAt w (.slice (some ⟨b, o, none⟩) la ca) xs) := ha
  have EA : Hid (xs.length = la) := ea
  have MA : Hid (∀ x ∈ xs, x < 256) := ma
  obtain ⟨CS, hCS⟩ : ∃ CS, CS = xs.map fun x => Value.int .u8 ((x : Nat) : Int) := ⟨_, rfl⟩
  have HL : Hid (CS.length = la * 1) := by rw [hCS]; simp [Hid]; exact ea
  have HN : Hid (∀ j u, CS[j]? = some u → (w.alloc (.cells #[] 5)).cell? ((⟨b, o, none⟩ : Addr).add j) = some u) := by
    rw [hCS]; exact bytes_src ((Below.refl _ w).alloc (Nat.le_refl _) _) hbw (by rw [ea]; exact hcell)
  have HO : Hid (∀ u ∈ CS, u.oneCell' = true) := by rw [hCS]; exact bytes_one xs
  have HC : Hid (CS = xs.map fun x => Value.int .u8 ((x : Nat) : Int)) := hCS
  clear ha ea ma hcell hi5 hz5 hs5 hb5 hCS
  go_enter Try.func6, Try.ntmps6
  go_wp2_with (at_builtin; refine wpList_append_own _ rfl (.tmp 22) (.tmp 23) 29 rfl w.heap.size 5 i5 (.int .u8 0) 1 1 Try.underlying29 HI.out HZ.out HS5.out HB5.out rfl (by decide) _ 0 [] rfl (own_empty w) ⟨b, o, none⟩ la ca CS rfl HL.out HN.out HO.out (by unfold maxLen; omega) (by omega) (by simp) ?_; intro v1 w0 hown1 hgrow1 hnil1)
  have hB : Below w.heap.size w w0 := ((Below.refl _ w).alloc (Nat.le_refl _) _).grown hgrow1 (by simp) (fun k hk => by have := Option.some.inj (show some w.heap.size = some k from hk); omega)
  rw [List.nil_append, Nat.zero_add, HC.out, ← EA.out] at hown1
  obtain ⟨g, cap, rfl, hg, hgs, hrow⟩ := inRow_of_owns hown1 (by rw [EA.out]; omega)
  have B0 : Hid (Below w.heap.size w w0) := hB
  have R0 : Hid (InRow w0 g xs) := hrow
  have HG : Hid (w.heap.size ≤ g) := hg
  rw [EA.out]
  clear hown1 hgrow1 hnil1 hB hrow hg hgs
  go_wp2_with fail
  go_loopg [25, 8] 32 (fun gk s25 s8 wx => ∃ (i W : Nat) (X : List Nat) (tu : Bool), i + gk = 32 ∧ s25 = .int .i64 i ∧ s8 = .bool tu ∧ (tu = true ↔ W ≠ 0) ∧ Bu xs a i W X ∧ InRow wx g X ∧ Below w.heap.size w wx)
  case atStart => exact ⟨0, 0, xs, false, by omega, rfl, rfl, by simp, Bu.start a MA.out, R0.out, B0.out⟩
  case round =>
    obtain ⟨i, W, X, tu, hig, rfl, rfl, htu, hbu, hrow, hbel⟩ := hrel
    have BU : Hid (Bu xs a i W X) := hbu
    have RO : Hid (InRow wr g X) := hrow
    have BE : Hid (Below w.heap.size w wr) := hbel
    have TU : Hid (tu = true ↔ W ≠ 0) := htu
    clear hbu hrow hbel htu
    cases gk with
    | zero =>
      obtain rfl : i = 32 := by omega
      have OX : Hid (Ok wr (.slice (some ⟨g, 0, none⟩) la cap) X) := by
        have h := RO.out.bytes (c := cap)
        have e : X.length = la := by rw [BU.out.len]; exact EA.out
        rw [e] at h
        exact ⟨h, BU.out.mem, by omega⟩
      have OA : Hid (Ok wr (.slice (some ⟨b, o, none⟩) la ca) xs) := ⟨bytes_keep BE.out HA.out (Nat.le_refl _), MA.out, by have := EA.out; omega⟩
      obtain ⟨A, hA⟩ : ∃ A, A = mr 0 xs := ⟨_, rfl⟩
      obtain ⟨D, hD⟩ : ∃ D, D = mr 0 X := ⟨_, rfl⟩
      have CA : Hid (∀ bl W, TabIn W bl → Ok W (.slice (some ⟨b, o, none⟩) la ca) xs → Calls Try.prog 11 #[.pointer (some ⟨bl, 0, none⟩), .slice (some ⟨b, o, none⟩) la ca] W fun e w' => e = .returned (.int .u32 (A : Int)) ∧ w' = W) := fun bl W q1 q2 => by rw [hA]; exact sum_ok bl _ xs W q1 q2
      have CX : Hid (∀ bl W, TabIn W bl → Ok W (.slice (some ⟨g, 0, none⟩) la cap) X → Calls Try.prog 11 #[.pointer (some ⟨bl, 0, none⟩), .slice (some ⟨g, 0, none⟩) la cap] W fun e w' => e = .returned (.int .u32 (D : Int)) ∧ w' = W) := fun bl W q1 q2 => by rw [hD]; exact sum_ok bl _ X W q1 q2
      have hne : tu = true → D ≠ A := fun h => by
        rw [hA, hD]
        exact BU.out.other MA.out (TU.out.1 h) (by have := EA.out; omega)
      clear hA hD HI HZ HS5 HB5 HL HN HO HC
      cases tu with
      | false =>
        go_wp2_with (first
          | (go_at_call 8; refine (make_b _).mono ?_; rintro e w1 ⟨rfl, b1⟩; have B1 : Hid (Below wr.heap.size wr w1) := b1; clear b1)
          | (refine wpList_store_row rfl 24 (.tmp 11) (.tmp 54) rfl _ (tabA 256) (by rfl) (by rfl) (tabA 0) 24 (heap_new _ _) infoT (by rw [tabA_size, tabA_size]) (tabA_one _) _ (World.setRow_alloc_new _ _ _ _) ?_)
          | (go_at_call 9; refine (alive_c _).mono ?_; rintro e w2 ⟨rfl, b2⟩; have B3 : Hid (Below wr.heap.size wr w2) := (B1.out.alloc B1.out.size _).trans (b2.mono (by have := B1.out.size; simp; omega)); clear b2))
        go_ret
        exact ⟨rfl, BE.out.trans (B3.out.mono BE.out.size)⟩
      | true =>
        have hne1 : ((D : Int) != (A : Int)) = true := by
          have := hne rfl
          simp
          omega
        have hne2 : ¬ ((D : Int) = (A : Int)) := by have := hne rfl; omega
        clear hne
        go_wp2_with (first
          | (go_at_call 8; refine (make_b _).mono ?_; rintro e w1 ⟨rfl, b1⟩; have B1 : Hid (Below wr.heap.size wr w1) := b1; clear b1)
          | (refine wpList_store_row rfl 24 (.tmp 11) (.tmp 54) rfl _ (tabA 256) (by rfl) (by rfl) (tabA 0) 24 (heap_new _ _) infoT (by rw [tabA_size, tabA_size]) (tabA_one _) _ (World.setRow_alloc_new _ _ _ _) ?_)
          | (go_at_call 9; refine (alive_c _).mono ?_; rintro e w2 ⟨rfl, b2⟩; have T2 : Hid (TabIn w2 w1.heap.size) := tab_below b2 (by simp) (tab_new w1 24); have B3 : Hid (Below wr.heap.size wr w2) := (B1.out.alloc B1.out.size _).trans (b2.mono (by have := B1.out.size; simp; omega)); have ZA : Hid (Ok w2 (.slice (some ⟨b, o, none⟩) la ca) xs) := ⟨bytes_keep B3.out OA.out.1 (Nat.le_refl _), OA.out.2⟩; have ZX : Hid (Ok w2 (.slice (some ⟨g, 0, none⟩) la cap) X) := ⟨bytes_keep B3.out OX.out.1 (Nat.le_refl _), OX.out.2⟩; clear b2)
          | (go_at_call 11; first
            | (go_fit (CX.out _ _ T2.out ZX.out); rintro e w4 ⟨rfl, hw4⟩; obtain rfl : w2 = w4 := hw4.symm)
            | (go_fit (CA.out _ _ T2.out ZA.out); rintro e w4 ⟨rfl, hw4⟩; obtain rfl : w2 = w4 := hw4.symm)))
        go_ret
        exact ⟨rfl, BE.out.trans (B3.out.mono BE.out.size)⟩
    | succ gk =>
      have hi : (i : Int) < 32 := by omega
      obtain ⟨B, hBd⟩ : ∃ B, B = turn / 2 ^ i % 2 := ⟨_, rfl⟩
      have hBb : bits .and .u32 ((turn : Int) / 2 ^ i) 1 = (B : Int) := by
        have hlt : turn / 2 ^ i < 4294967296 := Nat.lt_of_le_of_lt (Nat.div_le_self _ _) ht
        have := and32_one (turn / 2 ^ i) hlt
        rw [hBd]
        push_cast at this ⊢
        exact this
      have hB01 : B = 0 ∨ B = 1 := by rw [hBd]; omega
      clear hBd
      rcases hB01 with rfl | rfl
      · go_wp2_with fail
        go_roundg gk
        case measure => omega
        case rel => exact ⟨i + 1, W, X, tu, by omega, by go_num, rfl, TU.out, BU.out.skip, RO.out, BE.out⟩
      · by_cases hlt : a + i < 8 * la
        · have hlt' : (a : Int) + (i : Int) < 8 * (la : Int) := by omega
          obtain ⟨p, hp⟩ : ∃ p, p = (a + i) / 8 := ⟨_, rfl⟩
          obtain ⟨r, hr⟩ : ∃ r, r = (a + i) % 8 := ⟨_, rfl⟩
          have hpl : p < X.length := by have := EA.out; have := BU.out.len; omega
          have cx := RO.out.cell hpl
          have fx := RO.out.free p
          have hxl := getD_mem_lt BU.out.mem hpl
          have TL : Hid (X.set p (tb (X.getD p 0) (a + i)) = tl X (a + i)) := by rw [hp]; rfl
          have hxy := xor8 (X.getD p 0) (2 ^ r) hxl (by rw [hr]; exact pow8_lt _)
          have htb : X.getD p 0 ^^^ 2 ^ r = tb (X.getD p 0) (a + i) := by rw [hr]; rfl
          rw [htb] at hxy
          have hy8 : 2 ^ r < 256 := by rw [hr]; exact pow8_lt _
          have hpc : ((2 ^ r : Nat) : Int) = (2 : Int) ^ r := by simp
          have hq1 : IntKind.i64.wrap (((a : Int) + (i : Int)).tdiv 8) = (p : Int) := by
            rw [Int.tdiv_eq_ediv_of_nonneg (by omega), IntKind.wrap_i64]; omega
          have hr1 : ((a : Int) + (i : Int)).tmod 8 = (r : Int) := by
            rw [Int.tmod_eq_emod_of_nonneg (by omega)]; omega
          have hpl2 : (p : Int) < (la : Int) := by omega
          generalize X.getD p 0 = x at cx hxy TL hxl htb
          generalize tb x (a + i) = x' at hxy TL htb
          have hs2 : IntKind.u8.wrap (2 ^ r) = (2 : Int) ^ r := by
            rw [← hpc, wrap8]
            generalize 2 ^ r = Y at hy8
            omega
          rw [hpc] at hxy
          have hr8 : (r : Int) < 8 := by omega
          have PX : Hid (p < X.length) := hpl
          clear hpc htb hxl hy8 hp hr hpl
          go_upto_region 10 with fail
          go_cut [] (fun wx => InRow wx g (tl X (a + i)) ∧ Below w.heap.size w wx)
          case first =>
            clear hz h1' HI HZ HS5 HB5 HA HL HN HO HC hbw
            go_region_with (fail)
            all_goals (go_wp2_with fail)
            all_goals go_meet
            all_goals exact ⟨by rw [← TL.out]; exact RO.out.set PX.out x', (BE.out.setCell HG.out _).drew⟩
          case rest =>
            obtain ⟨hc1, hc2⟩ := hcut
            have RO2 : Hid (InRow _ g (tl X (a + i))) := hc1
            have BE2 : Hid (Below w.heap.size w _) := hc2
            have hturn := BU.out.turn (show (a + i) / 8 < xs.length by have := EA.out; omega)
            have HTN : Hid (Bu xs a (i + 1) (W ^^^ 2 ^ i) (tl X (a + i)) ∧ (W ^^^ 2 ^ i) ≠ 0) := hturn
            clear hc1 hc2 hturn
            go_wp2
            go_roundg gk
            case measure => omega
            case rel => exact ⟨i + 1, W ^^^ 2 ^ i, tl X (a + i), true, by omega, by go_num, rfl, by simp [HTN.out.2], HTN.out.1, RO2.out, BE2.out⟩
        · have hlt' : ¬ ((a : Int) + (i : Int) < 8 * (la : Int)) := by omega
          go_wp2_with fail
          go_roundg gk
          case measure => omega
          case rel => exact ⟨i + 1, W, X, tu, by omega, by go_num, rfl, TU.out, BU.out.skip, RO.out, BE.out⟩
end Go.Proofs.Ytddhegohecajcaa
