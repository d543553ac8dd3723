/- What tokens tell: the reference's Tell; bytes as texts. -/
import Derived.Test.YtofcpnehnpopaaaMTell
import Derived.Test.YtofcpnehnpopaaaMSlot
namespace Go.Proofs.Ytofcpnehnpopaaa
set_option maxRecDepth 100000
open Go Go.RowKit

set_option maxHeartbeats 8000000 in
theorem qtell_c (a : Option Addr) (cap : Nat) (xs : List Tk) (w : World) (h : Toks w a xs) (hl : xs.length ≤ 1000000) (hr : Rt xs) :
    Calls Try.prog 13 #[.slice a xs.length cap] w fun e w' => ∃ o oc, e = .returned (.slice o (tel xs).length oc) ∧ TSt w w' (.slice o (tel xs).length oc) (tel xs) := by
  have HT := hide h
  have HRT := hide hr
  clear hr h
  go_enter Try.func13, Try.ntmps13
  go_wp2_with fail
  go_loopg [3, 4, 5] xs.length (fun gk v3 v4 v5 wx => ∃ (i : Nat) (o : Option Addr) (oc : Nat), i + gk = xs.length ∧ v3 = .slice o (tel (xs.take i)).length oc ∧ v4 = .int .i64 i ∧ Hid (TSt w wx (.slice o (tel (xs.take i)).length oc) (tel (xs.take i))))
  case atStart => exact ⟨0, none, 0, by omega, rfl, rfl, OwnsB.nil _ _, Below.refl _ _⟩
  case round =>
    obtain ⟨i, o, oc, hig, rfl, rfl, HS⟩ := hrel
    cases gk with
    | zero =>
      obtain rfl : i = xs.length := by omega
      rw [List.take_length] at HS ⊢
      go_wp2_with fail
      go_ret
      exact ⟨o, oc, rfl, HS.out⟩
    | succ g1 =>
      have hlt : (i : Int) < (xs.length : Int) := by omega
      obtain ⟨b, off, rfl, hbl, c0, c1, c2⟩ := HT.out.three HS.out.2 (i := i) (by omega)
      obtain ⟨t, ht⟩ : ∃ t, tk xs i = t := ⟨_, rfl⟩
      have HTK := hide ht
      have hok := HRT.out i (by omega)
      have hsum := RtTo.sum (i := i) (fun j hj => HRT.out j (by omega)) (by omega)
      have hlen := tel_to (i := i) (fun j hj => HRT.out j (by omega)) (by omega)
      rw [← hlen] at hsum hok
      have HN : Hid (tel (xs.take (i + 1)) = tel1 (tel (xs.take i)) t) := by rw [tk_take_snoc (by omega), tel_snoc, ht]; exact rfl
      rw [ht] at c0 c1 c2 hok
      obtain ⟨Bb, L, K⟩ := t
      simp only at c0 c1 c2
      obtain ⟨out, hout⟩ : ∃ out, tel (xs.take i) = out := ⟨_, rfl⟩
      rw [hout] at hsum hok HN HS ⊢
      have hol : out.length ≤ 258000000 := by omega
      have hsz := HS.out.2.size
      clear hlen hout ht hsum
      by_cases hL0 : L = 0
      case pos =>
        subst hL0
        have HN1 : Hid (tel (xs.take (i + 1)) = out ++ [Bb]) := hide (by rw [HN.out]; simp [tel1])
        clear HN hok
        go_wp2_with (at_builtin; refine wpList_pushB _ rfl _ _ rfl w.heap.size _ out rfl (HS.out.alloc (.cells #[.int .u8 Bb] 5)).1 Bb _ rfl (one_byte _ _ _ (by simp)) (by omega) (by simp; omega) ?_; intro o7 c7 w7 h7 g7; have HP := hide ((HS.out.alloc (.cells #[.int .u8 Bb] 5)).push h7 g7); clear h7 g7 c0 c1 c2)
        go_loopg [3, 5] 1 (fun g2 v3 v5 wx => v3 = .slice o7 (out.length + 1) c7 ∧ v5 = .int .i64 0 ∧ wx = w7)
        case atStart => exact ⟨rfl, rfl, rfl⟩
        case round =>
          obtain ⟨rfl, rfl, rfl⟩ := hrel
          obtain ⟨b', off', hab, hbl', d0, d1, d2⟩ := HT.out.three HP.out.2 (i := i) (by omega)
          rw [HTK.out] at d1
          simp at hab
          obtain ⟨rfl, rfl⟩ := hab
          simp only at d1
          clear d0 d2
          go_wp2_with fail
          go_roundg g1
          case measure => omega
          case rel => exact ⟨i + 1, o7, c7, by omega, by rw [HN1.out, List.length_append, List.length_singleton], by go_num, by rw [HN1.out, List.length_append, List.length_singleton]; exact HP.out⟩
      obtain ⟨q0, q1, q2, q3, q4, q5⟩ : Bb = 0 ∧ 3 ≤ L ∧ L ≤ 258 ∧ 1 ≤ K ∧ K ≤ 32768 ∧ K ≤ (out.length : Int) := by
        rcases hok with h' | h'
        · exact absurd h'.1 hL0
        · exact h'
      subst q0
      obtain ⟨n, rfl⟩ : ∃ n : Nat, L = n := ⟨L.toNat, by omega⟩
      obtain ⟨d, rfl⟩ : ∃ d : Nat, K = d := ⟨K.toNat, by omega⟩
      have HN1 : Hid (tel (xs.take (i + 1)) = cpy out d n) := by
        rw [HN.out]
        unfold tel1
        rw [if_neg (by simp only; omega)]
        exact rfl
      have hn0 : ((n : Int) == 0) = false := by simpa using hL0
      clear HN hok c0 c2
      go_wp2_with fail
      clear c1
      go_loopg [3, 5] n (fun g2 v3 v5 wx => ∃ (j : Nat) (o : Option Addr) (oc : Nat), j + g2 = n ∧ v3 = .slice o (cpy out d j).length oc ∧ v5 = .int .i64 j ∧ Hid (TSt w wx (.slice o (cpy out d j).length oc) (cpy out d j)))
      case atStart => exact ⟨0, o, oc, by omega, rfl, rfl, HS.out⟩
      case round =>
        obtain ⟨j, o, oc, hjg, rfl, rfl, HJ⟩ := hrel
        obtain ⟨b', off', hab, hbl', d0, d1, d2⟩ := HT.out.three HJ.out.2 (i := i) (by omega)
        rw [HTK.out] at d1 d2
        simp at hab
        obtain ⟨rfl, rfl⟩ := hab
        simp only at d1 d2
        clear HS d0
        cases gk with
        | zero =>
          obtain rfl : j = n := by omega
          clear d2
          go_wp2_with fail
          go_roundg g1
          case measure => omega
          case rel => exact ⟨i + 1, o, oc, by omega, by rw [HN1.out], by go_num, by rw [HN1.out]; exact HJ.out⟩
        | succ g3 =>
          have hltn : (j : Int) < (n : Int) := by omega
          obtain ⟨F, hF⟩ : ∃ F, cpy out d j = F := ⟨_, rfl⟩
          have hFl : F.length = out.length + j := by rw [← hF, cpy_length]
          have hFl1 : F.length ≤ 259000000 := by omega
          have HFS : Hid (cpy out d (j + 1) = F ++ [ln F (F.length - d)]) := by rw [cpy_succ, hF]; exact rfl
          rw [hF] at HJ ⊢
          obtain ⟨k, hk⟩ : ∃ k, F.length - d = k := ⟨_, rfl⟩
          rw [hk] at HFS
          have hki : (F.length : Int) - (d : Int) = (k : Int) := by omega
          have hkl : (k : Int) < (F.length : Int) := by omega
          obtain ⟨gb, rfl, hgl, hcg⟩ := HJ.out.1.at_ (j := k) (by omega)
          have hsz2 := HJ.out.2.size
          generalize ln F k = X at hcg HFS
          clear hF hk hFl
          go_wp2_with (at_builtin; refine wpList_pushB _ rfl _ _ rfl w.heap.size _ F rfl (HJ.out.alloc (.cells #[.int .u8 X] 5)).1 X _ rfl (one_byte _ _ _ (by simp)) (by omega) (by simp; omega) ?_; intro o7 c7 w7 h7 g7; have HP := hide ((HJ.out.alloc (.cells #[.int .u8 X] 5)).push h7 g7); clear h7 g7)
          go_roundg g3
          case measure => omega
          case rel => exact ⟨j + 1, o7, c7, by omega, by rw [HFS.out, List.length_append, List.length_singleton], by go_num, by rw [HFS.out, List.length_append, List.length_singleton]; exact HP.out⟩

theorem conv_own {w : World} {base : Nat} {v : Value} {D : List Int} (h : OwnsB w base v D) : (convert 24 9 v).run Try.prog w = .ok (.string (strOfNums D)) w := by
  rcases h.2 with ⟨rfl, h2⟩ | ⟨g, cap, cur, rfl, hg, hh, hr⟩
  · have : D = [] := List.eq_nil_of_length_eq_zero h2
    subst this
    exact run_convert_bytes_nil w 24 5 Try.underlying24 Try.underlying5 0 0 9 Try.underlying9
  · refine run_convert_bytes_arg w 24 5 Try.underlying24 Try.underlying5 g 0 D.length cap D rfl (fun i hi => ?_) 9 Try.underlying9
    have := World.ownsRow.cellAt h i (by omega)
    rw [Nat.zero_add, this]
    simp [List.getD, hi]
theorem conv_bys {w : World} {a : Option Addr} {cap : Nat} {zs : List Int} (h : Bys w a zs) : (convert 24 9 (.slice a zs.length cap)).run Try.prog w = .ok (.string (strOfNums zs)) w := by
  rcases h.at_ with h3 | ⟨b, off, _, rfl, hc⟩
  · have hz : zs = [] := List.eq_nil_of_length_eq_zero h3
    subst hz
    show (convert 24 9 (.slice a 0 cap)).run Try.prog w = _
    cases a with
    | none => exact run_convert_bytes_nil w 24 5 Try.underlying24 Try.underlying5 0 cap 9 Try.underlying9
    | some ad =>
      rw [run_convert_bytes_string w 24 9 5 _ 0 cap Try.underlying24 Try.underlying5 Try.underlying9, run_bytesToString w ad 0 cap [] (by simpa using run_loadCells_list (P := Try.prog) w ad [] (by simp))]
      rfl
  · exact run_convert_bytes_arg w 24 5 Try.underlying24 Try.underlying5 b off zs.length cap zs rfl (fun i hi => by rw [hc i hi]; simp [ln]) 9 Try.underlying9
end Go.Proofs.Ytofcpnehnpopaaa
