/- The library's merge of two runs over given functions. -/
import Derived.Test.YtlfffpgokemjbaaSSy2
import Derived.Deep.DeepCutAuto
import Derived.Deep.RegionWith
namespace Go.Proofs.Ytlfffpgokemjbaa.O
set_option maxRecDepth 100000
open Go Go.RowKit
open Go.Proofs.Ytlfffpgokemjbaa.U (hide)
set_option linter.unusedVariables false
variable {g : Nat} {lb : Array Value} {sf : Nat} {sb : Array Value} {blk n : Nat} {k : Int → Int} {R : List Int → World → Prop}
/-- A row turned and kept besides. -/
def RotOk (g : Nat) (lb : Array Value) (sf : Nat) (sb : Array Value) (blk : Nat) (R : List Int → World → Prop) (B a b s m e : Nat) (d : List Int) (w w' : World) : Prop :=
  ∃ f, Rot d f s m e ∧ Stir a b d f ∧ Gone g lb sf sb blk R B w f w'
set_option maxHeartbeats 4000000 in
set_option maxRecDepth 100000 in
theorem sym_any (L : LS g lb sf sb blk n k R) (hn : n ≤ 1000000000) (fuel : Nat) : ∀ (a m b : Nat) (d : List Int) (w : World), b - a ≤ fuel → R d w → a < m → m < b → b ≤ n → Srt k d a m → Srt k d m b →
    Calls Try.prog 70 #[.agg #[.func (.func g) #[] lb, .func (.func sf) #[] sb], .int .i64 a, .int .i64 m, .int .i64 b] w fun e w' =>
      e = .returned (.tuple #[]) ∧ MgOk blk R k a b d w w' := by
  induction fuel with
  | zero => intro a m b d w hf _ h1 h2; omega
  | succ fuel ih =>
    intro a m b d w hf h ham hmb hb hs1 hs2
    by_cases hm1 : m = a + 1
    · exact sym_left L a b d w h (by omega) hb hn (hm1 ▸ hs2) m hm1
    by_cases hm2 : b = m + 1
    · exact sym_right L a m b d w h (by omega) hm2 hb hn hs1
    have HL := hide L
    have eg := L.eg
    have hbn : w.heap.size ≠ blk := by have := L.lt h; omega
    have HB := hide hbn
    have HN := hide (L.len h)
    have G0 := hide (Gone.start L h 65)
    have HS : Hid (Srt k d a m ∧ Srt k d m b) := ⟨hs1, hs2⟩
    have IH := hide ih
    clear h L hbn hs1 hs2 ih
    have haI : (a : Int) ≤ 1000000000 := by omega
    have hbI : (b : Int) ≤ 1000000000 := by omega
    have hmI : (m : Int) ≤ 1000000000 := by omega
    have hb0 : ((m : Int) - (a : Int) == 1) = false := by simp; omega
    have hb1 : ((b : Int) - (m : Int) == 1) = false := by simp; omega
    have hz0 : ¬ (m : Int) - (a : Int) = 1 := by omega
    have hz1 : ¬ (b : Int) - (m : Int) = 1 := by omega
    obtain ⟨M, hM⟩ : ∃ M : Nat, ((a : Int) + (b : Int)) / 2 = (M : Int) := ⟨(a + b) / 2, by omega⟩
    have HMM : Hid (M = (a + b) / 2) := (show M = (a + b) / 2 by omega)
    have hM1 : a < M := by omega
    have hM2 : M < b := by omega
    have hM3 : 2 * M ≤ a + b := by omega
    have hM4 : a + b ≤ 2 * M + 1 := by omega
    go_enter Try.func70, Try.ntmps70
    go_upto_if 106 with fail
    clear hb0 hb1 hz0 hz1 hM
    go_cut [18, 19] (fun v20 v21 wx => ∃ lo hi : Nat, v20 = .int .i64 lo ∧ v21 = .int .i64 hi ∧ Hid (Gone g lb sf sb blk R w.heap.size w d wx) ∧ ((m > M ∧ lo + b = M + m ∧ hi = M) ∨ (m ≤ M ∧ lo = a ∧ hi = m)))
    case first =>
      as_aux_lemma =>
        by_cases hc : M < m
        · have hc' : (M : Int) < (m : Int) := by omega
          go_wp2_with fail
          go_meet
          case rel => exact ⟨M + m - b, M, by go_num, rfl, G0, .inl ⟨by omega, by omega, rfl⟩⟩
        · have hc' : ¬ (M : Int) < (m : Int) := by omega
          go_wp2_with fail
          go_meet
          case rel => exact ⟨a, m, rfl, rfl, G0, .inr ⟨by omega, rfl, rfl⟩⟩
    case rest =>
      as_aux_lemma =>
        obtain ⟨lo, hi, rfl, rfl, G1, hlh⟩ := hcut
        have hl1 : a ≤ lo := by omega
        have hl2 : lo ≤ hi := by omega
        have hl3 : hi ≤ M := by omega
        have hl4 : hi ≤ m := by omega
        have hl5 : M + m ≤ b + lo := by omega
        have HLH := hide hlh
        clear hlh G0
        go_wp2_with fail
        go_loopg [18, 19] (hi - lo) (fun gk v20 v21 wx => ∃ (s r : Nat), v20 = .int .i64 s ∧ v21 = .int .i64 r ∧ r - s ≤ gk ∧ lo ≤ s ∧ s ≤ r ∧ r ≤ hi ∧ Hid ((lo < s → k (ln d (s - 1)) ≤ k (ln d (M + m - s))) ∧ (r < hi → k (ln d (M + m - 1 - r)) < k (ln d r)) ∧ Gone g lb sf sb blk R w.heap.size w d wx))
        case atStart => exact ⟨lo, hi, rfl, rfl, Nat.le_refl _, Nat.le_refl _, hl2, Nat.le_refl _, fun h => by omega, fun h => by omega, G1.out⟩
        case round =>
          clear G1
          obtain ⟨s, r, rfl, rfl, hsr, hls, hle, hrh, HI⟩ := hrel
          obtain ⟨hc0, hc1⟩ := HI.out.2.2.2.2
          by_cases hlt : s < r
          · have hlt' : (s : Int) < (r : Int) := by omega
            obtain ⟨H, hH⟩ : ∃ H : Nat, ((s : Int) + (r : Int)) / 2 = (H : Int) := ⟨(s + r) / 2, by omega⟩
            have hiH : s ≤ H := by omega
            have hHj : H < r := by omega
            obtain ⟨J, hJ⟩ : ∃ J : Nat, (M : Int) + (m : Int) - 1 - (H : Int) = (J : Int) := ⟨M + m - 1 - H, by omega⟩
            have HJ : Hid (J = M + m - 1 - H) := (show J = M + m - 1 - H by omega)
            have hsI : (s : Int) ≤ 1000000000 := by omega
            have hrI : (r : Int) ≤ 1000000000 := by omega
            by_cases hlv : k (ln d J) < k (ln d H)
            · have hc := hide (HL.out.yes HI.out.2.2.1 (i := J) (j := H) (by omega) (by omega) hlv)
              have HLV := hide hlv
              clear hlv
              go_wp2_with (go_at_fn g; refine hc.out.mono ?_; rintro e w' ⟨rfl, q, rfl⟩)
              go_roundg (H - s)
              case measure => omega
              case rel =>
                obtain ⟨h1, h2, h3⟩ := HI.out
                refine ⟨s, H, rfl, by go_num, Nat.le_refl _, hls, hiH, by omega, h1, fun _ => ?_, h3.drewN HL.out _⟩
                have := HLV.out
                rw [HJ.out] at this
                exact this
            · have hc := hide (HL.out.no HI.out.2.2.1 (i := J) (j := H) (by omega) (by omega) hlv)
              have HLV := hide (Int.not_lt.1 hlv)
              clear hlv
              go_wp2_with (go_at_fn g; refine hc.out.mono ?_; rintro e w' ⟨rfl, q, rfl⟩)
              go_roundg (r - (H + 1))
              case measure => omega
              case rel =>
                obtain ⟨h1, h2, h3⟩ := HI.out
                refine ⟨H + 1, r, by go_num, rfl, Nat.le_refl _, by omega, by omega, hrh, fun _ => ?_, h2, h3.drewN HL.out _⟩
                have := HLV.out
                rw [HJ.out, show M + m - 1 - H = M + m - (H + 1) by omega] at this
                exact this
          · obtain rfl : s = r := by omega
            have hlt' : ¬ (s : Int) < (s : Int) := by omega
            clear hsr hlt
            obtain ⟨E, hE⟩ : ∃ E : Nat, (M : Int) + (m : Int) - (s : Int) = (E : Int) := ⟨M + m - s, by omega⟩
            have HE : Hid (E = M + m - s) := (show E = M + m - s by omega)
            have HCut : Hid (Cutp k d m M lo hi s) := ⟨hls, hrh, HI.out.1, HI.out.2.1⟩
            have HW := hide HI.out.2.2
            have hE1 : m ≤ E := by omega
            have hE2 : E ≤ b := by omega
            have hE3 : M ≤ E := by omega
            have hs1 : s ≤ m := by omega
            have hs2 : s ≤ M := by omega
            have hs3 : a ≤ s := by omega
            clear hc0 hc1
            go_upto_region 40 with fail
            go_cut [145] (fun v wx => ∃ β : Bool, v = .bool β ∧ Hid (β = true ↔ (s < m ∧ m < E)) ∧ Hid (Gone g lb sf sb blk R w.heap.size w d wx))
            case first =>
              as_aux_lemma =>
                by_cases hc1 : s < m
                · have hc1' : (s : Int) < (m : Int) := by omega
                  have hd1 : decide ((s : Int) < (m : Int)) = true := by simp; omega
                  by_cases hc2 : m < E
                  · have hc2' : (m : Int) < (E : Int) := by omega
                    have hd2 : decide ((m : Int) < (E : Int)) = true := by simp; omega
                    go_wp2_with fail
                    go_meet
                    case rel => exact ⟨true, rfl, ⟨fun _ => ⟨hc1, hc2⟩, fun _ => rfl⟩, HW⟩
                  · have hc2' : ¬ (m : Int) < (E : Int) := by omega
                    have hd2 : decide ((m : Int) < (E : Int)) = false := by simp; omega
                    go_wp2_with fail
                    go_meet
                    case rel => exact ⟨false, rfl, ⟨fun h => (by cases h), fun h => absurd h.2 hc2⟩, HW⟩
                · have hc1' : ¬ (s : Int) < (m : Int) := by omega
                  have hd1 : decide ((s : Int) < (m : Int)) = false := by simp; omega
                  go_wp2_with fail
                  go_meet
                  case rel => exact ⟨false, rfl, ⟨fun h => (by cases h), fun h => absurd h.1 hc1⟩, HW⟩
            case rest =>
              as_aux_lemma =>
                clear hE HW
                obtain ⟨β, rfl, HB1, HW⟩ := hcut
                obtain ⟨hc0, hc1⟩ := HW.out.2.2
                go_upto_if 145 with fail
                go_cut [] (fun wx => RotOk g lb sf sb blk R w.heap.size a b s m E d w wx)
                case first =>
                  as_aux_lemma =>
                    cases β with
                    | true =>
                      obtain ⟨hq1, hq2⟩ := HB1.out.1 rfl
                      have hrot := hide (rotate_c HL.out s m E d _ HW.out.1 hq1 hq2 (by omega) hn)
                      go_wp2_with (go_at_call 75; refine hrot.out.mono ?_; rintro e w1 ⟨rfl, K⟩; have HK := hide K; clear K)
                      go_meet
                      case rel =>
                        obtain ⟨f, r1, r2, r3, r4⟩ := HK.out
                        exact ⟨f, r1, r2.wide hs3 hE2, HW.out.more HB.out r3 r4⟩
                    | false =>
                      have hno : m ≤ s ∨ E ≤ m := Classical.byContradiction fun h => by have := HB1.out.2 (by omega); cases this
                      have HNO := hide hno
                      clear hno
                      go_wp2_with fail
                      go_meet
                      case rel => exact ⟨d, Rot.none d hs1 hE1 (by have hno : m ≤ s ∨ E ≤ m := HNO.out; omega), Stir.refl _ _ _, HW.out⟩
                case rest =>
                  as_aux_lemma =>
                    clear hc0 hc1
                    obtain ⟨f, r1, r2, r3⟩ := hcut
                    have hparts := merge_parts (k := k) (d := d) (f := f) (a := a) (m := m) (b := b) (mid := M) (lo := lo) (hi := hi) (s := s) (by omega) (by omega) HMM.out (by have := HLH.out; omega) HCut.out HS.out.1 HS.out.2 (by rw [← HE.out]; exact r1)
                    rw [← HE.out] at hparts
                    obtain ⟨_, _, _, _, _, _, p1, p2, p3, p4, p5⟩ := hparts
                    have HF : Hid (Srt k f a s ∧ Srt k f s M ∧ Srt k f M E ∧ Srt k f E b ∧ (∀ i j, a ≤ i → i < M → M ≤ j → j < b → k (ln f i) ≤ k (ln f j))) := ⟨p1, p2, p3, p4, p5⟩
                    have hstr := rot_strict (k := k) (d := d) (a := a) (m := m) (b := b) (mid := M) (lo := lo) (hi := hi) (s := s) HMM.out (by have := HLH.out; omega) HCut.out HS.out.1 HS.out.2
                    rw [← HE.out] at hstr
                    have HF2 : Hid (Stirk k a b d f ∧ Gone g lb sf sb blk R w.heap.size w f wc) := ⟨⟨r2, fun h => h.rot r1 hs1 hE1 (by have := HN.out; omega) hstr⟩, r3⟩
                    clear hstr
                    have HFL : Hid (f.length = d.length) := r1.len
                    clear p1 p2 p3 p4 p5 r1 r2 r3 HW
                    go_upto_region 42 with fail
                    go_cut [158] (fun v wx => ∃ β : Bool, v = .bool β ∧ Hid (β = true ↔ (a < s ∧ s < M)) ∧ Hid (Stirk k a b d f ∧ Gone g lb sf sb blk R w.heap.size w f wx))
                    case first =>
                      as_aux_lemma =>
                        by_cases hc1 : a < s
                        · have hc1' : (a : Int) < (s : Int) := by omega
                          have hd1 : decide ((a : Int) < (s : Int)) = true := by simp; omega
                          by_cases hc2 : s < M
                          · have hc2' : (s : Int) < (M : Int) := by omega
                            have hd2 : decide ((s : Int) < (M : Int)) = true := by simp; omega
                            go_wp2_with fail
                            go_meet
                            case rel => exact ⟨true, rfl, ⟨fun _ => ⟨hc1, hc2⟩, fun _ => rfl⟩, HF2⟩
                          · have hc2' : ¬ (s : Int) < (M : Int) := by omega
                            have hd2 : decide ((s : Int) < (M : Int)) = false := by simp; omega
                            go_wp2_with fail
                            go_meet
                            case rel => exact ⟨false, rfl, ⟨fun h => (by cases h), fun h => absurd h.2 hc2⟩, HF2⟩
                        · have hc1' : ¬ (a : Int) < (s : Int) := by omega
                          have hd1 : decide ((a : Int) < (s : Int)) = false := by simp; omega
                          go_wp2_with fail
                          go_meet
                          case rel => exact ⟨false, rfl, ⟨fun h => (by cases h), fun h => absurd h.1 hc1⟩, HF2⟩
                    case rest =>
                      as_aux_lemma =>
                        clear HF2
                        obtain ⟨γ, rfl, HB2, HF2⟩ := hcut
                        obtain ⟨hc0, hc1⟩ := HF2.out.2.2.2
                        go_upto_if 158 with fail
                        go_cut [] (fun wx => ∃ f', Stirk k a M f f' ∧ Srt k f' a M ∧ Gone g lb sf sb blk R w.heap.size w f' wx)
                        case first =>
                          as_aux_lemma =>
                            cases γ with
                            | true =>
                              obtain ⟨hq1, hq2⟩ := HB2.out.1 rfl
                              have hrec := hide (IH.out a s M f _ (by omega) HF2.out.2.1 hq1 hq2 (by omega) HF.out.1 HF.out.2.1)
                              go_wp2_with (go_at_call 70; refine hrec.out.mono ?_; rintro e w1 ⟨rfl, K⟩; have HK := hide K; clear K)
                              go_meet
                              case rel =>
                                obtain ⟨f', m1, m2, m3, m4⟩ := HK.out
                                exact ⟨f', m2, m1, HF2.out.2.more HB.out m3 m4⟩
                            | false =>
                              have hno : s ≤ a ∨ M ≤ s := Classical.byContradiction fun h => by have := HB2.out.2 (by omega); cases this
                              have HNO := hide hno
                              clear hno
                              go_wp2_with fail
                              go_meet
                              case rel =>
                                refine ⟨f, Stirk.refl _ _ _ _, ?_, HF2.out.2⟩
                                by_cases hq1 : a < s
                                · exact HF.out.1.part (Nat.le_refl _) (by have hno : s ≤ a ∨ M ≤ s := HNO.out; omega)
                                · exact HF.out.2.1.part (by omega) (Nat.le_refl _)
                        case rest =>
                          as_aux_lemma =>
                            clear hc0 hc1
                            obtain ⟨f', g1, g2, g3⟩ := hcut
                            obtain ⟨hc0, hc1⟩ := g3.2.2
                            have HG : Hid (Stirk k a M f f' ∧ Srt k f' a M ∧ Gone g lb sf sb blk R w.heap.size w f' wc) := ⟨g1, g2, g3⟩
                            have hsm : Srt k f' M E := HF.out.2.2.1.stirred g1.st (.inr (Nat.le_refl _))
                            have hsb : Srt k f' E b := HF.out.2.2.2.1.stirred g1.st (.inr hE3)
                            have hlow := low_stir HF.out.2.2.2.2 g1.st (.inl ⟨Nat.le_refl _, Nat.le_refl _⟩)
                            have HH : Hid (Srt k f' M E ∧ Srt k f' E b ∧ (∀ i j, a ≤ i → i < M → M ≤ j → j < b → k (ln f' i) ≤ k (ln f' j))) := ⟨hsm, hsb, hlow⟩
                            have HD : Hid (Stirk k a b d f') := HF2.out.1.trans (g1.wide (Nat.le_refl _) (by omega))
                            clear g1 g2 g3 hsm hsb hlow
                            by_cases hq1 : M < E
                            · have hq1' : (M : Int) < (E : Int) := by omega
                              have hd1 : decide ((M : Int) < (E : Int)) = true := by simp; omega
                              by_cases hq2 : E < b
                              · have hq2' : (E : Int) < (b : Int) := by omega
                                have hd2 : decide ((E : Int) < (b : Int)) = true := by simp; omega
                                have hrec := hide (IH.out M E b f' _ (by omega) HG.out.2.2.1 hq1 hq2 hb HH.out.1 HH.out.2.1)
                                go_wp2_with (go_at_call 70; refine hrec.out.mono ?_; rintro e w1 ⟨rfl, K⟩; have HK := hide K; clear K)
                                go_end0
                                obtain ⟨f2, m1, m2, m3, m4⟩ := HK.out
                                exact ⟨rfl, f2, (HG.out.2.1.stirred m2.st (.inl (Nat.le_refl _))).join m1 (low_stir HH.out.2.2 m2.st (.inr ⟨Nat.le_refl _, Nat.le_refl _⟩)), HD.out.trans (m2.wide (by omega) (Nat.le_refl _)), m3, HG.out.2.2.2.1.trans m4 (fun _ _ h => h)⟩
                              · have hq2' : ¬ (E : Int) < (b : Int) := by omega
                                have hd2 : decide ((E : Int) < (b : Int)) = false := by simp; omega
                                go_wp2_with fail
                                go_end0
                                exact ⟨rfl, f', HG.out.2.1.join (HH.out.1.part (Nat.le_refl _) (by omega)) HH.out.2.2, HD.out, HG.out.2.2.1, HG.out.2.2.2.1⟩
                            · have hq1' : ¬ (M : Int) < (E : Int) := by omega
                              have hd1 : decide ((M : Int) < (E : Int)) = false := by simp; omega
                              go_wp2_with fail
                              go_end0
                              exact ⟨rfl, f', HG.out.2.1.join (HH.out.2.1.part (by omega) (Nat.le_refl _)) HH.out.2.2, HD.out, HG.out.2.2.1, HG.out.2.2.2.1⟩
end Go.Proofs.Ytlfffpgokemjbaa.O
