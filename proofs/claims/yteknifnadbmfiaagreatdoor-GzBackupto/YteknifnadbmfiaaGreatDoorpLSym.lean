/- The library's merge of two runs. -/
import Derived.Test.YteknifnadbmfiaaGreatDoorpLg02LSym2
import Derived.Deep.DeepCutAuto
import Derived.Deep.RegionWith
namespace Go.Proofs.YteknifnadbmfiaaGreatDoor.L
set_option maxRecDepth 100000
open Go Go.RowKit

def RotOk (g : Nat) (sp : Array Value) (a b s m e : Nat) (d : List Int) (w w' : World) : Prop :=
 ∃ f, Rot d f s m e /\ Stir a b d f /\ Ro g sp f w' /\ Kept (fun i => i = g) w w'

set_option maxHeartbeats 2000000 in
set_option maxRecDepth 100000 in
theorem sym_any (g : Nat) (sp : Array Value) (cap : Nat) (bp : Value) (P : Int -> Prop) (k : Int -> Int) (fuel : Nat) : ∀ (a m b : Nat) (d : List Int) (w : World), b - a <= fuel -> CmpOk w g P k bp -> All P d -> Ro g sp d w -> a < m -> m < b -> b <= d.length -> d.length < 4611686018427387904 -> Srt k d a m -> Srt k d m b ->
  Calls Tryz.prog 150 #[.slice (some ⟨g, 0, none⟩) d.length cap, .int .i64 a, .int .i64 m, .int .i64 b, .func (.func 143) #[] #[bp]] w fun e w' =>
   e = .returned (.tuple #[]) /\ MgOk g sp k a b d w w' := by
 induction fuel with
 | zero => intro a m b d w hf _ _ _ h1 h2; omega
 | succ fuel ih =>
  intro a m b d w hf hC hP h ham hmb hb hl hs1 hs2
  by_cases hm1 : m = a + 1
  ·exact sym_left g sp cap a b d bp w P k hC hP h (by omega) hb hl (hm1 ▸ hs2) m hm1
  by_cases hm2 : b = m + 1
  ·exact sym_right g sp cap a m b d bp w P k hC hP h (by omega) hm2 hb hl hs1
  have HR : Hid (Ro g sp d w) := h
  have HP : Hid (All P d) := hP
  have HC : Hid (CmpOk w g P k bp) := hC
  have HS : Hid (Srt k d a m /\ Srt k d m b) := ⟨hs1, hs2⟩
  have IH := hide ih
  clear h hP hC hs1 hs2 ih
  have hb0 : ((m : Int) - (a : Int) == 1) = false := by simp; omega
  have hb1 : ((b : Int) - (m : Int) == 1) = false := by simp; omega
  have hz0 : ¬ (m : Int) - (a : Int) = 1 := by omega
  have hz1 : ¬ (b : Int) - (m : Int) = 1 := by omega
  obtain ⟨M, hM⟩ : ∃ M : Nat, ((a : Int) + (b : Int)) / 2 = (M : Int) := ⟨(a + b) / 2, by omega⟩
  have HMM : Hid (M = (a + b) / 2) := (show M = (a + b) / 2 by omega)
  have hM1 : a < M := by omega
  have hM2 : M < b := by omega
  have hM3 : 2 * M <= a + b := by omega
  have hM4 : a + b <= 2 * M + 1 := by omega
  go_enter Tryz.func150, Tryz.ntmps150
  go_upto_if 140 with fail
  clear hb0 hb1 hz0 hz1 hM
  go_cut [20, 21] (fun v20 v21 wx => ∃ lo hi : Nat, v20 = .int .i64 lo /\ v21 = .int .i64 hi /\ w = wx /\ ((m > M /\ lo + b = M + m /\ hi = M) \/ (m <= M /\ lo = a /\ hi = m)))
  case first =>
   as_aux_lemma =>
    by_cases hc : M < m
    ·have hc' : (M : Int) < (m : Int) := by omega
     go_wp2_with fail
     go_meet
     case rel => exact ⟨M + m - b, M, by go_num, rfl, rfl, .inl ⟨by omega, by omega, rfl⟩⟩
    ·have hc' : ¬ (M : Int) < (m : Int) := by omega
     go_wp2_with fail
     go_meet
     case rel => exact ⟨a, m, rfl, rfl, rfl, .inr ⟨by omega, rfl, rfl⟩⟩
  case rest =>
   as_aux_lemma =>
    obtain ⟨lo, hi, rfl, rfl, rfl, hlh⟩ := hcut
    have hl1 : a <= lo := by omega
    have hl2 : lo <= hi := by omega
    have hl3 : hi <= M := by omega
    have hl4 : hi <= m := by omega
    have hl5 : M + m <= b + lo := by omega
    have HLH := hide hlh
    clear hlh
    go_wp2_with fail
    go_loopg [20, 21] (hi - lo) (fun gk v20 v21 wx => ∃ (s r q : Nat), v20 = .int .i64 s /\ v21 = .int .i64 r /\ r - s <= gk /\ lo <= s /\ s <= r /\ r <= hi /\ Hid ((lo < s -> k (ln d (s - 1)) <= k (ln d (M + m - s))) /\ (r < hi -> k (ln d (M + m - 1 - r)) < k (ln d r)) /\ wx = w.drewN q))
    case atStart => exact ⟨lo, hi, 0, rfl, rfl, Nat.le_refl _, Nat.le_refl _, hl2, Nat.le_refl _, fun h => by omega, fun h => by omega, rfl⟩
    case round =>
     obtain ⟨s, r, q, rfl, rfl, hsr, hls, hle, hrh, HI⟩ := hrel
     by_cases hlt : s < r
     ·have hlt' : (s : Int) < (r : Int) := by omega
      obtain ⟨H, hH⟩ : ∃ H : Nat, ((s : Int) + (r : Int)) / 2 = (H : Int) := ⟨(s + r) / 2, by omega⟩
      have hiH : s <= H := by omega
      have hHj : H < r := by omega
      obtain ⟨J, hJ⟩ : ∃ J : Nat, (M : Int) + (m : Int) - 1 - (H : Int) = (J : Int) := ⟨M + m - 1 - H, by omega⟩
      have HJ : Hid (J = M + m - 1 - H) := (show J = M + m - 1 - H by omega)
      have hJd : (J : Int) < (d.length : Int) := by omega
      have hHd : (H : Int) < (d.length : Int) := by omega
      have cx : wr.cell? ⟨g, J, none⟩ = some (.int .i64 (ln d J)) := by rw [HI.out.2.2]; exact HR.out.cell (by omega)
      have cy : wr.cell? ⟨g, H, none⟩ = some (.int .i64 (ln d H)) := by rw [HI.out.2.2]; exact HR.out.cell (by omega)
      have hc := fun n => HC.out (wr.drewN n) (by rw [HI.out.2.2]; exact ((Kept.refl _ w).drewN q).drewN n) _ _ (HP.out.at (i := J) (by omega)) (HP.out.at (i := H) (by omega))
      by_cases hlv : k (ln d J) < k (ln d H)
      ·have hCn : cmpv (k (ln d J)) (k (ln d H)) < 0 := (cmpv_lt _ _).2 hlv
       generalize cmpv (k (ln d J)) (k (ln d H)) = C at hc hCn
       have HLV := hide hlv
       clear hlv
       generalize ln d J = X at cx hc
       generalize ln d H = Y at cy hc
       go_wp2_with fail
       go_quiet ((go_at_call 143; exact Calls.quiet_of (hc _)))
       go_wp2_with fail
       go_roundg (H - s)
       case measure => omega
       case rel =>
        obtain ⟨h1, h2, h3⟩ := HI.out
        refine ⟨s, H, q + nq, rfl, by go_num, Nat.le_refl _, hls, hiH, by omega, h1, fun _ => ?_, by rw [h3, World.drewN_drewN]⟩
        have := HLV.out
        rw [HJ.out] at this
        exact this
      ·have hCn : ¬ cmpv (k (ln d J)) (k (ln d H)) < 0 := fun h => hlv ((cmpv_lt _ _).1 h)
       generalize cmpv (k (ln d J)) (k (ln d H)) = C at hc hCn
       have HLV := hide (Int.not_lt.1 hlv)
       clear hlv
       generalize ln d J = X at cx hc
       generalize ln d H = Y at cy hc
       have hC0 : 0 <= C := by omega
       have hC1 : decide (C < 0) = false := by simp; omega
       go_wp2_with fail
       go_quiet ((go_at_call 143; exact Calls.quiet_of (hc _)))
       go_wp2_with fail
       go_roundg (r - (H + 1))
       case measure => omega
       case rel =>
        obtain ⟨h1, h2, h3⟩ := HI.out
        refine ⟨H + 1, r, q + nq, by go_num, rfl, Nat.le_refl _, by omega, by omega, hrh, fun _ => ?_, h2, by rw [h3, World.drewN_drewN]⟩
        have := HLV.out
        rw [HJ.out, show M + m - 1 - H = M + m - (H + 1) by omega] at this
        exact this
     ·obtain rfl : s = r := by omega
      have hlt' : ¬ (s : Int) < (s : Int) := by omega
      clear hsr hlt
      obtain ⟨E, hE⟩ : ∃ E : Nat, (M : Int) + (m : Int) - (s : Int) = (E : Int) := ⟨M + m - s, by omega⟩
      have HE : Hid (E = M + m - s) := (show E = M + m - s by omega)
      have HCut : Hid (Cutp k d m M lo hi s) := ⟨hls, hrh, HI.out.1, HI.out.2.1⟩
      have HW : Hid (Ro g sp d wr /\ Kept (fun i => i = g) w wr) := by rw [HI.out.2.2]; exact ⟨HR.out, (Kept.refl _ w).drewN q⟩
      have hE1 : m <= E := by omega
      have hE2 : E <= b := by omega
      have hE3 : M <= E := by omega
      have hs1 : s <= m := by omega
      have hs2 : s <= M := by omega
      have hs3 : a <= s := by omega
      go_upto_region 39 with fail
      go_cut [185] (fun v wx => ∃ β : Bool, v = .bool β /\ Hid (β = true ↔ (s < m /\ m < E)) /\ wr = wx)
      case first =>
       as_aux_lemma =>
        by_cases hc1 : s < m
        ·have hc1' : (s : Int) < (m : Int) := by omega
         have hd1 : decide ((s : Int) < (m : Int)) = true := by simp; omega
         by_cases hc2 : m < E
         ·have hc2' : (m : Int) < (E : Int) := by omega
          have hd2 : decide ((m : Int) < (E : Int)) = true := by simp; omega
          go_wp2_with fail
          go_meet
          case rel => exact ⟨true, rfl, ⟨fun _ => ⟨hc1, hc2⟩, fun _ => rfl⟩, rfl⟩
         ·have hc2' : ¬ (m : Int) < (E : Int) := by omega
          have hd2 : decide ((m : Int) < (E : Int)) = false := by simp; omega
          go_wp2_with fail
          go_meet
          case rel => exact ⟨false, rfl, ⟨fun h => (by cases h), fun h => absurd h.2 hc2⟩, rfl⟩
        ·have hc1' : ¬ (s : Int) < (m : Int) := by omega
         have hd1 : decide ((s : Int) < (m : Int)) = false := by simp; omega
         go_wp2_with fail
         go_meet
         case rel => exact ⟨false, rfl, ⟨fun h => (by cases h), fun h => absurd h.1 hc1⟩, rfl⟩
      case rest =>
       as_aux_lemma =>
        clear hE
        obtain ⟨β, rfl, HB, rfl⟩ := hcut
        go_upto_if 185 with fail
        go_cut [] (fun wx => RotOk g sp a b s m E d w wx)
        case first =>
         as_aux_lemma =>
          cases β with
          | true =>
           obtain ⟨hc1, hc2⟩ := HB.out.1 rfl
           have hrot := rotate_c g sp cap s m E d (.func (.func 143) #[] #[bp]) wr HW.out.1 hc1 hc2 (by omega) hl
           go_wp2_with (go_at_call 151; refine hrot.mono ?_; rintro e w1 ⟨rfl, K⟩; have HK := hide K; clear K)
           go_meet
           case rel =>
            obtain ⟨f, r1, r2, r3, r4⟩ := HK.out
            exact ⟨f, r1, r2.wide hs3 hE2, r3, HW.out.2.trans r4 (fun _ _ h => h)⟩
          | false =>
           have hno : m <= s \/ E <= m := Classical.byContradiction fun h => by have := HB.out.2 (by omega); cases this
           have HNO := hide hno
           clear hno
           go_wp2_with fail
           go_meet
           case rel => exact ⟨d, Rot.none d hs1 hE1 (by have hno : m <= s \/ E <= m := HNO.out; omega), Stir.refl _ _ _, HW.out.1, HW.out.2⟩
        case rest =>
         as_aux_lemma =>
          obtain ⟨f, r1, r2, r3, r4⟩ := hcut
          have hparts := merge_parts (k := k) (d := d) (f := f) (a := a) (m := m) (b := b) (mid := M) (lo := lo) (hi := hi) (s := s) (by omega) (by omega) HMM.out (by have := HLH.out; omega) HCut.out HS.out.1 HS.out.2 (by rw [<- HE.out]; exact r1)
          rw [<- HE.out] at hparts
          obtain ⟨_, _, _, _, _, _, p1, p2, p3, p4, p5⟩ := hparts
          have HF : Hid (Srt k f a s /\ Srt k f s M /\ Srt k f M E /\ Srt k f E b /\ (∀ i j, a <= i -> i < M -> M <= j -> j < b -> k (ln f i) <= k (ln f j))) := ⟨p1, p2, p3, p4, p5⟩
          have hstr := rot_strict (k := k) (d := d) (a := a) (m := m) (b := b) (mid := M) (lo := lo) (hi := hi) (s := s) HMM.out (by have := HLH.out; omega) HCut.out HS.out.1 HS.out.2
          rw [<- HE.out] at hstr
          have HF2 : Hid (Stirk k a b d f /\ Ro g sp f wc /\ Kept (fun i => i = g) w wc) := ⟨⟨r2, fun h => h.rot r1 hs1 hE1 (by omega) hstr⟩, r3, r4⟩
          clear hstr
          have HFL : Hid (f.length = d.length) := r1.len
          clear p1 p2 p3 p4 p5 r1 r2 r3 r4
          go_upto_region 41 with fail
          go_cut [199] (fun v wx => ∃ β : Bool, v = .bool β /\ Hid (β = true ↔ (a < s /\ s < M)) /\ wc = wx)
          case first =>
           as_aux_lemma =>
            by_cases hc1 : a < s
            ·have hc1' : (a : Int) < (s : Int) := by omega
             have hd1 : decide ((a : Int) < (s : Int)) = true := by simp; omega
             by_cases hc2 : s < M
             ·have hc2' : (s : Int) < (M : Int) := by omega
              have hd2 : decide ((s : Int) < (M : Int)) = true := by simp; omega
              go_wp2_with fail
              go_meet
              case rel => exact ⟨true, rfl, ⟨fun _ => ⟨hc1, hc2⟩, fun _ => rfl⟩, rfl⟩
             ·have hc2' : ¬ (s : Int) < (M : Int) := by omega
              have hd2 : decide ((s : Int) < (M : Int)) = false := by simp; omega
              go_wp2_with fail
              go_meet
              case rel => exact ⟨false, rfl, ⟨fun h => (by cases h), fun h => absurd h.2 hc2⟩, rfl⟩
            ·have hc1' : ¬ (a : Int) < (s : Int) := by omega
             have hd1 : decide ((a : Int) < (s : Int)) = false := by simp; omega
             go_wp2_with fail
             go_meet
             case rel => exact ⟨false, rfl, ⟨fun h => (by cases h), fun h => absurd h.1 hc1⟩, rfl⟩
          case rest =>
           as_aux_lemma =>
            obtain ⟨γ, rfl, HB2, rfl⟩ := hcut
            go_upto_if 199 with fail
            go_cut [] (fun wx => ∃ f', Stirk k a M f f' /\ Srt k f' a M /\ Ro g sp f' wx /\ Kept (fun i => i = g) w wx)
            case first =>
             as_aux_lemma =>
              cases γ with
              | true =>
               obtain ⟨hc1, hc2⟩ := HB2.out.1 rfl
               have hrec := IH.out a s M f wc (by omega) (HC.out.after HF2.out.2.2) (HP.out.stir HF2.out.1.st) HF2.out.2.1 hc1 hc2 (by rw [HFL.out]; omega) (by rw [HFL.out]; exact hl) HF.out.1 HF.out.2.1
               rw [HFL.out] at hrec
               go_wp2_with (go_at_call 150; refine hrec.mono ?_; rintro e w1 ⟨rfl, K⟩; have HK := hide K; clear K)
               go_meet
               case rel =>
                obtain ⟨f', m1, m2, m3, m4⟩ := HK.out
                exact ⟨f', m2, m1, m3, HF2.out.2.2.trans m4 (fun _ _ h => h)⟩
              | false =>
               have hno : s <= a \/ M <= s := Classical.byContradiction fun h => by have := HB2.out.2 (by omega); cases this
               have HNO := hide hno
               clear hno
               go_wp2_with fail
               go_meet
               case rel =>
                refine ⟨f, Stirk.refl _ _ _ _, ?_, HF2.out.2⟩
                by_cases hc1 : a < s
                ·exact HF.out.1.part (Nat.le_refl _) (by have hno : s <= a \/ M <= s := HNO.out; omega)
                ·exact HF.out.2.1.part (by omega) (Nat.le_refl _)
            case rest =>
             as_aux_lemma =>
              obtain ⟨f', g1, g2, g3, g4⟩ := hcut
              have HG : Hid (Stirk k a M f f' /\ Srt k f' a M /\ Ro g sp f' wc /\ Kept (fun i => i = g) w wc) := ⟨g1, g2, g3, g4⟩
              have HGL : Hid (f'.length = d.length) := g1.len.trans HFL.out
              have hsm : Srt k f' M E := HF.out.2.2.1.stirred g1.st (.inr (Nat.le_refl _))
              have hsb : Srt k f' E b := HF.out.2.2.2.1.stirred g1.st (.inr hE3)
              have hlow := low_stir HF.out.2.2.2.2 g1.st (.inl ⟨Nat.le_refl _, Nat.le_refl _⟩)
              have HH : Hid (Srt k f' M E /\ Srt k f' E b /\ (∀ i j, a <= i -> i < M -> M <= j -> j < b -> k (ln f' i) <= k (ln f' j))) := ⟨hsm, hsb, hlow⟩
              have HD : Hid (Stirk k a b d f') := HF2.out.1.trans (g1.wide (Nat.le_refl _) (by omega))
              clear g1 g2 g3 g4 hsm hsb hlow
              by_cases hc1 : M < E
              ·have hc1' : (M : Int) < (E : Int) := by omega
               have hd1 : decide ((M : Int) < (E : Int)) = true := by simp; omega
               by_cases hc2 : E < b
               ·have hc2' : (E : Int) < (b : Int) := by omega
                have hd2 : decide ((E : Int) < (b : Int)) = true := by simp; omega
                have hrec := IH.out M E b f' wc (by omega) (HC.out.after HG.out.2.2.2) (HP.out.stir HD.out.st) HG.out.2.2.1 hc1 hc2 (by rw [HGL.out]; omega) (by rw [HGL.out]; exact hl) HH.out.1 HH.out.2.1
                rw [HGL.out] at hrec
                go_wp2_with (go_at_call 150; refine hrec.mono ?_; rintro e w1 ⟨rfl, K⟩; have HK := hide K; clear K)
                go_end0
                obtain ⟨f2, m1, m2, m3, m4⟩ := HK.out
                exact ⟨rfl, f2, (HG.out.2.1.stirred m2.st (.inl (Nat.le_refl _))).join m1 (low_stir HH.out.2.2 m2.st (.inr ⟨Nat.le_refl _, Nat.le_refl _⟩)), HD.out.trans (m2.wide (by omega) (Nat.le_refl _)), m3, HG.out.2.2.2.trans m4 (fun _ _ h => h)⟩
               ·have hc2' : ¬ (E : Int) < (b : Int) := by omega
                have hd2 : decide ((E : Int) < (b : Int)) = false := by simp; omega
                go_wp2_with fail
                go_end0
                exact ⟨rfl, f', HG.out.2.1.join (HH.out.1.part (Nat.le_refl _) (by omega)) HH.out.2.2, HD.out, HG.out.2.2⟩
              ·have hc1' : ¬ (M : Int) < (E : Int) := by omega
               have hd1 : decide ((M : Int) < (E : Int)) = false := by simp; omega
               go_wp2_with fail
               go_end0
               exact ⟨rfl, f', HG.out.2.1.join (HH.out.2.1.part (by omega) (Nat.le_refl _)) HH.out.2.2, HD.out, HG.out.2.2⟩
#print axioms sym_any
end Go.Proofs.YteknifnadbmfiaaGreatDoor.L
