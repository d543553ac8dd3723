/- The reference's stored: contract. -/
import Derived.Test.YtlakgbckopjelabGreatDoorG25ROut
namespace Go.Proofs.YtlakgbckopjelabGreatDoor
set_option maxRecDepth 100000
open Go Go.RowKit

/-- What a call that tells bytes answers. -/
def StOk (B0 : Nat) (w : World) (ov : Value) (a : Option Addr) (al ac : Nat) (m : Int) (r : Except Int (Nat × List Int)) (x : Ending) (w' : World) : Prop :=
  Kept (fun b => ov.ownBlock = some b) w w' ∧ ((∃ (q : Nat) (out : List Int) (o : Option Addr) (oc : Nat), r = .ok (q, out) ∧ x = .returned (.agg (sA a al ac (q : Int) o out.length oc m 0)) ∧ OwnsB w' B0 (.slice o out.length oc) out ∧ (∀ g, (Value.slice o out.length oc).ownBlock = some g → g < w.heap.size → ov.ownBlock = some g)) ∨ (∃ (e q : Int) (o : Option Addr) (ol oc : Nat), r = .error e ∧ x = .returned (.agg (sA a al ac q o ol oc m e))))
theorem OS.done {B0 q : Nat} {w wr : World} {ov : Value} {a : Option Addr} {al ac : Nat} {o : Option Addr} {oc : Nat} {m : Int} {out : List Int} {r : Except Int (Nat × List Int)} (h : OS B0 w wr ov a al ac q o oc m 0 out (sA a al ac q o out.length oc m 0)) (hr : r = .ok (q, out)) : StOk B0 w ov a al ac m r (.returned (.agg (sA a al ac q o out.length oc m 0))) wr :=
  ⟨h.kept, .inl ⟨q, out, o, oc, hr, rfl, h.owns, h.old⟩⟩
theorem OS.fail {B0 : Nat} {w wr : World} {ov : Value} {a : Option Addr} {al ac : Nat} {p : Int} {o : Option Addr} {oc : Nat} {m e : Int} {out : List Int} {rv : Array Value} {r : Except Int (Nat × List Int)} {f q : Int} {o' : Option Addr} {ol oc' : Nat} (h : OS B0 w wr ov a al ac p o oc m e out rv) (hr : r = .error f) : StOk B0 w ov a al ac m r (.returned (.agg (sA a al ac q o' ol oc' m f))) wr :=
  ⟨h.kept, .inr ⟨f, q, o', ol, oc', hr, rfl⟩⟩
theorem OS.ints {B0 lo hi : Nat} {w wr : World} {ov : Value} {a : Option Addr} {al ac : Nat} {p : Int} {o : Option Addr} {oc : Nat} {m e : Int} {out : List Int} {rv : Array Value} {a' : Option Addr} {L : List Int} (h : OS B0 w wr ov a al ac p o oc m e out rv) (hov : ∀ g, ov.ownBlock = some g → B0 ≤ g) (hB : B0 ≤ w.heap.size) (hi_ : Ints lo hi w a' L) (hhi : hi ≤ B0) : Ints lo hi wr a' L :=
  hi_.below (h.kept.below hB (fun i hlt e' => by have := hov i e'; omega)) hhi

theorem OS.after {B0 : Nat} {w wr w4 : World} {ov : Value} {a o : Option Addr} {al ac oc : Nat} {p m e : Int} {out : List Int} {rv : Array Value} {ob : Obj} (h : OS B0 w wr ov a al ac p o oc m e out rv) (hgrow : (wr.alloc ob).grownBy w4 (Value.slice o out.length oc).ownBlock) : w4.heap[w.heap.size]? = some (.cells (sA a al ac p o out.length oc m e) 63 (0, 0)) := by
  have hsz := h.size
  have hk := Kept.of_grown hgrow
  have hk2 : Kept (fun b => some b = (Value.slice o out.length oc).ownBlock) wr w4 := Kept.trans (M' := fun b => some b = (Value.slice o out.length oc).ownBlock) (b := wr.alloc ob) (Kept.alloc _ (Kept.refl _ wr) _) hk (fun _ _ h => h)
  exact (hk2.block w.heap.size (by omega) (fun e' => ownsRow_apart h.owns h.s0 (by decide) e'.symm)).trans h.s0
theorem iBytes_succ (b : Nat → Nat) (q n : Nat) : iBytes b q (n + 1) = iBytes b q n ++ [(iNum b (q + 8 * n) 8 : Int)] := by
  unfold iBytes; rw [List.range_succ]; simp

set_option maxHeartbeats 4000000 in
set_option maxRecDepth 100000 in
theorem rstored_c (B0 lo hi : Nat) (a o : Option Addr) (ac oc : Nat) (L out : List Int) (p most : Nat) (w : World) (hL : L.length ≤ 1000000) (hb : Bin L) (hp : p ≤ L.length) (h8 : L.length % 8 = 0) (hl : Ints lo hi w a L) (hhi : hi ≤ B0) (hB : B0 ≤ w.heap.size) (ho : OwnsB w B0 (.slice o out.length oc) out) (hm : most ≤ 1000000) (hol : out.length ≤ most) :
    Calls Tryz.prog 31 #[.agg (sA a L.length ac p o out.length oc most 0)] w (StOk B0 w (.slice o out.length oc) a L.length ac most (iSto (lb L) L.length most p out)) := by
  obtain ⟨j0, hj0, hj1, hj2, hj3⟩ := info_parts Tryz.info5
  have HB : Hid (Bin L) := hb
  have HL : Hid (Ints lo hi w a L) := hl
  have HOV : Hid (∀ g, (Value.slice o out.length oc).ownBlock = some g → B0 ≤ g) := fun g hg => (ownsRow_lt ho hg).1
  have HT : ∀ rv, Hid (OS B0 w ((w.alloc (.cells (sA a L.length ac p o out.length oc most 0) 63)).alloc (.cells rv 63)) (.slice o out.length oc) a L.length ac p o oc most 0 out rv) := fun rv => OS.new rv ho
  obtain ⟨R, hR⟩ : ∃ R, R = iSto (lb L) L.length most p out := ⟨_, rfl⟩
  rw [← hR]
  have HR := hide hR
  obtain ⟨P, hP⟩ : ∃ P, P = (p + 7) / 8 * 8 := ⟨_, rfl⟩
  have HP := hide hP
  have hPL : P ≤ L.length := by omega
  have hP8 : P % 8 = 0 := by omega
  have hpP : p ≤ P := by omega
  have hpP7 : P ≤ p + 7 := by omega
  clear hb hl ho hR hP
  show Calls Tryz.prog 31 #[.agg #[.slice a L.length ac, .int .i64 (p : Int), .slice o out.length oc, .int .i64 most, .int .i64 0]] w _
  go_enter Tryz.func31, Tryz.ntmps31
  go_wp2_with fail
  replace HT : Hid (OS B0 w _ (.slice o out.length oc) a L.length ac p o oc most 0 out #[.slice none 0 0, .int .i64 0, .slice none 0 0, .int .i64 0, .int .i64 0]) := HT #[.slice none 0 0, .int .i64 0, .slice none 0 0, .int .i64 0, .int .i64 0]
  unfold sA at HT
  generalize ((w.alloc (.cells #[.slice a L.length ac, .int .i64 (p : Int), .slice o out.length oc, .int .i64 most, .int .i64 0] 63)).alloc (.cells #[.slice none 0 0, .int .i64 0, .slice none 0 0, .int .i64 0, .int .i64 0] 63)) = w0 at HT ⊢
  go_loopg [] (P - p) (fun gk wx => ∃ p' : Nat, p' + gk = P ∧ p ≤ p' ∧ Hid (OS B0 w wx (.slice o out.length oc) a L.length ac p' o oc most 0 out #[.slice none 0 0, .int .i64 0, .slice none 0 0, .int .i64 0, .int .i64 0]))
  case atStart => exact ⟨p, by omega, by omega, HT.out⟩
  case round =>
    obtain ⟨p', hpg, hpp, HO⟩ := hrel
    have c1 := cells_of HO.out.s0 1
    simp [sA] at c1
    have hz : w.heap.size + 1 < wr.heap.size := HO.out.size
    have hz0 : w.heap.size < wr.heap.size := by omega
    cases gk with
    | succ g1 =>
      have f1 := free_of HO.out.s0 1
      have h9 : ¬ (p' : Int) % 8 = 0 := by omega
      have h9' : ¬ (p' : Int).tmod 8 = 0 := by rw [Int.tmod_eq_emod_of_nonneg (by omega)]; exact h9
      have HO2 := hide (HO.out.at_ ((p' + 1 : Nat) : Int))
      go_wp2_with fail
      go_roundg g1
      case measure => omega
      case rel => exact ⟨p' + 1, by omega, by omega, by have := HO2.out; push_cast at this; exact this⟩
    | zero =>
      obtain rfl : p' = P := by omega
      have h9 : (p' : Int) % 8 = 0 := by omega
      have h9' : (p' : Int).tmod 8 = 0 := by rw [Int.tmod_eq_emod_of_nonneg (by omega)]; exact h9
      have HRO := hide (HO.out.ints HOV.out hB HL.out hhi)
      go_upto_region 5 with fail
      by_cases hA : p' + 16 ≤ L.length
      case neg =>
        have HTK := hide (iTk_err (b := lb L) (T := L.length) (p := p') (n := 16) (by omega))
        have HRR : Hid (R = .error 60) := by rw [HR.out]; unfold iSto; rw [← HP.out, iThen_of_err HTK.out]; exact rfl
        have HC1 := fun w' => hide (rbits_no a o L.length ac out.length oc p' 16 most 0 w' (by omega) hPL (.inr (by omega)))
        have HC2 := fun w' => hide (rbits_no a o L.length ac out.length oc p' 16 most 60 w' (by omega) hPL (.inl (by decide)))
        go_cut [3] (fun v wx => v = .int .i64 0 ∧ OS B0 w wx (.slice o out.length oc) a L.length ac (p' : Int) o oc most 60 out #[.slice none 0 0, .int .i64 0, .slice none 0 0, .int .i64 0, .int .i64 0])
        case first =>
          go_wp2_with (first
            | (refine st_load rfl (.tmp 1) rfl w.heap.size (by rfl) a o L.length ac out.length oc _ most 0 (0, 0) HO.out.s0 ?_)
            | (go_at_call 30; refine (HC1 wr).out.mono ?_; rintro x w1 ⟨rfl, hb1⟩; have O3 := hide (HO.out.stay hb1); clear hb1)
            | (refine st_store rfl (.tmp 1) (.tmp 18) rfl w.heap.size (by rfl) a o L.length ac out.length oc _ most 60 (by rfl) _ (by rfl) O3.out.s0 ?_; intro w2 hg2 hk2; have O4 := hide (O3.out.own hg2 hk2); clear hg2 hk2))
          go_meet
          exact ⟨rfl, O4.out⟩
        case rest =>
        obtain ⟨rfl, hO1⟩ := hcut
        have O1 := hide hO1
        clear hO1 HC1 HO HRO c1 HR HTK
        go_upto_region 6 with fail
        go_cut [4] (fun v wx => v = .int .i64 0 ∧ OS B0 w wx (.slice o out.length oc) a L.length ac (p' : Int) o oc most 60 out #[.slice none 0 0, .int .i64 0, .slice none 0 0, .int .i64 0, .int .i64 0])
        case first =>
          go_wp2_with (first
            | (refine st_load rfl (.tmp 1) rfl w.heap.size (by rfl) a o L.length ac out.length oc _ most 60 (0, 0) O1.out.s0 ?_)
            | (go_at_call 30; refine (HC2 wc).out.mono ?_; rintro x w1 ⟨rfl, hb1⟩; have O3 := hide (O1.out.stay hb1); clear hb1)
            | (refine st_store rfl (.tmp 1) (.tmp 23) rfl w.heap.size (by rfl) a o L.length ac out.length oc _ most 60 (by rfl) _ (by rfl) O3.out.s0 ?_; intro w2 hg2 hk2; have O4 := hide (O3.out.own hg2 hk2); clear hg2 hk2))
          go_meet
          exact ⟨rfl, O4.out⟩
        case rest =>
        obtain ⟨rfl, hO1⟩ := hcut
        have O5 := hide hO1
        clear hO1 HC2 O1 hz hz0
        have c4 := cells_of O5.out.s0 4
        simp [sA] at c4
        have hz : w.heap.size + 1 < wc.heap.size := O5.out.size
        have hz0 : w.heap.size < wc.heap.size := by omega
        go_wp2_with fail
        go_loopg [5] 0 (fun gk v5 wx => gk = 0 ∧ v5 = .int .i64 0 ∧ Hid (OS B0 w wx (.slice o out.length oc) a L.length ac (p' : Int) o oc most 60 out #[.slice none 0 0, .int .i64 0, .slice none 0 0, .int .i64 0, .int .i64 0]))
        case atStart => exact ⟨rfl, rfl, O5.out⟩
        case round =>
          obtain ⟨rfl, rfl, OI⟩ := hrel
          have c4' := cells_of OI.out.s0 4
          simp [sA] at c4'
          have hy : w.heap.size + 1 < wr.heap.size := OI.out.size
          have hy0 : w.heap.size < wr.heap.size := by omega
          clear c4 hz hz0 O5
          go_wp2_with (first
            | (refine st_load rfl (.tmp 1) rfl w.heap.size (by rfl) a o L.length ac out.length oc _ most 60 (0, 0) OI.out.s0 ?_)
            | (refine st_store rfl (.tmp 2) (.tmp 89) rfl (w.heap.size + 1) (by rfl) a o L.length ac out.length oc _ most 60 (by rfl) _ (by rfl) OI.out.s1 ?_; intro w2 hg2 hk2; have O7 := hide (OI.out.res hg2 hk2); clear hg2 hk2))
          refine bodyPost_ret (v := .agg (sA a L.length ac (p' : Int) o out.length oc most 60)) ?_ rfl (O7.out.fail HRR.out)
          have k0 := cells_of O7.out.s1 0
          have k1 := cells_of O7.out.s1 1
          have k2 := cells_of O7.out.s1 2
          have k3 := cells_of O7.out.s1 3
          have k4 := cells_of O7.out.s1 4
          simp [sA] at k0 k1 k2 k3 k4
          simp [results, Tryz.results31, go_sem, k0, k1, k2, k3, k4, sA]
      case pos =>
      obtain ⟨n, hn⟩ : ∃ n, n = iNum (lb L) p' 16 := ⟨_, rfl⟩
      have hn16 : n < 65536 := by rw [hn]; exact iNum_lt (lb_le HB.out) p' 16
      have HTK1 := hide (iTk_ok (b := lb L) (T := L.length) (p := p') (n := 16) hA)
      have HC1 := fun w' (hi' : Ints lo hi w' a L) => hide (rbits_yes lo hi a o ac out.length oc L p' 16 most w' hL HB.out hi' (by omega) hA)
      rw [← hn] at HTK1 HC1
      clear hn
      go_cut [3] (fun v3 wx => v3 = .int .i64 (n : Int) ∧ OS B0 w wx (.slice o out.length oc) a L.length ac ((p' + 16 : Nat) : Int) o oc most 0 out #[.slice none 0 0, .int .i64 0, .slice none 0 0, .int .i64 0, .int .i64 0])
      case first =>
        go_wp2_with (first
          | (refine st_load rfl (.tmp 1) rfl w.heap.size (by rfl) a o L.length ac out.length oc p' most 0 (0, 0) HO.out.s0 ?_)
          | (go_at_call 30; refine (HC1 wr HRO.out).out.mono ?_; rintro x w1 ⟨rfl, hb1⟩; have O1 := hide (HO.out.stay hb1); clear hb1)
          | (refine st_store rfl (.tmp 1) (.tmp 18) rfl w.heap.size (by rfl) a o L.length ac out.length oc _ most 0 (by rfl) _ (by rfl) O1.out.s0 ?_; intro w2 hg2 hk2; have O2 := hide (O1.out.own hg2 hk2); clear hg2 hk2))
        go_meet
        exact ⟨rfl, O2.out⟩
      case rest =>
      obtain ⟨rfl, hO1⟩ := hcut
      have O1 := hide hO1
      clear hO1 HC1 HO HRO c1
      have HR1 := hide (O1.out.ints HOV.out hB HL.out hhi)
      by_cases hA2 : p' + 16 + 16 ≤ L.length
      case neg =>
        have HTK2 := hide (iTk_err (b := lb L) (T := L.length) (p := p' + 16) (n := 16) (by omega))
        have HRR : Hid (R = .error 60) := by rw [HR.out]; unfold iSto; rw [← HP.out, iThen_of_ok HTK1.out, iThen_of_err HTK2.out]; exact rfl
        have HC2 := fun w' => hide (rbits_no a o L.length ac out.length oc (p' + 16) 16 most 0 w' (by omega) hA (.inr (by omega)))
        clear HR HTK1 HTK2
        go_upto_region 6 with fail
        go_cut [4] (fun v wx => v = .int .i64 0 ∧ OS B0 w wx (.slice o out.length oc) a L.length ac ((p' + 16 : Nat) : Int) o oc most 60 out #[.slice none 0 0, .int .i64 0, .slice none 0 0, .int .i64 0, .int .i64 0])
        case first =>
          go_wp2_with (first
            | (refine st_load rfl (.tmp 1) rfl w.heap.size (by rfl) a o L.length ac out.length oc _ most 0 (0, 0) O1.out.s0 ?_)
            | (go_at_call 30; refine (HC2 wc).out.mono ?_; rintro x w1 ⟨rfl, hb1⟩; have O3 := hide (O1.out.stay hb1); clear hb1)
            | (refine st_store rfl (.tmp 1) (.tmp 23) rfl w.heap.size (by rfl) a o L.length ac out.length oc _ most 60 (by rfl) _ (by rfl) O3.out.s0 ?_; intro w2 hg2 hk2; have O4 := hide (O3.out.own hg2 hk2); clear hg2 hk2))
          go_meet
          exact ⟨rfl, O4.out⟩
        case rest =>
        obtain ⟨rfl, hO1⟩ := hcut
        have O5 := hide hO1
        clear hO1 HC2 O1 hz hz0
        have c4 := cells_of O5.out.s0 4
        simp [sA] at c4
        have hz : w.heap.size + 1 < wc.heap.size := O5.out.size
        have hz0 : w.heap.size < wc.heap.size := by omega
        go_wp2_with fail
        go_loopg [5] 0 (fun gk v5 wx => gk = 0 ∧ v5 = .int .i64 0 ∧ Hid (OS B0 w wx (.slice o out.length oc) a L.length ac ((p' + 16 : Nat) : Int) o oc most 60 out #[.slice none 0 0, .int .i64 0, .slice none 0 0, .int .i64 0, .int .i64 0]))
        case atStart => exact ⟨rfl, rfl, O5.out⟩
        case round =>
          obtain ⟨rfl, rfl, OI⟩ := hrel
          have c4' := cells_of OI.out.s0 4
          simp [sA] at c4'
          have hy : w.heap.size + 1 < wr.heap.size := OI.out.size
          have hy0 : w.heap.size < wr.heap.size := by omega
          clear c4 hz hz0 O5
          by_cases h0 : (0 : Int) < n
          case pos =>
            go_wp2_with (first
              | (refine st_load rfl (.tmp 1) rfl w.heap.size (by rfl) a o L.length ac out.length oc _ most 60 (0, 0) OI.out.s0 ?_)
              | (refine st_store rfl (.tmp 2) (.tmp 89) rfl (w.heap.size + 1) (by rfl) a o L.length ac out.length oc _ most 60 (by rfl) _ (by rfl) OI.out.s1 ?_; intro w2 hg2 hk2; have O7 := hide (OI.out.res hg2 hk2); clear hg2 hk2))
            refine bodyPost_ret (v := .agg (sA a L.length ac ((p' + 16 : Nat) : Int) o out.length oc most 60)) ?_ rfl (O7.out.fail HRR.out)
            have k0 := cells_of O7.out.s1 0
            have k1 := cells_of O7.out.s1 1
            have k2 := cells_of O7.out.s1 2
            have k3 := cells_of O7.out.s1 3
            have k4 := cells_of O7.out.s1 4
            simp [sA] at k0 k1 k2 k3 k4
            simp [results, Tryz.results31, go_sem, k0, k1, k2, k3, k4, sA]
          case neg =>
            go_wp2_with (first
              | (refine st_load rfl (.tmp 1) rfl w.heap.size (by rfl) a o L.length ac out.length oc _ most 60 (0, 0) OI.out.s0 ?_)
              | (refine st_store rfl (.tmp 2) (.tmp 89) rfl (w.heap.size + 1) (by rfl) a o L.length ac out.length oc _ most 60 (by rfl) _ (by rfl) OI.out.s1 ?_; intro w2 hg2 hk2; have O7 := hide (OI.out.res hg2 hk2); clear hg2 hk2))
            refine bodyPost_ret (v := .agg (sA a L.length ac ((p' + 16 : Nat) : Int) o out.length oc most 60)) ?_ rfl (O7.out.fail HRR.out)
            have k0 := cells_of O7.out.s1 0
            have k1 := cells_of O7.out.s1 1
            have k2 := cells_of O7.out.s1 2
            have k3 := cells_of O7.out.s1 3
            have k4 := cells_of O7.out.s1 4
            simp [sA] at k0 k1 k2 k3 k4
            simp [results, Tryz.results31, go_sem, k0, k1, k2, k3, k4, sA]
      case pos =>
      obtain ⟨n', hn'⟩ : ∃ n, n = iNum (lb L) (p' + 16) 16 := ⟨_, rfl⟩
      have hn16' : n' < 65536 := by rw [hn']; exact iNum_lt (lb_le HB.out) _ 16
      have HTK2 := hide (iTk_ok (b := lb L) (T := L.length) (p := p' + 16) (n := 16) hA2)
      have HC2 := fun w' (hi' : Ints lo hi w' a L) => hide (rbits_yes lo hi a o ac out.length oc L (p' + 16) 16 most w' hL HB.out hi' (by omega) hA2)
      rw [← hn'] at HTK2 HC2
      clear hn'
      go_upto_region 6 with fail
      go_cut [4] (fun v4 wx => v4 = .int .i64 (n' : Int) ∧ OS B0 w wx (.slice o out.length oc) a L.length ac ((p' + 16 + 16 : Nat) : Int) o oc most 0 out #[.slice none 0 0, .int .i64 0, .slice none 0 0, .int .i64 0, .int .i64 0])
      case first =>
        go_wp2_with (first
          | (refine st_load rfl (.tmp 1) rfl w.heap.size (by rfl) a o L.length ac out.length oc _ most 0 (0, 0) O1.out.s0 ?_)
          | (go_at_call 30; refine (HC2 wc HR1.out).out.mono ?_; rintro x w1 ⟨rfl, hb1⟩; have O3 := hide (O1.out.stay hb1); clear hb1)
          | (refine st_store rfl (.tmp 1) (.tmp 23) rfl w.heap.size (by rfl) a o L.length ac out.length oc _ most 0 (by rfl) _ (by rfl) O3.out.s0 ?_; intro w2 hg2 hk2; have O4 := hide (O3.out.own hg2 hk2); clear hg2 hk2))
        go_meet
        exact ⟨rfl, O4.out⟩
      case rest =>
      obtain ⟨rfl, hO1⟩ := hcut
      have O5 := hide hO1
      clear hO1 HC2 O1 HR1 hz hz0
      have HRR : Hid (R = if ¬ n + n' = 65535 then .error 62 else if most < out.length + n then .error 65 else if L.length < p' + 16 + 16 + 8 * n then .error 60 else .ok (p' + 16 + 16 + 8 * n, out ++ iBytes (lb L) (p' + 16 + 16) n)) := by
        rw [HR.out]; unfold iSto; rw [← HP.out, iThen_of_ok HTK1.out, iThen_of_ok HTK2.out]; exact rfl
      have c0 := cells_of O5.out.s0 0
      have c1 := cells_of O5.out.s0 1
      have c2 := cells_of O5.out.s0 2
      have c3 := cells_of O5.out.s0 3
      have c4 := cells_of O5.out.s0 4
      simp [sA] at c0 c1 c2 c3 c4
      have hz : w.heap.size + 1 < wc.heap.size := O5.out.size
      have hz0 : w.heap.size < wc.heap.size := by omega
      have HF := fun f w' => hide (rfails_c a o L.length ac out.length oc ((p' + 16 + 16 : Nat) : Int) most 0 f w')
      clear HTK1 HTK2 HR
      by_cases hs : n + n' = 65535
      case neg =>
        have hs' : ¬ (n : Int) + n' = 65535 := by omega
        have HRE : Hid (R = .error 62) := by rw [HRR.out, if_pos hs]; exact rfl
        clear HRR
        go_wp2_with (first
          | (refine st_load rfl (.tmp 1) rfl w.heap.size (by rfl) a o L.length ac out.length oc _ most 0 (0, 0) O5.out.s0 ?_)
          | (go_at_call 36; refine (HF 62 wc).out.mono ?_; rintro x w1 ⟨rfl, hb1⟩; have O6 := hide (O5.out.stay hb1); clear hb1)
          | (refine st_store rfl (.tmp 2) (.tmp 35) rfl (w.heap.size + 1) (by rfl) a o L.length ac out.length oc _ most 62 (by rfl) _ (by rfl) O6.out.s1 ?_; intro w2 hg2 hk2; have O7 := hide (O6.out.res hg2 hk2); clear hg2 hk2))
        refine bodyPost_ret (v := .agg (sA a L.length ac ((p' + 16 + 16 : Nat) : Int) o out.length oc most 62)) ?_ rfl (O7.out.fail HRE.out)
        have k0 := cells_of O7.out.s1 0
        have k1 := cells_of O7.out.s1 1
        have k2 := cells_of O7.out.s1 2
        have k3 := cells_of O7.out.s1 3
        have k4 := cells_of O7.out.s1 4
        simp [sA] at k0 k1 k2 k3 k4
        simp [results, Tryz.results31, go_sem, k0, k1, k2, k3, k4, sA]
      case pos =>
      have hs' : (n : Int) + n' = 65535 := by omega
      by_cases hov : most < out.length + n
      case pos =>
        have hov' : (most : Int) < (out.length : Int) + n := by omega
        have HRE : Hid (R = .error 65) := by rw [HRR.out, if_neg (by omega), if_pos hov]; exact rfl
        clear HRR
        go_wp2_with (first
          | (refine st_load rfl (.tmp 1) rfl w.heap.size (by rfl) a o L.length ac out.length oc _ most 0 (0, 0) O5.out.s0 ?_)
          | (go_at_call 36; refine (HF 65 wc).out.mono ?_; rintro x w1 ⟨rfl, hb1⟩; have O6 := hide (O5.out.stay hb1); clear hb1)
          | (refine st_store rfl (.tmp 2) (.tmp 50) rfl (w.heap.size + 1) (by rfl) a o L.length ac out.length oc _ most 65 (by rfl) _ (by rfl) O6.out.s1 ?_; intro w2 hg2 hk2; have O7 := hide (O6.out.res hg2 hk2); clear hg2 hk2))
        refine bodyPost_ret (v := .agg (sA a L.length ac ((p' + 16 + 16 : Nat) : Int) o out.length oc most 65)) ?_ rfl (O7.out.fail HRE.out)
        have k0 := cells_of O7.out.s1 0
        have k1 := cells_of O7.out.s1 1
        have k2 := cells_of O7.out.s1 2
        have k3 := cells_of O7.out.s1 3
        have k4 := cells_of O7.out.s1 4
        simp [sA] at k0 k1 k2 k3 k4
        simp [results, Tryz.results31, go_sem, k0, k1, k2, k3, k4, sA]
      case neg =>
      have hov' : ¬ (most : Int) < (out.length : Int) + n := by omega
      by_cases hen : L.length < p' + 16 + 16 + 8 * n
      case pos =>
        have hen' : (L.length : Int) - (p' + 16 + 16) < 8 * n := by omega
        have HRE : Hid (R = .error 60) := by rw [HRR.out, if_neg (by omega), if_neg hov, if_pos hen]; exact rfl
        clear HRR
        go_wp2_with (first
          | (refine st_load rfl (.tmp 1) rfl w.heap.size (by rfl) a o L.length ac out.length oc _ most 0 (0, 0) O5.out.s0 ?_)
          | (go_at_call 36; refine (HF 60 wc).out.mono ?_; rintro x w1 ⟨rfl, hb1⟩; have O6 := hide (O5.out.stay hb1); clear hb1)
          | (refine st_store rfl (.tmp 2) (.tmp 66) rfl (w.heap.size + 1) (by rfl) a o L.length ac out.length oc _ most 60 (by rfl) _ (by rfl) O6.out.s1 ?_; intro w2 hg2 hk2; have O7 := hide (O6.out.res hg2 hk2); clear hg2 hk2))
        refine bodyPost_ret (v := .agg (sA a L.length ac ((p' + 16 + 16 : Nat) : Int) o out.length oc most 60)) ?_ rfl (O7.out.fail HRE.out)
        have k0 := cells_of O7.out.s1 0
        have k1 := cells_of O7.out.s1 1
        have k2 := cells_of O7.out.s1 2
        have k3 := cells_of O7.out.s1 3
        have k4 := cells_of O7.out.s1 4
        simp [sA] at k0 k1 k2 k3 k4
        simp [results, Tryz.results31, go_sem, k0, k1, k2, k3, k4, sA]
      case neg =>
      have hen' : ¬ (L.length : Int) - (p' + 16 + 16) < 8 * n := by omega
      have HRE : Hid (R = .ok (p' + 16 + 16 + 8 * n, out ++ iBytes (lb L) (p' + 16 + 16) n)) := by rw [HRR.out, if_neg (by omega), if_neg hov, if_neg hen]; exact rfl
      clear HRR HF
      go_wp2_with fail
      obtain ⟨Q, hQ⟩ : ∃ Q, Q = p' + 16 + 16 := ⟨_, rfl⟩
      rw [← hQ] at O5 HRE hen
      have hQL : Q ≤ 1000000 := by omega
      clear hQ c0 c1 c2 c3 c4 hen'
      go_loopg [5] n (fun gk v5 wx => ∃ (i : Nat) (o' : Option Addr) (oc' : Nat), i + gk = n ∧ v5 = .int .i64 i ∧ Hid (OS B0 w wx (.slice o out.length oc) a L.length ac ((Q + 8 * i : Nat) : Int) o' oc' most 0 (out ++ iBytes (lb L) Q i) #[.slice none 0 0, .int .i64 0, .slice none 0 0, .int .i64 0, .int .i64 0]))
      case atStart => exact ⟨0, o, oc, by omega, rfl, hide (by simpa [iBytes] using O5.out)⟩
      case round =>
        obtain ⟨i, o', oc', hig, rfl, OI⟩ := hrel
        have hz : w.heap.size + 1 < wr.heap.size := OI.out.size
        have hz0 : w.heap.size < wr.heap.size := by omega
        have c4 := cells_of OI.out.s0 4
        simp [sA] at c4
        cases gk with
        | zero =>
          obtain rfl : i = n := by omega
          go_wp2_with (first
            | (refine st_load rfl (.tmp 1) rfl w.heap.size (by rfl) a o' L.length ac _ oc' _ most 0 (0, 0) OI.out.s0 ?_)
            | (refine st_store rfl (.tmp 2) (.tmp 89) rfl (w.heap.size + 1) (by rfl) a o' L.length ac _ oc' _ most 0 (by rfl) _ (by rfl) OI.out.s1 ?_; intro w2 hg2 hk2; have O7 := hide (OI.out.res hg2 hk2); clear hg2 hk2))
          refine bodyPost_ret (v := .agg (sA a L.length ac ((Q + 8 * i : Nat) : Int) o' (out ++ iBytes (lb L) Q i).length oc' most 0)) ?_ rfl (O7.out.done HRE.out)
          have k0 := cells_of O7.out.s1 0
          have k1 := cells_of O7.out.s1 1
          have k2 := cells_of O7.out.s1 2
          have k3 := cells_of O7.out.s1 3
          have k4 := cells_of O7.out.s1 4
          simp [sA] at k0 k1 k2 k3 k4
          simp [results, Tryz.results31, go_sem, k0, k1, k2, k3, k4, sA]
        | succ g1 =>
          have hin : (i : Int) < n := by omega
          obtain ⟨F, hF⟩ : ∃ F, F = out ++ iBytes (lb L) Q i := ⟨_, rfl⟩
          have hFl : F.length ≤ 1000000 := by rw [hF, List.length_append, iBytes_length]; omega
          have HFS : Hid (out ++ iBytes (lb L) Q (i + 1) = F ++ [(iNum (lb L) (Q + 8 * i) 8 : Int)]) := by rw [iBytes_succ, ← List.append_assoc, ← hF]; exact rfl
          have hX : iNum (lb L) (Q + 8 * i) 8 < 256 := iNum_lt (lb_le HB.out) _ 8
          have HC3 := fun w' (hi' : Ints lo hi w' a L) => hide (rbits_yes lo hi a o' ac F.length oc' L (Q + 8 * i) 8 most w' hL HB.out hi' (by omega) (by omega))
          rw [← hF] at OI
          clear hF
          generalize iNum (lb L) (Q + 8 * i) 8 = X at HFS hX HC3
          have HRI := hide (OI.out.ints HOV.out hB HL.out hhi)
          go_upto_region 17 with fail
          go_cut [6] (fun v6 wx => v6 = .int .i64 (X : Int) ∧ OS B0 w wx (.slice o out.length oc) a L.length ac ((Q + 8 * i + 8 : Nat) : Int) o' oc' most 0 F #[.slice none 0 0, .int .i64 0, .slice none 0 0, .int .i64 0, .int .i64 0])
          case first =>
            go_wp2_with (first
              | (refine st_load rfl (.tmp 1) rfl w.heap.size (by rfl) a o' L.length ac F.length oc' _ most 0 (0, 0) OI.out.s0 ?_)
              | (go_at_call 30; refine (HC3 wr HRI.out).out.mono ?_; rintro x w1 ⟨rfl, hb1⟩; have O3 := hide (OI.out.stay hb1); clear hb1)
              | (refine st_store rfl (.tmp 1) (.tmp 80) rfl w.heap.size (by rfl) a o' L.length ac F.length oc' _ most 0 (by rfl) _ (by rfl) O3.out.s0 ?_; intro w2 hg2 hk2; have O4 := hide (O3.out.own hg2 hk2); clear hg2 hk2))
            go_meet
            exact ⟨rfl, O4.out⟩
          case rest =>
          obtain ⟨rfl, hO⟩ := hcut
          have O9 := hide hO
          have c2 := cells_of hO.s0 2
          simp [sA] at c2
          have hzc : w.heap.size + 1 < wc.heap.size := hO.size
          have hzc0 : w.heap.size < wc.heap.size := by omega
          have hkz := hO.kept.size
          clear hO HC3 OI HRI c4 hz hz0
          have hwX : IntKind.u8.wrap (X : Int) = (X : Int) := by simp only [IntKind.wrap_u8]; omega
          go_wp2_with (at_builtin; refine wpList_append_lies _ rfl _ _ 23 rfl B0 5 j0 (.int .u8 0) 1 1 Tryz.underlying23 hj0 hj1 hj2 hj3 rfl (by decide) _ _ _ rfl (World.ownsRow.alloc O9.out.owns _) ⟨wc.heap.size, 0, none⟩ 1 1 [.int .u8 (X : Int)] rfl rfl (one_byte wc _) (by intro u hu; simp at hu; subst hu; rfl) (by omega) (by unfold maxLen; omega) (by omega) (by simp; omega) (wc.heap.size + 1) (by simp) ?_; intro g4 c5 w4 hown' hgrow hat hlt4; have P9 := hide (O9.out.push hown' hgrow hat); have hA9 := O9.out.after hgrow; have d2 := cells_of hA9 2; have f2 := free_of hA9 2; have hz4 := lt_of_block hA9; simp [sA] at d2; clear hown' hgrow hat hlt4 hA9)
          go_roundg g1
          case measure => omega
          case rel =>
            refine ⟨i + 1, some ⟨g4, 0, none⟩, c5, by omega, by go_num, ?_⟩
            rw [HFS.out, show Q + 8 * (i + 1) = Q + 8 * i + 8 by omega]
            exact P9.out
end Go.Proofs.YtlakgbckopjelabGreatDoor
