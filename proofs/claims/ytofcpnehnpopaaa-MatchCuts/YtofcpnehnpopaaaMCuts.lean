/- The law on rows: walked. -/
import Derived.Test.YtofcpnehnpopaaaMCutQ
import Derived.Test.YtofcpnehnpopaaaMSame
namespace Go.Proofs.Ytofcpnehnpopaaa
set_option maxRecDepth 100000
open Go Go.RowKit

theorem flat_snoc {R : List (List Tk)} {i : Nat} (h : i < R.length) : (R.take (i + 1)).flatten = (R.take i).flatten ++ rw_ R i := by
  have e : rw_ R i = R[i] := by simp [rw_, List.getD, h]
  rw [e, List.take_succ_eq_append_getElem h, List.flatten_append]
  simp only [List.flatten_cons, List.flatten_nil, List.append_nil]
theorem flat_le {R : List (List Tk)} (i : Nat) : (R.take i).flatten.length ≤ R.flatten.length := by
  conv => rhs; rw [← List.take_append_drop i R, List.flatten_append, List.length_append]
  omega
theorem RowsT.row {lo : Nat} {w w' : World} {v : Value} {R : List (List Tk)} {vs : List Value} (h : RowsT lo w v R vs) (k : Below w.heap.size w w') {i : Nat} (hi : i < R.length) : ∃ a c, vw vs i = .slice a (rw_ R i).length c ∧ Toks w' a (rw_ R i) ∧ (a = none → (rw_ R i).length = 0 ∧ c = 0) := by
  obtain ⟨a, c, e, ht, _, hn, _⟩ := (h.rows i hi).form
  exact ⟨a, c, e, ht.stay k, hn⟩

set_option maxHeartbeats 8000000 in
theorem cuts_walk (a : Option Addr) (cap : Nat) (xs : List Tk) (many : Int) (w : World) (h : TIn w a cap xs) :
    Calls Try.prog 8 #[.slice a xs.length cap, .int .i64 many] w (Yes w) := by
  by_cases hl : 1000 < xs.length
  case pos =>
    have hl' : (1000 : Int) < (xs.length : Int) := by omega
    clear h hl
    go_enter Try.func8, Try.ntmps8
    go_wp2_with (go_at_call 9; refine (alive_c _).mono ?_; rintro e w1 ⟨rfl, b1⟩)
    go_ret
    exact ⟨rfl, b1⟩
  have hl' : ¬ (1000 : Int) < (xs.length : Int) := by omega
  have HT := hide h.toks
  have H1 := hide (cut_c a cap xs many w h.toks h.cap_ (by omega))
  have H2 : Hid (∀ W, Below w.heap.size w W → Calls Try.prog 18 #[.slice a xs.length cap, .int .i64 many] W (CutOk xs (rowLen many xs.length) W)) := fun W hW => qcut_c a cap xs many W (HT.out.stay hW) (by omega)
  obtain ⟨hRl, hrl⟩ := cut_bd many xs
  have HRL := hide hrl
  have HFL := hide (cut_flat many xs)
  clear h hrl
  unfold CutOk at H1 H2
  generalize cutR (rowLen many xs.length) xs = R at H1 H2 hRl HRL HFL
  go_enter Try.func8, Try.ntmps8
  go_wp2_with (first
    | (go_at_call 17; refine H1.out.mono ?_; rintro e w1 ⟨va, vs, rfl, k1, k2⟩; have R1 := hide k1; have B1 := hide k2; clear k1 k2; obtain ⟨a3, c3, rfl, _⟩ := R1.out.form)
    | (go_at_call 18; refine (H2.out w1 B1.out).mono ?_; rintro e w2 ⟨vb, us, rfl, k1, k2⟩; have R2 := hide k1; have B2 := hide k2; clear k1 k2; obtain ⟨a4, c4, rfl, _⟩ := R2.out.form))
  have R1' := hide (R1.out.stay B2.out)
  have BW : Hid (Below w.heap.size w w2) := B1.out.trans (B2.out.mono B1.out.size)
  clear R1 B1 B2 H1 H2
  go_loopg [7, 8, 26] R.length (fun gk v7 v8 v26 wx => ∃ (i N7 : Nat) (a7 : Option Addr) (c7 : Nat), i + gk = R.length ∧ v7 = .slice a7 N7 c7 ∧ v26 = .int .i64 i ∧ Hid (N7 = (R.take i).flatten.length ∧ OwnsT wx w2.heap.size (.slice a7 N7 c7) (R.take i).flatten ∧ Below w2.heap.size w2 wx))
  case atStart => exact ⟨0, 0, none, 0, by omega, rfl, rfl, by simp, by simpa using OwnsT.nil w2 w2.heap.size, Below.refl _ _⟩
  case round =>
    obtain ⟨i, N7, a7, c7, hig, rfl, rfl, HS⟩ := hrel
    have hflat := flat_le (R := R) i
    rw [HFL.out, ← HS.out.1] at hflat
    have HBX : Hid (Below w.heap.size w wr) := BW.out.trans (HS.out.2.2.mono BW.out.size)
    cases gk with
    | zero =>
      obtain rfl : i = R.length := by omega
      have hN : N7 = xs.length := by rw [HS.out.1, List.take_length, HFL.out]
      have hown := HS.out.2.1
      rw [List.take_length, HFL.out, hN] at hown
      obtain ⟨_, _, hv, htk, _, _, _⟩ := hown.form
      simp only [Value.slice.injEq] at hv
      obtain ⟨rfl, _, rfl⟩ := hv
      have HSM : Hid (∀ W, Below wr.heap.size wr W → Calls Try.prog 19 #[.slice a7 xs.length c7, .slice a xs.length cap] W fun e w' => e = .returned (.bool true) ∧ ∃ q, w' = W.drewN q) := fun W hW => same_yes a7 a c7 cap xs W (htk.stay hW) (HT.out.stay (HBX.out.trans (hW.mono HBX.out.size))) (by omega)
      rw [hN]
      clear hN hown htk HS hflat
      go_wp2_with (first
        | (go_at_call 9; refine (alive_c _).mono ?_; rintro e w5 ⟨rfl, b5⟩; have B5 := hide b5; clear b5)
        | (go_at_call 19; refine (HSM.out w5 B5.out).mono ?_; rintro e w6 ⟨rfl, q6, rfl⟩))
      go_ret
      have bf := HBX.out.trans (B5.out.mono HBX.out.size)
      exact ⟨rfl, bf.os, bf.tape, bf.output, bf.size, bf.block⟩
    | succ g1 =>
      have hlt : (i : Int) < (R.length : Int) := by omega
      obtain ⟨_, _, hv3, hce3⟩ := (R1'.out.stay HS.out.2.2).form
      simp only [Value.slice.injEq] at hv3
      obtain ⟨rfl, _, rfl⟩ := hv3
      obtain ⟨g3, rfl, _, hg3, hc3⟩ := hce3 i (by omega)
      obtain ⟨_, _, hv4, hce4⟩ := (R2.out.stay HS.out.2.2).form
      simp only [Value.slice.injEq] at hv4
      obtain ⟨rfl, _, rfl⟩ := hv4
      obtain ⟨g4, rfl, _, hg4, hc4⟩ := hce4 i (by omega)
      obtain ⟨ar, cr, er, tr, nr⟩ := R1'.out.row HS.out.2.2 (i := i) (by omega)
      obtain ⟨ae, ce, es, ts, _⟩ := R2.out.row HS.out.2.2 (i := i) (by omega)
      rw [er] at hc3
      rw [es] at hc4
      have hrb := HRL.out i
      have HNX : Hid ((R.take (i + 1)).flatten = (R.take i).flatten ++ rw_ R i) := flat_snoc (by omega)
      generalize rw_ R i = row at hc3 hc4 tr ts nr hrb HNX
      have HTR := hide tr
      have HSM : Hid (∀ q, Calls Try.prog 19 #[.slice ar row.length cr, .slice ae row.length ce] (wr.drewN q) fun e w' => e = .returned (.bool true) ∧ ∃ m, w' = (wr.drewN q).drewN m) := fun q => same_yes ar ae cr ce row (wr.drewN q) tr ts (by omega)
      have HNR := hide nr
      have hsz := HS.out.2.2.size
      clear hce3 hce4 er es tr ts nr
      go_upto_region 10 with fail
      have k3 : ∀ q, (wr.drewN q).cell? ⟨g3, i, none⟩ = some (.slice ar row.length cr) := fun _ => hc3
      go_quiet ((go_at_call 19; exact Calls.quiet_of (HSM.out _)))
      have k4 := k3 nq
      have HO : Hid (OwnsT (wr.drewN nq) w2.heap.size (.slice a7 N7 c7) (R.take i).flatten) := HS.out.2.1
      have HTQ : Hid (Toks (wr.drewN nq) ar row) := HTR.out
      have HBQ : Hid (Below w2.heap.size w2 (wr.drewN nq)) := ⟨HS.out.2.2.os, HS.out.2.2.tape, HS.out.2.2.output, HS.out.2.2.size, HS.out.2.2.block⟩
      have hszq : w2.heap.size ≤ (wr.drewN nq).heap.size := hsz
      have HN7 := hide HS.out.1
      generalize wr.drewN nq = w5 at k4 HO HTQ HBQ hszq ⊢
      clear k3 hc3 hc4 HSM HS HTR
      go_wp2_with (at_builtin; refine wpList_appT _ rfl _ _ rfl w2.heap.size _ (R.take i).flatten rfl HO.out ar row.length cr rfl row HTQ.out HNR.out rfl (by rw [← HN7.out]; omega) hszq ?_; rw [← HN7.out]; intro a9 c9 w9 h9 g9; have HP : Hid (OwnsT w9 w2.heap.size (.slice a9 (N7 + row.length) c9) ((R.take i).flatten ++ row) ∧ Below w2.heap.size w2 w9) := hide ⟨h9, HBQ.out.grown g9 hszq (fun _ e => (ownsRow_lt HO.out e).1)⟩; clear h9 g9)
      go_roundg g1
      case measure => omega
      case rel => exact ⟨i + 1, N7 + row.length, a9, c9, by omega, rfl, by go_num, by rw [HNX.out, List.length_append, ← HN7.out], by rw [HNX.out]; exact HP.out.1, HP.out.2⟩
end Go.Proofs.Ytofcpnehnpopaaa
