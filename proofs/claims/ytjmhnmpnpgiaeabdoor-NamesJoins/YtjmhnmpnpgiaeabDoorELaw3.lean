/- The law on two clean paths, joined: walked. -/
import Derived.Test.YtjmhnmpnpgiaeabDoorEAlive
namespace Go.Proofs.YtjmhnmpnpgiaeabDoor.E
set_option maxRecDepth 100000
open Go Go.RowKit
set_option linter.unusedVariables false

theorem add_tx' (a b : List UInt8) (h : a.length + b.length ≤ 9223372036854775807) (W : World) : (Op.stringOp .add (tx a) (tx b)).run Tryd.prog W = .ok (.string (tx (a ++ b))) W := by
  rw [run_string_add_sum W (tx a) (tx b) (by rw [tx_size, tx_size]; exact h)]
  have := ByteArray.mk_append_mk a b
  exact congrArg (fun x => Result.ok (Value.string x) W) this
def YesJ (w : World) (e : Ending) (w' : World) : Prop := e = .returned (.bool true) ∧ Below w.heap.size w w'
/-- Clean of a path, by what it is. -/
theorem clean_no (s : ByteArray) (hs : s.size ≤ 140737488355000) (h : cln s.data.toList = none) (W : World) : Calls Tryd.prog 4 #[.string s] W fun e w' => e = .returned (.tuple #[.string ⟨#[]⟩, .int .i64 140]) ∧ Below W.heap.size W w' := by
  have := clean_c s hs W
  unfold ClnOk at this
  rw [h] at this
  exact this
theorem clean_yes (s : ByteArray) (x : List UInt8) (hs : s.size ≤ 140737488355000) (h : cln s.data.toList = some x) (W : World) : Calls Tryd.prog 4 #[.string s] W fun e w' => e = .returned (.tuple #[.string (tx x), .int .i64 0]) ∧ Below W.heap.size W w' := by
  have := clean_c s hs W
  unfold ClnOk at this
  rw [h] at this
  exact this

set_option maxHeartbeats 8000000 in
theorem namesJoins_walk (s t : ByteArray) (w : World) (hs : s.size ≤ 140737488351232) (ht : t.size ≤ 140737488351232) (hT : Tab w) : Calls Tryd.prog 3 #[.string s, .string t] w (YesJ w) := by
  have HT := hide hT
  cases h1 : cln s.data.toList with
  | none =>
    have HC := hide (clean_no s (by omega) h1 w)
    cases h2 : cln t.data.toList with
    | none =>
      have HD := hide (fun W => clean_no t (by omega) h2 W)
      clear hT h1 h2
      go_enter Tryd.func3, Tryd.ntmps3
      go_wp2_with (first
        | (go_at_call 4; refine HC.out.mono ?_; rintro e w1 ⟨rfl, b1⟩; have B1 := hide b1; have HD1 := hide (HD.out w1); clear b1 HC HD)
        | (go_at_call 4; refine HD1.out.mono ?_; rintro e w2 ⟨rfl, b2⟩; have B2 := hide (B1.out.trans (b2.mono B1.out.size)); clear b2 HD1)
        | (go_at_call 5; refine (alive_c w2 (HT.out.stay B2.out)).mono ?_; rintro e w3 ⟨rfl, b3⟩; have B3 := hide (B2.out.trans (b3.mono B2.out.size)); clear b3))
      go_ret
      exact ⟨rfl, B3.out⟩
    | some y =>
      have HD := hide (fun W => clean_yes t y (by omega) h2 W)
      clear hT h1 h2
      go_enter Tryd.func3, Tryd.ntmps3
      go_wp2_with (first
        | (go_at_call 4; refine HC.out.mono ?_; rintro e w1 ⟨rfl, b1⟩; have B1 := hide b1; have HD1 := hide (HD.out w1); clear b1 HC HD)
        | (go_at_call 4; refine HD1.out.mono ?_; rintro e w2 ⟨rfl, b2⟩; have B2 := hide (B1.out.trans (b2.mono B1.out.size)); clear b2 HD1)
        | (go_at_call 5; refine (alive_c w2 (HT.out.stay B2.out)).mono ?_; rintro e w3 ⟨rfl, b3⟩; have B3 := hide (B2.out.trans (b3.mono B2.out.size)); clear b3))
      go_ret
      exact ⟨rfl, B3.out⟩
  | some x =>
    have HC := hide (clean_yes s x (by omega) h1 w)
    cases h2 : cln t.data.toList with
    | none =>
      have HD := hide (fun W => clean_no t (by omega) h2 W)
      clear hT h1 h2
      go_enter Tryd.func3, Tryd.ntmps3
      go_wp2_with (first
        | (go_at_call 4; refine HC.out.mono ?_; rintro e w1 ⟨rfl, b1⟩; have B1 := hide b1; have HD1 := hide (HD.out w1); clear b1 HC HD)
        | (go_at_call 4; refine HD1.out.mono ?_; rintro e w2 ⟨rfl, b2⟩; have B2 := hide (B1.out.trans (b2.mono B1.out.size)); clear b2 HD1)
        | (go_at_call 5; refine (alive_c w2 (HT.out.stay B2.out)).mono ?_; rintro e w3 ⟨rfl, b3⟩; have B3 := hide (B2.out.trans (b3.mono B2.out.size)); clear b3))
      go_ret
      exact ⟨rfl, B3.out⟩
    | some y =>
      have HD := hide (fun W => clean_yes t y (by omega) h2 W)
      have hxl : x.length ≤ 200 := by obtain ⟨_, _, _, _, h⟩ := cln_is h1; exact h
      have hyl : y.length ≤ 200 := by obtain ⟨_, _, _, _, h⟩ := cln_is h2; exact h
      have hj := cln_joins h1 h2
      have hadd1 : ∀ W, (Op.stringOp .add (tx x) ⟨#[47]⟩).run Tryd.prog W = .ok (.string (tx (x ++ [47]))) W := fun W => add_tx' x [47] (by simp; omega) W
      have hadd2 : ∀ W, (Op.stringOp .add (tx (x ++ [47])) (tx y)).run Tryd.prog W = .ok (.string (tx (x ++ 47 :: y))) W := fun W => by
        rw [add_tx' (x ++ [47]) y (by simp; omega) W, List.append_assoc]; rfl
      have hsx := tx_size x
      have hsy := tx_size y
      have hls : (tx (x ++ 47 :: y)).size ≤ 401 := by rw [tx_size, List.length_append, List.length_cons]; omega
      obtain ⟨N, hN⟩ : ∃ N, N = x.length := ⟨_, rfl⟩
      obtain ⟨M, hM⟩ : ∃ M, M = y.length := ⟨_, rfl⟩
      rw [← hN] at hsx hj hxl
      rw [← hM] at hsy hj hyl
      by_cases hlong : 200 < N + M + 1
      · rw [if_pos hlong] at hj
        have HE := hide (fun W => clean_no (tx (x ++ 47 :: y)) (by omega) (by rw [tx_list]; exact hj) W)
        have hl2 : (200 : Int) < (N : Int) + (M : Int) + 1 := by omega
        generalize tx (x ++ 47 :: y) = S at hadd2 HE hls
        generalize tx (x ++ [47]) = S2 at hadd1 hadd2
        clear hT h1 h2 hj hN hM hlong
        go_enter Tryd.func3, Tryd.ntmps3
        go_wp2_with (first
          | (go_at_call 4; refine HC.out.mono ?_; rintro e w1 ⟨rfl, b1⟩; have B1 := hide b1; have HD1 := hide (HD.out w1); clear b1 HC HD)
          | (go_at_call 4; refine HD1.out.mono ?_; rintro e w2 ⟨rfl, b2⟩; have B2 := hide (B1.out.trans (b2.mono B1.out.size)); have HE2 := hide (HE.out w2); clear b2 HD1 HE)
          | (go_at_call 4; refine HE2.out.mono ?_; rintro e w3 ⟨rfl, b3⟩; have B3 := hide (B2.out.trans (b3.mono B2.out.size)); clear b3 HE2)
          | (go_at_call 5; refine (alive_c w3 (HT.out.stay B3.out)).mono ?_; rintro e w4 ⟨rfl, b4⟩; have B4 := hide (B3.out.trans (b4.mono B3.out.size)); clear b4))
        go_ret
        exact ⟨rfl, B4.out⟩
      · rw [if_neg hlong] at hj
        have HE := hide (fun W => clean_yes (tx (x ++ 47 :: y)) (x ++ 47 :: y) (by omega) (by rw [tx_list]; exact hj) W)
        have hl2 : ¬ (200 : Int) < (N : Int) + (M : Int) + 1 := by omega
        generalize tx (x ++ 47 :: y) = S at hadd2 HE hls
        generalize tx (x ++ [47]) = S2 at hadd1 hadd2
        clear hT h1 h2 hj hN hM hlong
        go_enter Tryd.func3, Tryd.ntmps3
        go_wp2_with (first
          | (go_at_call 4; refine HC.out.mono ?_; rintro e w1 ⟨rfl, b1⟩; have B1 := hide b1; have HD1 := hide (HD.out w1); clear b1 HC HD)
          | (go_at_call 4; refine HD1.out.mono ?_; rintro e w2 ⟨rfl, b2⟩; have B2 := hide (B1.out.trans (b2.mono B1.out.size)); have HE2 := hide (HE.out w2); clear b2 HD1 HE)
          | (go_at_call 4; refine HE2.out.mono ?_; rintro e w3 ⟨rfl, b3⟩; have B3 := hide (B2.out.trans (b3.mono B2.out.size)); clear b3 HE2)
          | (go_at_call 5; refine (alive_c w3 (HT.out.stay B3.out)).mono ?_; rintro e w4 ⟨rfl, b4⟩; have B4 := hide (B3.out.trans (b4.mono B3.out.size)); clear b4))
        go_ret
        exact ⟨rfl, B4.out⟩
end Go.Proofs.YtjmhnmpnpgiaeabDoor.E
