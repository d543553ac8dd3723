/- bind: contract. -/
import Derived.Test.YtgafejgmjenfaabMBlk
import Derived.Test.YtgafejgmjenfaabMArr
namespace Go.Proofs.Ytgafejgmjenfaab.S
set_option maxRecDepth 100000
open Go Go.RowKit

/-- A sum with a key, bound: the closure, and what it holds on to. -/
def BoundAt (w : World) (v : Value) (base : Nat) (key : List Nat) : Prop := ∃ bi bo, v = .func (.func 12) #[] #[.pointer (some ⟨bi, 0, none⟩), .pointer (some ⟨bo, 0, none⟩)] ∧ base ≤ bi ∧ base ≤ bo ∧ w.heap[bi]? = some (.cells (kA (kX key 54)) 33 (0, 0)) ∧ w.heap[bo]? = some (.cells (kA (kX key 92)) 33 (0, 0))
/-- What bind answers. -/
def BindOk (key : List Nat) (w : World) (e : Ending) (w' : World) : Prop := ∃ v, e = .returned v ∧ BoundAt w' v w.heap.size key ∧ Below w.heap.size w w'

set_option maxHeartbeats 8000000 in
theorem bind_c (a : Option Addr) (cap : Nat) (key : List Nat) (w : World) (hy : By key) (hb : TextAt w a key) (hcap : key.length ≤ cap) (hcm : cap ≤ 9223372036854775807) (hl : key.length ≤ 1000000000000000) :
    Calls Try.prog 8 #[.slice a key.length cap] w (BindOk key w) := by
  have hz : ∀ w, (zeroValue 33).run Try.prog w = .ok (.agg (kA Z64)) w := zero64.1
  have HBO := hide (blockOf_c a cap key w hy hb hcap hcm hl)
  have HI := hide (info64 (xs := k64 key) (k64_length key))
  have HS := hide (show (kA Z64).size = (kA (k64 key)).size by rw [kA_size, kA_size, k64_length]; exact Z64_length)
  have HM92 := fun W => hide (show Calls Try.prog 11 #[.agg (kA (k64 key)), .int .u8 92] W fun e w' => e = .returned (.agg (kA (kX key 92))) ∧ Below W.heap.size W w' from masked_c (k64 key) 92 W (k64_length key) (k64_by hy) (by omega))
  have HM54 := fun W => hide (show Calls Try.prog 11 #[.agg (kA (k64 key)), .int .u8 54] W fun e w' => e = .returned (.agg (kA (kX key 54))) ∧ Below W.heap.size W w' from masked_c (k64 key) 54 W (k64_length key) (k64_by hy) (by omega))
  have HX := fun x => hide (info64 (xs := kX key x) (kX_length key x))
  have HXS := fun x => hide (show (kA Z64).size = (kA (kX key x)).size by rw [kA_size, kA_size, kX_length]; exact Z64_length)
  have HXO := fun x => hide (kA_one (kX key x))
  have hmf : ∀ (fn : Fn) (first cap : Array Value) (w : World), (Instr.makeFunc fn first cap).run Try.prog w = .ok (.func fn first cap) w := fun _ _ _ _ => rfl
  obtain ⟨N, hN⟩ : ∃ N, N = key.length := ⟨_, rfl⟩
  rw [← hN] at HBO ⊢
  clear hy hb hN hcap hcm hl
  go_enter Try.func8, Try.ntmps8
  go_upto_region 2 with (first
    | (go_at_call 10; refine HBO.out.mono ?_; rintro e w1 ⟨rfl, b1⟩; have B1 := hide b1; clear b1)
    | (refine wpList_store_row rfl 33 (.tmp 3) (.tmp 7) rfl w1.heap.size (kA (k64 key)) (by rfl) (by rfl) (kA Z64) 33 (heap_new _ _) HI.out HS.out (kA_one _) ?_; intro w2 G2 K2))
  have hs1 := B1.out.size
  have R3 := hide (show w2.drew.heap[w1.heap.size]? = some (.cells (kA (k64 key)) 33 (0, 0)) from G2.out)
  have B : Hid (Below w.heap.size w w2.drew) := (B1.out.alloc hs1 (.cells (kA Z64) 33)).trans (⟨K2.out.os, K2.out.tape, K2.out.output, K2.out.size, (K2.out.below (B := w.heap.size) (by simp; omega) (fun i hi e => by omega)).block⟩ : Below w.heap.size _ w2.drew)
  obtain ⟨b3, hb3⟩ : ∃ b3, b3 = w1.heap.size := ⟨_, rfl⟩
  rw [← hb3] at R3 ⊢
  clear hb3 K2 G2 B1 hs1 HBO HS
  simp only [Act.put]
  refine wp_region_held_drew (S := fun W => W.heap[b3]? = some (.cells (kA (k64 key)) 33 (0, 0))) (by kernel_rfl) R3.out ?_
  intro hS0
  generalize w2.drew = W0 at R3 B hS0 ⊢
  refine wpAnyH_take (i := 0) (v := .agg (kA (k64 key))) rfl (by kernel_rfl) (by kernel_rfl) (by kernel_rfl) (fun _ _ _ h => h) (yields_row (by rfl) 33 (.tmp 3) rfl b3 rfl _ 33 (0, 0) (fun _ h => h) _ Try.underlying33 rfl HI.out) hS0 ?_
  simp only [Act.put, List.getElem_toArray, List.getElem_cons_zero, List.setIfInBounds_toArray, List.set_cons_zero, List.set_cons_succ]
  refine wpAnyH_take (i := 2) (v := .agg (kA (k64 key))) rfl (by kernel_rfl) (by kernel_rfl) (by kernel_rfl) (fun _ _ _ h => h) (yields_row (by rfl) 33 (.tmp 3) rfl b3 rfl _ 33 (0, 0) (fun _ h => h) _ Try.underlying33 rfl HI.out) hS0 ?_
  simp only [Act.put, List.getElem_toArray, List.getElem_cons_zero, List.getElem_cons_succ, List.setIfInBounds_toArray, List.set_cons_zero, List.set_cons_succ]
  clear hS0
  refine wpAnyH_ready (rs := [1, 4, 5]) (by kernel_rfl) (by simp) ?_
  refine AllReadyH.cons rfl (fun K hK => ?_) (AllReadyH.cons rfl (fun K hK => ?_) (AllReadyH.cons rfl (fun K hK => ?_) AllReadyH.nil))
  · refine step_call rfl 11 #[.agg (kA (k64 key)), .int .u8 92] (by kernel_rfl) (HM92 _).out ?_
    rintro e W1 ⟨rfl, b⟩
    have R3 := hide ((b.block _ (lt_of_block' R3.out)).trans R3.out)
    have B := hide (B.out.trans (b.mono B.out.size))
    refine ⟨_, rfl, hK.out _ _ R3.out (fun _ => ?_)⟩
    clear hK K b
    simp only [Act.put, List.getElem_toArray, List.getElem_cons_zero, List.getElem_cons_succ, List.setIfInBounds_toArray, List.set_cons_zero, List.set_cons_succ]
    refine wpAnyH_ready (rs := [3, 4, 5]) (by kernel_rfl) (by simp) ?_
    refine AllReadyH.cons rfl (fun K hK => ?_) (AllReadyH.cons rfl (fun K hK => ?_) (AllReadyH.cons rfl (fun K hK => ?_) AllReadyH.nil))
    · refine step_call rfl 11 #[.agg (kA (k64 key)), .int .u8 54] (by kernel_rfl) (HM54 _).out ?_
      rintro e W2 ⟨rfl, b⟩
      have R3 := hide ((b.block _ (lt_of_block' R3.out)).trans R3.out)
      have B := hide (B.out.trans (b.mono B.out.size))
      refine ⟨_, rfl, hK.out _ _ R3.out (fun _ => ?_)⟩
      clear hK K b
      simp only [Act.put, List.getElem_toArray, List.getElem_cons_zero, List.getElem_cons_succ, List.setIfInBounds_toArray, List.set_cons_zero, List.set_cons_succ]
      refine wpAnyH_ready (rs := [4, 5]) (by kernel_rfl) (by simp) ?_
      refine AllReadyH.cons rfl (fun K hK => ?_) (AllReadyH.cons rfl (fun K hK => ?_) AllReadyH.nil)
      · refine step_alloc rfl 33 rfl (kA Z64) hz ?_
        have l3 := lt_of_block' R3.out
        have s0 := B.out.size
        have B := hide (B.out.alloc B.out.size (.cells (kA Z64) 33))
        have R3 := hide (heap_old (o := .cells (kA Z64) 33) R3.out)
        have H4 := hide (heap_new W2 (.cells (kA Z64) 33))
        have h34 := And.intro l3 s0
        refine hK.out _ _ R3.out (fun _ => ?_)
        clear hK K
        simp only [Act.put, List.getElem_toArray, List.getElem_cons_zero, List.getElem_cons_succ, List.setIfInBounds_toArray, List.set_cons_zero, List.set_cons_succ]
        obtain ⟨b4, hb4⟩ : ∃ b, b = W2.heap.size := ⟨_, rfl⟩
        rw [← hb4] at H4 h34 ⊢
        clear hb4 l3 s0
        refine wpAnyH_ready (rs := [5]) (by kernel_rfl) (by simp) ?_
        refine AllReadyH.cons rfl (fun K hK => ?_) AllReadyH.nil
        refine step_alloc rfl 33 rfl (kA Z64) hz ?_
        have l3 := lt_of_block' R3.out
        have l4 := lt_of_block' H4.out
        have s0 := B.out.size
        have B := hide (B.out.alloc B.out.size (.cells (kA Z64) 33))
        have R3 := hide (heap_old (o := .cells (kA Z64) 33) R3.out)
        have H4 := hide (heap_old (o := .cells (kA Z64) 33) H4.out)
        have H5 := hide (heap_new (W2.alloc (.cells (kA Z64) 33)) (.cells (kA Z64) 33))
        have h35 := And.intro l3 s0
        have h45 := Nat.ne_of_lt l4
        refine hK.out _ _ R3.out (fun _ => ?_)
        clear hK K
        simp only [Act.put, List.getElem_toArray, List.getElem_cons_zero, List.getElem_cons_succ, List.setIfInBounds_toArray, List.set_cons_zero, List.set_cons_succ]
        obtain ⟨b5, hb5⟩ : ∃ b, b = (W2.alloc (.cells (kA Z64) 33)).heap.size := ⟨_, rfl⟩
        rw [← hb5] at H5 h35 h45 ⊢
        clear hb5 l3 s0 l4
        refine wpAnyH_ready (rs := [6]) (by kernel_rfl) (by simp) ?_
        refine AllReadyH.cons rfl (fun K hK => ?_) AllReadyH.nil
        refine step_store rfl 33 (.tmp 4) (.tmp 9) rfl _ (kA (kX key 92)) rfl rfl (kA Z64) 33 H4.out (HX 92).out (HXS 92).out (HXO 92).out ?_
        intro W6 G6 K6
        refine hK.out _ _ (K6.out.heap R3.out (by omega)) (fun _ => ?_)
        have R3 := hide (K6.out.heap R3.out (by omega))
        have H5 := hide (K6.out.heap H5.out (by omega))
        have B := hide (B.out.trans (K6.out.below B.out.size (fun i hi e => by omega)))
        clear hK K K6 H4
        refine wpAnyH_ready (rs := [7]) (by kernel_rfl) (by simp) ?_
        refine AllReadyH.cons rfl (fun K hK => ?_) AllReadyH.nil
        refine step_store rfl 33 (.tmp 5) (.tmp 11) rfl _ (kA (kX key 54)) rfl rfl (kA Z64) 33 H5.out (HX 54).out (HXS 54).out (HXO 54).out ?_
        intro W7 G7 K7
        refine hK.out _ _ (K7.out.heap R3.out (by omega)) (fun _ => ?_)
        have G6 := hide (K7.out.heap G6.out (by omega))
        have B := hide (B.out.trans (K7.out.below B.out.size (fun i hi e => by omega)))
        clear hK K K7 H5 R3
        refine wpAnyH_done (by kernel_rfl) ?_ _
        go_wp2_with fail
        go_ret
        exact ⟨_, rfl, ⟨_, _, rfl, by omega, by omega, G7.out, G6.out⟩, B.out⟩
      · refine step_alloc rfl 33 rfl (kA Z64) hz ?_
        have l3 := lt_of_block' R3.out
        have s0 := B.out.size
        have B := hide (B.out.alloc B.out.size (.cells (kA Z64) 33))
        have R3 := hide (heap_old (o := .cells (kA Z64) 33) R3.out)
        have H5 := hide (heap_new W2 (.cells (kA Z64) 33))
        have h35 := And.intro l3 s0
        refine hK.out _ _ R3.out (fun _ => ?_)
        clear hK K
        simp only [Act.put, List.getElem_toArray, List.getElem_cons_zero, List.getElem_cons_succ, List.setIfInBounds_toArray, List.set_cons_zero, List.set_cons_succ]
        obtain ⟨b5, hb5⟩ : ∃ b, b = W2.heap.size := ⟨_, rfl⟩
        rw [← hb5] at H5 h35 ⊢
        clear hb5 l3 s0
        refine wpAnyH_ready (rs := [4]) (by kernel_rfl) (by simp) ?_
        refine AllReadyH.cons rfl (fun K hK => ?_) AllReadyH.nil
        refine step_alloc rfl 33 rfl (kA Z64) hz ?_
        have l3 := lt_of_block' R3.out
        have l5 := lt_of_block' H5.out
        have s0 := B.out.size
        have B := hide (B.out.alloc B.out.size (.cells (kA Z64) 33))
        have R3 := hide (heap_old (o := .cells (kA Z64) 33) R3.out)
        have H5 := hide (heap_old (o := .cells (kA Z64) 33) H5.out)
        have H4 := hide (heap_new (W2.alloc (.cells (kA Z64) 33)) (.cells (kA Z64) 33))
        have h34 := And.intro l3 s0
        have h45 := Nat.ne_of_gt l5
        refine hK.out _ _ R3.out (fun _ => ?_)
        clear hK K
        simp only [Act.put, List.getElem_toArray, List.getElem_cons_zero, List.getElem_cons_succ, List.setIfInBounds_toArray, List.set_cons_zero, List.set_cons_succ]
        obtain ⟨b4, hb4⟩ : ∃ b, b = (W2.alloc (.cells (kA Z64) 33)).heap.size := ⟨_, rfl⟩
        rw [← hb4] at H4 h34 h45 ⊢
        clear hb4 l3 s0 l5
        refine wpAnyH_ready (rs := [6]) (by kernel_rfl) (by simp) ?_
        refine AllReadyH.cons rfl (fun K hK => ?_) AllReadyH.nil
        refine step_store rfl 33 (.tmp 4) (.tmp 9) rfl _ (kA (kX key 92)) rfl rfl (kA Z64) 33 H4.out (HX 92).out (HXS 92).out (HXO 92).out ?_
        intro W6 G6 K6
        refine hK.out _ _ (K6.out.heap R3.out (by omega)) (fun _ => ?_)
        have R3 := hide (K6.out.heap R3.out (by omega))
        have H5 := hide (K6.out.heap H5.out (by omega))
        have B := hide (B.out.trans (K6.out.below B.out.size (fun i hi e => by omega)))
        clear hK K K6 H4
        refine wpAnyH_ready (rs := [7]) (by kernel_rfl) (by simp) ?_
        refine AllReadyH.cons rfl (fun K hK => ?_) AllReadyH.nil
        refine step_store rfl 33 (.tmp 5) (.tmp 11) rfl _ (kA (kX key 54)) rfl rfl (kA Z64) 33 H5.out (HX 54).out (HXS 54).out (HXO 54).out ?_
        intro W7 G7 K7
        refine hK.out _ _ (K7.out.heap R3.out (by omega)) (fun _ => ?_)
        have G6 := hide (K7.out.heap G6.out (by omega))
        have B := hide (B.out.trans (K7.out.below B.out.size (fun i hi e => by omega)))
        clear hK K K7 H5 R3
        refine wpAnyH_done (by kernel_rfl) ?_ _
        go_wp2_with fail
        go_ret
        exact ⟨_, rfl, ⟨_, _, rfl, by omega, by omega, G7.out, G6.out⟩, B.out⟩
    · refine step_alloc rfl 33 rfl (kA Z64) hz ?_
      have l3 := lt_of_block' R3.out
      have s0 := B.out.size
      have B := hide (B.out.alloc B.out.size (.cells (kA Z64) 33))
      have R3 := hide (heap_old (o := .cells (kA Z64) 33) R3.out)
      have H4 := hide (heap_new W1 (.cells (kA Z64) 33))
      have h34 := And.intro l3 s0
      refine hK.out _ _ R3.out (fun _ => ?_)
      clear hK K
      simp only [Act.put, List.getElem_toArray, List.getElem_cons_zero, List.getElem_cons_succ, List.setIfInBounds_toArray, List.set_cons_zero, List.set_cons_succ]
      obtain ⟨b4, hb4⟩ : ∃ b, b = W1.heap.size := ⟨_, rfl⟩
      rw [← hb4] at H4 h34 ⊢
      clear hb4 l3 s0
      refine wpAnyH_ready (rs := [3, 5]) (by kernel_rfl) (by simp) ?_
      refine AllReadyH.cons rfl (fun K hK => ?_) (AllReadyH.cons rfl (fun K hK => ?_) AllReadyH.nil)
      · refine step_call rfl 11 #[.agg (kA (k64 key)), .int .u8 54] (by kernel_rfl) (HM54 _).out ?_
        rintro e W3 ⟨rfl, b⟩
        have R3 := hide ((b.block _ (lt_of_block' R3.out)).trans R3.out)
        have B := hide (B.out.trans (b.mono B.out.size))
        have H4 := hide ((b.block _ (lt_of_block' H4.out)).trans H4.out)
        refine ⟨_, rfl, hK.out _ _ R3.out (fun _ => ?_)⟩
        clear hK K b
        simp only [Act.put, List.getElem_toArray, List.getElem_cons_zero, List.getElem_cons_succ, List.setIfInBounds_toArray, List.set_cons_zero, List.set_cons_succ]
        refine wpAnyH_ready (rs := [5]) (by kernel_rfl) (by simp) ?_
        refine AllReadyH.cons rfl (fun K hK => ?_) AllReadyH.nil
        refine step_alloc rfl 33 rfl (kA Z64) hz ?_
        have l3 := lt_of_block' R3.out
        have l4 := lt_of_block' H4.out
        have s0 := B.out.size
        have B := hide (B.out.alloc B.out.size (.cells (kA Z64) 33))
        have R3 := hide (heap_old (o := .cells (kA Z64) 33) R3.out)
        have H4 := hide (heap_old (o := .cells (kA Z64) 33) H4.out)
        have H5 := hide (heap_new W3 (.cells (kA Z64) 33))
        have h35 := And.intro l3 s0
        have h45 := Nat.ne_of_lt l4
        refine hK.out _ _ R3.out (fun _ => ?_)
        clear hK K
        simp only [Act.put, List.getElem_toArray, List.getElem_cons_zero, List.getElem_cons_succ, List.setIfInBounds_toArray, List.set_cons_zero, List.set_cons_succ]
        obtain ⟨b5, hb5⟩ : ∃ b, b = W3.heap.size := ⟨_, rfl⟩
        rw [← hb5] at H5 h35 h45 ⊢
        clear hb5 l3 s0 l4
        refine wpAnyH_ready (rs := [6]) (by kernel_rfl) (by simp) ?_
        refine AllReadyH.cons rfl (fun K hK => ?_) AllReadyH.nil
        refine step_store rfl 33 (.tmp 4) (.tmp 9) rfl _ (kA (kX key 92)) rfl rfl (kA Z64) 33 H4.out (HX 92).out (HXS 92).out (HXO 92).out ?_
        intro W6 G6 K6
        refine hK.out _ _ (K6.out.heap R3.out (by omega)) (fun _ => ?_)
        have R3 := hide (K6.out.heap R3.out (by omega))
        have H5 := hide (K6.out.heap H5.out (by omega))
        have B := hide (B.out.trans (K6.out.below B.out.size (fun i hi e => by omega)))
        clear hK K K6 H4
        refine wpAnyH_ready (rs := [7]) (by kernel_rfl) (by simp) ?_
        refine AllReadyH.cons rfl (fun K hK => ?_) AllReadyH.nil
        refine step_store rfl 33 (.tmp 5) (.tmp 11) rfl _ (kA (kX key 54)) rfl rfl (kA Z64) 33 H5.out (HX 54).out (HXS 54).out (HXO 54).out ?_
        intro W7 G7 K7
        refine hK.out _ _ (K7.out.heap R3.out (by omega)) (fun _ => ?_)
        have G6 := hide (K7.out.heap G6.out (by omega))
        have B := hide (B.out.trans (K7.out.below B.out.size (fun i hi e => by omega)))
        clear hK K K7 H5 R3
        refine wpAnyH_done (by kernel_rfl) ?_ _
        go_wp2_with fail
        go_ret
        exact ⟨_, rfl, ⟨_, _, rfl, by omega, by omega, G7.out, G6.out⟩, B.out⟩
      · refine step_alloc rfl 33 rfl (kA Z64) hz ?_
        have l3 := lt_of_block' R3.out
        have l4 := lt_of_block' H4.out
        have s0 := B.out.size
        have B := hide (B.out.alloc B.out.size (.cells (kA Z64) 33))
        have R3 := hide (heap_old (o := .cells (kA Z64) 33) R3.out)
        have H4 := hide (heap_old (o := .cells (kA Z64) 33) H4.out)
        have H5 := hide (heap_new (W1.alloc (.cells (kA Z64) 33)) (.cells (kA Z64) 33))
        have h35 := And.intro l3 s0
        have h45 := Nat.ne_of_lt l4
        refine hK.out _ _ R3.out (fun _ => ?_)
        clear hK K
        simp only [Act.put, List.getElem_toArray, List.getElem_cons_zero, List.getElem_cons_succ, List.setIfInBounds_toArray, List.set_cons_zero, List.set_cons_succ]
        obtain ⟨b5, hb5⟩ : ∃ b, b = (W1.alloc (.cells (kA Z64) 33)).heap.size := ⟨_, rfl⟩
        rw [← hb5] at H5 h35 h45 ⊢
        clear hb5 l3 s0 l4
        refine wpAnyH_ready (rs := [3]) (by kernel_rfl) (by simp) ?_
        refine AllReadyH.cons rfl (fun K hK => ?_) AllReadyH.nil
        refine step_call rfl 11 #[.agg (kA (k64 key)), .int .u8 54] (by kernel_rfl) (HM54 _).out ?_
        rintro e W4 ⟨rfl, b⟩
        have R3 := hide ((b.block _ (lt_of_block' R3.out)).trans R3.out)
        have B := hide (B.out.trans (b.mono B.out.size))
        have H4 := hide ((b.block _ (lt_of_block' H4.out)).trans H4.out)
        have H5 := hide ((b.block _ (lt_of_block' H5.out)).trans H5.out)
        refine ⟨_, rfl, hK.out _ _ R3.out (fun _ => ?_)⟩
        clear hK K b
        simp only [Act.put, List.getElem_toArray, List.getElem_cons_zero, List.getElem_cons_succ, List.setIfInBounds_toArray, List.set_cons_zero, List.set_cons_succ]
        refine wpAnyH_ready (rs := [6]) (by kernel_rfl) (by simp) ?_
        refine AllReadyH.cons rfl (fun K hK => ?_) AllReadyH.nil
        refine step_store rfl 33 (.tmp 4) (.tmp 9) rfl _ (kA (kX key 92)) rfl rfl (kA Z64) 33 H4.out (HX 92).out (HXS 92).out (HXO 92).out ?_
        intro W6 G6 K6
        refine hK.out _ _ (K6.out.heap R3.out (by omega)) (fun _ => ?_)
        have R3 := hide (K6.out.heap R3.out (by omega))
        have H5 := hide (K6.out.heap H5.out (by omega))
        have B := hide (B.out.trans (K6.out.below B.out.size (fun i hi e => by omega)))
        clear hK K K6 H4
        refine wpAnyH_ready (rs := [7]) (by kernel_rfl) (by simp) ?_
        refine AllReadyH.cons rfl (fun K hK => ?_) AllReadyH.nil
        refine step_store rfl 33 (.tmp 5) (.tmp 11) rfl _ (kA (kX key 54)) rfl rfl (kA Z64) 33 H5.out (HX 54).out (HXS 54).out (HXO 54).out ?_
        intro W7 G7 K7
        refine hK.out _ _ (K7.out.heap R3.out (by omega)) (fun _ => ?_)
        have G6 := hide (K7.out.heap G6.out (by omega))
        have B := hide (B.out.trans (K7.out.below B.out.size (fun i hi e => by omega)))
        clear hK K K7 H5 R3
        refine wpAnyH_done (by kernel_rfl) ?_ _
        go_wp2_with fail
        go_ret
        exact ⟨_, rfl, ⟨_, _, rfl, by omega, by omega, G7.out, G6.out⟩, B.out⟩
    · refine step_alloc rfl 33 rfl (kA Z64) hz ?_
      have l3 := lt_of_block' R3.out
      have s0 := B.out.size
      have B := hide (B.out.alloc B.out.size (.cells (kA Z64) 33))
      have R3 := hide (heap_old (o := .cells (kA Z64) 33) R3.out)
      have H5 := hide (heap_new W1 (.cells (kA Z64) 33))
      have h35 := And.intro l3 s0
      refine hK.out _ _ R3.out (fun _ => ?_)
      clear hK K
      simp only [Act.put, List.getElem_toArray, List.getElem_cons_zero, List.getElem_cons_succ, List.setIfInBounds_toArray, List.set_cons_zero, List.set_cons_succ]
      obtain ⟨b5, hb5⟩ : ∃ b, b = W1.heap.size := ⟨_, rfl⟩
      rw [← hb5] at H5 h35 ⊢
      clear hb5 l3 s0
      refine wpAnyH_ready (rs := [3, 4]) (by kernel_rfl) (by simp) ?_
      refine AllReadyH.cons rfl (fun K hK => ?_) (AllReadyH.cons rfl (fun K hK => ?_) AllReadyH.nil)
      · refine step_call rfl 11 #[.agg (kA (k64 key)), .int .u8 54] (by kernel_rfl) (HM54 _).out ?_
        rintro e W3 ⟨rfl, b⟩
        have R3 := hide ((b.block _ (lt_of_block' R3.out)).trans R3.out)
        have B := hide (B.out.trans (b.mono B.out.size))
        have H5 := hide ((b.block _ (lt_of_block' H5.out)).trans H5.out)
        refine ⟨_, rfl, hK.out _ _ R3.out (fun _ => ?_)⟩
        clear hK K b
        simp only [Act.put, List.getElem_toArray, List.getElem_cons_zero, List.getElem_cons_succ, List.setIfInBounds_toArray, List.set_cons_zero, List.set_cons_succ]
        refine wpAnyH_ready (rs := [4]) (by kernel_rfl) (by simp) ?_
        refine AllReadyH.cons rfl (fun K hK => ?_) AllReadyH.nil
        refine step_alloc rfl 33 rfl (kA Z64) hz ?_
        have l3 := lt_of_block' R3.out
        have l5 := lt_of_block' H5.out
        have s0 := B.out.size
        have B := hide (B.out.alloc B.out.size (.cells (kA Z64) 33))
        have R3 := hide (heap_old (o := .cells (kA Z64) 33) R3.out)
        have H5 := hide (heap_old (o := .cells (kA Z64) 33) H5.out)
        have H4 := hide (heap_new W3 (.cells (kA Z64) 33))
        have h34 := And.intro l3 s0
        have h45 := Nat.ne_of_gt l5
        refine hK.out _ _ R3.out (fun _ => ?_)
        clear hK K
        simp only [Act.put, List.getElem_toArray, List.getElem_cons_zero, List.getElem_cons_succ, List.setIfInBounds_toArray, List.set_cons_zero, List.set_cons_succ]
        obtain ⟨b4, hb4⟩ : ∃ b, b = W3.heap.size := ⟨_, rfl⟩
        rw [← hb4] at H4 h34 h45 ⊢
        clear hb4 l3 s0 l5
        refine wpAnyH_ready (rs := [6]) (by kernel_rfl) (by simp) ?_
        refine AllReadyH.cons rfl (fun K hK => ?_) AllReadyH.nil
        refine step_store rfl 33 (.tmp 4) (.tmp 9) rfl _ (kA (kX key 92)) rfl rfl (kA Z64) 33 H4.out (HX 92).out (HXS 92).out (HXO 92).out ?_
        intro W6 G6 K6
        refine hK.out _ _ (K6.out.heap R3.out (by omega)) (fun _ => ?_)
        have R3 := hide (K6.out.heap R3.out (by omega))
        have H5 := hide (K6.out.heap H5.out (by omega))
        have B := hide (B.out.trans (K6.out.below B.out.size (fun i hi e => by omega)))
        clear hK K K6 H4
        refine wpAnyH_ready (rs := [7]) (by kernel_rfl) (by simp) ?_
        refine AllReadyH.cons rfl (fun K hK => ?_) AllReadyH.nil
        refine step_store rfl 33 (.tmp 5) (.tmp 11) rfl _ (kA (kX key 54)) rfl rfl (kA Z64) 33 H5.out (HX 54).out (HXS 54).out (HXO 54).out ?_
        intro W7 G7 K7
        refine hK.out _ _ (K7.out.heap R3.out (by omega)) (fun _ => ?_)
        have G6 := hide (K7.out.heap G6.out (by omega))
        have B := hide (B.out.trans (K7.out.below B.out.size (fun i hi e => by omega)))
        clear hK K K7 H5 R3
        refine wpAnyH_done (by kernel_rfl) ?_ _
        go_wp2_with fail
        go_ret
        exact ⟨_, rfl, ⟨_, _, rfl, by omega, by omega, G7.out, G6.out⟩, B.out⟩
      · refine step_alloc rfl 33 rfl (kA Z64) hz ?_
        have l3 := lt_of_block' R3.out
        have l5 := lt_of_block' H5.out
        have s0 := B.out.size
        have B := hide (B.out.alloc B.out.size (.cells (kA Z64) 33))
        have R3 := hide (heap_old (o := .cells (kA Z64) 33) R3.out)
        have H5 := hide (heap_old (o := .cells (kA Z64) 33) H5.out)
        have H4 := hide (heap_new (W1.alloc (.cells (kA Z64) 33)) (.cells (kA Z64) 33))
        have h34 := And.intro l3 s0
        have h45 := Nat.ne_of_gt l5
        refine hK.out _ _ R3.out (fun _ => ?_)
        clear hK K
        simp only [Act.put, List.getElem_toArray, List.getElem_cons_zero, List.getElem_cons_succ, List.setIfInBounds_toArray, List.set_cons_zero, List.set_cons_succ]
        obtain ⟨b4, hb4⟩ : ∃ b, b = (W1.alloc (.cells (kA Z64) 33)).heap.size := ⟨_, rfl⟩
        rw [← hb4] at H4 h34 h45 ⊢
        clear hb4 l3 s0 l5
        refine wpAnyH_ready (rs := [3]) (by kernel_rfl) (by simp) ?_
        refine AllReadyH.cons rfl (fun K hK => ?_) AllReadyH.nil
        refine step_call rfl 11 #[.agg (kA (k64 key)), .int .u8 54] (by kernel_rfl) (HM54 _).out ?_
        rintro e W4 ⟨rfl, b⟩
        have R3 := hide ((b.block _ (lt_of_block' R3.out)).trans R3.out)
        have B := hide (B.out.trans (b.mono B.out.size))
        have H4 := hide ((b.block _ (lt_of_block' H4.out)).trans H4.out)
        have H5 := hide ((b.block _ (lt_of_block' H5.out)).trans H5.out)
        refine ⟨_, rfl, hK.out _ _ R3.out (fun _ => ?_)⟩
        clear hK K b
        simp only [Act.put, List.getElem_toArray, List.getElem_cons_zero, List.getElem_cons_succ, List.setIfInBounds_toArray, List.set_cons_zero, List.set_cons_succ]
        refine wpAnyH_ready (rs := [6]) (by kernel_rfl) (by simp) ?_
        refine AllReadyH.cons rfl (fun K hK => ?_) AllReadyH.nil
        refine step_store rfl 33 (.tmp 4) (.tmp 9) rfl _ (kA (kX key 92)) rfl rfl (kA Z64) 33 H4.out (HX 92).out (HXS 92).out (HXO 92).out ?_
        intro W6 G6 K6
        refine hK.out _ _ (K6.out.heap R3.out (by omega)) (fun _ => ?_)
        have R3 := hide (K6.out.heap R3.out (by omega))
        have H5 := hide (K6.out.heap H5.out (by omega))
        have B := hide (B.out.trans (K6.out.below B.out.size (fun i hi e => by omega)))
        clear hK K K6 H4
        refine wpAnyH_ready (rs := [7]) (by kernel_rfl) (by simp) ?_
        refine AllReadyH.cons rfl (fun K hK => ?_) AllReadyH.nil
        refine step_store rfl 33 (.tmp 5) (.tmp 11) rfl _ (kA (kX key 54)) rfl rfl (kA Z64) 33 H5.out (HX 54).out (HXS 54).out (HXO 54).out ?_
        intro W7 G7 K7
        refine hK.out _ _ (K7.out.heap R3.out (by omega)) (fun _ => ?_)
        have G6 := hide (K7.out.heap G6.out (by omega))
        have B := hide (B.out.trans (K7.out.below B.out.size (fun i hi e => by omega)))
        clear hK K K7 H5 R3
        refine wpAnyH_done (by kernel_rfl) ?_ _
        go_wp2_with fail
        go_ret
        exact ⟨_, rfl, ⟨_, _, rfl, by omega, by omega, G7.out, G6.out⟩, B.out⟩
  · refine step_alloc rfl 33 rfl (kA Z64) hz ?_
    have l3 := lt_of_block' R3.out
    have s0 := B.out.size
    have B := hide (B.out.alloc B.out.size (.cells (kA Z64) 33))
    have R3 := hide (heap_old (o := .cells (kA Z64) 33) R3.out)
    have H4 := hide (heap_new W0 (.cells (kA Z64) 33))
    have h34 := And.intro l3 s0
    refine hK.out _ _ R3.out (fun _ => ?_)
    clear hK K
    simp only [Act.put, List.getElem_toArray, List.getElem_cons_zero, List.getElem_cons_succ, List.setIfInBounds_toArray, List.set_cons_zero, List.set_cons_succ]
    obtain ⟨b4, hb4⟩ : ∃ b, b = W0.heap.size := ⟨_, rfl⟩
    rw [← hb4] at H4 h34 ⊢
    clear hb4 l3 s0
    refine wpAnyH_ready (rs := [1, 5]) (by kernel_rfl) (by simp) ?_
    refine AllReadyH.cons rfl (fun K hK => ?_) (AllReadyH.cons rfl (fun K hK => ?_) AllReadyH.nil)
    · refine step_call rfl 11 #[.agg (kA (k64 key)), .int .u8 92] (by kernel_rfl) (HM92 _).out ?_
      rintro e W2 ⟨rfl, b⟩
      have R3 := hide ((b.block _ (lt_of_block' R3.out)).trans R3.out)
      have B := hide (B.out.trans (b.mono B.out.size))
      have H4 := hide ((b.block _ (lt_of_block' H4.out)).trans H4.out)
      refine ⟨_, rfl, hK.out _ _ R3.out (fun _ => ?_)⟩
      clear hK K b
      simp only [Act.put, List.getElem_toArray, List.getElem_cons_zero, List.getElem_cons_succ, List.setIfInBounds_toArray, List.set_cons_zero, List.set_cons_succ]
      refine wpAnyH_ready (rs := [3, 5]) (by kernel_rfl) (by simp) ?_
      refine AllReadyH.cons rfl (fun K hK => ?_) (AllReadyH.cons rfl (fun K hK => ?_) AllReadyH.nil)
      · refine step_call rfl 11 #[.agg (kA (k64 key)), .int .u8 54] (by kernel_rfl) (HM54 _).out ?_
        rintro e W3 ⟨rfl, b⟩
        have R3 := hide ((b.block _ (lt_of_block' R3.out)).trans R3.out)
        have B := hide (B.out.trans (b.mono B.out.size))
        have H4 := hide ((b.block _ (lt_of_block' H4.out)).trans H4.out)
        refine ⟨_, rfl, hK.out _ _ R3.out (fun _ => ?_)⟩
        clear hK K b
        simp only [Act.put, List.getElem_toArray, List.getElem_cons_zero, List.getElem_cons_succ, List.setIfInBounds_toArray, List.set_cons_zero, List.set_cons_succ]
        refine wpAnyH_ready (rs := [5]) (by kernel_rfl) (by simp) ?_
        refine AllReadyH.cons rfl (fun K hK => ?_) AllReadyH.nil
        refine step_alloc rfl 33 rfl (kA Z64) hz ?_
        have l3 := lt_of_block' R3.out
        have l4 := lt_of_block' H4.out
        have s0 := B.out.size
        have B := hide (B.out.alloc B.out.size (.cells (kA Z64) 33))
        have R3 := hide (heap_old (o := .cells (kA Z64) 33) R3.out)
        have H4 := hide (heap_old (o := .cells (kA Z64) 33) H4.out)
        have H5 := hide (heap_new W3 (.cells (kA Z64) 33))
        have h35 := And.intro l3 s0
        have h45 := Nat.ne_of_lt l4
        refine hK.out _ _ R3.out (fun _ => ?_)
        clear hK K
        simp only [Act.put, List.getElem_toArray, List.getElem_cons_zero, List.getElem_cons_succ, List.setIfInBounds_toArray, List.set_cons_zero, List.set_cons_succ]
        obtain ⟨b5, hb5⟩ : ∃ b, b = W3.heap.size := ⟨_, rfl⟩
        rw [← hb5] at H5 h35 h45 ⊢
        clear hb5 l3 s0 l4
        refine wpAnyH_ready (rs := [6]) (by kernel_rfl) (by simp) ?_
        refine AllReadyH.cons rfl (fun K hK => ?_) AllReadyH.nil
        refine step_store rfl 33 (.tmp 4) (.tmp 9) rfl _ (kA (kX key 92)) rfl rfl (kA Z64) 33 H4.out (HX 92).out (HXS 92).out (HXO 92).out ?_
        intro W6 G6 K6
        refine hK.out _ _ (K6.out.heap R3.out (by omega)) (fun _ => ?_)
        have R3 := hide (K6.out.heap R3.out (by omega))
        have H5 := hide (K6.out.heap H5.out (by omega))
        have B := hide (B.out.trans (K6.out.below B.out.size (fun i hi e => by omega)))
        clear hK K K6 H4
        refine wpAnyH_ready (rs := [7]) (by kernel_rfl) (by simp) ?_
        refine AllReadyH.cons rfl (fun K hK => ?_) AllReadyH.nil
        refine step_store rfl 33 (.tmp 5) (.tmp 11) rfl _ (kA (kX key 54)) rfl rfl (kA Z64) 33 H5.out (HX 54).out (HXS 54).out (HXO 54).out ?_
        intro W7 G7 K7
        refine hK.out _ _ (K7.out.heap R3.out (by omega)) (fun _ => ?_)
        have G6 := hide (K7.out.heap G6.out (by omega))
        have B := hide (B.out.trans (K7.out.below B.out.size (fun i hi e => by omega)))
        clear hK K K7 H5 R3
        refine wpAnyH_done (by kernel_rfl) ?_ _
        go_wp2_with fail
        go_ret
        exact ⟨_, rfl, ⟨_, _, rfl, by omega, by omega, G7.out, G6.out⟩, B.out⟩
      · refine step_alloc rfl 33 rfl (kA Z64) hz ?_
        have l3 := lt_of_block' R3.out
        have l4 := lt_of_block' H4.out
        have s0 := B.out.size
        have B := hide (B.out.alloc B.out.size (.cells (kA Z64) 33))
        have R3 := hide (heap_old (o := .cells (kA Z64) 33) R3.out)
        have H4 := hide (heap_old (o := .cells (kA Z64) 33) H4.out)
        have H5 := hide (heap_new W2 (.cells (kA Z64) 33))
        have h35 := And.intro l3 s0
        have h45 := Nat.ne_of_lt l4
        refine hK.out _ _ R3.out (fun _ => ?_)
        clear hK K
        simp only [Act.put, List.getElem_toArray, List.getElem_cons_zero, List.getElem_cons_succ, List.setIfInBounds_toArray, List.set_cons_zero, List.set_cons_succ]
        obtain ⟨b5, hb5⟩ : ∃ b, b = W2.heap.size := ⟨_, rfl⟩
        rw [← hb5] at H5 h35 h45 ⊢
        clear hb5 l3 s0 l4
        refine wpAnyH_ready (rs := [3]) (by kernel_rfl) (by simp) ?_
        refine AllReadyH.cons rfl (fun K hK => ?_) AllReadyH.nil
        refine step_call rfl 11 #[.agg (kA (k64 key)), .int .u8 54] (by kernel_rfl) (HM54 _).out ?_
        rintro e W4 ⟨rfl, b⟩
        have R3 := hide ((b.block _ (lt_of_block' R3.out)).trans R3.out)
        have B := hide (B.out.trans (b.mono B.out.size))
        have H4 := hide ((b.block _ (lt_of_block' H4.out)).trans H4.out)
        have H5 := hide ((b.block _ (lt_of_block' H5.out)).trans H5.out)
        refine ⟨_, rfl, hK.out _ _ R3.out (fun _ => ?_)⟩
        clear hK K b
        simp only [Act.put, List.getElem_toArray, List.getElem_cons_zero, List.getElem_cons_succ, List.setIfInBounds_toArray, List.set_cons_zero, List.set_cons_succ]
        refine wpAnyH_ready (rs := [6]) (by kernel_rfl) (by simp) ?_
        refine AllReadyH.cons rfl (fun K hK => ?_) AllReadyH.nil
        refine step_store rfl 33 (.tmp 4) (.tmp 9) rfl _ (kA (kX key 92)) rfl rfl (kA Z64) 33 H4.out (HX 92).out (HXS 92).out (HXO 92).out ?_
        intro W6 G6 K6
        refine hK.out _ _ (K6.out.heap R3.out (by omega)) (fun _ => ?_)
        have R3 := hide (K6.out.heap R3.out (by omega))
        have H5 := hide (K6.out.heap H5.out (by omega))
        have B := hide (B.out.trans (K6.out.below B.out.size (fun i hi e => by omega)))
        clear hK K K6 H4
        refine wpAnyH_ready (rs := [7]) (by kernel_rfl) (by simp) ?_
        refine AllReadyH.cons rfl (fun K hK => ?_) AllReadyH.nil
        refine step_store rfl 33 (.tmp 5) (.tmp 11) rfl _ (kA (kX key 54)) rfl rfl (kA Z64) 33 H5.out (HX 54).out (HXS 54).out (HXO 54).out ?_
        intro W7 G7 K7
        refine hK.out _ _ (K7.out.heap R3.out (by omega)) (fun _ => ?_)
        have G6 := hide (K7.out.heap G6.out (by omega))
        have B := hide (B.out.trans (K7.out.below B.out.size (fun i hi e => by omega)))
        clear hK K K7 H5 R3
        refine wpAnyH_done (by kernel_rfl) ?_ _
        go_wp2_with fail
        go_ret
        exact ⟨_, rfl, ⟨_, _, rfl, by omega, by omega, G7.out, G6.out⟩, B.out⟩
    · refine step_alloc rfl 33 rfl (kA Z64) hz ?_
      have l3 := lt_of_block' R3.out
      have l4 := lt_of_block' H4.out
      have s0 := B.out.size
      have B := hide (B.out.alloc B.out.size (.cells (kA Z64) 33))
      have R3 := hide (heap_old (o := .cells (kA Z64) 33) R3.out)
      have H4 := hide (heap_old (o := .cells (kA Z64) 33) H4.out)
      have H5 := hide (heap_new (W0.alloc (.cells (kA Z64) 33)) (.cells (kA Z64) 33))
      have h35 := And.intro l3 s0
      have h45 := Nat.ne_of_lt l4
      refine hK.out _ _ R3.out (fun _ => ?_)
      clear hK K
      simp only [Act.put, List.getElem_toArray, List.getElem_cons_zero, List.getElem_cons_succ, List.setIfInBounds_toArray, List.set_cons_zero, List.set_cons_succ]
      obtain ⟨b5, hb5⟩ : ∃ b, b = (W0.alloc (.cells (kA Z64) 33)).heap.size := ⟨_, rfl⟩
      rw [← hb5] at H5 h35 h45 ⊢
      clear hb5 l3 s0 l4
      refine wpAnyH_ready (rs := [1]) (by kernel_rfl) (by simp) ?_
      refine AllReadyH.cons rfl (fun K hK => ?_) AllReadyH.nil
      refine step_call rfl 11 #[.agg (kA (k64 key)), .int .u8 92] (by kernel_rfl) (HM92 _).out ?_
      rintro e W3 ⟨rfl, b⟩
      have R3 := hide ((b.block _ (lt_of_block' R3.out)).trans R3.out)
      have B := hide (B.out.trans (b.mono B.out.size))
      have H4 := hide ((b.block _ (lt_of_block' H4.out)).trans H4.out)
      have H5 := hide ((b.block _ (lt_of_block' H5.out)).trans H5.out)
      refine ⟨_, rfl, hK.out _ _ R3.out (fun _ => ?_)⟩
      clear hK K b
      simp only [Act.put, List.getElem_toArray, List.getElem_cons_zero, List.getElem_cons_succ, List.setIfInBounds_toArray, List.set_cons_zero, List.set_cons_succ]
      refine wpAnyH_ready (rs := [3]) (by kernel_rfl) (by simp) ?_
      refine AllReadyH.cons rfl (fun K hK => ?_) AllReadyH.nil
      refine step_call rfl 11 #[.agg (kA (k64 key)), .int .u8 54] (by kernel_rfl) (HM54 _).out ?_
      rintro e W4 ⟨rfl, b⟩
      have R3 := hide ((b.block _ (lt_of_block' R3.out)).trans R3.out)
      have B := hide (B.out.trans (b.mono B.out.size))
      have H4 := hide ((b.block _ (lt_of_block' H4.out)).trans H4.out)
      have H5 := hide ((b.block _ (lt_of_block' H5.out)).trans H5.out)
      refine ⟨_, rfl, hK.out _ _ R3.out (fun _ => ?_)⟩
      clear hK K b
      simp only [Act.put, List.getElem_toArray, List.getElem_cons_zero, List.getElem_cons_succ, List.setIfInBounds_toArray, List.set_cons_zero, List.set_cons_succ]
      refine wpAnyH_ready (rs := [6]) (by kernel_rfl) (by simp) ?_
      refine AllReadyH.cons rfl (fun K hK => ?_) AllReadyH.nil
      refine step_store rfl 33 (.tmp 4) (.tmp 9) rfl _ (kA (kX key 92)) rfl rfl (kA Z64) 33 H4.out (HX 92).out (HXS 92).out (HXO 92).out ?_
      intro W6 G6 K6
      refine hK.out _ _ (K6.out.heap R3.out (by omega)) (fun _ => ?_)
      have R3 := hide (K6.out.heap R3.out (by omega))
      have H5 := hide (K6.out.heap H5.out (by omega))
      have B := hide (B.out.trans (K6.out.below B.out.size (fun i hi e => by omega)))
      clear hK K K6 H4
      refine wpAnyH_ready (rs := [7]) (by kernel_rfl) (by simp) ?_
      refine AllReadyH.cons rfl (fun K hK => ?_) AllReadyH.nil
      refine step_store rfl 33 (.tmp 5) (.tmp 11) rfl _ (kA (kX key 54)) rfl rfl (kA Z64) 33 H5.out (HX 54).out (HXS 54).out (HXO 54).out ?_
      intro W7 G7 K7
      refine hK.out _ _ (K7.out.heap R3.out (by omega)) (fun _ => ?_)
      have G6 := hide (K7.out.heap G6.out (by omega))
      have B := hide (B.out.trans (K7.out.below B.out.size (fun i hi e => by omega)))
      clear hK K K7 H5 R3
      refine wpAnyH_done (by kernel_rfl) ?_ _
      go_wp2_with fail
      go_ret
      exact ⟨_, rfl, ⟨_, _, rfl, by omega, by omega, G7.out, G6.out⟩, B.out⟩
  · refine step_alloc rfl 33 rfl (kA Z64) hz ?_
    have l3 := lt_of_block' R3.out
    have s0 := B.out.size
    have B := hide (B.out.alloc B.out.size (.cells (kA Z64) 33))
    have R3 := hide (heap_old (o := .cells (kA Z64) 33) R3.out)
    have H5 := hide (heap_new W0 (.cells (kA Z64) 33))
    have h35 := And.intro l3 s0
    refine hK.out _ _ R3.out (fun _ => ?_)
    clear hK K
    simp only [Act.put, List.getElem_toArray, List.getElem_cons_zero, List.getElem_cons_succ, List.setIfInBounds_toArray, List.set_cons_zero, List.set_cons_succ]
    obtain ⟨b5, hb5⟩ : ∃ b, b = W0.heap.size := ⟨_, rfl⟩
    rw [← hb5] at H5 h35 ⊢
    clear hb5 l3 s0
    refine wpAnyH_ready (rs := [1, 4]) (by kernel_rfl) (by simp) ?_
    refine AllReadyH.cons rfl (fun K hK => ?_) (AllReadyH.cons rfl (fun K hK => ?_) AllReadyH.nil)
    · refine step_call rfl 11 #[.agg (kA (k64 key)), .int .u8 92] (by kernel_rfl) (HM92 _).out ?_
      rintro e W2 ⟨rfl, b⟩
      have R3 := hide ((b.block _ (lt_of_block' R3.out)).trans R3.out)
      have B := hide (B.out.trans (b.mono B.out.size))
      have H5 := hide ((b.block _ (lt_of_block' H5.out)).trans H5.out)
      refine ⟨_, rfl, hK.out _ _ R3.out (fun _ => ?_)⟩
      clear hK K b
      simp only [Act.put, List.getElem_toArray, List.getElem_cons_zero, List.getElem_cons_succ, List.setIfInBounds_toArray, List.set_cons_zero, List.set_cons_succ]
      refine wpAnyH_ready (rs := [3, 4]) (by kernel_rfl) (by simp) ?_
      refine AllReadyH.cons rfl (fun K hK => ?_) (AllReadyH.cons rfl (fun K hK => ?_) AllReadyH.nil)
      · refine step_call rfl 11 #[.agg (kA (k64 key)), .int .u8 54] (by kernel_rfl) (HM54 _).out ?_
        rintro e W3 ⟨rfl, b⟩
        have R3 := hide ((b.block _ (lt_of_block' R3.out)).trans R3.out)
        have B := hide (B.out.trans (b.mono B.out.size))
        have H5 := hide ((b.block _ (lt_of_block' H5.out)).trans H5.out)
        refine ⟨_, rfl, hK.out _ _ R3.out (fun _ => ?_)⟩
        clear hK K b
        simp only [Act.put, List.getElem_toArray, List.getElem_cons_zero, List.getElem_cons_succ, List.setIfInBounds_toArray, List.set_cons_zero, List.set_cons_succ]
        refine wpAnyH_ready (rs := [4]) (by kernel_rfl) (by simp) ?_
        refine AllReadyH.cons rfl (fun K hK => ?_) AllReadyH.nil
        refine step_alloc rfl 33 rfl (kA Z64) hz ?_
        have l3 := lt_of_block' R3.out
        have l5 := lt_of_block' H5.out
        have s0 := B.out.size
        have B := hide (B.out.alloc B.out.size (.cells (kA Z64) 33))
        have R3 := hide (heap_old (o := .cells (kA Z64) 33) R3.out)
        have H5 := hide (heap_old (o := .cells (kA Z64) 33) H5.out)
        have H4 := hide (heap_new W3 (.cells (kA Z64) 33))
        have h34 := And.intro l3 s0
        have h45 := Nat.ne_of_gt l5
        refine hK.out _ _ R3.out (fun _ => ?_)
        clear hK K
        simp only [Act.put, List.getElem_toArray, List.getElem_cons_zero, List.getElem_cons_succ, List.setIfInBounds_toArray, List.set_cons_zero, List.set_cons_succ]
        obtain ⟨b4, hb4⟩ : ∃ b, b = W3.heap.size := ⟨_, rfl⟩
        rw [← hb4] at H4 h34 h45 ⊢
        clear hb4 l3 s0 l5
        refine wpAnyH_ready (rs := [6]) (by kernel_rfl) (by simp) ?_
        refine AllReadyH.cons rfl (fun K hK => ?_) AllReadyH.nil
        refine step_store rfl 33 (.tmp 4) (.tmp 9) rfl _ (kA (kX key 92)) rfl rfl (kA Z64) 33 H4.out (HX 92).out (HXS 92).out (HXO 92).out ?_
        intro W6 G6 K6
        refine hK.out _ _ (K6.out.heap R3.out (by omega)) (fun _ => ?_)
        have R3 := hide (K6.out.heap R3.out (by omega))
        have H5 := hide (K6.out.heap H5.out (by omega))
        have B := hide (B.out.trans (K6.out.below B.out.size (fun i hi e => by omega)))
        clear hK K K6 H4
        refine wpAnyH_ready (rs := [7]) (by kernel_rfl) (by simp) ?_
        refine AllReadyH.cons rfl (fun K hK => ?_) AllReadyH.nil
        refine step_store rfl 33 (.tmp 5) (.tmp 11) rfl _ (kA (kX key 54)) rfl rfl (kA Z64) 33 H5.out (HX 54).out (HXS 54).out (HXO 54).out ?_
        intro W7 G7 K7
        refine hK.out _ _ (K7.out.heap R3.out (by omega)) (fun _ => ?_)
        have G6 := hide (K7.out.heap G6.out (by omega))
        have B := hide (B.out.trans (K7.out.below B.out.size (fun i hi e => by omega)))
        clear hK K K7 H5 R3
        refine wpAnyH_done (by kernel_rfl) ?_ _
        go_wp2_with fail
        go_ret
        exact ⟨_, rfl, ⟨_, _, rfl, by omega, by omega, G7.out, G6.out⟩, B.out⟩
      · refine step_alloc rfl 33 rfl (kA Z64) hz ?_
        have l3 := lt_of_block' R3.out
        have l5 := lt_of_block' H5.out
        have s0 := B.out.size
        have B := hide (B.out.alloc B.out.size (.cells (kA Z64) 33))
        have R3 := hide (heap_old (o := .cells (kA Z64) 33) R3.out)
        have H5 := hide (heap_old (o := .cells (kA Z64) 33) H5.out)
        have H4 := hide (heap_new W2 (.cells (kA Z64) 33))
        have h34 := And.intro l3 s0
        have h45 := Nat.ne_of_gt l5
        refine hK.out _ _ R3.out (fun _ => ?_)
        clear hK K
        simp only [Act.put, List.getElem_toArray, List.getElem_cons_zero, List.getElem_cons_succ, List.setIfInBounds_toArray, List.set_cons_zero, List.set_cons_succ]
        obtain ⟨b4, hb4⟩ : ∃ b, b = W2.heap.size := ⟨_, rfl⟩
        rw [← hb4] at H4 h34 h45 ⊢
        clear hb4 l3 s0 l5
        refine wpAnyH_ready (rs := [3]) (by kernel_rfl) (by simp) ?_
        refine AllReadyH.cons rfl (fun K hK => ?_) AllReadyH.nil
        refine step_call rfl 11 #[.agg (kA (k64 key)), .int .u8 54] (by kernel_rfl) (HM54 _).out ?_
        rintro e W4 ⟨rfl, b⟩
        have R3 := hide ((b.block _ (lt_of_block' R3.out)).trans R3.out)
        have B := hide (B.out.trans (b.mono B.out.size))
        have H4 := hide ((b.block _ (lt_of_block' H4.out)).trans H4.out)
        have H5 := hide ((b.block _ (lt_of_block' H5.out)).trans H5.out)
        refine ⟨_, rfl, hK.out _ _ R3.out (fun _ => ?_)⟩
        clear hK K b
        simp only [Act.put, List.getElem_toArray, List.getElem_cons_zero, List.getElem_cons_succ, List.setIfInBounds_toArray, List.set_cons_zero, List.set_cons_succ]
        refine wpAnyH_ready (rs := [6]) (by kernel_rfl) (by simp) ?_
        refine AllReadyH.cons rfl (fun K hK => ?_) AllReadyH.nil
        refine step_store rfl 33 (.tmp 4) (.tmp 9) rfl _ (kA (kX key 92)) rfl rfl (kA Z64) 33 H4.out (HX 92).out (HXS 92).out (HXO 92).out ?_
        intro W6 G6 K6
        refine hK.out _ _ (K6.out.heap R3.out (by omega)) (fun _ => ?_)
        have R3 := hide (K6.out.heap R3.out (by omega))
        have H5 := hide (K6.out.heap H5.out (by omega))
        have B := hide (B.out.trans (K6.out.below B.out.size (fun i hi e => by omega)))
        clear hK K K6 H4
        refine wpAnyH_ready (rs := [7]) (by kernel_rfl) (by simp) ?_
        refine AllReadyH.cons rfl (fun K hK => ?_) AllReadyH.nil
        refine step_store rfl 33 (.tmp 5) (.tmp 11) rfl _ (kA (kX key 54)) rfl rfl (kA Z64) 33 H5.out (HX 54).out (HXS 54).out (HXO 54).out ?_
        intro W7 G7 K7
        refine hK.out _ _ (K7.out.heap R3.out (by omega)) (fun _ => ?_)
        have G6 := hide (K7.out.heap G6.out (by omega))
        have B := hide (B.out.trans (K7.out.below B.out.size (fun i hi e => by omega)))
        clear hK K K7 H5 R3
        refine wpAnyH_done (by kernel_rfl) ?_ _
        go_wp2_with fail
        go_ret
        exact ⟨_, rfl, ⟨_, _, rfl, by omega, by omega, G7.out, G6.out⟩, B.out⟩
    · refine step_alloc rfl 33 rfl (kA Z64) hz ?_
      have l3 := lt_of_block' R3.out
      have l5 := lt_of_block' H5.out
      have s0 := B.out.size
      have B := hide (B.out.alloc B.out.size (.cells (kA Z64) 33))
      have R3 := hide (heap_old (o := .cells (kA Z64) 33) R3.out)
      have H5 := hide (heap_old (o := .cells (kA Z64) 33) H5.out)
      have H4 := hide (heap_new (W0.alloc (.cells (kA Z64) 33)) (.cells (kA Z64) 33))
      have h34 := And.intro l3 s0
      have h45 := Nat.ne_of_gt l5
      refine hK.out _ _ R3.out (fun _ => ?_)
      clear hK K
      simp only [Act.put, List.getElem_toArray, List.getElem_cons_zero, List.getElem_cons_succ, List.setIfInBounds_toArray, List.set_cons_zero, List.set_cons_succ]
      obtain ⟨b4, hb4⟩ : ∃ b, b = (W0.alloc (.cells (kA Z64) 33)).heap.size := ⟨_, rfl⟩
      rw [← hb4] at H4 h34 h45 ⊢
      clear hb4 l3 s0 l5
      refine wpAnyH_ready (rs := [1]) (by kernel_rfl) (by simp) ?_
      refine AllReadyH.cons rfl (fun K hK => ?_) AllReadyH.nil
      refine step_call rfl 11 #[.agg (kA (k64 key)), .int .u8 92] (by kernel_rfl) (HM92 _).out ?_
      rintro e W3 ⟨rfl, b⟩
      have R3 := hide ((b.block _ (lt_of_block' R3.out)).trans R3.out)
      have B := hide (B.out.trans (b.mono B.out.size))
      have H4 := hide ((b.block _ (lt_of_block' H4.out)).trans H4.out)
      have H5 := hide ((b.block _ (lt_of_block' H5.out)).trans H5.out)
      refine ⟨_, rfl, hK.out _ _ R3.out (fun _ => ?_)⟩
      clear hK K b
      simp only [Act.put, List.getElem_toArray, List.getElem_cons_zero, List.getElem_cons_succ, List.setIfInBounds_toArray, List.set_cons_zero, List.set_cons_succ]
      refine wpAnyH_ready (rs := [3]) (by kernel_rfl) (by simp) ?_
      refine AllReadyH.cons rfl (fun K hK => ?_) AllReadyH.nil
      refine step_call rfl 11 #[.agg (kA (k64 key)), .int .u8 54] (by kernel_rfl) (HM54 _).out ?_
      rintro e W4 ⟨rfl, b⟩
      have R3 := hide ((b.block _ (lt_of_block' R3.out)).trans R3.out)
      have B := hide (B.out.trans (b.mono B.out.size))
      have H4 := hide ((b.block _ (lt_of_block' H4.out)).trans H4.out)
      have H5 := hide ((b.block _ (lt_of_block' H5.out)).trans H5.out)
      refine ⟨_, rfl, hK.out _ _ R3.out (fun _ => ?_)⟩
      clear hK K b
      simp only [Act.put, List.getElem_toArray, List.getElem_cons_zero, List.getElem_cons_succ, List.setIfInBounds_toArray, List.set_cons_zero, List.set_cons_succ]
      refine wpAnyH_ready (rs := [6]) (by kernel_rfl) (by simp) ?_
      refine AllReadyH.cons rfl (fun K hK => ?_) AllReadyH.nil
      refine step_store rfl 33 (.tmp 4) (.tmp 9) rfl _ (kA (kX key 92)) rfl rfl (kA Z64) 33 H4.out (HX 92).out (HXS 92).out (HXO 92).out ?_
      intro W6 G6 K6
      refine hK.out _ _ (K6.out.heap R3.out (by omega)) (fun _ => ?_)
      have R3 := hide (K6.out.heap R3.out (by omega))
      have H5 := hide (K6.out.heap H5.out (by omega))
      have B := hide (B.out.trans (K6.out.below B.out.size (fun i hi e => by omega)))
      clear hK K K6 H4
      refine wpAnyH_ready (rs := [7]) (by kernel_rfl) (by simp) ?_
      refine AllReadyH.cons rfl (fun K hK => ?_) AllReadyH.nil
      refine step_store rfl 33 (.tmp 5) (.tmp 11) rfl _ (kA (kX key 54)) rfl rfl (kA Z64) 33 H5.out (HX 54).out (HXS 54).out (HXO 54).out ?_
      intro W7 G7 K7
      refine hK.out _ _ (K7.out.heap R3.out (by omega)) (fun _ => ?_)
      have G6 := hide (K7.out.heap G6.out (by omega))
      have B := hide (B.out.trans (K7.out.below B.out.size (fun i hi e => by omega)))
      clear hK K K7 H5 R3
      refine wpAnyH_done (by kernel_rfl) ?_ _
      go_wp2_with fail
      go_ret
      exact ⟨_, rfl, ⟨_, _, rfl, by omega, by omega, G7.out, G6.out⟩, B.out⟩
end Go.Proofs.Ytgafejgmjenfaab.S
