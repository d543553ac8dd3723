/- bind: contract. Sum with a key: contract. slices.Grow of nil, slices.Concat of two: contracts. -/
import Derived.Test.YtgamfpgejkhbcaaDoorMG1
import Derived.Test.YtgamfpgejkhbcaaDoorHOwn
import Derived.Lib.AppendZeros
namespace Go.Proofs.YtgamfpgejkhbcaaDoor.S
set_option maxRecDepth 100000
open Go Go.RowKit

/-- A sum with a key, bound: the closure, and what it holds on to. -/
def BoundAt (w : World) (v : Value) (base : Nat) (key : List Nat) : Prop := ∃ bi bo, v = .func (.func 56) #[] #[.pointer (some ⟨bi, 0, none⟩), .pointer (some ⟨bo, 0, none⟩)] ∧ base ≤ bi ∧ base ≤ bo ∧ w.heap[bi]? = some (.cells (kA (kX key 54)) 83 (0, 0)) ∧ w.heap[bo]? = some (.cells (kA (kX key 92)) 83 (0, 0))
/-- What bind answers. -/
def BindOk (key : List Nat) (w : World) (e : Ending) (w' : World) : Prop := ∃ v, e = .returned v ∧ BoundAt w' v w.heap.size key ∧ Below w.heap.size w w'

set_option maxHeartbeats 8000000 in
theorem bind_c (a : Option Addr) (cap : Nat) (key : List Nat) (w : World) (hy : By key) (hb : TextAt w a key) (hcap : key.length ≤ cap) (hcm : cap ≤ 9223372036854775807) (hl : key.length ≤ 1000000000000000) :
    Calls Tryd.prog 49 #[.slice a key.length cap] w (BindOk key w) := by
  have hz : ∀ w, (zeroValue 83).run Tryd.prog w = .ok (.agg (kA Z64)) w := zero64.1
  have HBO := hide (blockOf_c a cap key w hy hb hcap hcm hl)
  have HI := hide (info64 (xs := k64 key) (k64_length key))
  have HS := hide (show (kA Z64).size = (kA (k64 key)).size by rw [kA_size, kA_size, k64_length]; exact Z64_length)
  have HM92 := fun W => hide (show Calls Tryd.prog 55 #[.agg (kA (k64 key)), .int .u8 92] W fun e w' => e = .returned (.agg (kA (kX key 92))) ∧ Below W.heap.size W w' from masked_c (k64 key) 92 W (k64_length key) (k64_by hy) (by omega))
  have HM54 := fun W => hide (show Calls Tryd.prog 55 #[.agg (kA (k64 key)), .int .u8 54] W fun e w' => e = .returned (.agg (kA (kX key 54))) ∧ Below W.heap.size W w' from masked_c (k64 key) 54 W (k64_length key) (k64_by hy) (by omega))
  have HX := fun x => hide (info64 (xs := kX key x) (kX_length key x))
  have HXS := fun x => hide (show (kA Z64).size = (kA (kX key x)).size by rw [kA_size, kA_size, kX_length]; exact Z64_length)
  have HXO := fun x => hide (kA_one (kX key x))
  have hmf : ∀ (fn : Fn) (first cap : Array Value) (w : World), (Instr.makeFunc fn first cap).run Tryd.prog w = .ok (.func fn first cap) w := fun _ _ _ _ => rfl
  obtain ⟨N, hN⟩ : ∃ N, N = key.length := ⟨_, rfl⟩
  rw [← hN] at HBO ⊢
  clear hy hb hN hcap hcm hl
  go_enter Tryd.func49, Tryd.ntmps49
  go_upto_region 2 with (first
    | (go_at_call 54; refine HBO.out.mono ?_; rintro e w1 ⟨rfl, b1⟩; have B1 := hide b1; clear b1)
    | (refine wpList_store_row rfl 83 (.tmp 3) (.tmp 7) rfl w1.heap.size (kA (k64 key)) (by rfl) (by rfl) (kA Z64) 83 (heap_new _ _) HI.out HS.out (kA_one _) ?_; intro w2 G2 K2))
  have hs1 := B1.out.size
  have R3 := hide (show w2.drew.heap[w1.heap.size]? = some (.cells (kA (k64 key)) 83 (0, 0)) from G2.out)
  have B : Hid (Below w.heap.size w w2.drew) := (B1.out.alloc hs1 (.cells (kA Z64) 83)).trans (⟨K2.out.os, K2.out.tape, K2.out.output, K2.out.size, (K2.out.below (B := w.heap.size) (by simp; omega) (fun i hi e => by omega)).block⟩ : Below w.heap.size _ w2.drew)
  obtain ⟨b3, hb3⟩ : ∃ b3, b3 = w1.heap.size := ⟨_, rfl⟩
  rw [← hb3] at R3 ⊢
  clear hb3 K2 G2 B1 hs1 HBO HS
  simp only [Act.put]
  refine wp_region_held_drew (S := fun W => W.heap[b3]? = some (.cells (kA (k64 key)) 83 (0, 0))) (by kernel_rfl) R3.out ?_
  intro hS0
  generalize w2.drew = W0 at R3 B hS0 ⊢
  refine wpAnyH_take (i := 0) (v := .agg (kA (k64 key))) rfl (by kernel_rfl) (by kernel_rfl) (by kernel_rfl) (fun _ _ _ h => h) (yields_row (by rfl) 83 (.tmp 3) rfl b3 rfl _ 83 (0, 0) (fun _ h => h) _ Tryd.underlying83 rfl HI.out) hS0 ?_
  simp only [Act.put, List.getElem_toArray, List.getElem_cons_zero, List.setIfInBounds_toArray, List.set_cons_zero, List.set_cons_succ]
  refine wpAnyH_take (i := 2) (v := .agg (kA (k64 key))) rfl (by kernel_rfl) (by kernel_rfl) (by kernel_rfl) (fun _ _ _ h => h) (yields_row (by rfl) 83 (.tmp 3) rfl b3 rfl _ 83 (0, 0) (fun _ h => h) _ Tryd.underlying83 rfl HI.out) hS0 ?_
  simp only [Act.put, List.getElem_toArray, List.getElem_cons_zero, List.getElem_cons_succ, List.setIfInBounds_toArray, List.set_cons_zero, List.set_cons_succ]
  clear hS0
  refine wpAnyH_ready (rs := [1, 4, 5]) (by kernel_rfl) (by simp) ?_
  refine AllReadyH.cons rfl (fun K hK => ?_) (AllReadyH.cons rfl (fun K hK => ?_) (AllReadyH.cons rfl (fun K hK => ?_) AllReadyH.nil))
  · refine step_call rfl 55 #[.agg (kA (k64 key)), .int .u8 92] (by kernel_rfl) (HM92 _).out ?_
    rintro e W1 ⟨rfl, b⟩
    have R3 := hide ((b.block _ (lt_of_block' R3.out)).trans R3.out)
    have B := hide (B.out.trans (b.mono B.out.size))
    refine ⟨_, rfl, hK.out _ _ R3.out (fun _ => ?_)⟩
    clear hK K b
    simp only [Act.put, List.getElem_toArray, List.getElem_cons_zero, List.getElem_cons_succ, List.setIfInBounds_toArray, List.set_cons_zero, List.set_cons_succ]
    refine wpAnyH_ready (rs := [3, 4, 5]) (by kernel_rfl) (by simp) ?_
    refine AllReadyH.cons rfl (fun K hK => ?_) (AllReadyH.cons rfl (fun K hK => ?_) (AllReadyH.cons rfl (fun K hK => ?_) AllReadyH.nil))
    · refine step_call rfl 55 #[.agg (kA (k64 key)), .int .u8 54] (by kernel_rfl) (HM54 _).out ?_
      rintro e W2 ⟨rfl, b⟩
      have R3 := hide ((b.block _ (lt_of_block' R3.out)).trans R3.out)
      have B := hide (B.out.trans (b.mono B.out.size))
      refine ⟨_, rfl, hK.out _ _ R3.out (fun _ => ?_)⟩
      clear hK K b
      simp only [Act.put, List.getElem_toArray, List.getElem_cons_zero, List.getElem_cons_succ, List.setIfInBounds_toArray, List.set_cons_zero, List.set_cons_succ]
      refine wpAnyH_ready (rs := [4, 5]) (by kernel_rfl) (by simp) ?_
      refine AllReadyH.cons rfl (fun K hK => ?_) (AllReadyH.cons rfl (fun K hK => ?_) AllReadyH.nil)
      · refine step_alloc rfl 83 rfl (kA Z64) hz ?_
        have l3 := lt_of_block' R3.out
        have s0 := B.out.size
        have B := hide (B.out.alloc B.out.size (.cells (kA Z64) 83))
        have R3 := hide (heap_old (o := .cells (kA Z64) 83) R3.out)
        have H4 := hide (heap_new W2 (.cells (kA Z64) 83))
        have h34 := And.intro l3 s0
        refine hK.out _ _ R3.out (fun _ => ?_)
        clear hK K
        simp only [Act.put, List.getElem_toArray, List.getElem_cons_zero, List.getElem_cons_succ, List.setIfInBounds_toArray, List.set_cons_zero, List.set_cons_succ]
        obtain ⟨b4, hb4⟩ : ∃ b, b = W2.heap.size := ⟨_, rfl⟩
        rw [← hb4] at H4 h34 ⊢
        clear hb4 l3 s0
        refine wpAnyH_ready (rs := [5]) (by kernel_rfl) (by simp) ?_
        refine AllReadyH.cons rfl (fun K hK => ?_) AllReadyH.nil
        refine step_alloc rfl 83 rfl (kA Z64) hz ?_
        have l3 := lt_of_block' R3.out
        have l4 := lt_of_block' H4.out
        have s0 := B.out.size
        have B := hide (B.out.alloc B.out.size (.cells (kA Z64) 83))
        have R3 := hide (heap_old (o := .cells (kA Z64) 83) R3.out)
        have H4 := hide (heap_old (o := .cells (kA Z64) 83) H4.out)
        have H5 := hide (heap_new (W2.alloc (.cells (kA Z64) 83)) (.cells (kA Z64) 83))
        have h35 := And.intro l3 s0
        have h45 := Nat.ne_of_lt l4
        refine hK.out _ _ R3.out (fun _ => ?_)
        clear hK K
        simp only [Act.put, List.getElem_toArray, List.getElem_cons_zero, List.getElem_cons_succ, List.setIfInBounds_toArray, List.set_cons_zero, List.set_cons_succ]
        obtain ⟨b5, hb5⟩ : ∃ b, b = (W2.alloc (.cells (kA Z64) 83)).heap.size := ⟨_, rfl⟩
        rw [← hb5] at H5 h35 h45 ⊢
        clear hb5 l3 s0 l4
        refine wpAnyH_ready (rs := [6]) (by kernel_rfl) (by simp) ?_
        refine AllReadyH.cons rfl (fun K hK => ?_) AllReadyH.nil
        refine step_store rfl 83 (.tmp 4) (.tmp 9) rfl _ (kA (kX key 92)) rfl rfl (kA Z64) 83 H4.out (HX 92).out (HXS 92).out (HXO 92).out ?_
        intro W6 G6 K6
        refine hK.out _ _ (K6.out.heap R3.out (by omega)) (fun _ => ?_)
        have R3 := hide (K6.out.heap R3.out (by omega))
        have H5 := hide (K6.out.heap H5.out (by omega))
        have B := hide (B.out.trans (K6.out.below B.out.size (fun i hi e => by omega)))
        clear hK K K6 H4
        refine wpAnyH_ready (rs := [7]) (by kernel_rfl) (by simp) ?_
        refine AllReadyH.cons rfl (fun K hK => ?_) AllReadyH.nil
        refine step_store rfl 83 (.tmp 5) (.tmp 11) rfl _ (kA (kX key 54)) rfl rfl (kA Z64) 83 H5.out (HX 54).out (HXS 54).out (HXO 54).out ?_
        intro W7 G7 K7
        refine hK.out _ _ (K7.out.heap R3.out (by omega)) (fun _ => ?_)
        have G6 := hide (K7.out.heap G6.out (by omega))
        have B := hide (B.out.trans (K7.out.below B.out.size (fun i hi e => by omega)))
        clear hK K K7 H5 R3
        refine wpAnyH_done (by kernel_rfl) ?_ _
        go_wp2_with fail
        go_ret
        exact ⟨_, rfl, ⟨_, _, rfl, by omega, by omega, G7.out, G6.out⟩, B.out⟩
      · refine step_alloc rfl 83 rfl (kA Z64) hz ?_
        have l3 := lt_of_block' R3.out
        have s0 := B.out.size
        have B := hide (B.out.alloc B.out.size (.cells (kA Z64) 83))
        have R3 := hide (heap_old (o := .cells (kA Z64) 83) R3.out)
        have H5 := hide (heap_new W2 (.cells (kA Z64) 83))
        have h35 := And.intro l3 s0
        refine hK.out _ _ R3.out (fun _ => ?_)
        clear hK K
        simp only [Act.put, List.getElem_toArray, List.getElem_cons_zero, List.getElem_cons_succ, List.setIfInBounds_toArray, List.set_cons_zero, List.set_cons_succ]
        obtain ⟨b5, hb5⟩ : ∃ b, b = W2.heap.size := ⟨_, rfl⟩
        rw [← hb5] at H5 h35 ⊢
        clear hb5 l3 s0
        refine wpAnyH_ready (rs := [4]) (by kernel_rfl) (by simp) ?_
        refine AllReadyH.cons rfl (fun K hK => ?_) AllReadyH.nil
        refine step_alloc rfl 83 rfl (kA Z64) hz ?_
        have l3 := lt_of_block' R3.out
        have l5 := lt_of_block' H5.out
        have s0 := B.out.size
        have B := hide (B.out.alloc B.out.size (.cells (kA Z64) 83))
        have R3 := hide (heap_old (o := .cells (kA Z64) 83) R3.out)
        have H5 := hide (heap_old (o := .cells (kA Z64) 83) H5.out)
        have H4 := hide (heap_new (W2.alloc (.cells (kA Z64) 83)) (.cells (kA Z64) 83))
        have h34 := And.intro l3 s0
        have h45 := Nat.ne_of_gt l5
        refine hK.out _ _ R3.out (fun _ => ?_)
        clear hK K
        simp only [Act.put, List.getElem_toArray, List.getElem_cons_zero, List.getElem_cons_succ, List.setIfInBounds_toArray, List.set_cons_zero, List.set_cons_succ]
        obtain ⟨b4, hb4⟩ : ∃ b, b = (W2.alloc (.cells (kA Z64) 83)).heap.size := ⟨_, rfl⟩
        rw [← hb4] at H4 h34 h45 ⊢
        clear hb4 l3 s0 l5
        refine wpAnyH_ready (rs := [6]) (by kernel_rfl) (by simp) ?_
        refine AllReadyH.cons rfl (fun K hK => ?_) AllReadyH.nil
        refine step_store rfl 83 (.tmp 4) (.tmp 9) rfl _ (kA (kX key 92)) rfl rfl (kA Z64) 83 H4.out (HX 92).out (HXS 92).out (HXO 92).out ?_
        intro W6 G6 K6
        refine hK.out _ _ (K6.out.heap R3.out (by omega)) (fun _ => ?_)
        have R3 := hide (K6.out.heap R3.out (by omega))
        have H5 := hide (K6.out.heap H5.out (by omega))
        have B := hide (B.out.trans (K6.out.below B.out.size (fun i hi e => by omega)))
        clear hK K K6 H4
        refine wpAnyH_ready (rs := [7]) (by kernel_rfl) (by simp) ?_
        refine AllReadyH.cons rfl (fun K hK => ?_) AllReadyH.nil
        refine step_store rfl 83 (.tmp 5) (.tmp 11) rfl _ (kA (kX key 54)) rfl rfl (kA Z64) 83 H5.out (HX 54).out (HXS 54).out (HXO 54).out ?_
        intro W7 G7 K7
        refine hK.out _ _ (K7.out.heap R3.out (by omega)) (fun _ => ?_)
        have G6 := hide (K7.out.heap G6.out (by omega))
        have B := hide (B.out.trans (K7.out.below B.out.size (fun i hi e => by omega)))
        clear hK K K7 H5 R3
        refine wpAnyH_done (by kernel_rfl) ?_ _
        go_wp2_with fail
        go_ret
        exact ⟨_, rfl, ⟨_, _, rfl, by omega, by omega, G7.out, G6.out⟩, B.out⟩
    · refine step_alloc rfl 83 rfl (kA Z64) hz ?_
      have l3 := lt_of_block' R3.out
      have s0 := B.out.size
      have B := hide (B.out.alloc B.out.size (.cells (kA Z64) 83))
      have R3 := hide (heap_old (o := .cells (kA Z64) 83) R3.out)
      have H4 := hide (heap_new W1 (.cells (kA Z64) 83))
      have h34 := And.intro l3 s0
      refine hK.out _ _ R3.out (fun _ => ?_)
      clear hK K
      simp only [Act.put, List.getElem_toArray, List.getElem_cons_zero, List.getElem_cons_succ, List.setIfInBounds_toArray, List.set_cons_zero, List.set_cons_succ]
      obtain ⟨b4, hb4⟩ : ∃ b, b = W1.heap.size := ⟨_, rfl⟩
      rw [← hb4] at H4 h34 ⊢
      clear hb4 l3 s0
      refine wpAnyH_ready (rs := [3, 5]) (by kernel_rfl) (by simp) ?_
      refine AllReadyH.cons rfl (fun K hK => ?_) (AllReadyH.cons rfl (fun K hK => ?_) AllReadyH.nil)
      · refine step_call rfl 55 #[.agg (kA (k64 key)), .int .u8 54] (by kernel_rfl) (HM54 _).out ?_
        rintro e W3 ⟨rfl, b⟩
        have R3 := hide ((b.block _ (lt_of_block' R3.out)).trans R3.out)
        have B := hide (B.out.trans (b.mono B.out.size))
        have H4 := hide ((b.block _ (lt_of_block' H4.out)).trans H4.out)
        refine ⟨_, rfl, hK.out _ _ R3.out (fun _ => ?_)⟩
        clear hK K b
        simp only [Act.put, List.getElem_toArray, List.getElem_cons_zero, List.getElem_cons_succ, List.setIfInBounds_toArray, List.set_cons_zero, List.set_cons_succ]
        refine wpAnyH_ready (rs := [5]) (by kernel_rfl) (by simp) ?_
        refine AllReadyH.cons rfl (fun K hK => ?_) AllReadyH.nil
        refine step_alloc rfl 83 rfl (kA Z64) hz ?_
        have l3 := lt_of_block' R3.out
        have l4 := lt_of_block' H4.out
        have s0 := B.out.size
        have B := hide (B.out.alloc B.out.size (.cells (kA Z64) 83))
        have R3 := hide (heap_old (o := .cells (kA Z64) 83) R3.out)
        have H4 := hide (heap_old (o := .cells (kA Z64) 83) H4.out)
        have H5 := hide (heap_new W3 (.cells (kA Z64) 83))
        have h35 := And.intro l3 s0
        have h45 := Nat.ne_of_lt l4
        refine hK.out _ _ R3.out (fun _ => ?_)
        clear hK K
        simp only [Act.put, List.getElem_toArray, List.getElem_cons_zero, List.getElem_cons_succ, List.setIfInBounds_toArray, List.set_cons_zero, List.set_cons_succ]
        obtain ⟨b5, hb5⟩ : ∃ b, b = W3.heap.size := ⟨_, rfl⟩
        rw [← hb5] at H5 h35 h45 ⊢
        clear hb5 l3 s0 l4
        refine wpAnyH_ready (rs := [6]) (by kernel_rfl) (by simp) ?_
        refine AllReadyH.cons rfl (fun K hK => ?_) AllReadyH.nil
        refine step_store rfl 83 (.tmp 4) (.tmp 9) rfl _ (kA (kX key 92)) rfl rfl (kA Z64) 83 H4.out (HX 92).out (HXS 92).out (HXO 92).out ?_
        intro W6 G6 K6
        refine hK.out _ _ (K6.out.heap R3.out (by omega)) (fun _ => ?_)
        have R3 := hide (K6.out.heap R3.out (by omega))
        have H5 := hide (K6.out.heap H5.out (by omega))
        have B := hide (B.out.trans (K6.out.below B.out.size (fun i hi e => by omega)))
        clear hK K K6 H4
        refine wpAnyH_ready (rs := [7]) (by kernel_rfl) (by simp) ?_
        refine AllReadyH.cons rfl (fun K hK => ?_) AllReadyH.nil
        refine step_store rfl 83 (.tmp 5) (.tmp 11) rfl _ (kA (kX key 54)) rfl rfl (kA Z64) 83 H5.out (HX 54).out (HXS 54).out (HXO 54).out ?_
        intro W7 G7 K7
        refine hK.out _ _ (K7.out.heap R3.out (by omega)) (fun _ => ?_)
        have G6 := hide (K7.out.heap G6.out (by omega))
        have B := hide (B.out.trans (K7.out.below B.out.size (fun i hi e => by omega)))
        clear hK K K7 H5 R3
        refine wpAnyH_done (by kernel_rfl) ?_ _
        go_wp2_with fail
        go_ret
        exact ⟨_, rfl, ⟨_, _, rfl, by omega, by omega, G7.out, G6.out⟩, B.out⟩
      · refine step_alloc rfl 83 rfl (kA Z64) hz ?_
        have l3 := lt_of_block' R3.out
        have l4 := lt_of_block' H4.out
        have s0 := B.out.size
        have B := hide (B.out.alloc B.out.size (.cells (kA Z64) 83))
        have R3 := hide (heap_old (o := .cells (kA Z64) 83) R3.out)
        have H4 := hide (heap_old (o := .cells (kA Z64) 83) H4.out)
        have H5 := hide (heap_new (W1.alloc (.cells (kA Z64) 83)) (.cells (kA Z64) 83))
        have h35 := And.intro l3 s0
        have h45 := Nat.ne_of_lt l4
        refine hK.out _ _ R3.out (fun _ => ?_)
        clear hK K
        simp only [Act.put, List.getElem_toArray, List.getElem_cons_zero, List.getElem_cons_succ, List.setIfInBounds_toArray, List.set_cons_zero, List.set_cons_succ]
        obtain ⟨b5, hb5⟩ : ∃ b, b = (W1.alloc (.cells (kA Z64) 83)).heap.size := ⟨_, rfl⟩
        rw [← hb5] at H5 h35 h45 ⊢
        clear hb5 l3 s0 l4
        refine wpAnyH_ready (rs := [3]) (by kernel_rfl) (by simp) ?_
        refine AllReadyH.cons rfl (fun K hK => ?_) AllReadyH.nil
        refine step_call rfl 55 #[.agg (kA (k64 key)), .int .u8 54] (by kernel_rfl) (HM54 _).out ?_
        rintro e W4 ⟨rfl, b⟩
        have R3 := hide ((b.block _ (lt_of_block' R3.out)).trans R3.out)
        have B := hide (B.out.trans (b.mono B.out.size))
        have H4 := hide ((b.block _ (lt_of_block' H4.out)).trans H4.out)
        have H5 := hide ((b.block _ (lt_of_block' H5.out)).trans H5.out)
        refine ⟨_, rfl, hK.out _ _ R3.out (fun _ => ?_)⟩
        clear hK K b
        simp only [Act.put, List.getElem_toArray, List.getElem_cons_zero, List.getElem_cons_succ, List.setIfInBounds_toArray, List.set_cons_zero, List.set_cons_succ]
        refine wpAnyH_ready (rs := [6]) (by kernel_rfl) (by simp) ?_
        refine AllReadyH.cons rfl (fun K hK => ?_) AllReadyH.nil
        refine step_store rfl 83 (.tmp 4) (.tmp 9) rfl _ (kA (kX key 92)) rfl rfl (kA Z64) 83 H4.out (HX 92).out (HXS 92).out (HXO 92).out ?_
        intro W6 G6 K6
        refine hK.out _ _ (K6.out.heap R3.out (by omega)) (fun _ => ?_)
        have R3 := hide (K6.out.heap R3.out (by omega))
        have H5 := hide (K6.out.heap H5.out (by omega))
        have B := hide (B.out.trans (K6.out.below B.out.size (fun i hi e => by omega)))
        clear hK K K6 H4
        refine wpAnyH_ready (rs := [7]) (by kernel_rfl) (by simp) ?_
        refine AllReadyH.cons rfl (fun K hK => ?_) AllReadyH.nil
        refine step_store rfl 83 (.tmp 5) (.tmp 11) rfl _ (kA (kX key 54)) rfl rfl (kA Z64) 83 H5.out (HX 54).out (HXS 54).out (HXO 54).out ?_
        intro W7 G7 K7
        refine hK.out _ _ (K7.out.heap R3.out (by omega)) (fun _ => ?_)
        have G6 := hide (K7.out.heap G6.out (by omega))
        have B := hide (B.out.trans (K7.out.below B.out.size (fun i hi e => by omega)))
        clear hK K K7 H5 R3
        refine wpAnyH_done (by kernel_rfl) ?_ _
        go_wp2_with fail
        go_ret
        exact ⟨_, rfl, ⟨_, _, rfl, by omega, by omega, G7.out, G6.out⟩, B.out⟩
    · refine step_alloc rfl 83 rfl (kA Z64) hz ?_
      have l3 := lt_of_block' R3.out
      have s0 := B.out.size
      have B := hide (B.out.alloc B.out.size (.cells (kA Z64) 83))
      have R3 := hide (heap_old (o := .cells (kA Z64) 83) R3.out)
      have H5 := hide (heap_new W1 (.cells (kA Z64) 83))
      have h35 := And.intro l3 s0
      refine hK.out _ _ R3.out (fun _ => ?_)
      clear hK K
      simp only [Act.put, List.getElem_toArray, List.getElem_cons_zero, List.getElem_cons_succ, List.setIfInBounds_toArray, List.set_cons_zero, List.set_cons_succ]
      obtain ⟨b5, hb5⟩ : ∃ b, b = W1.heap.size := ⟨_, rfl⟩
      rw [← hb5] at H5 h35 ⊢
      clear hb5 l3 s0
      refine wpAnyH_ready (rs := [3, 4]) (by kernel_rfl) (by simp) ?_
      refine AllReadyH.cons rfl (fun K hK => ?_) (AllReadyH.cons rfl (fun K hK => ?_) AllReadyH.nil)
      · refine step_call rfl 55 #[.agg (kA (k64 key)), .int .u8 54] (by kernel_rfl) (HM54 _).out ?_
        rintro e W3 ⟨rfl, b⟩
        have R3 := hide ((b.block _ (lt_of_block' R3.out)).trans R3.out)
        have B := hide (B.out.trans (b.mono B.out.size))
        have H5 := hide ((b.block _ (lt_of_block' H5.out)).trans H5.out)
        refine ⟨_, rfl, hK.out _ _ R3.out (fun _ => ?_)⟩
        clear hK K b
        simp only [Act.put, List.getElem_toArray, List.getElem_cons_zero, List.getElem_cons_succ, List.setIfInBounds_toArray, List.set_cons_zero, List.set_cons_succ]
        refine wpAnyH_ready (rs := [4]) (by kernel_rfl) (by simp) ?_
        refine AllReadyH.cons rfl (fun K hK => ?_) AllReadyH.nil
        refine step_alloc rfl 83 rfl (kA Z64) hz ?_
        have l3 := lt_of_block' R3.out
        have l5 := lt_of_block' H5.out
        have s0 := B.out.size
        have B := hide (B.out.alloc B.out.size (.cells (kA Z64) 83))
        have R3 := hide (heap_old (o := .cells (kA Z64) 83) R3.out)
        have H5 := hide (heap_old (o := .cells (kA Z64) 83) H5.out)
        have H4 := hide (heap_new W3 (.cells (kA Z64) 83))
        have h34 := And.intro l3 s0
        have h45 := Nat.ne_of_gt l5
        refine hK.out _ _ R3.out (fun _ => ?_)
        clear hK K
        simp only [Act.put, List.getElem_toArray, List.getElem_cons_zero, List.getElem_cons_succ, List.setIfInBounds_toArray, List.set_cons_zero, List.set_cons_succ]
        obtain ⟨b4, hb4⟩ : ∃ b, b = W3.heap.size := ⟨_, rfl⟩
        rw [← hb4] at H4 h34 h45 ⊢
        clear hb4 l3 s0 l5
        refine wpAnyH_ready (rs := [6]) (by kernel_rfl) (by simp) ?_
        refine AllReadyH.cons rfl (fun K hK => ?_) AllReadyH.nil
        refine step_store rfl 83 (.tmp 4) (.tmp 9) rfl _ (kA (kX key 92)) rfl rfl (kA Z64) 83 H4.out (HX 92).out (HXS 92).out (HXO 92).out ?_
        intro W6 G6 K6
        refine hK.out _ _ (K6.out.heap R3.out (by omega)) (fun _ => ?_)
        have R3 := hide (K6.out.heap R3.out (by omega))
        have H5 := hide (K6.out.heap H5.out (by omega))
        have B := hide (B.out.trans (K6.out.below B.out.size (fun i hi e => by omega)))
        clear hK K K6 H4
        refine wpAnyH_ready (rs := [7]) (by kernel_rfl) (by simp) ?_
        refine AllReadyH.cons rfl (fun K hK => ?_) AllReadyH.nil
        refine step_store rfl 83 (.tmp 5) (.tmp 11) rfl _ (kA (kX key 54)) rfl rfl (kA Z64) 83 H5.out (HX 54).out (HXS 54).out (HXO 54).out ?_
        intro W7 G7 K7
        refine hK.out _ _ (K7.out.heap R3.out (by omega)) (fun _ => ?_)
        have G6 := hide (K7.out.heap G6.out (by omega))
        have B := hide (B.out.trans (K7.out.below B.out.size (fun i hi e => by omega)))
        clear hK K K7 H5 R3
        refine wpAnyH_done (by kernel_rfl) ?_ _
        go_wp2_with fail
        go_ret
        exact ⟨_, rfl, ⟨_, _, rfl, by omega, by omega, G7.out, G6.out⟩, B.out⟩
      · refine step_alloc rfl 83 rfl (kA Z64) hz ?_
        have l3 := lt_of_block' R3.out
        have l5 := lt_of_block' H5.out
        have s0 := B.out.size
        have B := hide (B.out.alloc B.out.size (.cells (kA Z64) 83))
        have R3 := hide (heap_old (o := .cells (kA Z64) 83) R3.out)
        have H5 := hide (heap_old (o := .cells (kA Z64) 83) H5.out)
        have H4 := hide (heap_new (W1.alloc (.cells (kA Z64) 83)) (.cells (kA Z64) 83))
        have h34 := And.intro l3 s0
        have h45 := Nat.ne_of_gt l5
        refine hK.out _ _ R3.out (fun _ => ?_)
        clear hK K
        simp only [Act.put, List.getElem_toArray, List.getElem_cons_zero, List.getElem_cons_succ, List.setIfInBounds_toArray, List.set_cons_zero, List.set_cons_succ]
        obtain ⟨b4, hb4⟩ : ∃ b, b = (W1.alloc (.cells (kA Z64) 83)).heap.size := ⟨_, rfl⟩
        rw [← hb4] at H4 h34 h45 ⊢
        clear hb4 l3 s0 l5
        refine wpAnyH_ready (rs := [3]) (by kernel_rfl) (by simp) ?_
        refine AllReadyH.cons rfl (fun K hK => ?_) AllReadyH.nil
        refine step_call rfl 55 #[.agg (kA (k64 key)), .int .u8 54] (by kernel_rfl) (HM54 _).out ?_
        rintro e W4 ⟨rfl, b⟩
        have R3 := hide ((b.block _ (lt_of_block' R3.out)).trans R3.out)
        have B := hide (B.out.trans (b.mono B.out.size))
        have H4 := hide ((b.block _ (lt_of_block' H4.out)).trans H4.out)
        have H5 := hide ((b.block _ (lt_of_block' H5.out)).trans H5.out)
        refine ⟨_, rfl, hK.out _ _ R3.out (fun _ => ?_)⟩
        clear hK K b
        simp only [Act.put, List.getElem_toArray, List.getElem_cons_zero, List.getElem_cons_succ, List.setIfInBounds_toArray, List.set_cons_zero, List.set_cons_succ]
        refine wpAnyH_ready (rs := [6]) (by kernel_rfl) (by simp) ?_
        refine AllReadyH.cons rfl (fun K hK => ?_) AllReadyH.nil
        refine step_store rfl 83 (.tmp 4) (.tmp 9) rfl _ (kA (kX key 92)) rfl rfl (kA Z64) 83 H4.out (HX 92).out (HXS 92).out (HXO 92).out ?_
        intro W6 G6 K6
        refine hK.out _ _ (K6.out.heap R3.out (by omega)) (fun _ => ?_)
        have R3 := hide (K6.out.heap R3.out (by omega))
        have H5 := hide (K6.out.heap H5.out (by omega))
        have B := hide (B.out.trans (K6.out.below B.out.size (fun i hi e => by omega)))
        clear hK K K6 H4
        refine wpAnyH_ready (rs := [7]) (by kernel_rfl) (by simp) ?_
        refine AllReadyH.cons rfl (fun K hK => ?_) AllReadyH.nil
        refine step_store rfl 83 (.tmp 5) (.tmp 11) rfl _ (kA (kX key 54)) rfl rfl (kA Z64) 83 H5.out (HX 54).out (HXS 54).out (HXO 54).out ?_
        intro W7 G7 K7
        refine hK.out _ _ (K7.out.heap R3.out (by omega)) (fun _ => ?_)
        have G6 := hide (K7.out.heap G6.out (by omega))
        have B := hide (B.out.trans (K7.out.below B.out.size (fun i hi e => by omega)))
        clear hK K K7 H5 R3
        refine wpAnyH_done (by kernel_rfl) ?_ _
        go_wp2_with fail
        go_ret
        exact ⟨_, rfl, ⟨_, _, rfl, by omega, by omega, G7.out, G6.out⟩, B.out⟩
  · refine step_alloc rfl 83 rfl (kA Z64) hz ?_
    have l3 := lt_of_block' R3.out
    have s0 := B.out.size
    have B := hide (B.out.alloc B.out.size (.cells (kA Z64) 83))
    have R3 := hide (heap_old (o := .cells (kA Z64) 83) R3.out)
    have H4 := hide (heap_new W0 (.cells (kA Z64) 83))
    have h34 := And.intro l3 s0
    refine hK.out _ _ R3.out (fun _ => ?_)
    clear hK K
    simp only [Act.put, List.getElem_toArray, List.getElem_cons_zero, List.getElem_cons_succ, List.setIfInBounds_toArray, List.set_cons_zero, List.set_cons_succ]
    obtain ⟨b4, hb4⟩ : ∃ b, b = W0.heap.size := ⟨_, rfl⟩
    rw [← hb4] at H4 h34 ⊢
    clear hb4 l3 s0
    refine wpAnyH_ready (rs := [1, 5]) (by kernel_rfl) (by simp) ?_
    refine AllReadyH.cons rfl (fun K hK => ?_) (AllReadyH.cons rfl (fun K hK => ?_) AllReadyH.nil)
    · refine step_call rfl 55 #[.agg (kA (k64 key)), .int .u8 92] (by kernel_rfl) (HM92 _).out ?_
      rintro e W2 ⟨rfl, b⟩
      have R3 := hide ((b.block _ (lt_of_block' R3.out)).trans R3.out)
      have B := hide (B.out.trans (b.mono B.out.size))
      have H4 := hide ((b.block _ (lt_of_block' H4.out)).trans H4.out)
      refine ⟨_, rfl, hK.out _ _ R3.out (fun _ => ?_)⟩
      clear hK K b
      simp only [Act.put, List.getElem_toArray, List.getElem_cons_zero, List.getElem_cons_succ, List.setIfInBounds_toArray, List.set_cons_zero, List.set_cons_succ]
      refine wpAnyH_ready (rs := [3, 5]) (by kernel_rfl) (by simp) ?_
      refine AllReadyH.cons rfl (fun K hK => ?_) (AllReadyH.cons rfl (fun K hK => ?_) AllReadyH.nil)
      · refine step_call rfl 55 #[.agg (kA (k64 key)), .int .u8 54] (by kernel_rfl) (HM54 _).out ?_
        rintro e W3 ⟨rfl, b⟩
        have R3 := hide ((b.block _ (lt_of_block' R3.out)).trans R3.out)
        have B := hide (B.out.trans (b.mono B.out.size))
        have H4 := hide ((b.block _ (lt_of_block' H4.out)).trans H4.out)
        refine ⟨_, rfl, hK.out _ _ R3.out (fun _ => ?_)⟩
        clear hK K b
        simp only [Act.put, List.getElem_toArray, List.getElem_cons_zero, List.getElem_cons_succ, List.setIfInBounds_toArray, List.set_cons_zero, List.set_cons_succ]
        refine wpAnyH_ready (rs := [5]) (by kernel_rfl) (by simp) ?_
        refine AllReadyH.cons rfl (fun K hK => ?_) AllReadyH.nil
        refine step_alloc rfl 83 rfl (kA Z64) hz ?_
        have l3 := lt_of_block' R3.out
        have l4 := lt_of_block' H4.out
        have s0 := B.out.size
        have B := hide (B.out.alloc B.out.size (.cells (kA Z64) 83))
        have R3 := hide (heap_old (o := .cells (kA Z64) 83) R3.out)
        have H4 := hide (heap_old (o := .cells (kA Z64) 83) H4.out)
        have H5 := hide (heap_new W3 (.cells (kA Z64) 83))
        have h35 := And.intro l3 s0
        have h45 := Nat.ne_of_lt l4
        refine hK.out _ _ R3.out (fun _ => ?_)
        clear hK K
        simp only [Act.put, List.getElem_toArray, List.getElem_cons_zero, List.getElem_cons_succ, List.setIfInBounds_toArray, List.set_cons_zero, List.set_cons_succ]
        obtain ⟨b5, hb5⟩ : ∃ b, b = W3.heap.size := ⟨_, rfl⟩
        rw [← hb5] at H5 h35 h45 ⊢
        clear hb5 l3 s0 l4
        refine wpAnyH_ready (rs := [6]) (by kernel_rfl) (by simp) ?_
        refine AllReadyH.cons rfl (fun K hK => ?_) AllReadyH.nil
        refine step_store rfl 83 (.tmp 4) (.tmp 9) rfl _ (kA (kX key 92)) rfl rfl (kA Z64) 83 H4.out (HX 92).out (HXS 92).out (HXO 92).out ?_
        intro W6 G6 K6
        refine hK.out _ _ (K6.out.heap R3.out (by omega)) (fun _ => ?_)
        have R3 := hide (K6.out.heap R3.out (by omega))
        have H5 := hide (K6.out.heap H5.out (by omega))
        have B := hide (B.out.trans (K6.out.below B.out.size (fun i hi e => by omega)))
        clear hK K K6 H4
        refine wpAnyH_ready (rs := [7]) (by kernel_rfl) (by simp) ?_
        refine AllReadyH.cons rfl (fun K hK => ?_) AllReadyH.nil
        refine step_store rfl 83 (.tmp 5) (.tmp 11) rfl _ (kA (kX key 54)) rfl rfl (kA Z64) 83 H5.out (HX 54).out (HXS 54).out (HXO 54).out ?_
        intro W7 G7 K7
        refine hK.out _ _ (K7.out.heap R3.out (by omega)) (fun _ => ?_)
        have G6 := hide (K7.out.heap G6.out (by omega))
        have B := hide (B.out.trans (K7.out.below B.out.size (fun i hi e => by omega)))
        clear hK K K7 H5 R3
        refine wpAnyH_done (by kernel_rfl) ?_ _
        go_wp2_with fail
        go_ret
        exact ⟨_, rfl, ⟨_, _, rfl, by omega, by omega, G7.out, G6.out⟩, B.out⟩
      · refine step_alloc rfl 83 rfl (kA Z64) hz ?_
        have l3 := lt_of_block' R3.out
        have l4 := lt_of_block' H4.out
        have s0 := B.out.size
        have B := hide (B.out.alloc B.out.size (.cells (kA Z64) 83))
        have R3 := hide (heap_old (o := .cells (kA Z64) 83) R3.out)
        have H4 := hide (heap_old (o := .cells (kA Z64) 83) H4.out)
        have H5 := hide (heap_new W2 (.cells (kA Z64) 83))
        have h35 := And.intro l3 s0
        have h45 := Nat.ne_of_lt l4
        refine hK.out _ _ R3.out (fun _ => ?_)
        clear hK K
        simp only [Act.put, List.getElem_toArray, List.getElem_cons_zero, List.getElem_cons_succ, List.setIfInBounds_toArray, List.set_cons_zero, List.set_cons_succ]
        obtain ⟨b5, hb5⟩ : ∃ b, b = W2.heap.size := ⟨_, rfl⟩
        rw [← hb5] at H5 h35 h45 ⊢
        clear hb5 l3 s0 l4
        refine wpAnyH_ready (rs := [3]) (by kernel_rfl) (by simp) ?_
        refine AllReadyH.cons rfl (fun K hK => ?_) AllReadyH.nil
        refine step_call rfl 55 #[.agg (kA (k64 key)), .int .u8 54] (by kernel_rfl) (HM54 _).out ?_
        rintro e W4 ⟨rfl, b⟩
        have R3 := hide ((b.block _ (lt_of_block' R3.out)).trans R3.out)
        have B := hide (B.out.trans (b.mono B.out.size))
        have H4 := hide ((b.block _ (lt_of_block' H4.out)).trans H4.out)
        have H5 := hide ((b.block _ (lt_of_block' H5.out)).trans H5.out)
        refine ⟨_, rfl, hK.out _ _ R3.out (fun _ => ?_)⟩
        clear hK K b
        simp only [Act.put, List.getElem_toArray, List.getElem_cons_zero, List.getElem_cons_succ, List.setIfInBounds_toArray, List.set_cons_zero, List.set_cons_succ]
        refine wpAnyH_ready (rs := [6]) (by kernel_rfl) (by simp) ?_
        refine AllReadyH.cons rfl (fun K hK => ?_) AllReadyH.nil
        refine step_store rfl 83 (.tmp 4) (.tmp 9) rfl _ (kA (kX key 92)) rfl rfl (kA Z64) 83 H4.out (HX 92).out (HXS 92).out (HXO 92).out ?_
        intro W6 G6 K6
        refine hK.out _ _ (K6.out.heap R3.out (by omega)) (fun _ => ?_)
        have R3 := hide (K6.out.heap R3.out (by omega))
        have H5 := hide (K6.out.heap H5.out (by omega))
        have B := hide (B.out.trans (K6.out.below B.out.size (fun i hi e => by omega)))
        clear hK K K6 H4
        refine wpAnyH_ready (rs := [7]) (by kernel_rfl) (by simp) ?_
        refine AllReadyH.cons rfl (fun K hK => ?_) AllReadyH.nil
        refine step_store rfl 83 (.tmp 5) (.tmp 11) rfl _ (kA (kX key 54)) rfl rfl (kA Z64) 83 H5.out (HX 54).out (HXS 54).out (HXO 54).out ?_
        intro W7 G7 K7
        refine hK.out _ _ (K7.out.heap R3.out (by omega)) (fun _ => ?_)
        have G6 := hide (K7.out.heap G6.out (by omega))
        have B := hide (B.out.trans (K7.out.below B.out.size (fun i hi e => by omega)))
        clear hK K K7 H5 R3
        refine wpAnyH_done (by kernel_rfl) ?_ _
        go_wp2_with fail
        go_ret
        exact ⟨_, rfl, ⟨_, _, rfl, by omega, by omega, G7.out, G6.out⟩, B.out⟩
    · refine step_alloc rfl 83 rfl (kA Z64) hz ?_
      have l3 := lt_of_block' R3.out
      have l4 := lt_of_block' H4.out
      have s0 := B.out.size
      have B := hide (B.out.alloc B.out.size (.cells (kA Z64) 83))
      have R3 := hide (heap_old (o := .cells (kA Z64) 83) R3.out)
      have H4 := hide (heap_old (o := .cells (kA Z64) 83) H4.out)
      have H5 := hide (heap_new (W0.alloc (.cells (kA Z64) 83)) (.cells (kA Z64) 83))
      have h35 := And.intro l3 s0
      have h45 := Nat.ne_of_lt l4
      refine hK.out _ _ R3.out (fun _ => ?_)
      clear hK K
      simp only [Act.put, List.getElem_toArray, List.getElem_cons_zero, List.getElem_cons_succ, List.setIfInBounds_toArray, List.set_cons_zero, List.set_cons_succ]
      obtain ⟨b5, hb5⟩ : ∃ b, b = (W0.alloc (.cells (kA Z64) 83)).heap.size := ⟨_, rfl⟩
      rw [← hb5] at H5 h35 h45 ⊢
      clear hb5 l3 s0 l4
      refine wpAnyH_ready (rs := [1]) (by kernel_rfl) (by simp) ?_
      refine AllReadyH.cons rfl (fun K hK => ?_) AllReadyH.nil
      refine step_call rfl 55 #[.agg (kA (k64 key)), .int .u8 92] (by kernel_rfl) (HM92 _).out ?_
      rintro e W3 ⟨rfl, b⟩
      have R3 := hide ((b.block _ (lt_of_block' R3.out)).trans R3.out)
      have B := hide (B.out.trans (b.mono B.out.size))
      have H4 := hide ((b.block _ (lt_of_block' H4.out)).trans H4.out)
      have H5 := hide ((b.block _ (lt_of_block' H5.out)).trans H5.out)
      refine ⟨_, rfl, hK.out _ _ R3.out (fun _ => ?_)⟩
      clear hK K b
      simp only [Act.put, List.getElem_toArray, List.getElem_cons_zero, List.getElem_cons_succ, List.setIfInBounds_toArray, List.set_cons_zero, List.set_cons_succ]
      refine wpAnyH_ready (rs := [3]) (by kernel_rfl) (by simp) ?_
      refine AllReadyH.cons rfl (fun K hK => ?_) AllReadyH.nil
      refine step_call rfl 55 #[.agg (kA (k64 key)), .int .u8 54] (by kernel_rfl) (HM54 _).out ?_
      rintro e W4 ⟨rfl, b⟩
      have R3 := hide ((b.block _ (lt_of_block' R3.out)).trans R3.out)
      have B := hide (B.out.trans (b.mono B.out.size))
      have H4 := hide ((b.block _ (lt_of_block' H4.out)).trans H4.out)
      have H5 := hide ((b.block _ (lt_of_block' H5.out)).trans H5.out)
      refine ⟨_, rfl, hK.out _ _ R3.out (fun _ => ?_)⟩
      clear hK K b
      simp only [Act.put, List.getElem_toArray, List.getElem_cons_zero, List.getElem_cons_succ, List.setIfInBounds_toArray, List.set_cons_zero, List.set_cons_succ]
      refine wpAnyH_ready (rs := [6]) (by kernel_rfl) (by simp) ?_
      refine AllReadyH.cons rfl (fun K hK => ?_) AllReadyH.nil
      refine step_store rfl 83 (.tmp 4) (.tmp 9) rfl _ (kA (kX key 92)) rfl rfl (kA Z64) 83 H4.out (HX 92).out (HXS 92).out (HXO 92).out ?_
      intro W6 G6 K6
      refine hK.out _ _ (K6.out.heap R3.out (by omega)) (fun _ => ?_)
      have R3 := hide (K6.out.heap R3.out (by omega))
      have H5 := hide (K6.out.heap H5.out (by omega))
      have B := hide (B.out.trans (K6.out.below B.out.size (fun i hi e => by omega)))
      clear hK K K6 H4
      refine wpAnyH_ready (rs := [7]) (by kernel_rfl) (by simp) ?_
      refine AllReadyH.cons rfl (fun K hK => ?_) AllReadyH.nil
      refine step_store rfl 83 (.tmp 5) (.tmp 11) rfl _ (kA (kX key 54)) rfl rfl (kA Z64) 83 H5.out (HX 54).out (HXS 54).out (HXO 54).out ?_
      intro W7 G7 K7
      refine hK.out _ _ (K7.out.heap R3.out (by omega)) (fun _ => ?_)
      have G6 := hide (K7.out.heap G6.out (by omega))
      have B := hide (B.out.trans (K7.out.below B.out.size (fun i hi e => by omega)))
      clear hK K K7 H5 R3
      refine wpAnyH_done (by kernel_rfl) ?_ _
      go_wp2_with fail
      go_ret
      exact ⟨_, rfl, ⟨_, _, rfl, by omega, by omega, G7.out, G6.out⟩, B.out⟩
  · refine step_alloc rfl 83 rfl (kA Z64) hz ?_
    have l3 := lt_of_block' R3.out
    have s0 := B.out.size
    have B := hide (B.out.alloc B.out.size (.cells (kA Z64) 83))
    have R3 := hide (heap_old (o := .cells (kA Z64) 83) R3.out)
    have H5 := hide (heap_new W0 (.cells (kA Z64) 83))
    have h35 := And.intro l3 s0
    refine hK.out _ _ R3.out (fun _ => ?_)
    clear hK K
    simp only [Act.put, List.getElem_toArray, List.getElem_cons_zero, List.getElem_cons_succ, List.setIfInBounds_toArray, List.set_cons_zero, List.set_cons_succ]
    obtain ⟨b5, hb5⟩ : ∃ b, b = W0.heap.size := ⟨_, rfl⟩
    rw [← hb5] at H5 h35 ⊢
    clear hb5 l3 s0
    refine wpAnyH_ready (rs := [1, 4]) (by kernel_rfl) (by simp) ?_
    refine AllReadyH.cons rfl (fun K hK => ?_) (AllReadyH.cons rfl (fun K hK => ?_) AllReadyH.nil)
    · refine step_call rfl 55 #[.agg (kA (k64 key)), .int .u8 92] (by kernel_rfl) (HM92 _).out ?_
      rintro e W2 ⟨rfl, b⟩
      have R3 := hide ((b.block _ (lt_of_block' R3.out)).trans R3.out)
      have B := hide (B.out.trans (b.mono B.out.size))
      have H5 := hide ((b.block _ (lt_of_block' H5.out)).trans H5.out)
      refine ⟨_, rfl, hK.out _ _ R3.out (fun _ => ?_)⟩
      clear hK K b
      simp only [Act.put, List.getElem_toArray, List.getElem_cons_zero, List.getElem_cons_succ, List.setIfInBounds_toArray, List.set_cons_zero, List.set_cons_succ]
      refine wpAnyH_ready (rs := [3, 4]) (by kernel_rfl) (by simp) ?_
      refine AllReadyH.cons rfl (fun K hK => ?_) (AllReadyH.cons rfl (fun K hK => ?_) AllReadyH.nil)
      · refine step_call rfl 55 #[.agg (kA (k64 key)), .int .u8 54] (by kernel_rfl) (HM54 _).out ?_
        rintro e W3 ⟨rfl, b⟩
        have R3 := hide ((b.block _ (lt_of_block' R3.out)).trans R3.out)
        have B := hide (B.out.trans (b.mono B.out.size))
        have H5 := hide ((b.block _ (lt_of_block' H5.out)).trans H5.out)
        refine ⟨_, rfl, hK.out _ _ R3.out (fun _ => ?_)⟩
        clear hK K b
        simp only [Act.put, List.getElem_toArray, List.getElem_cons_zero, List.getElem_cons_succ, List.setIfInBounds_toArray, List.set_cons_zero, List.set_cons_succ]
        refine wpAnyH_ready (rs := [4]) (by kernel_rfl) (by simp) ?_
        refine AllReadyH.cons rfl (fun K hK => ?_) AllReadyH.nil
        refine step_alloc rfl 83 rfl (kA Z64) hz ?_
        have l3 := lt_of_block' R3.out
        have l5 := lt_of_block' H5.out
        have s0 := B.out.size
        have B := hide (B.out.alloc B.out.size (.cells (kA Z64) 83))
        have R3 := hide (heap_old (o := .cells (kA Z64) 83) R3.out)
        have H5 := hide (heap_old (o := .cells (kA Z64) 83) H5.out)
        have H4 := hide (heap_new W3 (.cells (kA Z64) 83))
        have h34 := And.intro l3 s0
        have h45 := Nat.ne_of_gt l5
        refine hK.out _ _ R3.out (fun _ => ?_)
        clear hK K
        simp only [Act.put, List.getElem_toArray, List.getElem_cons_zero, List.getElem_cons_succ, List.setIfInBounds_toArray, List.set_cons_zero, List.set_cons_succ]
        obtain ⟨b4, hb4⟩ : ∃ b, b = W3.heap.size := ⟨_, rfl⟩
        rw [← hb4] at H4 h34 h45 ⊢
        clear hb4 l3 s0 l5
        refine wpAnyH_ready (rs := [6]) (by kernel_rfl) (by simp) ?_
        refine AllReadyH.cons rfl (fun K hK => ?_) AllReadyH.nil
        refine step_store rfl 83 (.tmp 4) (.tmp 9) rfl _ (kA (kX key 92)) rfl rfl (kA Z64) 83 H4.out (HX 92).out (HXS 92).out (HXO 92).out ?_
        intro W6 G6 K6
        refine hK.out _ _ (K6.out.heap R3.out (by omega)) (fun _ => ?_)
        have R3 := hide (K6.out.heap R3.out (by omega))
        have H5 := hide (K6.out.heap H5.out (by omega))
        have B := hide (B.out.trans (K6.out.below B.out.size (fun i hi e => by omega)))
        clear hK K K6 H4
        refine wpAnyH_ready (rs := [7]) (by kernel_rfl) (by simp) ?_
        refine AllReadyH.cons rfl (fun K hK => ?_) AllReadyH.nil
        refine step_store rfl 83 (.tmp 5) (.tmp 11) rfl _ (kA (kX key 54)) rfl rfl (kA Z64) 83 H5.out (HX 54).out (HXS 54).out (HXO 54).out ?_
        intro W7 G7 K7
        refine hK.out _ _ (K7.out.heap R3.out (by omega)) (fun _ => ?_)
        have G6 := hide (K7.out.heap G6.out (by omega))
        have B := hide (B.out.trans (K7.out.below B.out.size (fun i hi e => by omega)))
        clear hK K K7 H5 R3
        refine wpAnyH_done (by kernel_rfl) ?_ _
        go_wp2_with fail
        go_ret
        exact ⟨_, rfl, ⟨_, _, rfl, by omega, by omega, G7.out, G6.out⟩, B.out⟩
      · refine step_alloc rfl 83 rfl (kA Z64) hz ?_
        have l3 := lt_of_block' R3.out
        have l5 := lt_of_block' H5.out
        have s0 := B.out.size
        have B := hide (B.out.alloc B.out.size (.cells (kA Z64) 83))
        have R3 := hide (heap_old (o := .cells (kA Z64) 83) R3.out)
        have H5 := hide (heap_old (o := .cells (kA Z64) 83) H5.out)
        have H4 := hide (heap_new W2 (.cells (kA Z64) 83))
        have h34 := And.intro l3 s0
        have h45 := Nat.ne_of_gt l5
        refine hK.out _ _ R3.out (fun _ => ?_)
        clear hK K
        simp only [Act.put, List.getElem_toArray, List.getElem_cons_zero, List.getElem_cons_succ, List.setIfInBounds_toArray, List.set_cons_zero, List.set_cons_succ]
        obtain ⟨b4, hb4⟩ : ∃ b, b = W2.heap.size := ⟨_, rfl⟩
        rw [← hb4] at H4 h34 h45 ⊢
        clear hb4 l3 s0 l5
        refine wpAnyH_ready (rs := [3]) (by kernel_rfl) (by simp) ?_
        refine AllReadyH.cons rfl (fun K hK => ?_) AllReadyH.nil
        refine step_call rfl 55 #[.agg (kA (k64 key)), .int .u8 54] (by kernel_rfl) (HM54 _).out ?_
        rintro e W4 ⟨rfl, b⟩
        have R3 := hide ((b.block _ (lt_of_block' R3.out)).trans R3.out)
        have B := hide (B.out.trans (b.mono B.out.size))
        have H4 := hide ((b.block _ (lt_of_block' H4.out)).trans H4.out)
        have H5 := hide ((b.block _ (lt_of_block' H5.out)).trans H5.out)
        refine ⟨_, rfl, hK.out _ _ R3.out (fun _ => ?_)⟩
        clear hK K b
        simp only [Act.put, List.getElem_toArray, List.getElem_cons_zero, List.getElem_cons_succ, List.setIfInBounds_toArray, List.set_cons_zero, List.set_cons_succ]
        refine wpAnyH_ready (rs := [6]) (by kernel_rfl) (by simp) ?_
        refine AllReadyH.cons rfl (fun K hK => ?_) AllReadyH.nil
        refine step_store rfl 83 (.tmp 4) (.tmp 9) rfl _ (kA (kX key 92)) rfl rfl (kA Z64) 83 H4.out (HX 92).out (HXS 92).out (HXO 92).out ?_
        intro W6 G6 K6
        refine hK.out _ _ (K6.out.heap R3.out (by omega)) (fun _ => ?_)
        have R3 := hide (K6.out.heap R3.out (by omega))
        have H5 := hide (K6.out.heap H5.out (by omega))
        have B := hide (B.out.trans (K6.out.below B.out.size (fun i hi e => by omega)))
        clear hK K K6 H4
        refine wpAnyH_ready (rs := [7]) (by kernel_rfl) (by simp) ?_
        refine AllReadyH.cons rfl (fun K hK => ?_) AllReadyH.nil
        refine step_store rfl 83 (.tmp 5) (.tmp 11) rfl _ (kA (kX key 54)) rfl rfl (kA Z64) 83 H5.out (HX 54).out (HXS 54).out (HXO 54).out ?_
        intro W7 G7 K7
        refine hK.out _ _ (K7.out.heap R3.out (by omega)) (fun _ => ?_)
        have G6 := hide (K7.out.heap G6.out (by omega))
        have B := hide (B.out.trans (K7.out.below B.out.size (fun i hi e => by omega)))
        clear hK K K7 H5 R3
        refine wpAnyH_done (by kernel_rfl) ?_ _
        go_wp2_with fail
        go_ret
        exact ⟨_, rfl, ⟨_, _, rfl, by omega, by omega, G7.out, G6.out⟩, B.out⟩
    · refine step_alloc rfl 83 rfl (kA Z64) hz ?_
      have l3 := lt_of_block' R3.out
      have l5 := lt_of_block' H5.out
      have s0 := B.out.size
      have B := hide (B.out.alloc B.out.size (.cells (kA Z64) 83))
      have R3 := hide (heap_old (o := .cells (kA Z64) 83) R3.out)
      have H5 := hide (heap_old (o := .cells (kA Z64) 83) H5.out)
      have H4 := hide (heap_new (W0.alloc (.cells (kA Z64) 83)) (.cells (kA Z64) 83))
      have h34 := And.intro l3 s0
      have h45 := Nat.ne_of_gt l5
      refine hK.out _ _ R3.out (fun _ => ?_)
      clear hK K
      simp only [Act.put, List.getElem_toArray, List.getElem_cons_zero, List.getElem_cons_succ, List.setIfInBounds_toArray, List.set_cons_zero, List.set_cons_succ]
      obtain ⟨b4, hb4⟩ : ∃ b, b = (W0.alloc (.cells (kA Z64) 83)).heap.size := ⟨_, rfl⟩
      rw [← hb4] at H4 h34 h45 ⊢
      clear hb4 l3 s0 l5
      refine wpAnyH_ready (rs := [1]) (by kernel_rfl) (by simp) ?_
      refine AllReadyH.cons rfl (fun K hK => ?_) AllReadyH.nil
      refine step_call rfl 55 #[.agg (kA (k64 key)), .int .u8 92] (by kernel_rfl) (HM92 _).out ?_
      rintro e W3 ⟨rfl, b⟩
      have R3 := hide ((b.block _ (lt_of_block' R3.out)).trans R3.out)
      have B := hide (B.out.trans (b.mono B.out.size))
      have H4 := hide ((b.block _ (lt_of_block' H4.out)).trans H4.out)
      have H5 := hide ((b.block _ (lt_of_block' H5.out)).trans H5.out)
      refine ⟨_, rfl, hK.out _ _ R3.out (fun _ => ?_)⟩
      clear hK K b
      simp only [Act.put, List.getElem_toArray, List.getElem_cons_zero, List.getElem_cons_succ, List.setIfInBounds_toArray, List.set_cons_zero, List.set_cons_succ]
      refine wpAnyH_ready (rs := [3]) (by kernel_rfl) (by simp) ?_
      refine AllReadyH.cons rfl (fun K hK => ?_) AllReadyH.nil
      refine step_call rfl 55 #[.agg (kA (k64 key)), .int .u8 54] (by kernel_rfl) (HM54 _).out ?_
      rintro e W4 ⟨rfl, b⟩
      have R3 := hide ((b.block _ (lt_of_block' R3.out)).trans R3.out)
      have B := hide (B.out.trans (b.mono B.out.size))
      have H4 := hide ((b.block _ (lt_of_block' H4.out)).trans H4.out)
      have H5 := hide ((b.block _ (lt_of_block' H5.out)).trans H5.out)
      refine ⟨_, rfl, hK.out _ _ R3.out (fun _ => ?_)⟩
      clear hK K b
      simp only [Act.put, List.getElem_toArray, List.getElem_cons_zero, List.getElem_cons_succ, List.setIfInBounds_toArray, List.set_cons_zero, List.set_cons_succ]
      refine wpAnyH_ready (rs := [6]) (by kernel_rfl) (by simp) ?_
      refine AllReadyH.cons rfl (fun K hK => ?_) AllReadyH.nil
      refine step_store rfl 83 (.tmp 4) (.tmp 9) rfl _ (kA (kX key 92)) rfl rfl (kA Z64) 83 H4.out (HX 92).out (HXS 92).out (HXO 92).out ?_
      intro W6 G6 K6
      refine hK.out _ _ (K6.out.heap R3.out (by omega)) (fun _ => ?_)
      have R3 := hide (K6.out.heap R3.out (by omega))
      have H5 := hide (K6.out.heap H5.out (by omega))
      have B := hide (B.out.trans (K6.out.below B.out.size (fun i hi e => by omega)))
      clear hK K K6 H4
      refine wpAnyH_ready (rs := [7]) (by kernel_rfl) (by simp) ?_
      refine AllReadyH.cons rfl (fun K hK => ?_) AllReadyH.nil
      refine step_store rfl 83 (.tmp 5) (.tmp 11) rfl _ (kA (kX key 54)) rfl rfl (kA Z64) 83 H5.out (HX 54).out (HXS 54).out (HXO 54).out ?_
      intro W7 G7 K7
      refine hK.out _ _ (K7.out.heap R3.out (by omega)) (fun _ => ?_)
      have G6 := hide (K7.out.heap G6.out (by omega))
      have B := hide (B.out.trans (K7.out.below B.out.size (fun i hi e => by omega)))
      clear hK K K7 H5 R3
      refine wpAnyH_done (by kernel_rfl) ?_ _
      go_wp2_with fail
      go_ret
      exact ⟨_, rfl, ⟨_, _, rfl, by omega, by omega, G7.out, G6.out⟩, B.out⟩
end Go.Proofs.YtgamfpgejkhbcaaDoor.S
namespace Go.Proofs.YtgamfpgejkhbcaaDoor.S
set_option maxRecDepth 100000
open Go Go.RowKit

/-- A bound sum, called. -/
theorem bound_c {bi bo : Nat} {key : List Nat} (hk : By key) (a : Option Addr) (cap : Nat) (ys : List Nat) (w : World) (ri : w.heap[bi]? = some (.cells (kA (kX key 54)) 83 (0, 0))) (ro : w.heap[bo]? = some (.cells (kA (kX key 92)) 83 (0, 0)))
    (hy : By ys) (hb : TextAt w a ys) (hcap : ys.length ≤ cap) (hcm : cap ≤ 9223372036854775807) (hyl : ys.length ≤ 999999999999000) :
    Calls Tryd.prog 56 #[.slice a ys.length cap, .pointer (some ⟨bi, 0, none⟩), .pointer (some ⟨bo, 0, none⟩)] w fun e w' => e = .returned (.agg (oA (hmac key ys) 20)) ∧ Below w.heap.size w w' :=
  bind1_c bi bo (kX key 54) (kX key 92) a cap ys w (kX_length _ _) (kX_by hk (by omega)) (kX_length _ _) (kX_by hk (by omega)) ri ro hy hb hcap hcm hyl

set_option maxHeartbeats 4000000 in
theorem msum_c (a b : Option Addr) (ca cb : Nat) (key ys : List Nat) (w : World) (hk : By key) (hka : TextAt w a key) (hkc : key.length ≤ ca) (hkm : ca ≤ 9223372036854775807) (hkl : key.length ≤ 1000000000000000)
    (hy : By ys) (hb : TextAt w b ys) (hcap : ys.length ≤ cb) (hcm : cb ≤ 9223372036854775807) (hyl : ys.length ≤ 999999999999000) :
    Calls Tryd.prog 41 #[.slice a key.length ca, .slice b ys.length cb] w fun e w' => e = .returned (.agg (oA (hmac key ys) 20)) ∧ Below w.heap.size w w' := by
  obtain ⟨S, hS⟩ : ∃ S, S = hmac key ys := ⟨_, rfl⟩
  have hz : ∀ w, (zeroValue 55).run Tryd.prog w = .ok (.agg (oA S 0)) w := (zero20 _).1
  have BA := hide ((Below.refl _ w).alloc (Nat.le_refl _) (.cells (oA S 0) 55) : Below w.heap.size w _)
  have R0 := hide (heap_new w (.cells (oA S 0) 55))
  have H20 := hide (info20 (oB S) 20)
  have HBI := hide (bind_c a ca key _ hk (hka.below BA.out) hkc hkm hkl)
  have HCL := fun W bi bo ri ro (k : Below w.heap.size w W) => hide (bound_c hk b cb ys W (bi := bi) (bo := bo) ri ro hy (hb.below k) hcap hcm hyl)
  rw [← hS] at HCL ⊢
  obtain ⟨N, hN⟩ : ∃ N, N = key.length := ⟨_, rfl⟩
  obtain ⟨M, hM⟩ : ∃ M, M = ys.length := ⟨_, rfl⟩
  rw [← hN] at HBI ⊢
  rw [← hM] at HCL ⊢
  clear hk hka hkc hkm hkl hy hb hcap hcm hyl hS hN hM
  go_enter Tryd.func41, Tryd.ntmps41
  go_wp2_with (first
    | (go_at_call 49; refine HBI.out.mono ?_; rintro e w1 ⟨v, rfl, ⟨bi, bo, rfl, _, _, hbi, hbo⟩, b1⟩; have RI := hide hbi; have RO := hide hbo; have B1 := hide (BA.out.trans (b1.mono BA.out.size)); have R1 := hide ((b1.block _ (by simp)).trans R0.out); clear b1 hbi hbo)
    | (go_at_call 56; refine (HCL w1 bi bo RI.out RO.out B1.out).out.mono ?_; rintro e w2 ⟨rfl, b2⟩; have B2 := hide (B1.out.trans (b2.mono B1.out.size)); have R2 := hide ((b2.block _ (lt_of_block' R1.out)).trans R1.out); clear b2)
    | (refine wpList_store_row rfl 55 (.tmp 4) (.tmp 8) rfl w.heap.size (oA S 20) (by rfl) (by rfl) (oA S 0) 55 R2.out H20.out (by rw [oA, oA, fA_size, fA_size]) (fA_one _ _ _ _) ?_; intro w3 G3 K3))
  have hld : (loadVar 55 ⟨w.heap.size, 0, none⟩).run Tryd.prog w3 = .ok (.agg (oA S 20)) w3 :=
    run_loadVar_row _ _ 55 55 (oA S 20) (0, 0) _ G3.out Tryd.underlying55 rfl H20.out
  refine bodyPost_ret (v := .agg (oA S 20)) ?_ rfl ⟨rfl, B2.out.trans (K3.out.below B2.out.size (fun i hi e => by omega))⟩
  simp [results, asAddr, Act.put, hld]
end Go.Proofs.YtgamfpgejkhbcaaDoor.S
namespace Go.Proofs.YtgamfpgejkhbcaaDoor.S
set_option maxRecDepth 100000
open Go Go.RowKit

theorem slice_h_nil (K : IntKind) (W : World) : (Instr.sliceAt 22 (.slice none 0 0) none (some (.int K 0)) none).run Tryd.prog W = .ok (.slice none 0 0) W := by
  rw [run_sliceAt_slice _ _ _ _ _ _ (by kernel_rfl), run_slice_h W 22 none 0 0 (by kernel_rfl) K 0 (by omega) (by omega), elemB, size5]
  simp [sliced]
theorem slice_h (K : IntKind) (W : World) (b o len cap m : Nat) (h : m ≤ cap) : (Instr.sliceAt 22 (.slice (some ⟨b, o, none⟩) len cap) none (some (.int K (m : Int))) none).run Tryd.prog W = .ok (.slice (some ⟨b, o, none⟩) m cap) W := by
  rw [run_sliceAt_slice _ _ _ _ _ _ (by kernel_rfl), run_slice_h W 22 (some ⟨b, o, none⟩) len cap (by kernel_rfl) K (m : Int) (by omega) (by omega), elemB, size5]
  simp [sliced, addr_plain]
/-- A row that was asked for, of no bytes yet. -/
def RowOk (w : World) (e : Ending) (w' : World) : Prop := ∃ v, e = .returned v ∧ OwnsB w' w.heap.size v [] ∧ Below w.heap.size w w'
theorem zeros_made (w : World) (ty : TypeId) (n : Nat) (h0 : 0 < n) (hn : n ≤ 140737488355328) :
    ∃ c w', (Builtin.append_ #[22, 3] ty #[.slice none 0 0, .int .i64 (n : Int)]).run Tryd.prog w = .ok (.slice (some ⟨w.heap.size, 0, none⟩) n c) w' ∧ n ≤ c ∧ OwnsB w' w.heap.size (.slice (some ⟨w.heap.size, 0, none⟩) 0 c) [] ∧ Below w.heap.size w w' := by
  obtain ⟨i5, hi5, hz5, hs5, hb5⟩ := info_parts infoB
  have hr := Lib.run_append_nil_zeros (P := Tryd.prog) w 22 3 ty 5 i5 (.int .u8 0) .i64 .i64 Tryd.underlying22 Tryd.underlying3 hi5 hz5 n h0 (by rw [hs5]; omega) (by omega) (by rw [hb5]; omega)
  have hge := grownCap_ge w n 0 5
  have hle := grownCap_le_maxLen w n 0 5 (by unfold maxLen; omega)
  refine ⟨_, _, hr, hge, ⟨by simp [bV], .inr ⟨w.heap.size, _, _, rfl, Nat.le_refl _, heap_new w.drew _, Nat.zero_le _, hle, ?_, by simp [bV]⟩⟩, ?_⟩
  · rw [Array.size_append, size_zeroCells, size_zeroCells]
    simp only [Value.cells, List.size_toArray, List.length_singleton]
    omega
  · exact ((⟨rfl, rfl, rfl, Nat.le_refl _, fun _ _ => rfl⟩ : Below w.heap.size w w.drew)).alloc (Nat.le_refl _) _

set_option maxHeartbeats 4000000 in
theorem grow_c (n : Nat) (w : World) (hn : n ≤ 140737488355328) : Calls Tryd.prog 40 #[.slice none 0 0, .int .i64 (n : Int)] w (RowOk w) := by
  have hsn := slice_h_nil
  by_cases h0 : n = 0
  · subst h0
    go_enter Tryd.func40, Tryd.ntmps40
    go_wp2_with fail
    go_ret
    exact ⟨_, rfl, OwnsB.nil _ _, Below.refl _ _⟩
  · obtain ⟨c, w1, hr, hc, ho, hb⟩ := zeros_made w 22 n (by omega) hn
    have HR := hide hr
    have HO := hide ho
    have HB := hide hb
    have hp : (0 : Int) < (n : Int) := by omega
    have hsh := fun W => slice_h .i64 W w.heap.size 0 n c 0 (Nat.zero_le _)
    clear hr ho hb
    go_enter Tryd.func40, Tryd.ntmps40
    go_wp2_with (refine Lib.wpList_append_run w rfl (.tmp 20) (.tmp 21) 22 3 rfl (.slice none 0 0) (.int .i64 (n : Int)) (by rfl) (by rfl) _ _ HR.out ?_)
    go_ret
    exact ⟨_, rfl, HO.out, HB.out⟩

/-- The two rows that are joined, and what stands ahead of each. -/
def catPre (xs ys : List Nat) : Nat → List Nat
  | 0 => []
  | 1 => xs
  | _ => xs ++ ys
/-- What Concat answers. -/
def CatOk (xs ys : List Nat) (w : World) (e : Ending) (w' : World) : Prop := ∃ v, e = .returned v ∧ OwnsB w' w.heap.size v (xs ++ ys) ∧ Below w.heap.size w w'
/-- One of the two rows. -/
structure CatRow (w : World) (c i : Nat) (xs ys : List Nat) (A : Option Addr) (L C : Nat) (Y : List Nat) : Prop where
  cell : w.cell? ⟨c, i, none⟩ = some (.slice A L C)
  len : Y.length = L
  text : TextAt w A Y
  nil : A = none → L = 0 ∧ C = 0
  pre : catPre xs ys i ++ Y = catPre xs ys (i + 1)
theorem cat_row {c : Nat} {a b : Option Addr} {ca cb : Nat} {xs ys : List Nat} {w : World} (hc : w.heap[c]? = some (.cells #[.slice a xs.length ca, .slice b ys.length cb] 22 (0, 0))) (ha : TextAt w a xs) (hb : TextAt w b ys) (hna : a = none → xs.length = 0 ∧ ca = 0) (hnb : b = none → ys.length = 0 ∧ cb = 0)
    {i : Nat} (hi : i < 2) : ∃ A L C Y, CatRow w c i xs ys A L C Y := by
  match i, hi with
  | 0, _ => exact ⟨a, _, ca, xs, cells_of hc 0, rfl, ha, hna, rfl⟩
  | 1, _ => exact ⟨b, _, cb, ys, cells_of hc 1, rfl, hb, hnb, rfl⟩
theorem catPre_le (xs ys : List Nat) (i : Nat) : (catPre xs ys i).length ≤ xs.length + ys.length := by
  match i with
  | 0 => simp [catPre]
  | 1 => simp [catPre]
  | _ + 2 => simp [catPre]

set_option maxHeartbeats 4000000 in
theorem concat_c (c : Nat) (a b : Option Addr) (ca cb : Nat) (xs ys : List Nat) (w : World) (hc : w.heap[c]? = some (.cells #[.slice a xs.length ca, .slice b ys.length cb] 22 (0, 0))) (ha : TextAt w a xs) (hb : TextAt w b ys) (hna : a = none → xs.length = 0 ∧ ca = 0) (hnb : b = none → ys.length = 0 ∧ cb = 0) (hl : xs.length + ys.length ≤ 140737488355328) :
    Calls Tryd.prog 25 #[.slice (some ⟨c, 0, none⟩) 2 2] w (CatOk xs ys w) := by
  have HR := fun i (hi : i < 2) => hide (cat_row hc ha hb hna hnb hi)
  have hcl := lt_of_block' hc
  have HP := hide (catPre_le xs ys)
  clear hc ha hb hna hnb
  go_enter Tryd.func25, Tryd.ntmps25
  go_wp2_with fail
  go_loopg [3, 11] 2 (fun gk u3 u11 wx => ∃ i : Nat, i + gk = 2 ∧ u3 = .int .i64 ((catPre xs ys i).length : Nat) ∧ u11 = .int .i64 i ∧ w = wx)
  case atStart => exact ⟨0, by omega, rfl, rfl, rfl⟩
  case round =>
    obtain ⟨i, hig, rfl, rfl, rfl⟩ := hrel
    cases gk with
    | zero =>
      obtain rfl : i = 2 := by omega
      have hge : ¬ ((2 : Nat) : Int) < 2 := by omega
      have hS := HP.out 2
      have HG := hide (grow_c (catPre xs ys 2).length w (by omega))
      generalize (catPre xs ys 2).length = S at hS HG ⊢
      go_wp2_with (go_at_call 40; refine HG.out.mono ?_; rintro e w1 ⟨v6, rfl, o1, b1⟩; have O1 := hide o1; have B1 := hide b1; clear o1 b1)
      go_loopg [6, 27] 2 (fun gk u6 u27 wx => ∃ i : Nat, i + gk = 2 ∧ u27 = .int .i64 i ∧ Hid (OwnsB wx w.heap.size u6 (catPre xs ys i)) ∧ Hid (Below w.heap.size w wx))
      case atStart => exact ⟨0, by omega, rfl, O1, B1⟩
      case round =>
        obtain ⟨i, hig, rfl, OX, BX⟩ := hrel
        clear O1 B1 HG
        cases gk with
        | zero =>
          obtain rfl : i = 2 := by omega
          have hge : ¬ ((2 : Nat) : Int) < 2 := by omega
          go_wp2_with fail
          go_ret
          exact ⟨_, rfl, OX.out, BX.out⟩
        | succ g1 =>
          have hlt : (i : Int) < 2 := by omega
          obtain ⟨A, L, C, Y, hrow⟩ := (HR i (by omega)).out
          have hc := (BX.out.cell (p := ⟨c, i, none⟩) hcl).trans hrow.cell
          have HT := hide (hrow.text.below BX.out)
          have HL := hide hrow.len
          have HNL := hide hrow.nil
          have HPR := hide hrow.pre
          have hpl := HP.out i
          have hpn := HP.out (i + 1)
          have hpl2 : (catPre xs ys i).length + L ≤ 140737488355328 := by
            rw [← hrow.pre, List.length_append, hrow.len] at hpn; omega
          have hsx := BX.out.size
          have i0 : (0 : Int) ≤ (i : Int) := by omega
          clear hrow hpl hpn
          go_wp2_with (refine wpList_appB _ rfl (.tmp 31) (.tmp 32) rfl w.heap.size u6 (catPre xs ys i) (by rfl) OX.out A L C (by rfl) Y (catPre xs ys (i + 1)) HPR.out HL.out HT.out HNL.out hpl2 hsx ?_; intro v7 w2 h2 k2; have O2 := hide h2; have B2 := hide (growB OX.out BX.out k2); clear h2 k2)
          go_roundg g1
          case measure => omega
          case rel => exact ⟨i + 1, by omega, by go_num, O2, B2⟩
    | succ g1 =>
      have hlt : (i : Int) < 2 := by omega
      obtain ⟨A, L, C, Y, hrow⟩ := (HR i (by omega)).out
      have hc := hrow.cell
      have hpn := HP.out (i + 1)
      have HE := hide (show (catPre xs ys (i + 1)).length = (catPre xs ys i).length + L by rw [← hrow.pre, List.length_append, hrow.len])
      have hsum : (catPre xs ys i).length + L ≤ 140737488355328 := by rw [← HE.out]; omega
      have i0 : (0 : Int) ≤ (i : Int) := by omega
      clear hrow hpn
      generalize (catPre xs ys i).length = S0 at HE hsum ⊢
      go_wp2_with fail
      go_roundg g1
      case measure => omega
      case rel => exact ⟨i + 1, by omega, by rw [HE.out]; go_num, by go_num, rfl⟩
end Go.Proofs.YtgamfpgejkhbcaaDoor.S
