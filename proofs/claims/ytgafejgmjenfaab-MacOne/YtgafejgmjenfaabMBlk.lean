/- blockOf: contract. -/
import Derived.Test.YtgafejgmjenfaabHOwn
namespace Go.Proofs.Ytgafejgmjenfaab.S
set_option maxRecDepth 100000
open Go Go.RowKit

theorem sizeU8 : (Try.prog.info? 5).map (·.size) = some 1 := by kernel_rfl
/-- At most 64 bytes copied to the beginning of an array of 64 bytes 0. -/
theorem wpList_lay64 {ops : Array Oper} {rest : List Oper} {o : Oper} {act : Act} {Q : Exit → Act → World → Prop} {w : World} (hgd : o.guard = none) (d s : Operand)
    (ho : o.op = .call { callee := .builtin .copy, args := #[d, s], argTypes := #[22, 22] }) (g : Nat) (a : Option Addr) (len cap : Nat) (ks : List Nat) (hd : act.eval d = .slice (some ⟨g, 0, none⟩) 64 64) (hs : act.eval s = .slice a len cap)
    (hlen : ks.length = len) (hk : len ≤ 64) (hg : w.heap[g]? = some (.cells (kA Z64) 33 (0, 0))) (ht : TextAt w a ks)
    (h : ∀ w', Hid (w'.heap[g]? = some (.cells (kA (ks ++ List.replicate (64 - ks.length) 0)) 33 (0, 0))) → Hid (Kept (fun k => k = g) w w') → wpList Try.prog ops Q rest (act.put o.dst (goInt len)) w') : wpList Try.prog ops Q (o :: rest) act w := by
  subst hlen
  rcases ht with h0 | ⟨b, off, rfl, hb, hbs⟩
  · refine wpList_copy_nothing hgd d s 22 22 ho 5 Try.underlying22 sizeU8 _ _ 64 64 _ cap hd hs (by rw [h0]; rfl) ?_
    have e : ks = [] := List.eq_nil_of_length_eq_zero h0
    subst e
    exact h w hg (Kept.refl _ _)
  · have hmin : (bV ks).length = Nat.min ks.length 64 := by
      have : Nat.min ks.length 64 = min ks.length 64 := rfl
      simp only [bV, List.length_map]; omega
    refine wpList_copy_own hgd d s 22 22 ho 5 Try.underlying22 sizeU8 g 0 64 64 ⟨b, off, none⟩ _ cap hd hs (kA Z64) 33 hg (bV ks) hmin (fun j v hj => ?_) (by rw [kA_size, Z64_length]; simp [bV]; omega) (bV_one ks) ?_
    · have hjl : j < ks.length := by
        rcases Nat.lt_or_ge j ks.length with h' | h'
        · exact h'
        · rw [List.getElem?_eq_none (by simpa [bV] using h')] at hj; cases hj
      rw [addr_plain, hbs j hjl, ← hj]
      simp [bV, hjl]
    · rw [show (bV ks).length = ks.length by simp [bV]]
      refine h _ ?_ (kept_setRow _ _ _ _ rfl)
      have hr := setRow_heap' w g ((kA Z64).toList.take 0 ++ (bV ks ++ (kA Z64).toList.drop (0 + ks.length))).toArray _ _ _ hg
      have e : ((kA Z64).toList.take 0 ++ (bV ks ++ (kA Z64).toList.drop (0 + ks.length))).toArray = kA (ks ++ List.replicate (64 - ks.length) 0) := by
        simp only [kA, bV, Z64, List.take_zero, List.nil_append, Nat.zero_add, List.map_append, List.map_replicate, List.drop_replicate]
      rw [e] at hr ⊢
      exact hr

set_option maxHeartbeats 4000000 in
theorem blockOf_c (a : Option Addr) (cap : Nat) (key : List Nat) (w : World) (hy : By key) (hb : TextAt w a key) (hcap : key.length ≤ cap) (hcm : cap ≤ 9223372036854775807) (hl : key.length ≤ 1000000000000000) :
    Calls Try.prog 10 #[.slice a key.length cap] w fun e w' => e = .returned (.agg (kA (k64 key))) ∧ Below w.heap.size w w' := by
  have hz : ∀ w, (zeroValue 33).run Try.prog w = .ok (.agg (kA Z64)) w := zero64.1
  have hz2 : ∀ w, (zeroValue 26).run Try.prog w = .ok (.agg (oA (sum key) 0)) w := (zero20 _).1
  have HI := hide (info64 (xs := k64 key) (k64_length key))
  have HS := hide (show (kA Z64).size = (kA (k64 key)).size by rw [kA_size, kA_size, k64_length]; exact Z64_length)
  have HO := hide (kA_one (k64 key))
  have H20 := hide (info20 (oB (sum key)) 20)
  have HB := hide hb
  have R0 := hide (heap_new1 w (.cells (kA Z64) 33) (.cells (kA Z64) 33))
  have R1 := hide (heap_new2 w (.cells (kA Z64) 33) (.cells (kA Z64) 33))
  have B0 := hide (((Below.refl _ w).alloc (Nat.le_refl _) (.cells (kA Z64) 33)).alloc (by simp) (.cells (kA Z64) 33) : Below w.heap.size w _)
  have HQ := hide (sum_c a cap key _ hy (hb.below B0.out) hcap hcm hl)
  have hsl := fun W => slice64 W (w.heap.size + 1)
  obtain ⟨N, hN⟩ : ∃ N, N = key.length := ⟨_, rfl⟩
  have HN := hide hN
  rw [← hN] at HQ ⊢
  clear hy hb hN hcap hcm hl
  go_enter Try.func10, Try.ntmps10
  by_cases h64 : 64 < N
  · have h64' : (64 : Int) < (N : Int) := by omega
    have HKB : Hid (k64 key = outL (sum key) ++ List.replicate (64 - (outL (sum key)).length) 0) := by
      have : kB key = outL (sum key) := if_pos (by rw [← HN.out]; exact h64)
      show k64 key = _
      rw [k64, this]
    go_upto_region 4 with (first
      | (go_at_call 15; refine HQ.out.mono ?_; rintro e w2 ⟨rfl, b2⟩; have B2 := hide (B0.out.trans (b2.mono (by simp; omega))); have Q0 := hide ((b2.block _ (by simp; omega)).trans R0.out); have Q1 := hide ((b2.block _ (by simp)).trans R1.out); clear b2)
      | (refine wpList_store_row rfl 26 (.tmp 4) (.tmp 9) rfl w2.heap.size (oA (sum key) 20) (by rfl) (by rfl) (oA (sum key) 0) 26 (heap_new _ _) H20.out (by rw [oA, oA, fA_size, fA_size]) (fA_one _ _ _ _) ?_; intro w3 G3 K3))
    have hs2 := B2.out.size
    have hq0 := lt_of_block' Q1.out
    have B3 := hide ((B2.out.alloc hs2 (.cells (oA (sum key) 0) 26)).trans (K3.out.below (by simp; omega) (fun i hi e => by omega)))
    have S0 := hide (K3.out.heap (heap_old Q0.out) (by omega))
    have S1 := hide (K3.out.heap (heap_old Q1.out) (by omega))
    have T3 := hide (text20 G3.out)
    have hl3 := fun W => slice20 W w2.heap.size
    obtain ⟨bd, hbd⟩ : ∃ bd, bd = w2.heap.size := ⟨_, rfl⟩
    rw [← hbd] at T3 hl3 ⊢
    clear hbd K3 G3 hs2 Q0 Q1 B2 R0 R1 B0 HQ hq0
    go_wp2_with (first
      | (refine wpList_lay64 rfl (.tmp 11) (.tmp 12) rfl (w.heap.size + 1) (some ⟨bd, 0, none⟩) 20 20 (outL (sum key)) (by rfl) (by rfl) (outL_length _) (by omega) S1.out T3.out ?_; intro w4 G4 K4; rw [← HKB.out] at G4)
      | (refine wpList_load_row rfl 33 (.tmp 3) rfl (w.heap.size + 1) (by rfl) (kA (k64 key)) 33 (0, 0) G4.out _ Try.underlying33 rfl HI.out ?_)
      | (refine wpList_store_row rfl 33 (.tmp 2) (.tmp 14) rfl w.heap.size (kA (k64 key)) (by rfl) (by rfl) (kA Z64) 33 (K4.out.heap S0.out (by omega)) HI.out HS.out HO.out ?_; intro w5 G5 K5))
    have hld : (loadVar 33 ⟨w.heap.size, 0, none⟩).run Try.prog w5 = .ok (.agg (kA (k64 key))) w5 :=
      run_loadVar_row _ _ 33 33 (kA (k64 key)) (0, 0) _ G5.out Try.underlying33 rfl HI.out
    have B4 := B3.out.trans (K4.out.below B3.out.size (fun i hi e => by omega))
    refine bodyPost_ret (v := .agg (kA (k64 key))) ?_ rfl ⟨rfl, B4.trans (K5.out.below B4.size (fun i hi e => by omega))⟩
    simp [results, asAddr, Act.put, hld]
  · have h64' : ¬ (64 : Int) < (N : Int) := by omega
    have HKB : Hid (k64 key = key ++ List.replicate (64 - key.length) 0) := by
      have : kB key = key := if_neg (by rw [← HN.out]; exact h64)
      show k64 key = _
      rw [k64, this]
    have T3 := hide (HB.out.below B0.out)
    clear HQ hz2
    go_wp2_with (first
      | (refine wpList_lay64 rfl (.tmp 11) (.tmp 12) rfl (w.heap.size + 1) a N cap key (by rfl) (by rfl) HN.out.symm (by omega) R1.out T3.out ?_; intro w4 G4 K4; rw [← HKB.out] at G4)
      | (refine wpList_load_row rfl 33 (.tmp 3) rfl (w.heap.size + 1) (by rfl) (kA (k64 key)) 33 (0, 0) G4.out _ Try.underlying33 rfl HI.out ?_)
      | (refine wpList_store_row rfl 33 (.tmp 2) (.tmp 14) rfl w.heap.size (kA (k64 key)) (by rfl) (by rfl) (kA Z64) 33 (K4.out.heap R0.out (by omega)) HI.out HS.out HO.out ?_; intro w5 G5 K5))
    have hld : (loadVar 33 ⟨w.heap.size, 0, none⟩).run Try.prog w5 = .ok (.agg (kA (k64 key))) w5 :=
      run_loadVar_row _ _ 33 33 (kA (k64 key)) (0, 0) _ G5.out Try.underlying33 rfl HI.out
    have B4 := B0.out.trans (K4.out.below B0.out.size (fun i hi e => by omega))
    refine bodyPost_ret (v := .agg (kA (k64 key))) ?_ rfl ⟨rfl, B4.trans (K5.out.below B4.size (fun i hi e => by omega))⟩
    simp [results, asAddr, hld]
end Go.Proofs.Ytgafejgmjenfaab.S
