/- The laws' probe: sums and a key, reckoned; contract of alive. -/
import Derived.Test.YtgafejgmjenfaabMKey
import Derived.Test.YtgafejgmjenfaabMSame
import Derived.Test.YtgafejgmjenfaabHOpen
import Derived.Lib.SlBytesConst
namespace Go.Proofs.Ytgafejgmjenfaab.S
set_option maxRecDepth 100000
open Go Go.RowKit

def tJ : List Nat := [74, 101, 102, 101]
def tW : List Nat := [119, 104, 97, 116, 32, 100, 111, 32, 121, 97, 32, 119, 97, 110, 116, 32, 102, 111, 114, 32, 110, 111, 116, 104, 105, 110, 103, 63]
def tP : List Nat := [112, 97, 115, 115, 119, 111, 114, 100]
def tS : List Nat := [115, 97, 108, 116]
def cJ : Array Value := #[.int .u8 74, .int .u8 101, .int .u8 102, .int .u8 101]
def cW : Array Value := #[.int .u8 119, .int .u8 104, .int .u8 97, .int .u8 116, .int .u8 32, .int .u8 100, .int .u8 111, .int .u8 32, .int .u8 121, .int .u8 97, .int .u8 32, .int .u8 119, .int .u8 97, .int .u8 110, .int .u8 116, .int .u8 32, .int .u8 102, .int .u8 111, .int .u8 114, .int .u8 32, .int .u8 110, .int .u8 111, .int .u8 116, .int .u8 104, .int .u8 105, .int .u8 110, .int .u8 103, .int .u8 63]
def cP : Array Value := #[.int .u8 112, .int .u8 97, .int .u8 115, .int .u8 115, .int .u8 119, .int .u8 111, .int .u8 114, .int .u8 100]
def cS : Array Value := #[.int .u8 115, .int .u8 97, .int .u8 108, .int .u8 116]
theorem kJ : cJ = kA tJ := by kernel_rfl
theorem kW : cW = kA tW := by kernel_rfl
theorem kP : cP = kA tP := by kernel_rfl
theorem kS : cS = kA tS := by kernel_rfl
theorem d_0 : oB (hmac tJ tW) 0 = 239 := by kernel_rfl
theorem d_19 : oB (hmac tJ tW) 19 = 121 := by kernel_rfl
theorem k_4 : keyK tP tS 1 4 = [12, 96, 200, 15] := by kernel_rfl
theorem lit_text {w : World} {b : Nat} {c : Array Value} {xs : List Nat} {t : TypeId} {fr : Nat × Nat} (hc : c = kA xs) (h : w.heap[b]? = some (.cells c t fr)) : TextAt w (some ⟨b, 0, none⟩) xs := .inr ⟨b, 0, rfl, lt_of_block' h, text64 (by rw [← hc]; exact h)⟩
theorem by_lit {xs : List Nat} (h : xs.all (· < 256) = true) : By xs := fun x hx => by simpa using (List.all_eq_true.1 h) x hx

set_option maxHeartbeats 4000000 in
theorem alive_c (w : World) : Calls Try.prog 4 #[] w fun e w' => e = .returned (.bool true) ∧ Below w.heap.size w w' := by
  obtain ⟨S, hS⟩ : ∃ S, S = hmac tJ tW := ⟨_, rfl⟩
  have hz : ∀ w, (zeroValue 26).run Try.prog w = .ok (.agg (oA S 0)) w := (zero20 _).1
  have e0 : (oA S 20)[0]? = some (.int .u8 239) := by rw [hS, oA, fA_at .u8 _ (by omega) (by omega), d_0]; rfl
  have e19 : (oA S 20)[19]? = some (.int .u8 121) := by rw [hS, oA, fA_at .u8 _ (by omega) (by omega), d_19]; rfl
  have H20 := hide (info20 (oB S) 20)
  have kc := fun (w : World) (C : Array Value) (n c : Nat) => Lib.run_convert_bytes_const (P := Try.prog) w 22 5 C n c Try.underlying22 Try.underlying5
  have kc2 : ∀ (w : World) (o : Obj) (C : Array Value) (n c : Nat), (convert 22 22 (.slice (some ⟨w.heap.size + 1, 0, none⟩) n c)).run Try.prog ((w.alloc o).alloc (.cells C 5)) = .ok (.slice (some ⟨w.heap.size + 1, 0, none⟩) n c) ((w.alloc o).alloc (.cells C 5 (C.size, C.size + 1))) := fun w o C n c => by
    have h := Lib.run_convert_bytes_const (P := Try.prog) (w.alloc o) 22 5 C n c Try.underlying22 Try.underlying5
    rw [show (w.alloc o).heap.size = w.heap.size + 1 by simp] at h
    exact h
  have BA := hide (((Below.refl _ w).alloc (Nat.le_refl _) (.cells cJ 5 (4, 5))).alloc (by simp) (.cells cW 5 (28, 29)) : Below w.heap.size w _)
  have HS := hide (show Calls Try.prog 6 #[.slice (some ⟨w.heap.size, 0, none⟩) 4 4, .slice (some ⟨w.heap.size + 1, 0, none⟩) 28 28] ((w.alloc (.cells cJ 5 (4, 5))).alloc (.cells cW 5 (28, 29))) (fun e w' => e = .returned (.agg (oA S 20)) ∧ Below w.heap.size w w') from by
    rw [hS]
    exact (msum_c (some ⟨w.heap.size, 0, none⟩) (some ⟨w.heap.size + 1, 0, none⟩) 4 28 tJ tW _ (by_lit (by decide)) (lit_text kJ (heap_new1 _ _ _)) (by decide) (by omega) (by decide) (by_lit (by decide)) (lit_text kW (heap_new2 _ _ _)) (by decide) (by omega) (by decide)).mono fun e w' ⟨he, b⟩ => ⟨he, BA.out.trans (b.mono BA.out.size)⟩)
  have HK := fun (W : World) => hide (show Calls Try.prog 5 #[.slice (some ⟨W.heap.size, 0, none⟩) 8 8, .slice (some ⟨W.heap.size + 1, 0, none⟩) 4 4, .int .i64 1, .int .i64 4] ((W.alloc (.cells cP 5 (8, 9))).alloc (.cells cS 5 (4, 5))) (fun e w' => ∃ b o, e = .returned (.tuple #[.slice (some ⟨b, o, none⟩) 4 4, .bool true]) ∧ TextAt w' (some ⟨b, o, none⟩) [12, 96, 200, 15] ∧ Below W.heap.size W w') from by
    have h := key_c (some ⟨W.heap.size, 0, none⟩) (some ⟨W.heap.size + 1, 0, none⟩) 8 4 tP tS 0 4 ((W.alloc (.cells cP 5 (8, 9))).alloc (.cells cS 5 (4, 5))) (by_lit (by decide)) (lit_text kP (heap_new1 _ _ _)) (by decide) (by omega) (by decide) (by_lit (by decide)) (lit_text kS (heap_new2 _ _ _)) (fun e => by cases e) (by decide) (by omega) (by omega)
    refine Calls.mono (show Calls Try.prog 5 #[.slice (some ⟨W.heap.size, 0, none⟩) 8 8, .slice (some ⟨W.heap.size + 1, 0, none⟩) 4 4, .int .i64 1, .int .i64 4] _ _ from h) ?_
    rintro e w' ⟨a, he, ht, hn, b⟩
    rw [show (0 : Nat) + 1 = 1 from rfl, k_4] at ht
    have B := (((Below.refl _ W).alloc (Nat.le_refl _) (.cells cP 5 (8, 9))).alloc (by simp) (.cells cS 5 (4, 5)) : Below W.heap.size W _)
    rcases ht with h0 | ⟨b', o, rfl, hb, hs⟩
    · cases h0
    · exact ⟨b', o, he, .inr ⟨b', o, rfl, hb, hs⟩, B.trans (b.mono B.size)⟩)
  have HA := fun (W : World) (b o : Nat) (t : TextAt W (some ⟨b, o, none⟩) [12, 96, 200, 15]) => hide (show Calls Try.prog 7 #[.slice (some ⟨b, o, none⟩) 4 4, .slice (some ⟨b, o, none⟩) 4 4] W (fun e w' => e = .returned (.bool true) ∧ ∃ q, w' = W.drewN q) from same_c (some ⟨b, o, none⟩) (some ⟨b, o, none⟩) 4 4 [12, 96, 200, 15] [12, 96, 200, 15] W (by_lit (by decide)) (by_lit (by decide)) t t (by decide))
  have HN := fun (W : World) (b o : Nat) (t : TextAt W (some ⟨b, o, none⟩) [12, 96, 200, 15]) => hide (show Calls Try.prog 7 #[.slice (some ⟨b, o, none⟩) 4 4, .slice (some ⟨b, o, none⟩) 3 4] W (fun e w' => e = .returned (.bool false) ∧ ∃ q, w' = W.drewN q) from same_c (some ⟨b, o, none⟩) (some ⟨b, o, none⟩) 4 4 [12, 96, 200, 15] [12, 96, 200] W (by_lit (by decide)) (by_lit (by decide)) t (t.take 3) (by decide))
  clear hS
  go_enter Try.func4, Try.ntmps4
  go_upto_region 2 with (first
    | (go_at_call 6; refine HS.out.mono ?_; rintro e w1 ⟨rfl, b1⟩; have B1 := hide b1; clear b1)
    | (refine wpList_store_row rfl 26 (.tmp 1) (.tmp 8) rfl w1.heap.size (oA S 20) (by rfl) (by rfl) (oA S 0) 26 (heap_new _ _) H20.out (by rw [oA, oA, fA_size, fA_size]) (fA_one _ _ _ _) ?_; intro w2 G2 K2))
  have hs1 := B1.out.size
  have l2 := lt_of_block' G2.out
  have B2 := hide ((B1.out.alloc hs1 (.cells (oA S 0) 26)).trans (K2.out.below (by simp; omega) (fun i hi e => by omega)))
  obtain ⟨b1, hb1⟩ : ∃ b1, b1 = w1.heap.size := ⟨_, rfl⟩
  rw [← hb1] at G2 l2 ⊢
  clear hb1 K2 B1 hs1 HS BA
  have HK2 := hide (HK w2).out
  clear HK
  go_upto_region 3 with (go_at_call 5; refine HK2.out.mono ?_; rintro e w3 ⟨kb, ko, rfl, t3, b3⟩; have T3 := hide t3; have B3 := hide b3; clear b3 t3)
  have G3 := (B3.out.block _ l2).trans G2.out
  have c0 := (cells_of G3 0).trans e0
  have c19 := (cells_of G3 19).trans e19
  have B4 := hide (B2.out.trans (B3.out.mono B2.out.size))
  have hcv : (convert 22 9 (.slice (some ⟨kb, ko, none⟩) 4 4)).run Try.prog w3 = .ok (.string ⟨#[12, 96, 200, 15]⟩) w3 := conv_at T3.out
  have hsh := fun W => slice_h .i64 W kb ko 4 4 3 (by omega)
  have HA3 := hide (HA w3 kb ko T3.out).out
  have HN3 := fun q => hide (HN (w3.drewN q) kb ko T3.out).out
  clear HA HN G3 kc hz H20
  go_wp2_with (first
    | (go_at_call 7; refine HA3.out.mono ?_; rintro e w4 ⟨rfl, q, rfl⟩; clear HA3)
    | (go_at_call 7; refine (HN3 q).out.mono ?_; rintro e w5 ⟨rfl, q2, rfl⟩))
  go_ret
  exact ⟨rfl, ⟨B4.out.os, B4.out.tape, B4.out.output, B4.out.size, B4.out.block⟩⟩
end Go.Proofs.Ytgafejgmjenfaab.S
