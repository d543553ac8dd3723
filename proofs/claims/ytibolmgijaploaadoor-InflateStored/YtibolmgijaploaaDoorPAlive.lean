/- The laws' probe, 'alive': it answers true, and writes nothing that was there. -/
import Derived.Test.YtibolmgijaploaaDoorPInf
import Derived.Test.YtibolmgijaploaaDoorHBits
namespace Go.Proofs.YtibolmgijaploaaDoor
set_option maxRecDepth 100000
open Go Go.RowKit

theorem ans1 : iAns [1, 1, 0, 254, 255, 97] 9 = ([97], 6, 0) := by
  show iRes (iLoop 48 (iBlk (ib [1, 1, 0, 254, 255, 97]) 48 9) 0 []) = _
  have h : iBlk (ib [1, 1, 0, 254, 255, 97]) 48 9 0 [] = .ok (48, (false, [97])) := by
    unfold iBlk
    rw [iThen_of_ok (show iTk (ib [1, 1, 0, 254, 255, 97]) 48 0 1 = .ok (1, 1) from rfl), iThen_of_ok (show iTk (ib [1, 1, 0, 254, 255, 97]) 48 1 2 = .ok (3, 0) from rfl)]
    unfold iKind
    rw [if_pos rfl, iThen_of_ok (show iSto (ib [1, 1, 0, 254, 255, 97]) 48 9 3 [] = .ok (48, [97]) from rfl)]
    rfl
  rw [iLoop_end h]
  rfl
theorem nx2a : iNx iFix (ib [75, 4, 0, 9]) 32 3 = .ok (11, 97) := iNx_ok (ib_le _) (n := 8) ⟨by decide, by rw [iFix_length]; decide, by decide, by decide +kernel, by decide +kernel⟩
theorem nx2b : iNx iFix (ib [75, 4, 0, 9]) 32 11 = .ok (18, 256) := iNx_ok (ib_le _) (n := 7) ⟨by decide, by rw [iFix_length]; decide, by decide, by decide +kernel, by decide +kernel⟩
theorem ans2 : iAns [75, 4, 0, 9] 9 = ([97], 3, 0) := by
  show iRes (iLoop 32 (iBlk (ib [75, 4, 0, 9]) 32 9) 0 []) = _
  have hd : iDat iFix iFive (ib [75, 4, 0, 9]) 32 9 3 [] = .ok (18, [97]) := by
    unfold iDat
    rw [iLoop_on (iOne_byte nx2a (by decide) (by decide)) (by decide) (by decide), iLoop_end (iOne_end nx2b)]
    rfl
  have h : iBlk (ib [75, 4, 0, 9]) 32 9 0 [] = .ok (18, (false, [97])) := by
    unfold iBlk
    rw [iThen_of_ok (show iTk (ib [75, 4, 0, 9]) 32 0 1 = .ok (1, 1) from rfl), iThen_of_ok (show iTk (ib [75, 4, 0, 9]) 32 1 2 = .ok (3, 1) from rfl)]
    unfold iKind
    rw [if_neg (by decide), if_pos rfl, iThen_of_ok hd]
    rfl
  rw [iLoop_end h]
  rfl
theorem ans3 : iAns [7] 9 = ([], 0, 61) := by
  show iRes (iLoop 8 (iBlk (ib [7]) 8 9) 0 []) = _
  have h : iBlk (ib [7]) 8 9 0 [] = .error 61 := by
    unfold iBlk
    rw [iThen_of_ok (show iTk (ib [7]) 8 0 1 = .ok (1, 1) from rfl), iThen_of_ok (show iTk (ib [7]) 8 1 2 = .ok (3, 3) from rfl)]
    unfold iKind
    rw [if_neg (by decide), if_neg (by decide), if_neg (by decide)]
    rfl
  rw [iLoop_err h]
  rfl

/-- Bytes in a block of their own. -/
theorem text_of {w : World} {g : Nat} {L : List Int} {cs : Array Value} {t : TypeId} {fr : Nat × Nat} (h : w.heap[g]? = some (.cells cs t fr)) (hc : cs = (L.map (Value.int .u8)).toArray) (hb : ∀ x ∈ L, 0 ≤ x ∧ x ≤ 255) : Text w.heap.size w (some ⟨g, 0, none⟩) L.length L := by
  refine ⟨rfl, fun i => ?_, .inr ⟨g, 0, lt_of_block h, rfl, fun i hi => ?_⟩⟩
  · by_cases hi : i < L.length
    · simp only [List.getD, List.getElem?_eq_getElem hi, Option.getD_some]
      exact hb _ (List.getElem_mem hi)
    · simp [List.getD, List.getElem?_eq_none (show L.length ≤ i by omega)]
  · subst hc
    simp [World.cell?, h, List.getD, hi]
theorem inf_lit (L : List Int) (hb : ∀ x ∈ L, 0 ≤ x ∧ x ≤ 255) (hl : L.length ≤ 1000) {r : List Int × Nat × Int} (hr : iAns L 9 = r) (w : World) (hT : Tab w) (cs : Array Value) (hc : cs = (L.map (Value.int .u8)).toArray) (n : Nat) (hn : L.length = n) :
    Calls Tryd.prog 10 #[.slice (some ⟨w.heap.size, 0, none⟩) n n, .int .i64 9] (w.alloc (.cells cs 5)) fun x w' => InfOk (w.alloc (.cells cs 5)) r x w' ∧ Below w.heap.size w w' ∧ Tab w' := by
  subst hn
  have h0 : 0 < w.heap.size := lt_of_cell (hT 0 (by decide))
  have hb1 : Below w.heap.size w (w.alloc (.cells cs 5)) := (Below.refl _ w).alloc (Nat.le_refl _) _
  refine (inflate_c _ L.length L.length L 9 _ (text_of (heap_new w _) hc hb) (hT.below hb1 h0) (by omega) (Nat.le_refl _) (by decide)).mono ?_
  intro x w' h
  rw [show (9 : Int).toNat = 9 from rfl, hr] at h
  obtain ⟨o, oc, hx, ho, hbl⟩ := h
  have hbl2 : Below w.heap.size w w' := hb1.trans (hbl.mono hb1.size)
  exact ⟨⟨o, oc, hx, ho, hbl⟩, hbl2, hT.below hbl2 h0⟩

set_option maxHeartbeats 1000000 in
theorem alive_c (w : World) (hT : Tab w) : Calls Tryd.prog 9 #[] w fun e w' => e = .returned (.bool true) ∧ Below w.heap.size w w' := by
  have HT := hide hT
  clear hT
  go_enter Tryd.func9, Tryd.ntmps9
  go_wp2_with (first
    | (go_at_call 10; refine (inf_lit [1, 1, 0, 254, 255, 97] (by decide) (by decide) ans1 w HT.out #[.int .u8 1, .int .u8 1, .int .u8 0, .int .u8 254, .int .u8 255, .int .u8 97] rfl 6 rfl).mono ?_; rintro x w1 ⟨⟨o1, c1, rfl, ow1, _⟩, b1, t1⟩; have O1 := hide ow1; have B1 := hide b1; have T1 := hide t1; clear ow1 b1 t1 HT)
    | (go_at_call 10; refine (inf_lit [75, 4, 0, 9] (by decide) (by decide) ans2 w1 T1.out #[.int .u8 75, .int .u8 4, .int .u8 0, .int .u8 9] rfl 4 rfl).mono ?_; rintro x w2 ⟨⟨o2, c2, rfl, ow2, _⟩, b2, t2⟩; have O2 := hide ow2; have B2 := hide (B1.out.trans (b2.mono B1.out.size)); have O1' := hide (O1.out.below b2); have T2 := hide t2; clear ow2 b2 t2 T1)
    | (go_at_call 10; refine (inf_lit [7] (by decide) (by decide) ans3 w2 T2.out #[.int .u8 7] rfl 1 rfl).mono ?_; rintro x w3 ⟨⟨o3, c3, rfl, ow3, _⟩, b3, t3⟩; have hc1 : (convert 22 9 (.slice o1 1 c1)).run Tryd.prog w3 = .ok (.string ⟨#[97]⟩) w3 := conv_own (O1'.out.below b3); have hc2 : (convert 22 9 (.slice o2 1 c2)).run Tryd.prog w3 = .ok (.string ⟨#[97]⟩) w3 := conv_own (O2.out.below b3); have B3 := hide (B2.out.trans (b3.mono B2.out.size)); clear ow3 b3 t3))
  go_ret
  exact ⟨rfl, B3.out⟩
#print axioms alive_c
end Go.Proofs.YtibolmgijaploaaDoor
