/- gz: qGaWt. -/
import Derived.Test.YteknifnadbmfiaaGreatDoorqG9Wh
import Derived.Test.YteknifnadbmfiaaGreatDoorpDg09DAns
namespace Go.Proofs.YteknifnadbmfiaaGreatDoor
set_option maxRecDepth 100000
open Go Go.RowKit
set_option linter.unusedVariables false

theorem DefIs.bytes9 {zs X : List Int} {lv : Int} (h : DefIs zs lv X) (hz : ∀ x ∈ zs, 0 <= x /\ x <= 255) : ∀ x ∈ X, 0 <= x /\ x <= 255 := by
 have key : ∀ Y : List Int, (∀ i, 0 <= Y.getD i 0 /\ Y.getD i 0 <= 255) -> ∀ x ∈ Y, 0 <= x /\ x <= 255 := fun Y hY x hx => by
  obtain ⟨i, hi, rfl⟩ := List.getElem_of_mem hx
  have := hY i
  simpa [List.getD, hi] using this
 by_cases hlv : lv < 1
 ·rw [h.1 hlv]; exact stB_bytes _ zs rfl hz
 ·obtain ⟨ts, k, S, D, H0, H, _, _, _, _, _, _, _, hH, _, hX⟩ := h.2 (by omega)
  rcases hX with ⟨rfl, _⟩ | ⟨rfl, _⟩
  ·exact key _ (fun i => dataL_bytes _ (bin_bl hH) i)
  ·exact stB_bytes _ zs rfl hz
theorem DefIs.len9 {zs X : List Int} {lv : Int} (h : DefIs zs lv X) : X.length <= 2 * zs.length + 5 := by
 have hs := stB_len _ zs rfl
 by_cases hlv : lv < 1
 ·rw [h.1 hlv]; exact hs
 ·obtain ⟨ts, k, S, D, H0, H, _, _, _, _, _, _, _, _, _, hX⟩ := h.2 (by omega)
  rcases hX with ⟨rfl, hl⟩ | ⟨rfl, _⟩ <;> omega
def DfOk (D : List Int -> Prop) (W : World) (e : Ending) (w' : World) : Prop := ∃ g c X, e = .returned (.slice (some ⟨g, 0, none⟩) X.length c) /\ Bi w' w'.heap.size (some ⟨g, 0, none⟩) c X /\ D X /\ X.length <= 100000000 /\ Kept (fun _ => False) W w'
structure DSt (base : Nat) (W0 : World) (bw : Nat) (g0 : Option Nat) (W : World) (X : List Int) : Prop where
 w : ∃ g, Wt base W bw g X /\ LK bw g0 W0 g W
 z : base <= W.heap.size
section
variable {base : Nat} {W0 W W1 : World} {bw : Nat} {g0 : Option Nat} {X Y : List Int}
theorem DSt.keep (h : DSt base W0 bw g0 W X) {b : Nat} (hb : b < W0.heap.size) (h1 : b ≠ bw) (h2 : ¬ some b = g0) : W.heap[b]? = W0.heap[b]? := by
 obtain ⟨g, _, k⟩ := h.w
 exact k.k.block b hb (fun e => e.elim h1 h2)
theorem DSt.stay (h : DSt base W0 bw g0 W X) (k : Kept (fun _ => False) W W1) : DSt base W0 bw g0 W1 X := by
 obtain ⟨g, hw, hk⟩ := h.w
 exact ⟨⟨g, hw.stay k, hk.k.trans k (fun _ _ e => e.elim), hk.n⟩, Nat.le_trans h.z k.size⟩
theorem DSt.lay (h : DSt base W0 bw g0 W X) {a : Option Addr} {c B : Nat} (hb : Bi W B a c Y) (hl : X.length + Y.length <= 1000000000000) :
  Calls Tryz.prog 17 #[.pointer (some ⟨bw, 0, none⟩), .slice a Y.length c] W fun e W' => e = .returned (.tuple #[]) /\ DSt base W0 bw g0 W' (X ++ Y) := by
 obtain ⟨g, hw, hk⟩ := h.w
 refine (wlay_c hw h.z hb hl).mono ?_
 rintro e W' ⟨rfl, g', h', k'⟩
 exact ⟨rfl, ⟨g', h', hk.trans k'⟩, Nat.le_trans h.z k'.k.size⟩
theorem DSt.num (h : DSt base W0 bw g0 W X) (v n : Nat) (hv : v < 18446744073709551616) (hn : n <= 64) (hl : X.length <= 100000000000) :
  Calls Tryz.prog 19 #[.pointer (some ⟨bw, 0, none⟩), .int .u64 (v : Int), .int .i64 (n : Int)] W fun e W' => e = .returned (.tuple #[]) /\ DSt base W0 bw g0 W' (X ++ leP v n) := by
 obtain ⟨g, hw, hk⟩ := h.w
 refine (wnumber_c hw h.z v n hv hn hl).mono ?_
 rintro e W' ⟨rfl, g', h', k'⟩
 exact ⟨rfl, ⟨g', h', hk.trans k'⟩, Nat.le_trans h.z k'.k.size⟩
end
theorem bi_same {W W' : World} {B gb c : Nat} {zs : List Int} (h : Bi W B (some ⟨gb, 0, none⟩) c zs) (hs : W'.heap[gb]? = W.heap[gb]?) : Bi W' B (some ⟨gb, 0, none⟩) c zs := by
 refine ⟨⟨rfl, h.t.2.1, ?_⟩, h.le, h.nil, h.max⟩
 rcases h.t.2.2 with h0 | ⟨b, off, hb, e, hc⟩
 ·exact .inl h0
 ·cases e
  refine .inr ⟨gb, 0, hb, rfl, fun i hi => ?_⟩
  rw [World.cell?_of_block (w := W) hs]
  exact hc i hi
def gFt (zs : List Int) : List Int := leP (crc zs) 4 ++ leP (zs.length % 4294967296) 4
theorem leP_mod (v : Nat) : leP v 4 = leP (v % 4294967296) 4 := by
 have h : ∀ v, F.putN v 4 = [UInt8.ofNat (v % 256), UInt8.ofNat (v / 256 % 256), UInt8.ofNat (v / 256 / 256 % 256), UInt8.ofNat (v / 256 / 256 / 256 % 256)] := fun v => rfl
 unfold leP
 rw [h, h]
 rw [show v % 4294967296 % 256 = v % 256 by omega, show v % 4294967296 / 256 % 256 = v / 256 % 256 by omega, show v % 4294967296 / 256 / 256 % 256 = v / 256 / 256 % 256 by omega, show v % 4294967296 / 256 / 256 / 256 % 256 = v / 256 / 256 / 256 % 256 by omega]
set_option maxHeartbeats 8000000 in
theorem wdata_c {base : Nat} {W : World} {bw : Nat} {g : Option Nat} {X0 zs : List Int} {D : List Int -> Prop} (h : Wt base W bw g X0) (hbase : base <= W.heap.size) (hbw : bw < W.heap.size) {gb c B : Nat} (hb : Bi W B (some ⟨gb, 0, none⟩) c zs) (hgb : gb < W.heap.size /\ gb ≠ bw /\ ¬ some gb = g) (lv : Int) (hl : X0.length <= 100000000) (hzl : zs.length <= 100000000)
  (hD : ∀ W', Kept (fun _ => False) W W' -> Calls Tryz.prog 21 #[.slice (some ⟨gb, 0, none⟩) zs.length c, .int .i64 lv] W' (DfOk D W')) :
  Calls Tryz.prog 11 #[.pointer (some ⟨bw, 0, none⟩), .slice (some ⟨gb, 0, none⟩) zs.length c, .int .i64 lv] W fun e W' => e = .returned (.tuple #[]) /\ ∃ X g', D X /\ Wt base W' bw g' (X0 ++ X ++ gFt zs) /\ LK bw g W g' W' /\ X.length <= 100000000 := by
 have HMK := hide (C.make_c W)
 obtain ⟨Wd, hWd⟩ : ∃ Wd, Wd = ((W.alloc (.cells (C.tabA 256) 44)).alloc (.cells (C.tabA 256) 44)).alloc (.cells (C.tabA 256) 44) := ⟨_, rfl⟩
 have hk : Kept (fun _ => False) W Wd := by rw [hWd]; exact Kept.alloc _ (Kept.alloc _ (Kept.alloc _ (Kept.refl _ W) _) _) _
 have htb : Wd.heap[W.heap.size + 1 + 1]? = some (.cells (C.tabA 256) 44 (0, 0)) := by
  rw [hWd]
  have := heap_new ((W.alloc (.cells (C.tabA 256) 44)).alloc (.cells (C.tabA 256) 44)) (.cells (C.tabA 256) 44)
  simpa using this
 have hz := C.zeroT
 rw [<- C.tabA_zero] at hz
 have hDd := hD Wd hk
 have hap := h.apart
 have hs0 : DSt base Wd bw g Wd X0 := ⟨⟨g, h.stay hk, LK.refl _ _ _⟩, Nat.le_trans hbase hk.size⟩
 have hbd : Bi Wd B (some ⟨gb, 0, none⟩) c zs := hb.kept hk (fun _ _ e => e)
 have hgd : gb < Wd.heap.size := Nat.lt_of_lt_of_le hgb.1 hk.size
 have htd : W.heap.size + 1 + 1 < Wd.heap.size := lt_of_block htb
 have htg : ¬ some (W.heap.size + 1 + 1) = g := fun e => by have := hap _ e.symm; omega
 have HD1 : Hid (Calls Tryz.prog 21 #[.slice (some ⟨gb, 0, none⟩) zs.length c, .int .i64 lv] Wd fun e w1 => ∃ (g1 c1 : Nat) (X : List Int), e = .returned (.slice (some ⟨g1, 0, none⟩) X.length c1) /\ Hid (Calls Tryz.prog 17 #[.pointer (some ⟨bw, 0, none⟩), .slice (some ⟨g1, 0, none⟩) X.length c1] w1 fun e w2 => e = .returned (.tuple #[]) /\ Hid (Calls Tryz.prog 22 #[.pointer (some ⟨W.heap.size + 1 + 1, 0, none⟩), .slice (some ⟨gb, 0, none⟩) zs.length c] w2 fun e w' => e = .returned (.int .u32 (crc zs : Nat)) /\ w' = w2) /\ Hid (Calls Tryz.prog 19 #[.pointer (some ⟨bw, 0, none⟩), .int .u64 (crc zs : Nat), .int .i64 4] w2 fun e w3 => e = .returned (.tuple #[]) /\ Hid (Calls Tryz.prog 19 #[.pointer (some ⟨bw, 0, none⟩), .int .u64 (zs.length : Nat), .int .i64 4] w3 fun e w4 => e = .returned (.tuple #[]) /\ ∃ X g', D X /\ Wt base w4 bw g' (X0 ++ X ++ gFt zs) /\ LK bw g W g' w4 /\ X.length <= 100000000)))) := by
  refine hDd.mono ?_
  rintro e w1 ⟨g1, c1, X, rfl, hbi, hDX, hXl, k1⟩
  refine ⟨g1, c1, X, rfl, ((hs0.stay k1).lay hbi (by omega)).mono ?_⟩
  rintro e w2 ⟨rfl, s2⟩
  have hb2 := bi_same hbd (s2.keep hgd hgb.2.1 hgb.2.2)
  have ht2 := (s2.keep htd (by omega) htg).trans htb
  refine ⟨rfl, sumB hb2 (C.tabIn_of ht2), (s2.num (crc zs) 4 (by have := crc_lt zs; omega) (by decide) (by simp; omega)).mono ?_⟩
  rintro e w3 ⟨rfl, s3⟩
  refine ⟨rfl, (s3.num zs.length 4 (by omega) (by decide) (by simp [leP_length]; omega)).mono ?_⟩
  rintro e w4 ⟨rfl, s4⟩
  obtain ⟨g4, h4, k4⟩ := s4.w
  refine ⟨rfl, X, g4, hDX, ?_, LK.pre hk k4, hXl⟩
  have : X0 ++ X ++ gFt zs = X0 ++ X ++ leP (crc zs) 4 ++ leP zs.length 4 := by unfold gFt; rw [<- leP_mod, <- List.append_assoc]
  rw [this]
  exact h4
 have HB0 : Hid ((((W.alloc (.cells (C.tabA 256) 44)).alloc (.cells (C.tabA 256) 44)).alloc (.cells (C.tabA 0) 44)).heap[W.heap.size + 1 + 1]? = some (.cells (C.tabA 0) 44 (0, 0))) := by
  have := heap_new ((W.alloc (.cells (C.tabA 256) 44)).alloc (.cells (C.tabA 256) 44)) (.cells (C.tabA 0) 44)
  show _ = _
  simpa using this
 have HW0 : Hid ((((W.alloc (.cells (C.tabA 256) 44)).alloc (.cells (C.tabA 256) 44)).alloc (.cells (C.tabA 0) 44)).setRow (W.heap.size + 1 + 1) (C.tabA 256) = Wd) := by
  have := World.setRow_alloc_new ((W.alloc (.cells (C.tabA 256) 44)).alloc (.cells (C.tabA 256) 44)) (C.tabA 0) (C.tabA 256) 44
  show _ = _
  rw [hWd, <- this]
  simp
 have HE : Hid (((W.alloc (.cells (C.tabA 256) 44)).alloc (.cells (C.tabA 256) 44)).alloc (.cells (C.tabA 256) 44) = Wd) := hWd.symm
 have hi24 : (Tryz.prog.info? 44).map (·.size) = some (C.tabA 256).size := by rw [C.tabA_size]; exact C.zeroT.2
 have HI := hide hi24
 have hz1 := hz.1
 have hcr : ((crc zs : Nat) : Int) < 4294967296 := by have := crc_lt zs; omega
 have hzi : (zs.length : Int) < 4294967296 := by omega
 have HSZ : Hid ((C.tabA 0).size = (C.tabA 256).size) := by show _ = _; rw [C.tabA_size, C.tabA_size]
 have HON := hide (C.tabA_one 256)
 generalize crc zs = K at *
 clear h hb hD hDd hap hs0 hbd hgd htd htg htb hk hWd hz hi24 hgb
 clear hl hzl hbase hbw
 generalize zs.length = NZ at *
 go_enter Tryz.func11, Tryz.ntmps11
 go_upto_region 1 with (first
  | (go_at_call 12; refine HMK.out.mono ?_; rintro e w1 ⟨rfl, rfl⟩)
  | (refine C.wpList_store_row rfl 44 (.tmp 6) (.tmp 7) rfl (W.heap.size + 1 + 1) (C.tabA 256) (by rfl) (by rfl) (C.tabA 0) 44 HB0.out HI.out HSZ.out HON.out Wd HW0.out ?_))
 clear HMK HE HI HSZ HON hz1 HB0 HW0
 go_wp2_with (first
  | (go_at_call 21; refine HD1.out.mono ?_; rintro e w1 ⟨g1, c1, X, rfl, HL⟩; clear HD1)
  | (go_at_call 17; refine HL.out.mono ?_; rintro e w2 ⟨rfl, HSU, HN1⟩; clear HL)
  | (go_at_call 22; refine HSU.out.mono ?_; rintro e w3 ⟨rfl, rfl⟩)
  | (go_at_call 19; refine HN1.out.mono ?_; rintro e w4 ⟨rfl, HN2⟩; clear HN1)
  | (go_at_call 19; refine HN2.out.mono ?_; rintro e w5 ⟨rfl, r5⟩; have R5 := hide r5; clear r5 HN2))
 go_end0
 exact ⟨rfl, R5.out⟩
end Go.Proofs.YteknifnadbmfiaaGreatDoor

namespace Go.Proofs.YteknifnadbmfiaaGreatDoor
set_option maxRecDepth 100000
open Go Go.RowKit
set_option linter.unusedVariables false

def gMay (m : Mb) : Prop := nul m.name = false /\ nul m.comment = false /\ m.extra.size <= 65535
instance (m : Mb) : Decidable (gMay m) := by unfold gMay; exact inferInstance
theorem sizeM9 : (Tryz.prog.info? 27).map (·.size) = some 6 := by kernel_rfl
set_option maxHeartbeats 4000000 in
theorem write_no (m : Mb) (lv : Int) (w : World) (h : ¬ gMay m) : Calls Tryz.prog 5 #[.agg m.cells, .int .i64 lv] w fun e w' => e = .returned (.tuple #[.slice none 0 0, .bool false]) /\ Kept (fun _ => False) w w' := by
 obtain ⟨W, hW⟩ : ∃ W, W = w.alloc (.cells m.cells 27) := ⟨_, rfl⟩
 have hb : W.heap[w.heap.size]? = some (.cells m.cells 27 (0, 0)) := by rw [hW]; exact heap_new w _
 have c0 := cells_of hb 0
 have c1 := cells_of hb 1
 have c2 := cells_of hb 2
 simp only [Mb.cells] at c0 c1 c2
 have HK : Hid (Kept (fun _ => False) w W) := by rw [hW]; exact Kept.alloc _ (Kept.refl _ w) _
 have HE : Hid (w.alloc (.cells m.cells 27) = W) := hW.symm
 have H1 := hide (hasNul_c m.name W)
 have H2 := hide (hasNul_c m.comment W)
 clear hW hb
 obtain ⟨b2, hb2⟩ : ∃ b2, b2 = w.heap.size := ⟨_, rfl⟩
 rw [<- hb2] at c0 c1 c2
 rcases hn : nul m.name with _ | _
 ·rcases hc : nul m.comment with _ | _
  ·have hx : ¬ (m.extra.size : Int) <= 65535 := fun e => h ⟨hn, hc, by omega⟩
   have hx' : (65535 : Int) < (m.extra.size : Int) := by omega
   rw [hn] at H1
   rw [hc] at H2
   clear h hn hc
   go_enter Tryz.func5, Tryz.ntmps5
   go_upto_region 1 with fail
   rw [show w.alloc (.cells m.cells 27) = W from HE.out, <- hb2]
   clear hb2
   go_wp2_with (first
    | (go_at_call 9; refine H1.out.mono ?_; rintro e w1 ⟨rfl, rfl⟩; clear H1)
    | (go_at_call 9; refine H2.out.mono ?_; rintro e w1 ⟨rfl, rfl⟩; clear H2))
   go_ret2
   exact ⟨rfl, HK.out⟩
  ·rw [hn] at H1
   rw [hc] at H2
   clear h hn hc
   go_enter Tryz.func5, Tryz.ntmps5
   go_upto_region 1 with fail
   rw [show w.alloc (.cells m.cells 27) = W from HE.out, <- hb2]
   clear hb2
   go_wp2_with (first
    | (go_at_call 9; refine H1.out.mono ?_; rintro e w1 ⟨rfl, rfl⟩; clear H1)
    | (go_at_call 9; refine H2.out.mono ?_; rintro e w1 ⟨rfl, rfl⟩; clear H2))
   go_ret2
   exact ⟨rfl, HK.out⟩
 ·rw [hn] at H1
  clear h hn H2
  go_enter Tryz.func5, Tryz.ntmps5
  go_upto_region 1 with fail
  rw [show w.alloc (.cells m.cells 27) = W from HE.out, <- hb2]
  clear hb2
  go_wp2_with (go_at_call 9; refine H1.out.mono ?_; rintro e w1 ⟨rfl, rfl⟩; clear H1)
  go_ret2
  exact ⟨rfl, HK.out⟩
def WtOk (D : List Int -> Prop) (m : Mb) (w : World) (e : Ending) (w' : World) : Prop := ∃ v X, e = .returned (.tuple #[v, .bool true]) /\ OwnsB w' w.heap.size v (gHd m ++ X ++ gFt (sB m.data)) /\ D X /\ X.length <= 100000000 /\ Kept (fun _ => False) w w'
theorem gHd_len (m : Mb) : (gHd m).length <= 14 + m.extra.size + m.name.size + m.comment.size := by
 have := xtr_len m.extra
 have := txt_len m.name
 have := txt_len m.comment
 unfold gHd
 simp [leP_length]
 omega
set_option maxHeartbeats 8000000 in
theorem write_yes {D : List Int -> Prop} (m : Mb) (lv : Int) (w : World) (h : gMay m) (h1 : m.name.size <= 10000000) (h2 : m.comment.size <= 10000000) (h4 : m.data.size <= 10000000) (ht : m.time < 4294967296)
  (hD : ∀ W' gb c, Kept (fun _ => False) w W' -> Bi W' W'.heap.size (some ⟨gb, 0, none⟩) c (sB m.data) -> Calls Tryz.prog 21 #[.slice (some ⟨gb, 0, none⟩) (sB m.data).length c, .int .i64 lv] W' (DfOk D W')) :
  Calls Tryz.prog 5 #[.agg m.cells, .int .i64 lv] w (WtOk D m w) := by
 obtain ⟨hn, hc, hx⟩ := h
 obtain ⟨W, hW⟩ : ∃ W, W = w.alloc (.cells m.cells 27) := ⟨_, rfl⟩
 obtain ⟨W2, hW2⟩ : ∃ W2, W2 = W.alloc (.cells #[.slice none 0 0] 39) := ⟨_, rfl⟩
 have kW : Kept (fun _ => False) w W := by rw [hW]; exact Kept.alloc _ (Kept.refl _ w) _
 have kW2 : Kept (fun _ => False) w W2 := by rw [hW2, hW]; exact Kept.alloc _ (Kept.alloc _ (Kept.refl _ w) _) _
 have hsW : W.heap.size = w.heap.size + 1 := by rw [hW]; simp
 have hb : W.heap[w.heap.size]? = some (.cells m.cells 27 (0, 0)) := by rw [hW]; exact heap_new w _
 have hb2 : W2.heap[w.heap.size]? = some (.cells m.cells 27 (0, 0)) := by rw [hW2, hW]; exact heap_new1 w _ _
 have hbw : W2.heap[w.heap.size + 1]? = some (.cells #[.slice none 0 0] 39 (0, 0)) := by rw [hW2, hW]; exact heap_new2 w _ _
 have hs2 : w.heap.size + 1 < W2.heap.size := lt_of_block hbw
 have hw0 : Wt w.heap.size W2 (w.heap.size + 1) none [] := ⟨⟨_, hbw, OwnsB.nil _ _, rfl⟩, by omega⟩
 have HH := hide (whead_c m hw0 (by omega) hs2 h1 h2 hx ht)
 have hgl := gHd_len m
 have HD1 : Hid (∀ w1, LyOk w.heap.size W2 (w.heap.size + 1) none (gHd m) (.returned (.tuple #[])) w1 -> w1.cell? ⟨w.heap.size, 5, none⟩ = some (.string m.data) /\ ∃ c w7, (convert 9 24 (.string m.data)).run Tryz.prog w1 = .ok (.slice (some ⟨w1.heap.size, 0, none⟩) m.data.size c) w7 /\ Hid (Calls Tryz.prog 11 #[.pointer (some ⟨w.heap.size + 1, 0, none⟩), .slice (some ⟨w1.heap.size, 0, none⟩) m.data.size c, .int .i64 lv] w7 fun e w8 => e = .returned (.tuple #[]) /\ ∃ v, w8.cell? ⟨w.heap.size + 1, 0, none⟩ = some v /\ WtOk D m w (.returned (.tuple #[v, .bool true])) w8)) := fun w1 hly => by
  obtain ⟨_, g1, hw1, k1⟩ := hly
  have hb1 : w1.heap[w.heap.size]? = some (.cells m.cells 27 (0, 0)) := k1.k.heap hb2 (fun e => by rcases e with e | e; omega; cases e)
  obtain ⟨c, w7, hcv, hb7, k7, hz7⟩ := conv_str m.data (by omega) w1
  refine ⟨by have := cells_of hb1 5; simpa [Mb.cells] using this, c, w7, hcv, ?_⟩
  have hk17 : Kept (fun _ => False) w w7 := by
   have := (kW2.trans k1.k (M := fun _ => False) (fun i hi e => by rcases e with e | e; omega; cases e)).trans k7 (fun _ _ e => e)
   exact this
  have hsz1 := k1.k.size
  have hlt1 : w.heap.size + 1 < w1.heap.size := by omega
  have hwd := wdata_c (D := D) (hw1.stay k7) (by have := k7.size; omega) (by have := k7.size; omega) hb7 ⟨hz7, by omega, fun e => by have := hw1.apart _ e.symm; omega⟩ lv (by omega) (by rw [sB_length]; omega) (fun W' kW' => hD W' w1.heap.size c (hk17.trans kW' (fun _ _ e => e)) ((hb7.kept kW' (fun _ _ e => e)).up (by have := kW'.size; omega)))
  rw [sB_length] at hwd
  refine hwd.mono ?_
  rintro e w8 ⟨rfl, X, g8, hDX, hw8, k8, hXl⟩
  obtain ⟨v, hv, ho, hvg⟩ := hw8.h
  refine ⟨rfl, v, by have := cells_of hv 0; simpa using this, v, X, rfl, ho, hDX, hXl, ?_⟩
  refine hk17.trans k8.k (fun i hi e => ?_)
  rcases e with e | e
  ·omega
  ·have := hw1.apart i e.symm; omega
 have c0 := cells_of hb 0
 have c1 := cells_of hb 1
 have c2 := cells_of hb 2
 simp only [Mb.cells] at c0 c1 c2
 have H1 := hide (hasNul_c m.name W)
 have H2 := hide (hasNul_c m.comment W)
 rw [hn] at H1
 rw [hc] at H2
 have hx' : ¬ (65535 : Int) < (m.extra.size : Int) := by omega
 have HE : Hid (w.alloc (.cells m.cells 27) = W) := hW.symm
 have HE2 : Hid (W.alloc (.cells #[.slice none 0 0] 39) = W2) := hW2.symm
 have HB2 := hide hb2
 have HSW := hide hsW
 clear hn hc hx kW kW2 hW hW2 hb hb2 hbw hw0 hD hs2 hgl h1 h2 h4 ht hsW
 obtain ⟨b2, hbb⟩ : ∃ b2, b2 = w.heap.size := ⟨_, rfl⟩
 obtain ⟨bw, hbwe⟩ : ∃ bw, bw = w.heap.size + 1 := ⟨_, rfl⟩
 rw [<- hbb] at c0 c1 c2 HB2
 rw [<- hbwe] at HH HD1
 rw [<- hbb] at HD1 HH
 go_enter Tryz.func5, Tryz.ntmps5
 go_upto_region 1 with fail
 rw [show w.alloc (.cells m.cells 27) = W from HE.out, <- hbb]
 clear hbb
 go_upto_region 4 with (first
  | (go_at_call 9; refine H1.out.mono ?_; rintro e w1 ⟨rfl, rfl⟩; clear H1)
  | (go_at_call 9; refine H2.out.mono ?_; rintro e w1 ⟨rfl, rfl⟩; clear H2))
 rw [HE2.out, HSW.out, <- hbwe]
 clear HE HE2 HSW hbwe c0 c1 c2 hx'
 go_upto_region 5 with (first
  | (refine C.wpList_load_row rfl 27 (.tmp 2) rfl b2 (by rfl) m.cells 27 (0, 0) HB2.out _ Tryz.underlying27 rfl sizeM9 ?_)
  | (go_at_call 10; refine HH.out.mono ?_; rintro e w2 ⟨rfl, h2⟩; have Q2 := hide (HD1.out w2 ⟨rfl, h2⟩); clear h2 HH HD1))
 obtain ⟨c5, cc, w7, hcv, HL7⟩ := Q2.out
 clear Q2 HB2
 go_upto_region 6 with (go_at_call 11; refine HL7.out.mono ?_; rintro e w8 ⟨rfl, v, hc8, r8⟩; have R8 := hide r8; clear r8 HL7)
 go_wp2_with fail
 go_ret2
 exact R8.out
theorem dfl_small (zs : List Int) (hz : ∀ x ∈ zs, 0 <= x /\ x <= 255) (hl : zs.length <= 16384) (lv : Int) (w : World) (hT : Tab w) (h2 : 2 < w.heap.size) : ∀ W' gb c, Kept (fun _ => False) w W' -> Bi W' W'.heap.size (some ⟨gb, 0, none⟩) c zs -> Calls Tryz.prog 21 #[.slice (some ⟨gb, 0, none⟩) zs.length c, .int .i64 lv] W' (DfOk (DefIs zs lv) W') := fun W' gb c k hb => by
 have hT' : Tab W' := hT.kept k ⟨fun e => e, fun e => e⟩
 refine (deflate_c W' hT' (Nat.lt_of_lt_of_le h2 k.size) (some ⟨gb, 0, none⟩) c zs lv hb.t (by simp) hb.le hb.max hl).mono ?_
 rintro e w' ⟨g, cap, X, rfl, ho, hX, hbl⟩
 obtain ⟨a1, c1, e1, hb1⟩ := owns_bi' ho (hX.bytes9 hz)
 simp only [Value.slice.injEq] at e1
 obtain ⟨rfl, _, rfl⟩ := e1
 have := hX.len9
 exact ⟨g, cap, X, rfl, hb1, hX, by omega, kept_of_new hbl⟩
theorem write_small (m : Mb) (lv : Int) (w : World) (hT : Tab w) (hw : 2 < w.heap.size) (h : gMay m) (h1 : m.name.size <= 10000000) (h2 : m.comment.size <= 10000000) (h4 : m.data.size <= 16384) (ht : m.time < 4294967296) :
  Calls Tryz.prog 5 #[.agg m.cells, .int .i64 lv] w (WtOk (DefIs (sB m.data) lv) m w) :=
 write_yes m lv w h h1 h2 (by omega) ht (dfl_small (sB m.data) (sB_mem _) (by rw [sB_length]; exact h4) lv w hT hw)
end Go.Proofs.YteknifnadbmfiaaGreatDoor
