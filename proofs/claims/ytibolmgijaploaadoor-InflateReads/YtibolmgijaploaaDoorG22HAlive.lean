/- Several texts, laid together: PInf, HAlive. -/
import Derived.Test.YtibolmgijaploaaDoorG21PBlock
import Derived.Test.YtibolmgijaploaaDoorG12PState
/- Inflate: contract. -/
namespace Go.Proofs.YtibolmgijaploaaDoor
set_option maxRecDepth 100000
open Go Go.RowKit

/-- What Inflate answers, in memory. -/
def InfOk (w : World) (r : List Int × Nat × Int) (x : Ending) (w' : World) : Prop := ∃ o oc, x = .returned (.tuple #[.slice o r.1.length oc, .int .i64 (r.2.1 : Int), .int .i64 r.2.2]) ∧ OwnsB w' w.heap.size (.slice o r.1.length oc) r.1 ∧ Below w.heap.size w w'
/-- A stream, wherever what it told lies. -/
def BX (B bs br : Nat) (a : Option Addr) (len cap : Nat) (zs : List Int) (m : Nat) (w : World) (p : Nat) (out : List Int) : Prop := ∃ o oc fc, BS B bs br a len cap zs m w p out o oc fc
theorem Text.up {B B' : Nat} {w : World} {a : Option Addr} {len : Nat} {zs : List Int} (h : Text B w a len zs) (hB : B ≤ B') : Text B' w a len zs := by
  obtain ⟨h1, h2, h3⟩ := h
  refine ⟨h1, h2, ?_⟩
  rcases h3 with h3 | ⟨b, off, hb, r⟩
  · exact .inl h3
  · exact .inr ⟨b, off, by omega, r⟩
theorem BS.new {w : World} {a : Option Addr} {len cap : Nat} {zs : List Int} {m : Nat} (ht : Text w.heap.size w a len zs) (hT : Tab w) :
    BS w.heap.size (w.heap.size + 1) w.heap.size a len cap zs m ((w.alloc (.cells (rA a len cap 0) 54)).alloc (.cells (fA w.heap.size none 0 0 m (.pointer none)) 39)) 0 [] none 0 (.pointer none) := by
  have hb : Below w.heap.size w ((w.alloc (.cells (rA a len cap 0) 54)).alloc (.cells (fA w.heap.size none 0 0 m (.pointer none)) 39)) := ((Below.refl _ w).alloc (Nat.le_refl _) _).alloc (by simp) _
  have h0 : 0 < w.heap.size := lt_of_cell (hT 0 (by decide))
  exact ⟨⟨heap_new2 _ _ _, heap_new1 _ _ _, ht.kept (Kept.of_below hb) (fun b hb e => by omega), OwnsB.nil _ _, by omega, Nat.zero_le _⟩, .inl rfl, hT.below hb h0⟩

theorem iOne_le {S D : List Int} {b : Nat → Nat} {T m p : Nat} {out : List Int} {q : Nat} {c : Bool} {t : List Int} (ho : out.length ≤ m) (h : iOne S D b T m p out = .ok (q, (c, t))) : t.length ≤ m := by
  rcases hn : iNx S b T p with e | ⟨q1, v⟩
  · rw [iOne_err hn] at h; cases h
  · by_cases h1 : v < 256
    · by_cases h2 : m ≤ out.length
      · rw [iOne_over hn h1 h2] at h; cases h
      · rw [iOne_byte hn h1 (by omega)] at h; cases h; simp; omega
    · by_cases h2 : v = 256
      · subst h2; rw [iOne_end hn] at h; cases h; exact ho
      · rw [iOne_run hn (by omega)] at h
        rcases hr : iRun D b T m q1 v out with e | ⟨q2, o2⟩
        · rw [iOn_err hr] at h; cases h
        · rw [iOn_ok hr] at h; cases h; exact iRun_le hr
theorem iBlk_le {b : Nat → Nat} {T m p : Nat} {out : List Int} {q : Nat} {c : Bool} {t : List Int} (h : iBlk b T m p out = .ok (q, (c, t))) (ho : out.length ≤ m) : t.length ≤ m := by
  unfold iBlk at h
  obtain ⟨q1, l, -, h⟩ := iThen_ok h
  obtain ⟨q2, kind, -, h⟩ := iThen_ok h
  obtain ⟨q3, o2, h3, h⟩ := iThen_ok h
  cases h
  have hd : ∀ S D q', iDat S D b T m q' out = .ok (q, t) → t.length ≤ m := fun S D q' hq => by
    obtain ⟨p', s', h1, h2⟩ := iLoop_fin (fun o : List Int => o.length ≤ m) (fun p s q t hs e => iOne_le hs e) (fun p s => iGo_one S D b T m p s) q' out ho q t hq
    exact iOne_le h1 h2
  unfold iKind at h3
  split at h3
  · unfold iSto at h3
    obtain ⟨q4, n, -, h3⟩ := iThen_ok h3
    obtain ⟨q5, n2, -, h3⟩ := iThen_ok h3
    split at h3
    · cases h3
    · split at h3
      · cases h3
      · split at h3
        · cases h3
        · cases h3
          rw [List.length_append, iBytes_length]; omega
  · split at h3
    · exact hd _ _ _ h3
    · split at h3
      · obtain ⟨q4, sd, -, h4⟩ := iThen_ok h3
        exact hd _ _ _ h4
      · cases h3
set_option maxHeartbeats 4000000 in
theorem inflate_pos (a : Option Addr) (len cap : Nat) (zs : List Int) (m : Nat) (w : World) (ht : Text w.heap.size w a len zs) (hT : Tab w) (hl : len ≤ 140737488351232) (hcap : len ≤ cap) (hmB : m ≤ 10000000) :
    Calls Tryd.prog 10 #[.slice a len cap, .int .i64 (m : Int)] w (InfOk w (iAns zs m)) := by
  have hlen := ht.1
  obtain ⟨R, hR⟩ : ∃ R, R = iInf (ib zs) (len * 8) m := ⟨_, rfl⟩
  have hA : iAns zs m = iRes R := by unfold iAns; rw [hR, hlen, Nat.mul_comm]
  rw [hA]
  have h0 : 0 < w.heap.size := lt_of_cell (hT 0 (by decide))
  have HB0 := hide (BS.new (cap := cap) (m := m) ht hT)
  have HR0 : Hid (R = if true = true then iLoop (len * 8) (iBlk (ib zs) (len * 8) m) 0 [] else .ok (0, [])) := by rw [hR]; exact rfl
  have HBel : Hid (Below w.heap.size w ((w.alloc (.cells (rA a len cap 0) 54)).alloc (.cells (fA w.heap.size none 0 0 m (.pointer none)) 39))) := ((Below.refl _ w).alloc (Nat.le_refl _) _).alloc (by simp) _
  clear hA hR ht hT hlen
  go_enter Tryd.func10, Tryd.ntmps10
  go_wp2_with (go_at_call 12; refine (newReader_any _ _ _ _).mono ?_; rintro e w1 ⟨rfl, rfl⟩)
  go_loopg [8] (len * 8) (fun gk v8 wx => ∃ (p' : Nat) (out' : List Int) (more : Bool) (_ : p' + gk = len * 8) (_ : out'.length ≤ m), v8 = .bool (!more) ∧ Hid (R = if more = true then iLoop (len * 8) (iBlk (ib zs) (len * 8) m) p' out' else .ok (p', out')) ∧ Hid (BX w.heap.size (w.heap.size + 1) w.heap.size a len cap zs m wx p' out') ∧ Hid (Below w.heap.size w wx))
  case atStart => exact ⟨0, [], true, by omega, Nat.zero_le _, rfl, HR0, ⟨none, 0, .pointer none, HB0.out⟩, HBel.out⟩
  case round =>
    obtain ⟨p', out', more, hpg, ho', rfl, HR, HX, HBW⟩ := hrel
    obtain ⟨o', oc', fc', hW⟩ := HX.out
    have HW := hide hW
    have hz1 := hW.ss.pl
    clear hW HX HB0 HR0 HBel
    cases more with
    | false =>
      have HRE : Hid (R = .ok (p', out')) := HR.out
      have c0 := HW.out.ss.c0
      have c1 := HW.out.ss.c1
      have r0 := cells_of HW.out.ss.rd 0
      have r1 := cells_of HW.out.ss.rd 1
      simp [rA] at r0 r1
      have hz := lt_of_block HW.out.ss.s0
      have HQ : Hid ((len : Int) - ((len : Int) * 8 - (p' : Int)) / 8 = (((p' + 7) / 8 : Nat) : Int)) := by show _ = _; omega
      clear HR
      go_upto_region 8 with fail
      go_quiet ((go_at_call 14; exact Calls.quiet_of (left_any w.heap.size a len cap (p' : Int) _ (by assumption) (by assumption) (by omega) (by omega) (by omega))))
      go_wp2_with fail
      go_returns
      rw [HRE.out]
      refine ⟨o', oc', ?_, HW.out.ss.owns, ⟨HBW.out.os, HBW.out.tape, HBW.out.output, HBW.out.size, HBW.out.block⟩⟩
      show Ending.returned (.tuple #[_, .int .i64 ((len : Int) - ((len : Int) * 8 - (p' : Int)) / 8), _]) = _
      rw [HQ.out]
      rfl
    | true =>
      replace HR : Hid (R = iLoop (len * 8) (iBlk (ib zs) (len * 8) m) p' out') := HR.out
      have hK := block_c HW.out h0 hl hcap (by omega) ho'
      rcases h1 : iBlk (ib zs) (len * 8) m p' out' with e | ⟨q1, more, out2⟩
      · rw [h1] at hK
        have HK := hide (hK.mono fun _ _ => KOk.bad rfl)
        have HRE := hide (HR.out.trans (iLoop_err h1))
        clear hK h1 HR
        go_wp2_with (go_at_call 13; refine HK.out.mono ?_; rintro x w1 ⟨⟨b1, rfl⟩, k1, e1, e2⟩; have K1 := hide (HBW.out.trans k1); clear k1)
        go_returns
        rw [HRE.out]
        exact ⟨none, 0, rfl, OwnsB.nil _ _, K1.out⟩
      · have hgo := iGo_blk (ib zs) (len * 8) m p' out' q1 _ h1
        have hby := iBlk_le h1
        rw [h1] at hK
        have HK := hide (hK.mono fun _ _ => KOk.got rfl)
        have HRE := hide (HR.out.trans (iLoop_step h1 hgo.1 hgo.2))
        have hg1 := hgo.1
        have hg2 := hgo.2
        clear hK h1 HR hgo
        go_wp2_with (go_at_call 13; refine HK.out.mono ?_; rintro x w1 ⟨rfl, k1, o1, oc1, fc1, s1⟩; have K1 := hide (HBW.out.trans k1); have S1 := hide s1; clear k1 s1)
        go_roundg (len * 8 - q1)
        case measure => omega
        case rel => exact ⟨q1, out2, more, by omega, hby ho', rfl, HRE, ⟨o1, oc1, fc1, S1.out⟩, K1.out⟩
set_option maxHeartbeats 4000000 in
theorem inflate_neg (a : Option Addr) (len cap : Nat) (zs : List Int) (most : Int) (w : World) (ht : Text w.heap.size w a len zs) (hT : Tab w) (hl : len ≤ 140737488351232) (hcap : len ≤ cap) (hn : most < 0) :
    Calls Tryd.prog 10 #[.slice a len cap, .int .i64 most] w (InfOk w (iAns zs 0)) := by
  have hlen := ht.1
  obtain ⟨R, hR⟩ : ∃ R, R = iInf (ib zs) (len * 8) 0 := ⟨_, rfl⟩
  have hA : iAns zs 0 = iRes R := by unfold iAns; rw [hR, hlen, Nat.mul_comm]
  rw [hA]
  have h0 : 0 < w.heap.size := lt_of_cell (hT 0 (by decide))
  have HB0 := hide (BS.new (cap := cap) (m := 0) ht hT)
  have HR0 : Hid (R = if true = true then iLoop (len * 8) (iBlk (ib zs) (len * 8) 0) 0 [] else .ok (0, [])) := by rw [hR]; exact rfl
  have HBel : Hid (Below w.heap.size w ((w.alloc (.cells (rA a len cap 0) 54)).alloc (.cells (fA w.heap.size none 0 0 (0 : Nat) (.pointer none)) 39))) := ((Below.refl _ w).alloc (Nat.le_refl _) _).alloc (by simp) _
  clear hA hR ht hT hlen
  go_enter Tryd.func10, Tryd.ntmps10
  go_wp2_with (go_at_call 12; refine (newReader_any _ _ _ _).mono ?_; rintro e w1 ⟨rfl, rfl⟩)
  go_loopg [8] (len * 8) (fun gk v8 wx => ∃ (p' : Nat) (out' : List Int) (more : Bool) (_ : p' + gk = len * 8) (_ : out'.length ≤ 0), v8 = .bool (!more) ∧ Hid (R = if more = true then iLoop (len * 8) (iBlk (ib zs) (len * 8) 0) p' out' else .ok (p', out')) ∧ Hid (BX w.heap.size (w.heap.size + 1) w.heap.size a len cap zs 0 wx p' out') ∧ Hid (Below w.heap.size w wx))
  case atStart => exact ⟨0, [], true, by omega, Nat.zero_le _, rfl, HR0, ⟨none, 0, .pointer none, HB0.out⟩, HBel.out⟩
  case round =>
    obtain ⟨p', out', more, hpg, ho', rfl, HR, HX, HBW⟩ := hrel
    obtain ⟨o', oc', fc', hW⟩ := HX.out
    have HW := hide hW
    have hz1 := hW.ss.pl
    clear hW HX HB0 HR0 HBel
    cases more with
    | false =>
      have HRE : Hid (R = .ok (p', out')) := HR.out
      have c0 := HW.out.ss.c0
      have c1 := HW.out.ss.c1
      have r0 := cells_of HW.out.ss.rd 0
      have r1 := cells_of HW.out.ss.rd 1
      simp [rA] at r0 r1
      have hz := lt_of_block HW.out.ss.s0
      have HQ : Hid ((len : Int) - ((len : Int) * 8 - (p' : Int)) / 8 = (((p' + 7) / 8 : Nat) : Int)) := by show _ = _; omega
      clear HR
      go_upto_region 8 with fail
      go_quiet ((go_at_call 14; exact Calls.quiet_of (left_any w.heap.size a len cap (p' : Int) _ (by assumption) (by assumption) (by omega) (by omega) (by omega))))
      go_wp2_with fail
      go_returns
      rw [HRE.out]
      refine ⟨o', oc', ?_, HW.out.ss.owns, ⟨HBW.out.os, HBW.out.tape, HBW.out.output, HBW.out.size, HBW.out.block⟩⟩
      show Ending.returned (.tuple #[_, .int .i64 ((len : Int) - ((len : Int) * 8 - (p' : Int)) / 8), _]) = _
      rw [HQ.out]
      rfl
    | true =>
      replace HR : Hid (R = iLoop (len * 8) (iBlk (ib zs) (len * 8) 0) p' out') := HR.out
      have hK := block_c HW.out h0 hl hcap (by omega) ho'
      rcases h1 : iBlk (ib zs) (len * 8) 0 p' out' with e | ⟨q1, more, out2⟩
      · rw [h1] at hK
        have HK := hide (hK.mono fun _ _ => KOk.bad rfl)
        have HRE := hide (HR.out.trans (iLoop_err h1))
        clear hK h1 HR
        go_wp2_with (go_at_call 13; refine HK.out.mono ?_; rintro x w1 ⟨⟨b1, rfl⟩, k1, e1, e2⟩; have K1 := hide (HBW.out.trans k1); clear k1)
        go_returns
        rw [HRE.out]
        exact ⟨none, 0, rfl, OwnsB.nil _ _, K1.out⟩
      · have hgo := iGo_blk (ib zs) (len * 8) 0 p' out' q1 _ h1
        have hby := iBlk_le h1
        rw [h1] at hK
        have HK := hide (hK.mono fun _ _ => KOk.got rfl)
        have HRE := hide (HR.out.trans (iLoop_step h1 hgo.1 hgo.2))
        have hg1 := hgo.1
        have hg2 := hgo.2
        clear hK h1 HR hgo
        go_wp2_with (go_at_call 13; refine HK.out.mono ?_; rintro x w1 ⟨rfl, k1, o1, oc1, fc1, s1⟩; have K1 := hide (HBW.out.trans k1); have S1 := hide s1; clear k1 s1)
        go_roundg (len * 8 - q1)
        case measure => omega
        case rel => exact ⟨q1, out2, more, by omega, hby ho', rfl, HRE, ⟨o1, oc1, fc1, S1.out⟩, K1.out⟩
theorem inflate_c (a : Option Addr) (len cap : Nat) (zs : List Int) (most : Int) (w : World) (ht : Text w.heap.size w a len zs) (hT : Tab w) (hl : len ≤ 140737488351232) (hcap : len ≤ cap) (hm : most ≤ 10000000) :
    Calls Tryd.prog 10 #[.slice a len cap, .int .i64 most] w (InfOk w (iAns zs most.toNat)) := by
  by_cases hn : most < 0
  · rw [show most.toNat = 0 by omega]
    exact inflate_neg a len cap zs most w ht hT hl hcap hn
  · obtain ⟨m, rfl⟩ := Int.eq_ofNat_of_zero_le (show 0 ≤ most by omega)
    rw [Int.toNat_natCast]
    exact inflate_pos a len cap zs m w ht hT hl hcap (by omega)
#print axioms inflate_c
end Go.Proofs.YtibolmgijaploaaDoor

/- The laws' probe, 'alive': it answers true, and writes nothing that was there. -/
namespace Go.Proofs.YtibolmgijaploaaDoor
set_option maxRecDepth 100000
open Go Go.RowKit

theorem ints_of {w : World} {g : Nat} {L : List Int} {t : TypeId} {fr : Nat × Nat} (h : w.heap[g]? = some (.cells (valA L) t fr)) : Ints g (g + 1) w (some ⟨g, 0, none⟩) L :=
  .inr ⟨g, 0, by omega, by omega, lt_of_block h, rfl, fun i hi => by
    rw [Nat.zero_add]
    have : w.cell? ⟨g, i, none⟩ = (valA L)[i]? := by simp [World.cell?, h]
    rw [this]; exact valA_at L hi⟩

def ls4 : List Int := [2, 1, 3, 3]
theorem ls4_check (b : Bool) : check ls4 b = 0 := by cases b <;> decide +kernel
theorem ls4_codes : codesL ls4 = [2, 0, 6, 7] := by decide +kernel
theorem ls4_next (N s n : Nat) (err : Int) (h : NextIs ls4 (bz [59] 0) 8 N s n err) : s = 2 ∧ n = 3 ∧ err = 0 := by
  have k : NextIs ls4 (bz [59] 0) 8 N 2 3 0 := .inl ⟨rfl, by omega, by decide, by omega, by decide +kernel, by decide +kernel⟩
  exact NextIs.one (bz_le _ _) h k

theorem lit4 (w : World) (L : List Int) : (w.alloc (.cells (valA L) 3)).heap[w.heap.size]? = some (.cells (valA L) 3 (0, 0)) := heap_new _ _
theorem make4 (w : World) : Calls Tryd.prog 53 #[.slice (some ⟨w.heap.size, 0, none⟩) 4 4, .bool false] (w.alloc (.cells #[.int .i64 2, .int .i64 1, .int .i64 3, .int .i64 3] 3)) fun e w' => ∃ bc gl gc vo N, e = .returned (.tuple #[.pointer (some ⟨bc, 0, none⟩), .int .i64 0]) ∧ CodeAt w.heap.size w'.heap.size w' bc gl gc vo N ls4 ∧ Below w.heap.size w w' := by
  have hi := ints_of (lit4 w ls4)
  refine (make_ok (w.heap.size + 1) _ 4 ls4 false _ (ls4_check _) (hi.wide (Nat.zero_le _) (Nat.le_refl _))).mono ?_
  rintro e w' ⟨bc, gl, gc, vo, N, rfl, c, b⟩
  have hs : (w.alloc (.cells (valA ls4) 3)).heap.size = w.heap.size + 1 := by simp
  rw [hs] at c b
  refine ⟨bc, gl, gc, vo, N, rfl, ⟨c.block, c.lens, c.codes, c.ord.low (by omega), c.ordlt, c.long, ⟨by have := c.inb; omega, c.inb.2⟩, ⟨by have := c.inl; omega, c.inl.2⟩, ⟨by have := c.inc; omega, c.inc.2⟩⟩, ?_⟩
  exact ((Below.refl _ w).alloc (Nat.le_refl _) _).trans (b.mono (by omega))
theorem next4 {w w1 : World} {bc gl gc : Nat} {vo : Value} {N : Nat} (c : CodeAt w.heap.size w1.heap.size w1 bc gl gc vo N ls4) :
    Calls Tryd.prog 66 #[.pointer (some ⟨bc, 0, none⟩), .pointer (some ⟨w1.heap.size + 1, 0, none⟩)] ((w1.alloc (.cells #[.int .u8 59] 5)).alloc (.cells #[.slice (some ⟨w1.heap.size, 0, none⟩) 1 1, .int .i64 0] 54)) fun e w' => e = .returned (.tuple #[.int .i64 2, .int .i64 0]) ∧ Below w1.heap.size w1 w' := by
  have hbel : Below w1.heap.size w1 ((w1.alloc (.cells #[.int .u8 59] 5)).alloc (.cells #[.slice (some ⟨w1.heap.size, 0, none⟩) 1 1, .int .i64 0] 54)) := ((Below.refl _ w1).alloc (Nat.le_refl _) _).alloc (by simp) _
  have hrd : ((w1.alloc (.cells #[.int .u8 59] 5)).alloc (.cells #[.slice (some ⟨w1.heap.size, 0, none⟩) 1 1, .int .i64 0] 54)).heap[w1.heap.size + 1]? = some (.cells #[.slice (some ⟨w1.heap.size, 0, none⟩) 1 1, .int .i64 ((0 : Nat) : Int)] 54 (0, 0)) := by
    have := heap_new (w1.alloc (.cells #[.int .u8 59] 5)) (.cells #[.slice (some ⟨w1.heap.size, 0, none⟩) 1 1, .int .i64 0] 54)
    simpa using this
  have htx : Text (w1.heap.size + 1) ((w1.alloc (.cells #[.int .u8 59] 5)).alloc (.cells #[.slice (some ⟨w1.heap.size, 0, none⟩) 1 1, .int .i64 0] 54)) (some ⟨w1.heap.size, 0, none⟩) 1 [59] := by
    refine ⟨rfl, fun i => ?_, .inr ⟨w1.heap.size, 0, by omega, rfl, fun i hi => ?_⟩⟩
    · match i with
      | 0 => decide
      | i + 1 => simp [List.getD]
    · obtain rfl : i = 0 := by omega
      rw [cells_of (heap_old (heap_new _ _))]; rfl
  refine (next_any w.heap.size w1.heap.size bc gl gc vo N ls4 (w1.heap.size + 1) _ 1 1 0 [59] (w1.heap.size + 1) _ (c.below hbel (Nat.le_refl _)) (check_good (ls4_check true)) (by decide) hrd htx (by omega) (by omega) (.inr (by omega)) (Nat.le_refl _)).mono ?_
  rintro e w' ⟨s, n, err, hnx, rfl, _, hk⟩
  obtain ⟨rfl, rfl, rfl⟩ := ls4_next N s n err hnx
  exact ⟨rfl, hbel.trans (hk.below (by simp; omega) (fun i hi e => by omega))⟩
end Go.Proofs.YtibolmgijaploaaDoor
