/-
  PROVED: 'wainloadlaw06.InflateStored' answers true: bytes in stored blocks are told as they are, in whatever pieces; for all rows of texts. The card: the order of lengths is what the program's text lays.
-/
import Derived.Test.YtibolmgijaploaaDoorPLaid
import Derived.Test.YtibolmgijaploaaDoorPStr
import Derived.SliceStrings
namespace Go.Proofs.YtibolmgijaploaaDoor.inflateStored
set_option maxRecDepth 100000
open Go.ChangeShapes Go.WideShapes Go.ChangeAt Go.RowKit
set_option linter.unusedVariables false

/-- Texts that come in. -/
def SIn (W : World) (a : Option Addr) (ss : List ByteArray) : Prop := (ss.length = 0 ∨ ∃ b off, b < W.heap.size ∧ a = some ⟨b, off, none⟩ ∧ ∀ i, i < ss.length → W.cell? ⟨b, off + i, none⟩ = some (.string (ss.getD i ByteArray.empty)))
theorem open_strs {H : Type} {enc : TypeId × Value → H} {W : World} {a : Option Addr} {len cap : Nat} {d : DataW H} {p : List MemPlace} (h : DataW.Trod enc Tryd.prog W 0 (fun _ => true) true 30 (.slice a len cap) d p) : ∃ ss : List ByteArray, len = ss.length ∧ SIn W a ss := by
  obtain ⟨fuel, hf⟩ := h
  rcases open_strings Tryd.underlying30 Tryd.underlying9 (by kernel_rfl) hf with ⟨hcs, _⟩ | ⟨a', l, c, ss, hcs, _, hl, hm, hz, _, hcell, hsz⟩
  · simp [Value.cells] at hcs
    exact ⟨[], by simpa using hcs.2.1, .inl rfl⟩
  · simp [Value.cells] at hcs
    obtain ⟨rfl, rfl, rfl⟩ := hcs
    have hz' : ss.length = cap := by simpa using hz
    have hlen : (ss.take len).length = len := by simp; omega
    refine ⟨ss.take len, hlen.symm, ?_⟩
    by_cases h0 : len = 0
    · exact .inl (by rw [hlen]; exact h0)
    · obtain ⟨b, off, spot⟩ := a'
      have hc := hcell 0 (by omega)
      have hspot : spot = Option.none := by simpa [Addr.add] using World.cell?_spot hc
      subst hspot
      refine .inr ⟨b, off, ?_, rfl, fun i hi => ?_⟩
      · have := lt_of_cell hc
        simpa [Addr.add] using this
      · rw [hlen] at hi
        have := hcell i (by omega)
        have e : ((⟨b, off, Option.none⟩ : Addr).add i) = ⟨b, off + i, Option.none⟩ := by unfold Addr.add; split <;> simp_all
        rw [e] at this
        rw [this]
        simp [List.getD, List.getElem?_take_of_lt hi]
def rowsB (ps : List ByteArray) : List Int := (ps.map fun s => hd5 0 s.size ++ sB s).flatten
def allB (ps : List ByteArray) : List Int := (ps.map sB).flatten
theorem rowsB_push (ps : List ByteArray) (s : ByteArray) : rowsB (ps ++ [s]) = rowsB ps ++ hd5 0 s.size ++ sB s := by simp [rowsB]
theorem allB_push (ps : List ByteArray) (s : ByteArray) : allB (ps ++ [s]) = allB ps ++ sB s := by simp [allB]
theorem rowsB_len (ps : List ByteArray) : (rowsB ps).length = (allB ps).length + 5 * ps.length := by
  induction ps with
  | nil => rfl
  | cons s r ih =>
    simp only [rowsB, allB, List.map_cons, List.flatten_cons, List.length_append] at ih ⊢
    rw [ih, show (hd5 0 s.size).length = 5 from rfl, List.length_cons]
    omega
theorem rowsB_row (ps : List ByteArray) (h : ∀ s ∈ ps, s.size ≤ 65535) : rowsB ps ++ iHead 1 0 = iRow (ps.map sB) := by
  induction ps with
  | nil => rfl
  | cons s r ih =>
    have h0 : hd5 0 s.size = iHead 0 s.size := hd5_eq 0 s.size (h s (by simp))
    simp only [rowsB, List.map_cons, List.flatten_cons, List.append_assoc, iRow] at ih ⊢
    rw [ih (fun t ht => h t (by simp [ht])), h0, sB_length]
theorem hd5_mem (n : Nat) (h : n ≤ 65535) : ∀ x ∈ hd5 0 n, 0 ≤ x ∧ x ≤ 255 := fun x hx => by
  have e : hd5 0 n = iHead 0 n := hd5_eq 0 n h
  rw [e] at hx
  simp [iHead] at hx
  omega
theorem rowsB_mem (ps : List ByteArray) (h : ∀ s ∈ ps, s.size ≤ 65535) : ∀ x ∈ rowsB ps, 0 ≤ x ∧ x ≤ 255 := fun x hx => by
  unfold rowsB at hx
  obtain ⟨l, hl, hx⟩ := List.mem_flatten.1 hx
  obtain ⟨s, hs, rfl⟩ := List.mem_map.1 hl
  exact mem_app (hd5_mem _ (h s hs)) (sB_mem s) x hx
/-- Pieces that are laid. -/
structure PW (w wx : World) (v3 : Value) (ps : List ByteArray) : Prop where
  owns : OwnsB wx w.heap.size v3 (rowsB ps)
  below : Below w.heap.size w wx
  small : ∀ s ∈ ps, s.size ≤ 65535
  len : (allB ps).length ≤ 1114111
set_option maxHeartbeats 2000000 in
theorem walk (a : Option Addr) (cap : Nat) (ss : List ByteArray) (w : World) (h : SIn w a ss) (hT : Tab w) :
    Calls Tryd.prog 6 #[.slice a ss.length cap] w fun e w' => e = .returned (.bool true) ∧ Below w.heap.size w w' := by
  obtain ⟨i5, hi5, hz5, hs5, hb5⟩ := info_parts Tryd.info5
  have HT := hide hT
  have HA := hide (alive_c w hT)
  by_cases hlen : 200 < ss.length
  · have hlen' : (200 : Int) < (ss.length : Int) := by omega
    clear h hT
    go_enter Tryd.func6, Tryd.ntmps6
    go_wp2_with (go_at_call 9; refine HA.out.mono ?_; rintro x w9 ⟨rfl, b9⟩; have B9 := hide b9; clear b9)
    go_ret
    exact ⟨rfl, B9.out⟩
  have hlen' : ¬ (200 : Int) < (ss.length : Int) := by omega
  have HP0 : Hid (PW w w (.slice Option.none 0 0) (ss.take 0)) := ⟨OwnsB.nil _ _, Below.refl _ _, fun s hs => absurd hs (by simp), Nat.zero_le _⟩
  have HS0 : Hid ((⟨#[]⟩ : ByteArray) = strOfNums (allB (ss.take 0))) := rfl
  have HSI := hide h
  clear h hT HA
  go_enter Tryd.func6, Tryd.ntmps6
  go_wp2_with fail
  go_loopg [3, 4, 17] ss.length (fun gk v3 v4 v17 wx => ∃ (i : Nat) (S : ByteArray) (_ : i + gk = ss.length), v17 = .int .i64 (i : Int) ∧ v4 = .string S ∧ Hid (S = strOfNums (allB (ss.take i))) ∧ Hid (PW w wx v3 (ss.take i)))
  case atStart => exact ⟨0, ⟨#[]⟩, by omega, rfl, rfl, HS0.out, HP0.out⟩
  case round =>
    obtain ⟨i, S, hig, rfl, rfl, HS, HP⟩ := hrel
    clear HP0 HS0
    cases gk with
    | zero =>
      obtain rfl : i = ss.length := by omega
      have hle : ¬ ((ss.length : Int) < (ss.length : Int)) := by omega
      rw [List.take_length] at HS HP
      obtain ⟨F, hF⟩ : ∃ F, rowsB ss ++ [1, 0, 0, 255, 255] = F := ⟨_, rfl⟩
      have hFr : F = iRow (ss.map sB) := by rw [← hF, ← rowsB_row ss HP.out.small]; rfl
      have hFl : F.length ≤ 2000000 := by rw [← hF, List.length_append, rowsB_len]; have := HP.out.len; simp; omega
      have HM : Hid (∀ x ∈ F, 0 ≤ x ∧ x ≤ 255) := by rw [← hF]; exact mem_app (rowsB_mem ss HP.out.small) (by decide)
      have hans := iAns_row (ss.map sB) (fun s hs => by
        obtain ⟨t, ht, rfl⟩ := List.mem_map.1 hs
        exact ⟨by rw [sB_length]; exact HP.out.small t ht, sB_mem t⟩) 4194304 (by have := HP.out.len; unfold allB at this; omega)
      rw [← hFr] at hans
      have hJ := fun w1 a1 c1 (b : BIn w1 a1 F.length c1 F) (t : Tab w1) => inf_in b t (by omega) 4194304 (by decide)
      rw [show (4194304 : Int).toNat = 4194304 from rfl, hans] at hJ
      obtain ⟨G, hG⟩ : ∃ G, (ss.map sB).flatten = G := ⟨_, rfl⟩
      rw [hG] at hJ
      have HG : Hid (strOfNums G = S) := by rw [HS.out, ← hG]; exact rfl
      have HF := hide hF
      have HJ := fun w1 a1 c1 b t => hide (hJ w1 a1 c1 b t)
      have hbd : (rowsB ss).length + 5 ≤ 140737488355328 := by rw [rowsB_len]; have := HP.out.len; omega
      have HX := hide (fun wz : World => text_of (w := wz.alloc (.cells #[.int .u8 1, .int .u8 0, .int .u8 0, .int .u8 255, .int .u8 255] 5)) (L := [1, 0, 0, 255, 255]) (heap_new wz _) rfl (by decide))
      clear hJ hans hF hG hFr HS
      go_wp2_with (first
        | (at_builtin; refine wpList_append_in _ rfl (.tmp 54) (.tmp 55) rfl w.heap.size u3 (rowsB ss) rfl (World.ownsRow.alloc HP.out.owns _) (some ⟨wr.heap.size, 0, Option.none⟩) 5 5 rfl _ [1, 0, 0, 255, 255] (HX.out wr) (fun e => by simp at e) hbd (by have := HP.out.below.size; simp; omega) ?_; intro v3 w3 ow3 gr3; have W3 := hide ((HP.out.below.alloc HP.out.below.size _).grown gr3 (by have := HP.out.below.size; simp; omega) (fun k hk => (ownsRow_lt HP.out.owns hk).1)); rw [HF.out] at ow3; obtain ⟨a3, c3, rfl, i3⟩ := OwnsB.bin ow3 HM.out; have I3 := hide i3; clear ow3 gr3 i3)
        | (go_at_call 10; refine (HJ w3 a3 c3 I3.out (HT.out.on W3.out)).out.mono ?_; rintro x w4 ⟨o4, c4, rfl, ow4, b4⟩; have O4 := hide ow4; have B4 := hide (W3.out.trans (b4.mono W3.out.size)); clear ow4 b4 HJ)
        | (go_at_call 9; refine (alive_c w4 (HT.out.on B4.out)).mono ?_; rintro x w9 ⟨rfl, b9⟩; have hc2 : (convert 22 9 (.slice o4 G.length c4)).run Tryd.prog w9 = .ok (.string S) w9 := (by rw [← HG.out]; exact conv_own (O4.out.below b9)); have B9 := hide (B4.out.trans (b9.mono B4.out.size)); clear b9))
      go_ret
      exact ⟨rfl, B9.out⟩
    | succ g1 =>
      have hin : (i : Int) < (ss.length : Int) := by omega
      have hin' : i < ss.length := by omega
      obtain ⟨b, off, hb, rfl, hcell⟩ := HSI.out.resolve_left (by omega)
      have hci := (HP.out.below.cell (p := ⟨b, off + i, Option.none⟩) hb).trans (hcell i hin')
      obtain ⟨s, hs⟩ : ∃ s, s = ss.getD i ByteArray.empty := ⟨_, rfl⟩
      have HTS : Hid (ss.take (i + 1) = ss.take i ++ [s]) := by
        rw [List.take_succ_eq_append_getElem hin', hs]
        simp [List.getD, hin']
        exact trivial
      rw [← hs] at hci
      have HSZ : Hid (S.size = (allB (ss.take i)).length) := by rw [HS.out, strOfNums_size]; exact rfl
      have hbz : b < wr.heap.size := by have := HP.out.below.size; omega
      clear hs hcell
      have bad : (65535 < s.size ∨ 1048576 < S.size) ∨ (s.size ≤ 65535 ∧ S.size ≤ 1048576) := by omega
      rcases bad with bad | ⟨h1, h2⟩
      · by_cases g1' : 65535 < s.size
        case' pos => have g2 : (65535 : Int) < (s.size : Int) := by omega
        case' neg =>
          have g2 : ¬ (65535 : Int) < (s.size : Int) := by omega
          have g3 : (1048576 : Int) < (S.size : Int) := by omega
        all_goals
          clear bad
          go_wp2_with (go_at_call 9; refine (alive_c wr (HT.out.on HP.out.below)).mono ?_; rintro x w9 ⟨rfl, b9⟩; have B9 := hide (HP.out.below.trans (b9.mono HP.out.below.size)); clear b9)
          go_ret
          exact ⟨rfl, B9.out⟩
      · have g2 : ¬ (65535 : Int) < (s.size : Int) := by omega
        have g3 : ¬ (1048576 : Int) < (S.size : Int) := by omega
        have hadd : ∀ w : World, (Op.stringOp .add S s).run Tryd.prog w = .ok (.string (S ++ s)) w := fun w => run_string_add_sum w _ _ (by omega)
        have hal : (allB (ss.take i)).length ≤ 1048576 := by rw [← HSZ.out]; exact h2
        have hrl : (rowsB (ss.take i)).length ≤ 1049576 := by rw [rowsB_len, List.length_take]; omega
        have HX := hide (fun wz : World => text_of (w := wz.alloc (.cells (hdC 0 s.size) 5)) (L := hd5 0 s.size) (heap_new wz _) rfl (hd5_mem s.size h1))
        have hbd : (rowsB (ss.take i)).length + 5 ≤ 140737488355328 := by omega
        have hbd2 : (rowsB (ss.take i) ++ hd5 0 s.size).length + s.size ≤ 140737488355328 := by rw [List.length_append]; simp [hd5]; omega
        have HPN : Hid (∀ wx v, OwnsB wx w.heap.size v (rowsB (ss.take i) ++ hd5 0 s.size ++ sB s) → Below w.heap.size w wx → PW w wx v (ss.take (i + 1))) := fun wx v h3 h4 => by
          refine ⟨by rw [HTS.out, rowsB_push]; exact h3, h4, ?_, ?_⟩
          · rw [HTS.out]
            intro t ht
            rcases List.mem_append.1 ht with ht | ht
            · exact HP.out.small t ht
            · rw [List.mem_singleton.1 ht]; exact h1
          · rw [HTS.out, allB_push, List.length_append, sB_length]; omega
        have HSN : Hid (S ++ s = strOfNums (allB (ss.take (i + 1)))) := by
          rw [HTS.out, allB_push, nums_app, nums_sB, ← HS.out]
          exact rfl
        have HO := hide HP.out.owns
        have HB := hide HP.out.below
        generalize rowsB (ss.take i) = RB at HPN hbd hbd2 hrl HO
        clear HS HP HTS HSZ hal
        go_wp2_with (first
          | (at_builtin; refine wpList_append_in _ rfl (.tmp 32) (.tmp 45) rfl w.heap.size u3 RB rfl (World.ownsRow.alloc HO.out _) (some ⟨wr.heap.size, 0, Option.none⟩) 5 5 rfl _ (hd5 0 s.size) (HX.out wr) (fun e => by simp at e) hbd (by have := HB.out.size; simp; omega) ?_; intro v3 w3 ow3 gr3; have W3 := hide ((HB.out.alloc HB.out.size _).grown gr3 (by have := HB.out.size; simp; omega) (fun k hk => (ownsRow_lt HO.out hk).1)); have O3 := hide ow3; clear ow3 gr3)
          | (at_builtin; refine wpList_append_text _ rfl (.tmp 47) (.tmp 48) rfl w.heap.size v3 (RB ++ hd5 0 s.size) rfl O3.out s rfl hbd2 W3.out.size ?_; intro v4 w4 ow4 gr4; have W4 := hide (W3.out.grown gr4 W3.out.size (fun k hk => (ownsRow_lt O3.out hk).1)); have P4 := hide (HPN.out w4 v4 ow4 W4.out); clear ow4 gr4))
        go_roundg g1
        case measure => omega
        case rel => exact ⟨i + 1, S ++ s, by omega, by go_num, rfl, HSN, P4⟩

set_option maxRecDepth 100000 in
theorem lifted (os : Os) (started : os.Started) (H : Type) (enc : TypeId × Value → H) :
    ReturnsInHanded {} Tryd.checked os 6 .any (fun w args => (Rows.inflateStoredSpec.pre enc Tryd.prog Tryd.f6 Rows.inflateStoredRow.domain false w args ∧ laidMetH Tryd.prog Rows.inflateStoredRow.laid w) ∧ sizedMet enc Tryd.prog Tryd.f6 (OpenSpec.ofChange Rows.inflateStoredSpec) false w args)
      (Rows.inflateStoredSpec.post enc Tryd.prog Tryd.f6 false true false false) := by
  refine returnsInHanded_of_change_and (C := Tryd.checked) (X := fun w _ => laidMetH Tryd.prog Rows.inflateStoredRow.laid w) (fun _ _ _ hh h => h.of_heap hh) own started (by kernel_rfl) Tryd.func6
    (ChangeSpec.witness_shaped (enc := enc) (C := Tryd.checked) (os := os) (X := fun w _ => laidMetH Tryd.prog Rows.inflateStoredRow.laid w) false (World.laidAll Tryd.prog os Rows.inflateStoredRow.laid) #[.slice none 0 0] 8 (World.laidAll_os _ _ _)
      (World.shaped_of_ZipB (by kernel_rfl) (by kernel_rfl)) (by kernel_rfl) (by kernel_rfl) (by kernel_rfl) (wit_met os _)) ?_
  intro W base args ds gs before hval0 hW _ hsz0 hL _
  have hsz : (DataW.weightsEach Tryd.prog (Tryd.f6.params.toList ++ Rows.inflateStoredSpec.plain.varTypes Tryd.prog) (ds ++ gs)).all (· ≤ reachBytes) = true := hsz0
  clear hsz0
  have hval : ∀ (j : Nat) t v, Tryd.f6.params[j]? = some t → args[j]? = some v → Value.okWide Tryd.prog W .any base t v := hval0
  have hW' := hW
  obtain ⟨p, q, hA0, hV, rfl, hfz, hnd⟩ := hW
  have hA : DataW.TrodAll enc Tryd.prog W 0 (fun _ => true) true Tryd.f6.params.toList args.toList ds p := hA0
  rw [Tryd.params6] at hA hval hsz
  obtain ⟨v0, vs0, d0, ds0, p0, q0, hargs, rfl, rfl, h0, r0⟩ := trodAll_cons hA
  obtain ⟨rfl, rfl, rfl⟩ := trodAll_nil r0
  obtain rfl : args = #[v0] := by cases args; simp_all
  obtain ⟨rfl, rfl⟩ := trodVars_none hV
  obtain ⟨a0, len0, cap0, rfl⟩ := okWide_slice Tryd.underlying30 (hval 0 30 v0 rfl rfl)
  have k0 := h0
  have lt0 : ∀ x ∈ p0, x.block < W.heap.size := by obtain ⟨m, hm⟩ := k0; exact DataW.trod_lt m _ _ _ hm
  obtain ⟨x0, rfl, t0⟩ := open_strs h0
  clear hA0 hval0
  refine (walk a0 cap0 x0 W t0 (tab_of_laid hL)).mono fun e W' ⟨he, bel⟩ => ?_
  subst he
  exact ⟨_, rfl, _, _, _, [], _, [], hW', trodAll_mk1 (shut_bool Tryd.underlying4 _), (trodAll_cons_mk (Below.trod laidOut (by kernel_rfl) (of_decide_eq_true (by kernel_rfl)) k0 bel lt0) trodAll_mk0), rfl, bel.frame _, fun h => by cases h⟩

theorem over : Rows.InflateStoredSaid :=
  OpenClaim.holds_of_wide 6 Tryd.f6 rfl rfl rfl rfl rfl rfl rfl ⟨rfl, rfl, rfl, rfl, rfl⟩ rfl rfl rfl rfl rfl (by kernel_rfl) Tryd.func6 (by kernel_rfl)
    (of_decide_eq_true (by kernel_rfl)) (by unfold Func.isWrapper; first | (rw [if_pos (by decide +kernel)]; kernel_rfl) | (rw [if_neg (by decide +kernel)]; exact ⟨rfl, rfl⟩))
    (fun os started H enc _ => lifted os started H enc)
end Go.Proofs.YtibolmgijaploaaDoor.inflateStored
namespace Go.Proofs.YtibolmgijaploaaDoor
theorem inflateStored_holds : Rows.InflateStoredCardSaid :=
  Claim7.holds_tied_plain_at .later [] [.data] true Rows.inflateStoredCard.stood.harness false
    inflateStored.over (fun _ h => by cases h) (by kernel_rfl) (fun _ h => by cases h) inflateStored_row_tie rfl ⟨rfl, rfl⟩ (by kernel_rfl) rfl
    (fun f fn hf hfn => by
      obtain rfl : f = 6 := Option.some.inj ((show Tryd.prog.funcNamed Rows.inflateStoredRow.func = some 6 by kernel_rfl).symm.trans hf) |>.symm
      obtain rfl : fn = Tryd.f6 := (Option.some.inj (Tryd.func6.symm.trans hfn)).symm
      exact ⟨by kernel_rfl, fun j t ht => by
        rw [Tryd.params6] at ht
        have hm : t ∈ [30] := by simpa using Array.mem_of_getElem? ht
        have hall : ([30].all fun u => !Tryd.prog.wantsStandIn u) = true := by kernel_rfl
        exact (show Tryd.prog.wantsStandIn t = false by simpa using List.all_eq_true.1 hall t hm)⟩)
    (by kernel_rfl)
#print axioms inflateStored_holds
end Go.Proofs.YtibolmgijaploaaDoor
