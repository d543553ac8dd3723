/- layLengths: contract. -/
import Derived.Test.YteknifnadbmfiaaGreatDoorpDg03DConcat
import Derived.Test.YteknifnadbmfiaaGreatDoorpAg12HPut
namespace Go.Proofs.YteknifnadbmfiaaGreatDoor
set_option maxRecDepth 100000
open Go Go.RowKit

theorem owns_ints {w : World} {base : Nat} {ad : Option Addr} {n cp : Nat} {X : List Int} (h : Owns w base (.slice ad n cp) X) : Ints 0 w.heap.size w ad X ∧ X.length ≤ cp ∧ n = X.length := by
  rcases h.2 with ⟨hv, h2⟩ | ⟨g, cap, cur, hv, hg, hh, hc1, hc2, hc3, hc4⟩
  · simp only [Value.slice.injEq] at hv
    exact ⟨.inl h2, by omega, by omega⟩
  · simp only [Value.slice.injEq] at hv
    obtain ⟨rfl, rfl, rfl⟩ := hv
    refine ⟨?_, hc1, rfl⟩
    by_cases h0 : X.length = 0
    · exact .inl h0
    · refine .inr ⟨g, 0, Nat.zero_le _, lt_of_block hh, lt_of_block hh, rfl, fun i hi => ?_⟩
      rw [Nat.zero_add, cells_of hh]
      have e : (cur.toList.take (X.length * 1))[i]? = (X.map (Value.int .i64))[i]? := by rw [hc4]
      rw [List.getElem?_take_of_lt (by omega), Array.getElem?_toList] at e
      rw [e]
      simp [ln, List.getD, hi]
theorem ro_valA {gl : Nat} {F : List Int} {w : World} (h : L.Ro gl #[] F w) : w.heap[gl]? = some (.cells (valA F) 3 (0, 0)) := by
  have e : L.rowA F #[] = valA F := by unfold L.rowA valA; simp
  unfold L.Ro at h
  rw [e] at h
  exact h
theorem valA_ints {gl : Nat} {F : List Int} {w : World} (h : w.heap[gl]? = some (.cells (valA F) 3 (0, 0))) : Ints 0 w.heap.size w (some ⟨gl, 0, none⟩) F := by
  by_cases h0 : F.length = 0
  · exact .inl h0
  · exact .inr ⟨gl, 0, Nat.zero_le _, lt_of_block h, lt_of_block h, rfl, fun i hi => by rw [Nat.zero_add, cells_of h, valA_at F hi]⟩
theorem innB_snoc (F : List Int) (n : Nat) : innB F 0 (n + 1) = innB F 0 n ++ bitsN (ln F (iOrd.getD n 0)) 3 := by
  unfold innB
  rw [List.range_succ, List.flatMap_append]
  simp
theorem flat_le {f : Mk → List Int} {n : Nat} {ms : List Mk} (h : ∀ m ∈ ms, (f m).length ≤ n) : (ms.flatMap f).length ≤ n * ms.length := by
  induction ms with
  | nil => simp
  | cons m ms ih =>
    have h1 := h m (by simp)
    have h2 := ih (fun x hx => h x (by simp [hx]))
    rw [List.flatMap_cons, List.length_append, List.length_cons, Nat.mul_succ]
    omega
/-- What layLengths lays. -/
structure LLOk (S D F : List Int) (many : Nat) : Prop where
  good : L.LGoodR (tlm (inN (S ++ D))) 7 F
  inn : IOkD (S ++ D) F
  m0 : 4 ≤ many
  m1 : many ≤ 19
  mz : ∀ i, many ≤ i → i < 19 → ln F (iOrd.getD i 0) = 0
  ml : many = 4 ∨ ¬ ln F (iOrd.getD (many - 1) 0) = 0
def LLRet (bw : Nat) (ow : Option Nat) (w : World) (L0 S D : List Int) (e : Ending) (w' : World) : Prop := e = .returned (.tuple #[]) ∧ ∃ F many, LLOk S D F many ∧ WTo bw bw ow w (L0 ++ hdB S D F many) w'
/-- What may be told. -/
structure SDOk (S D : List Int) : Prop where
  s0 : 257 ≤ S.length
  s1 : S.length ≤ 286
  d0 : 1 ≤ D.length
  d1 : D.length ≤ 30
  fs : Fit S
  fd : Fit D
  e : ¬ ln S 256 = 0
theorem SDOk.inn {S D F : List Int} (h : SDOk S D) (hg : L.LGoodR (tlm (inN (S ++ D))) 7 F) : IOkD (S ++ D) F := by
  have hl : (S ++ D).length = S.length + D.length := by simp
  have := h.s0; have := h.s1; have := h.d1
  refine IOkD.of (k := 256) (fit_app h.fs h.fd) (by omega) (by omega) ?_ (by omega) hg
  have e3 : ln (S ++ D) 256 = ln S 256 := by unfold ln; exact getD_left (by omega)
  rw [e3]; exact h.e
set_option maxHeartbeats 4000000 in
theorem layLengths_c (bw : Nat) (ow : Option Nat) (w : World) (L0 : List Int) (hW : WS bw bw ow w L0) (hL : L0.length ≤ 800000000) (hT : Tab w) (h0 : 2 < bw) (a1 a2 : Option Addr) (c1 c2 : Nat) (S D : List Int) (hS : Ints 0 w.heap.size w a1 S) (hD : Ints 0 w.heap.size w a2 D) (h : SDOk S D) :
    Calls Tryz.prog 82 #[.pointer (some ⟨bw, 0, none⟩), .slice a1 S.length c1, .slice a2 D.length c2] w (LLRet bw ow w L0 S D) := by
  have hs0 := h.s0; have hs1 := h.s1; have hd0 := h.d0; have hd1 := h.d1
  have hcl : (S ++ D).length = S.length + D.length := by simp
  obtain ⟨w0, hw0⟩ : ∃ w0, w0 = w.alloc (.cells #[.slice a1 S.length c1, .slice a2 D.length c2] 97) := ⟨_, rfl⟩
  have bl0 : Below w.heap.size w w0 := by rw [hw0]; exact (Below.refl _ _).alloc (Nat.le_refl _) _
  have hC := concat_c w.heap.size a1 a2 c1 c2 S D w0 (by rw [hw0]; exact heap_new w _) ((hS.stay bl0).wide (Nat.le_refl _) bl0.size) ((hD.stay bl0).wide (Nat.le_refl _) bl0.size) (by omega) (by omega)
  have HCC := hide hC
  have HN : Hid (∀ w1 ad cp, Owns w1 w0.heap.size (.slice ad (S ++ D).length cp) (S ++ D) → Calls Tryz.prog 109 #[.slice ad (S ++ D).length cp] w1 fun e w' => ∃ ad cp, e = .returned (.slice ad (inN (S ++ D)).length cp) ∧ OwnsM w' w1.heap.size (.slice ad (inN (S ++ D)).length cp) (inN (S ++ D)) ∧ Below w1.heap.size w1 w') := fun w1 ad cp o => by
    obtain ⟨i1, i2, _⟩ := owns_ints o
    exact inNumbers_c _ ad cp (S ++ D) w1 i1 (fit_app h.fs h.fd) (by omega) (by omega) i2
  have hsym := inN_sym _ (S ++ D) rfl (fit_app h.fs h.fd)
  have hil := inN_len _ (S ++ D) rfl
  have HI : Hid (∀ w2 ad cp b, OwnsM w2 b (.slice ad (inN (S ++ D)).length cp) (inN (S ++ D)) → Mks w2 ad (inN (S ++ D)) ∧ Calls Tryz.prog 111 #[.slice ad (inN (S ++ D)).length cp] w2 fun e w' => ∃ gl F, e = .returned (.slice (some ⟨gl, 0, none⟩) 19 19) ∧ w2.heap.size ≤ gl ∧ L.Ro gl #[] F w' ∧ L.LGoodR (tlm (inN (S ++ D))) 7 F ∧ Below w2.heap.size w2 w') := fun w2 ad cp b o => by
    obtain ⟨a', c', hv, hm⟩ := o.form
    simp only [Value.slice.injEq] at hv
    obtain ⟨rfl, _, rfl⟩ := hv
    exact ⟨hm, innerD_c _ _ _ w2 hm (fun m hm => (hsym m hm).1) (by omega)⟩
  have HSD := hide h
  have HT := hide hT
  have HW := hide hW
  have HB0 := hide bl0
  have HE : Hid (w.alloc (.cells #[.slice a1 S.length c1, .slice a2 D.length c2] 97) = w0) := hw0.symm
  obtain ⟨XS, hXS⟩ : ∃ XS, S ++ D = XS := ⟨_, rfl⟩
  have HXS := hide hXS
  rw [hXS] at hcl HCC HN hsym hil HI
  have HSY := hide hsym
  have HCL := hide hcl
  have hxl : XS.length ≤ 1000 := by omega
  have hnl : (inN XS).length ≤ 1000 := by omega
  clear hcl hil
  clear hC hS hD h hT hW bl0 hw0 hsym hXS
  go_enter Tryz.func82, Tryz.ntmps82
  go_upto_region 2 with (first
    | (go_at_call 110; rw [HE.out]; refine HCC.out.mono ?_; rintro e w1 ⟨ad1, cp1, rfl, o1, b1⟩; have O1 := hide o1; have B1 := hide (HB0.out.trans (b1.mono HB0.out.size)); clear o1 b1 HCC HE)
    | (go_at_call 109; refine (HN.out w1 ad1 cp1 O1.out).mono ?_; rintro e w2 ⟨ad2, cp2, rfl, o2, b2⟩; have O2 := hide o2; have B2 := hide (B1.out.trans (b2.mono B1.out.size)); clear o2 b2 HN O1)
    | (go_at_call 111; refine (HI.out w2 ad2 cp2 _ O2.out).2.mono ?_; rintro e w3 ⟨gl, F, rfl, hgl, ro3, gd3, b3⟩; have MK3 := hide ((HI.out w2 ad2 cp2 _ O2.out).1.stay b3); have RO3 := hide (ro_valA ro3); have GD3 := hide gd3; have B3 := hide (B2.out.trans (b3.mono B2.out.size)); clear hgl ro3 gd3 b3 O2 HI))
  have hIO := HSD.out.inn (F := F) (by rw [HXS.out]; exact GD3.out)
  rw [HXS.out] at hIO
  have HIO := hide hIO
  have hfl := hIO.len
  have hW3 := HW.out.below B3.out
  have HW3 := hide hW3
  have hT3 : Tab w3 := HT.out.below B3.out (by have := HW.out.lt; omega)
  have HT3 := hide hT3
  have hbz3 := B3.out.size
  obtain ⟨NS, hNS⟩ : ∃ NS, inN XS = NS := ⟨_, rfl⟩
  have HNS := hide hNS
  rw [hNS] at MK3 HSY hnl ⊢
  have hF19 : ∀ j, j < 19 → w3.cell? ⟨gl, iOrd.getD j 0, none⟩ = some (.int .i64 (ln F (iOrd.getD j 0))) := fun j hj => by
    have := (ord_lt ⟨j, hj⟩).1
    simp only at this
    rw [cells_of RO3.out, valA_at F (by omega)]
  have HF19 := hide hF19
  have hord : ∀ j, j < 19 → iOrd.getD j 0 < 19 := fun j hj => (ord_lt ⟨j, hj⟩).1
  have HORD := hide hord
  have HF7 := hide hIO.f7
  clear hIO hW3 hT3 hNS hF19 hord hfl
  go_wp2_with fail
  go_loopg [8] 15 (fun gk v8 wx => ∃ many : Nat, many = gk + 4 ∧ many ≤ 19 ∧ v8 = .int .i64 many ∧ Hid (∀ i, many ≤ i → i < 19 → ln F (iOrd.getD i 0) = 0) ∧ w3 = wx)
  case atStart => exact ⟨19, rfl, by omega, rfl, fun i h1 h2 => by omega, rfl⟩
  case round =>
    obtain ⟨many, hmg, hm19, rfl, HMZ, rfl⟩ := hrel
    by_cases hgz : gk = 0
    case' pos =>
      have hm4 : 4 ≤ many ∧ many ≤ 19 := by omega
      have hge : ¬ (4 : Int) < (many : Int) := by omega
      have HML : Hid (many = 4 ∨ ¬ ln F (iOrd.getD (many - 1) 0) = 0) := .inl (by omega)
      clear hmg
      go_upto_region 5 with fail
      clear hge hgz
    case' neg =>
      obtain ⟨g1, rfl⟩ : ∃ g1, gk = g1 + 1 := ⟨gk - 1, by omega⟩
      have hgt : (4 : Int) < (many : Int) := by omega
      have hm4 : 4 ≤ many ∧ many ≤ 19 := by omega
      obtain ⟨m1, hm1⟩ : ∃ m1, m1 + 1 = many := ⟨many - 1, by omega⟩
      have hmi : (many : Int) - 1 = (m1 : Int) := by omega
      have hm1i : (m1 : Int) < 19 := by omega
      have hmg1 : m1 = g1 + 4 := by omega
      have HMG := hide hmg1
      have co := HT3.out.1 m1 (by omega)
      have cf := HF19.out m1 (by omega)
      have ho := HORD.out m1 (by omega)
      have HMZ2 : Hid (ln F (iOrd.getD m1 0) = 0 → ∀ i, m1 ≤ i → i < 19 → ln F (iOrd.getD i 0) = 0) := fun hz i h1 h2 => by
        by_cases e : i = m1
        · subst e; exact hz
        · exact HMZ.out i (by omega) h2
      have hm19' : m1 ≤ 19 := by omega
      have HMF : Hid (¬ ln F (iOrd.getD m1 0) = 0 → many = 4 ∨ ¬ ln F (iOrd.getD (many - 1) 0) = 0) := fun h => .inr (by rw [show many - 1 = m1 by omega]; exact h)
      generalize iOrd.getD m1 0 = O1 at co cf ho HMZ2 HMF
      generalize ln F O1 = X1 at cf HMZ2 HMF
      have ho1 : (O1 : Int) < 19 := by omega
      clear hmg hmg1 hm1 hgz
      by_cases hX : X1 = 0
      case' pos =>
        have HMZ3 := hide (HMZ2.out hX)
        subst hX
        clear HMZ2 HMF
        go_wp2_with fail
        go_roundg g1
        case measure => omega
        case rel => exact ⟨m1, HMG.out, hm19', by go_num, HMZ3, rfl⟩
      case' neg =>
        have hXb : (X1 == 0) = false := by simpa using hX
        have HML := hide (HMF.out hX)
        clear HMF
        go_upto_region 5 with fail
        clear hgt hmi hm1i co cf ho HMZ2 ho1 hX hXb
    all_goals
      clear HF19 HORD
      obtain ⟨x1, hx1⟩ : ∃ x1, S.length - 257 = x1 := ⟨_, rfl⟩
      obtain ⟨x2, hx2⟩ : ∃ x2, D.length - 1 = x2 := ⟨_, rfl⟩
      obtain ⟨x3, hx3⟩ : ∃ x3, many - 4 = x3 := ⟨_, rfl⟩
      have e1 : (S.length : Int) - 257 = (x1 : Int) := by omega
      have e2 : (D.length : Int) - 1 = (x2 : Int) := by omega
      have e3 : (many : Int) - 4 = (x3 : Int) := by omega
      have HX1 := hide hx1
      have HX2 := hide hx2
      have HX3 := hide hx3
      have hbb : bw ≤ w3.heap.size := by have := HW3.out.lt; omega
      have HK0 := hide HW3.out.to
      have hP1 := HK0.out.bits hbb (by omega) (x1 : Int) 5 (by omega)
      have HP1 := hide hP1
      clear hx1 hx2 hx3 hP1
      go_upto_region 6 with (go_at_call 63; refine HP1.out.mono ?_; rintro e w4 ⟨rfl, k4⟩; have HK4 := hide k4; clear k4 HP1)
      have HP2 := hide (HK4.out.bits hbb (by rw [List.length_append, bitsN_length]; omega) (x2 : Int) 5 (by omega))
      go_upto_region 7 with (go_at_call 63; refine HP2.out.mono ?_; rintro e w5 ⟨rfl, k5⟩; have HK5 := hide k5; clear k5 HP2 HK4)
      have HP3 := hide (HK5.out.bits hbb (by simp only [List.length_append, bitsN_length]; omega) (x3 : Int) 4 (by omega))
      go_upto_region 9 with (go_at_call 63; refine HP3.out.mono ?_; rintro e w6 ⟨rfl, k6⟩; have HK6 := hide k6; clear k6 HP3 HK5)
      obtain ⟨L6, hL6⟩ : ∃ L6, L0 ++ bitsN (x1 : Int) 5 ++ bitsN (x2 : Int) 5 ++ bitsN (x3 : Int) 4 = L6 := ⟨_, rfl⟩
      have hl6 : L6.length = L0.length + 14 := by rw [← hL6]; simp only [List.length_append, bitsN_length]
      have HL6 := hide hL6
      have HLL6 := hide hl6
      have hl6' : L6.length ≤ 800000014 := by omega
      have HK7 : Hid (WTo bw bw ow w3 (L6 ++ innB F 0 0) w6) := hide (by rw [← hL6]; have := HK6.out; simpa [innB] using this)
      clear hL6 hl6 HK6 HK0
      go_loopg [51] many (fun gk v51 wx => ∃ i : Nat, i + gk = many ∧ v51 = .int .i64 i ∧ Hid (WTo bw bw ow w3 (L6 ++ innB F 0 i) wx))
      case atStart => exact ⟨0, by omega, rfl, HK7⟩
      case round =>
        obtain ⟨i, hig, rfl, HK8⟩ := hrel
        clear HK7
        cases gk with
        | succ g1 =>
          have hi19 : i < 19 := by omega
          have hio := (ord_lt ⟨i, hi19⟩).1
          simp only at hio
          have hbl : Below bw w3 wr := HK8.out.blw hbb (Nat.le_refl _) (fun g e => (HW3.out.own e).1)
          have co := (HT3.out.below hbl h0).1 i hi19
          have hro := HK8.out.heap RO3.out (HW3.out.apart RO3.out (by decide) (by decide))
          have hfl := HIO.out.len
          have cf := cells_of hro (iOrd.getD i 0)
          rw [valA_at F (by omega)] at cf
          have HSN := hide (innB_snoc F i)
          have hll : (innB F 0 i).length ≤ 57 := by rw [innB_length]; omega
          have hP := HK8.out.bits hbb (by rw [List.length_append]; omega) (ln F (iOrd.getD i 0)) 3 (by omega)
          rw [List.append_assoc, show (3 : Int).toNat = 3 from rfl, ← HSN.out] at hP
          have HP := hide hP
          have hlt : (i : Int) < (many : Int) := by omega
          have hi1 : (i : Int) < 19 := by omega
          generalize iOrd.getD i 0 = O1 at co cf hio HP
          generalize ln F O1 = X1 at cf HP
          have ho1 : (O1 : Int) < 19 := by omega
          clear hro hfl hP hbl HSN
          go_wp2_with (go_at_call 63; refine HP.out.mono ?_; rintro e w9 ⟨rfl, k9⟩; have HK9 := hide k9; clear k9 HP)
          go_roundg g1
          case measure => omega
          case rel => exact ⟨i + 1, by omega, by go_num, HK9⟩
        | zero =>
          obtain rfl : i = many := by omega
          have hro := HK8.out.heap RO3.out (HW3.out.apart RO3.out (by decide) (by decide))
          have hfl := HIO.out.len
          have hMk := make_ok wr.heap.size (some ⟨gl, 0, none⟩) 19 F false wr HIO.out.chk (valA_ints hro)
          rw [hfl] at hMk
          have HMK := hide hMk
          have HKM : Hid (∀ wy, WTo bw bw ow w3 (L6 ++ innB F 0 i) wy → Mks wy ad2 NS) := fun wy k => by
            obtain ⟨_, _, k2, _⟩ := k
            exact MK3.out.kept k2 (fun b cs hb => HW3.out.apart hb (by decide) (by decide))
          have hgF := check_good HIO.out.chk
          have HGF := hide hgF
          have HHS := hide HIO.out.has
          rw [HNS.out] at HHS
          have hll : (innB F 0 i).length ≤ 57 := by rw [innB_length]; omega
          obtain ⟨L8, hL8⟩ : ∃ L8, L6 ++ innB F 0 i = L8 := ⟨_, rfl⟩
          have hl8 : L8.length ≤ 800000071 := by rw [← hL8, List.length_append]; omega
          rw [hL8] at HK8 HKM
          have HL8 := hide hL8
          have HIO2 := HIO
          clear hro hfl hMk hgF hL8 hll HIO
          go_upto_region 14 with (go_at_call 66; refine HMK.out.mono ?_; rintro e w7 ⟨bc, gl7, gc7, vo7, N7, rfl, c7, b7⟩; have C7 := hide (show CAt w7 bc F from ⟨_, _, _, _, _, _, c7⟩); have K7 := hide (HK8.out.below b7); clear c7 b7 HMK HK8)
          have HBC := hide (byCode_c bw bc w7)
          obtain ⟨w8, hw8⟩ : ∃ w8, w8 = (w7.alloc (.cells #[.pointer (some ⟨bw, 0, none⟩)] 93)).alloc (.cells #[.pointer (some ⟨bc, 0, none⟩)] 129) := ⟨_, rfl⟩
          rw [← hw8] at HBC
          have bl8 : Below w7.heap.size w7 w8 := by rw [hw8]; exact ((Below.refl _ _).alloc (Nat.le_refl _) _).alloc (by simp) _
          have hby : ByAt w8 (w7.heap.size + 1) w7.heap.size bw bc := ⟨by rw [hw8]; exact heap_new2 _ _ _, by rw [hw8]; exact heap_new1 _ _ _⟩
          have hc8 := C7.out.below bl8
          have k8 := K7.out.below bl8
          obtain ⟨p1, hp1⟩ : ∃ p1, w7.heap.size + 1 = p1 := ⟨_, rfl⟩
          obtain ⟨p2, hp2⟩ : ∃ p2, w7.heap.size = p2 := ⟨_, rfl⟩
          rw [hp1, hp2] at hby HBC
          have HS8 : Hid (WTo bw bw ow w3 (L8 ++ (NS.take 0).flatMap (mkB F)) w8 ∧ ByAt w8 p1 p2 bw bc ∧ CAt w8 bc F ∧ Mks w8 ad2 NS) := ⟨by simpa using k8, hby, hc8, HKM.out _ k8⟩
          clear hw8 bl8 hby hc8 k8 C7 K7 HKM hp1 hp2
          go_upto_region 16 with (go_at_call 68; refine HBC.out.mono ?_; rintro e w9 ⟨rfl, hw9⟩; obtain rfl : w8 = w9 := hw9.symm; clear HBC)
          go_loopg [73] NS.length (fun gk v73 wx => ∃ i : Nat, i + gk = NS.length ∧ v73 = .int .i64 i ∧ Hid (WTo bw bw ow w3 (L8 ++ (NS.take i).flatMap (mkB F)) wx ∧ ByAt wx p1 p2 bw bc ∧ CAt wx bc F ∧ Mks wx ad2 NS))
          case atStart => exact ⟨0, by omega, rfl, HS8⟩
          case round =>
            obtain ⟨j, hjg, rfl, HJ⟩ := hrel
            clear HS8
            cases gk with
            | zero =>
              obtain rfl : j = NS.length := by omega
              go_wp2_with fail
              go_end0
              have hJ := HJ.out.1
              rw [List.take_length, ← HL8.out, ← HL6.out, ← HX1.out, ← HX2.out, ← HX3.out, ← HNS.out, ← HXS.out] at hJ
              refine ⟨rfl, F, i, ⟨by rw [HXS.out]; exact GD3.out, by rw [HXS.out]; exact HIO2.out, hm4.1, hm4.2, HMZ.out, HML.out⟩, ?_⟩
              have hK : Kept (fun k => k = bw ∨ ow = some k) w w3 := (Kept.of_below B3.out).mono (fun i hi e => by omega)
              have := WTo.trans hK (.inl rfl) hJ
              unfold hdB
              simpa only [List.append_assoc] using this
            | succ g1 =>
              have hj : j < NS.length := by omega
              have hlt : (j : Int) < (NS.length : Int) := by omega
              obtain ⟨j1, j2, j3, j4⟩ := HJ.out
              obtain ⟨b, off, cs, rfl, hbb2, hc⟩ := j4.resolve_left (by omega)
              obtain ⟨c0, c1, c2⟩ := hc j hj
              have hsy := HSY.out _ (List.getElem_mem hj)
              have hhs := HHS.out _ (List.getElem_mem hj)
              have htk : (NS.take (j + 1)).flatMap (mkB F) = (NS.take j).flatMap (mkB F) ++ mkB F NS[j] := by rw [List.take_succ_eq_append_getElem hj, List.flatMap_append, List.flatMap_cons, List.flatMap_nil, List.append_nil]
              rw [mkAt_in hj] at c0 c1 c2
              have hln : ((NS.take j).flatMap (mkB F)).length ≤ 22 * (NS.take j).length := flat_le (fun m hm => by have h1 := ln_fit HGF.out.fit m.1; have h2 := (HSY.out m (List.mem_of_mem_take hm)).2.2; rw [mkB_length]; omega)
              rw [List.length_take] at hln
              generalize NS[j] = m at c0 c1 c2 hsy hhs htk
              obtain ⟨m1, m2, m3⟩ := m
              simp only at c0 c1 c2
              obtain ⟨W, hWW⟩ : ∃ W, W = wr.alloc (mO (m1, m2, m3)) := ⟨_, rfl⟩
              have blW : Below wr.heap.size wr W := by rw [hWW]; exact (Below.refl _ _).alloc (Nat.le_refl _) _
              have hWm : W.heap[wr.heap.size]? = some (mO (m1, m2, m3)) := by rw [hWW]; exact heap_new wr _
              have d0 := cells_of hWm 0
              have d1 := cells_of hWm 1
              have d2 := cells_of hWm 2
              simp at d0 d1 d2
              have HM1 := hide ((j1.below blW).mark hbb (j2.below blW) (j3.below blW) HGF.out hhs (by omega) (by rw [List.length_append]; omega))
              have HMKW := hide (j4.stay blW)
              have HE : Hid (wr.alloc (mO (m1, m2, m3)) = W) := hWW.symm
              rw [List.append_assoc, ← htk] at HM1
              unfold mkV at HM1
              clear hc hsy hhs htk j1 j2 j3 j4 hWW blW hWm HJ hbb2
              go_upto_region 18 with fail
              rw [HE.out]
              go_wp2_with (go_at_call 88; refine HM1.out.mono ?_; rintro e w9 ⟨rfl, k9, y9, z9, o9, s9, t9⟩; have HK9 := hide (show WTo bw bw ow w3 (L8 ++ (NS.take (j + 1)).flatMap (mkB F)) w9 ∧ ByAt w9 p1 p2 bw bc ∧ CAt w9 bc F ∧ Mks w9 (some ⟨b, off, none⟩) NS from ⟨k9, y9, z9, by obtain ⟨_, _, kk, _⟩ := t9; exact HMKW.out.kept kk (fun b cs hb => s9.apart hb (by decide) (by decide))⟩); clear k9 y9 z9 s9 t9 HM1)
              go_roundg g1
              case measure => omega
              case rel => exact ⟨j + 1, by omega, by go_num, HK9⟩
end Go.Proofs.YteknifnadbmfiaaGreatDoor
