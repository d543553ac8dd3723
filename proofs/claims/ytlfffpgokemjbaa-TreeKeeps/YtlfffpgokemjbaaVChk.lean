/- The program's Check: contract. -/
import Derived.Test.YtlfffpgokemjbaaVPlc
import Derived.Test.YtlfffpgokemjbaaVEnt
namespace Go.Proofs.Ytlfffpgokemjbaa.U
set_option maxRecDepth 100000
open Go Go.RowKit
set_option linter.unusedVariables false
theorem right_len {m : En} (h : Right m) : m.path.size ≤ 200 := by
  obtain ⟨_, _, _, _, hl⟩ := E.cln_is h.1
  rw [E.len_eq] at hl
  exact hl
theorem near {es : List En} {i : Nat} {m : En} (hm : es[i]? = some m) (h1 : ¬ Twice es i m) (h2 : ¬ Falls es i m) : ∀ p, 0 < i → es[i - 1]? = some p → Op.bytesLess p.path.toList m.path.toList = true := by
  intro p h0 hp
  rcases bl_tri p.path.toList m.path.toList with h | h | h
  · exact h
  · exact absurd ⟨p, h0, hp, h⟩ h1
  · exact absurd ⟨p, h0, hp, gt_iff.2 h⟩ h2
theorem rise_of {es : List En} {n : Nat} (h : ∀ (j : Nat) p, j < n → es[j]? = some p → Clean1 es j p) : Rise (es.take n) := by
  have key : ∀ (k j : Nat) a b, j < k → k < n → es[j]? = some a → es[k]? = some b → Op.bytesLess a.path.toList b.path.toList = true := by
    intro k
    induction k with
    | zero => intro j a b hj; omega
    | succ k ih =>
      intro j a b hj hk ha hb
      have hc := h (k + 1) b hk hb
      have hkl : k < es.length := by have := (List.getElem?_eq_some_iff.1 hb).1; omega
      obtain ⟨q, hq⟩ : ∃ q, es[k]? = some q := ⟨_, List.getElem?_eq_getElem hkl⟩
      have hn := near hb hc.2.2.1 hc.2.2.2.1 q (by omega) (by rw [Nat.add_sub_cancel]; exact hq)
      by_cases e : j = k
      · subst e
        obtain rfl : a = q := Option.some.inj (ha.symm.trans hq)
        exact hn
      · exact bl_trans (ih j a q (by omega) (by omega) ha hq) hn
  intro j k a b hjk ha hb
  have hk : k < n := by have := (List.getElem?_eq_some_iff.1 hb).1; rw [List.length_take] at this; omega
  rw [List.getElem?_take, if_pos (by omega)] at ha hb
  exact key k j a b hjk hk ha hb
theorem undr_iff {es : List En} {i : Nat} {m : En} : Undr (es.take i) m.path ↔ Under es i m := by
  unfold Undr Under
  constructor
  · rintro ⟨q, hq, h1, h2⟩
    obtain ⟨k, hk, e⟩ := List.getElem_of_mem hq
    have hkk : (es.take i)[k]? = some q := by rw [List.getElem?_eq_getElem hk, e]
    have hki : k < i := by rw [List.length_take] at hk; omega
    rw [List.getElem?_take, if_pos hki] at hkk
    exact ⟨k, q, hki, hkk, h1, h2⟩
  · rintro ⟨k, q, hk, hkk, h1, h2⟩
    refine ⟨q, List.mem_of_getElem? (i := k) (by rw [List.getElem?_take, if_pos hk]; exact hkk), h1, h2⟩
theorem last_take {es : List En} {i : Nat} {m : En} (hm : es[i]? = some m) (h0 : 0 < i) : (es.take i)[(es.take i).length - 1]? = es[i - 1]? := by
  have hi := (List.getElem?_eq_some_iff.1 hm).1
  rw [List.length_take, Nat.min_eq_left (by omega), List.getElem?_take, if_pos (by omega)]
theorem take_nil {es : List En} {i : Nat} {m : En} (hm : es[i]? = some m) (h : es.take i = []) : i = 0 := by
  have hi := (List.getElem?_eq_some_iff.1 hm).1
  have := congrArg List.length h
  rw [List.length_take, List.length_nil] at this
  omega
/-- What checkPlace tells is what the entry's place is. -/
theorem place_tells {es : List En} {i : Nat} {m : En} {c : Int} (hm : es[i]? = some m) (hr : Right m) (hd : m.data.size ≤ 1048576) (h : PlTells (es.take i) m.path c) : (c = 0 ∧ Clean1 es i m) ∨ (c ≠ 0 ∧ Tells es i m c) := by
  rcases h with ⟨h0, hc⟩ | ⟨q, hq, h⟩
  · have := take_nil hm h0
    subst this
    exact .inl ⟨hc, hr, hd, fun g => by obtain ⟨_, g, _⟩ := g; omega, fun g => by obtain ⟨_, g, _⟩ := g; omega, fun g => by obtain ⟨_, _, g, _⟩ := g; omega⟩
  · have h0 : 0 < i := by
      rcases Nat.eq_zero_or_pos i with e | e
      · subst e; simp at hq
      · exact e
    rw [last_take hm h0] at hq
    have one : ∀ p, es[i - 1]? = some p → p = q := fun p hp => Option.some.inj (hp.symm.trans hq)
    have tw : Twice es i m ↔ q.path = m.path := ⟨fun ⟨p, _, hp, e⟩ => by rw [← one p hp]; exact bytes_ext e, fun e => ⟨q, h0, hq, by rw [e]⟩⟩
    have fl : Falls es i m ↔ gtB q.path m.path = true := ⟨fun ⟨p, _, hp, e⟩ => by rw [← one p hp]; exact e, fun e => ⟨q, h0, hq, e⟩⟩
    rw [undr_iff] at h
    rcases h with ⟨e, hc⟩ | ⟨e, g, hc⟩ | ⟨e, g, g2, hc⟩
    · exact .inr ⟨by omega, .inr (.inr (.inl ⟨hr, hd, tw.2 e, hc⟩))⟩
    · exact .inr ⟨by omega, .inr (.inr (.inr ⟨hr, hd, fun t => e (tw.1 t), by rw [fl]; exact g, hc⟩))⟩
    · exact .inl ⟨hc, hr, hd, fun t => e (tw.1 t), fun t => g (fl.1 t), g2⟩
theorem PlTells.one {es : List En} {p : ByteArray} {c d : Int} (h : PlTells es p c) (k : PlTells es p d) : c = d := by
  rcases h with ⟨h0, hc⟩ | ⟨q, hq, h⟩ <;> rcases k with ⟨k0, kc⟩ | ⟨r, hr, k⟩
  · omega
  · subst h0; simp at hr
  · subst k0; simp at hq
  · obtain rfl : q = r := Option.some.inj (hq.symm.trans hr)
    rcases h with ⟨e, hc⟩ | ⟨e, g, hc⟩ | ⟨e, g, g2, hc⟩ <;> rcases k with ⟨e', hc'⟩ | ⟨e', g', hc'⟩ | ⟨e', g', g2', hc'⟩ <;> first
      | omega
      | exact absurd e e'
      | exact absurd e' e
      | (rcases g with g | g; exact absurd g g'; exact absurd g g2')
      | (rcases g' with g' | g'; exact absurd g' g; exact absurd g' g2)
theorem PlTells.ex (es : List En) (p : ByteArray) : ∃ c, PlTells es p c := by
  by_cases h0 : es = []
  · exact ⟨0, .inl ⟨h0, rfl⟩⟩
  · have hpos : 0 < es.length := List.length_pos_iff.2 h0
    obtain ⟨m, hm⟩ : ∃ m, es[es.length - 1]? = some m := ⟨_, List.getElem?_eq_getElem (by omega)⟩
    by_cases e : m.path = p
    · exact ⟨161, .inr ⟨m, hm, .inl ⟨e, rfl⟩⟩⟩
    · by_cases g : gtB m.path p = true ∨ Undr es p
      · exact ⟨160, .inr ⟨m, hm, .inr (.inl ⟨e, g, rfl⟩)⟩⟩
      · exact ⟨0, .inr ⟨m, hm, .inr (.inr ⟨e, fun q => g (.inl q), fun q => g (.inr q), rfl⟩)⟩⟩
theorem checkPlace_v (a : Option Addr) (cap : Nat) (es : List En) (p : ByteArray) (c : Int) (w : World) (h : EntsIn w a es) (hl : es.length ≤ 100000) (hr : Rise es) (hp : p.size ≤ 8000000000000) (hc : PlTells es p c) : Calls Try.prog 25 #[.slice a es.length cap, .string p] w fun e w' => e = .returned (.int .i64 c) ∧ Below w.heap.size w w' :=
  (checkPlace_c a cap es p w h hl hr hp).mono fun e w' ⟨d, he, hd, hw⟩ => by rw [hd.one hc] at he; exact ⟨he, hw⟩
theorem EntsIn.take {W : World} {b off : Nat} {es : List En} (h : EntsIn W (some ⟨b, off, none⟩) es) (i : Nat) : EntsIn W (some ⟨b, off, none⟩) (es.take i) := by
  rcases h with h | ⟨b', o', hb, e, hc⟩
  · exact .inl (by rw [List.length_take]; omega)
  · refine .inr ⟨b', o', hb, e, fun k m hk => hc k m ?_⟩
    rw [List.getElem?_take] at hk
    split at hk
    · exact hk
    · cases hk
set_option maxHeartbeats 8000000 in
theorem check_c (a : Option Addr) (cap : Nat) (es : List En) (w : World) (h : EntsIn w a es) (hcap : es.length ≤ cap) (hS : ∀ m ∈ es, m.path.size ≤ 140737488355000 ∧ m.target.size ≤ 140737488355000 ∧ m.data.size ≤ 140737488355000) : Calls Try.prog 11 #[.slice a es.length cap] w (CkOk es w) := by
  by_cases hl : 1000 < es.length
  · have Q : Hid (CkOk es w (.returned (.int .i64 162)) w) := hide ⟨162, rfl, .inl ⟨hl, rfl⟩, Below.refl _ _⟩
    have hlI : (1000 : Int) < (es.length : Int) := by omega
    clear hl hcap
    generalize es.length = n at *
    go_enter Try.func11, Try.ntmps11
    go_wp2_with fail
    go_ret
    exact Q.out
  · have HA : Hid (∀ (i : Nat) (m : En) (c : Int) w', es[i]? = some m → (∀ (j : Nat) p, j < i → es[j]? = some p → Clean1 es j p) → Tells es i m c → Below w.heap.size w w' → CkOk es w (.returned (.int .i64 c)) w') := hide fun i m c w' q1 q2 q3 q4 => ⟨c, rfl, .inr ⟨by omega, .inr ⟨i, m, q1, q2, q3⟩⟩, q4⟩
    have HZ : Hid (∀ w', (∀ (i : Nat) m, es[i]? = some m → Clean1 es i m) → Below w.heap.size w w' → CkOk es w (.returned (.int .i64 0)) w') := hide fun w' q1 q2 => ⟨0, rfl, .inr ⟨by omega, .inl ⟨rfl, q1⟩⟩, q2⟩
    obtain ⟨n, hnn⟩ : ∃ n, n = es.length := ⟨_, rfl⟩
    have HN := hide hnn
    rw [← hnn] at hl hcap ⊢
    have HE := hide h
    have HSS := hide hS
    have hlI : (n : Int) ≤ 1000 := by omega
    have HCP := hide hcap
    clear h hl hnn hS hcap
    go_enter Try.func11, Try.ntmps11
    go_wp2_with fail
    go_loopg [12] n (fun gk u12 wx => ∃ i : Nat, i + gk = n ∧ u12 = .int .i64 (i : Int) ∧ Hid (∀ (j : Nat) p, j < i → es[j]? = some p → Clean1 es j p) ∧ Hid (Below w.heap.size w wx))
    case atStart => exact ⟨0, by omega, rfl, hide fun j p q => by omega, hide (Below.refl _ _)⟩
    case round =>
      obtain ⟨i, hig, rfl, CL, BX⟩ := hrel
      cases gk with
      | zero =>
        obtain rfl : i = n := by omega
        have hge : ¬ (i : Int) < (i : Int) := by omega
        have Q := hide (HZ.out wr (fun j p hj => CL.out j p (by have := (List.getElem?_eq_some_iff.1 hj).1; have := HN.out; omega) hj) BX.out)
        clear HA HZ
        go_wp2_with fail
        go_ret
        exact Q.out
      | succ g1 =>
        have hlt : (i : Int) < (n : Int) := by omega
        have hi : i < es.length := by have := HN.out; omega
        obtain ⟨m, hm⟩ : ∃ m, es[i]? = some m := ⟨_, List.getElem?_eq_getElem hi⟩
        obtain ⟨b1, o1, hb, rfl, a0, a1, a2, a3, a4, a5⟩ := (HE.out.stay BX.out).six hm
        have HS1 := hide (HSS.out m (List.mem_of_getElem? hm))
        have HX := hide (six_box wr m)
        have HAI := hide (fun c w' (q3 : Tells es i m c) q4 => HA.out i m c w' hm CL.out q3 q4)
        have IG := hide (And.intro hig (And.intro hi hm))
        have BA : Hid (∀ o, Below w.heap.size w (wr.alloc o)) := hide fun o => BX.out.alloc BX.out.size _
        have hiC : (i : Int) ≤ (cap : Int) := by have := HCP.out; omega
        clear hig hi hm HA HZ
        by_cases hr : Right m
        · by_cases hs : 1048576 < m.data.size
          · have HR := fun W => hide (checkEntry_more m W HS1.out.1 HS1.out.2.1 HS1.out.2.2 hr hs)
            have Q := hide (fun w' => HAI.out 162 w' (.inr (.inl ⟨hr, hs, rfl⟩)))
            unfold En.cells at HR HX
            clear hr hs HAI
            go_wp2_with (go_at_call 24; refine (HR _).out.mono ?_; rintro e w1 ⟨rfl, hw⟩; have B1 := hide ((BA.out _).trans (hw.mono (BA.out _).size)); clear hw HR)
            go_ret
            exact Q.out _ B1.out
          · have HR := fun W => hide (checkEntry_yes m W HS1.out.1 HS1.out.2.1 HS1.out.2.2 hr (by omega))
            obtain ⟨c, hc⟩ := PlTells.ex (es.take i) m.path
            have hl2 : (es.take i).length = i := by rw [List.length_take]; have := IG.out.2.1; omega
            have HPL := hide (fun W (hW : Below w.heap.size w W) => by
              have := checkPlace_v (some ⟨b1, o1, none⟩) cap (es.take i) m.path c W ((HE.out.stay hW).take i) (by rw [hl2]; omega) (rise_of CL.out) (by have := right_len hr; omega) hc
              rw [hl2] at this
              exact this)
            have HT := hide (place_tells IG.out.2.2 hr (by omega) hc)
            unfold En.cells at HR HX
            clear hr hs hc hl2
            by_cases hc0 : c = 0
            · subst hc0
              have C1 := hide (by rcases HT.out with g | g; exact g.2; exact absurd rfl g.1)
              clear HT HAI
              go_upto_region 9 with (go_at_call 24; refine (HR _).out.mono ?_; rintro e w1 ⟨rfl, hw⟩; have B1 := hide ((BA.out _).trans (hw.mono (BA.out _).size)); obtain ⟨x0, x1, x2, x3, x4, x5⟩ := HX.out _ hw; clear hw HR)
              have k1 := by_cell x1
              clear x0 x1 x2 x3 x4 x5 a0 a1 a2 a3 a4 a5
              refine wp_region_below (by kernel_rfl) (by kernel_rfl) ?_
              repeat (refine WQ.step (fun K hK => ?_); go_simp; first | (refine hK _ ?_; clear hK K) | (apply Exists.intro; refine ⟨fun q => ?_, hK _ ?_⟩; (first | (go_at_call 25; exact below_of (v := .int .i64 0) (HPL.out _ (B1.out.trans (q.h.mono B1.out.size))))); clear hK K))
              refine WQ.nil ?_
              rintro w3 ⟨⟨_, hw3⟩, rfl⟩
              have B3 := hide (B1.out.trans (hw3.mono B1.out.size))
              clear hw3 k1
              go_wp2_with fail
              go_roundg g1
              case measure => omega
              case rel => exact ⟨i + 1, by have := IG.out.1; omega, by go_num, hide fun j p hj hjp => by
                  rcases Nat.lt_or_ge j i with g | g
                  · exact CL.out j p g hjp
                  · obtain rfl : j = i := by omega
                    obtain rfl : m = p := Option.some.inj (IG.out.2.2.symm.trans hjp)
                    exact C1.out, B3⟩
            · have Q := hide (fun w' => HAI.out c w' (by rcases HT.out with g | g; exact absurd g.1 hc0; exact g.2))
              have hcb : (c != 0) = true := by simpa using hc0
              clear HT HAI hc0
              go_upto_region 9 with (go_at_call 24; refine (HR _).out.mono ?_; rintro e w1 ⟨rfl, hw⟩; have B1 := hide ((BA.out _).trans (hw.mono (BA.out _).size)); obtain ⟨x0, x1, x2, x3, x4, x5⟩ := HX.out _ hw; clear hw HR)
              have k1 := by_cell x1
              clear x0 x1 x2 x3 x4 x5 a0 a1 a2 a3 a4 a5
              refine wp_region_below (by kernel_rfl) (by kernel_rfl) ?_
              repeat (refine WQ.step (fun K hK => ?_); go_simp; first | (refine hK _ ?_; clear hK K) | (apply Exists.intro; refine ⟨fun q => ?_, hK _ ?_⟩; (first | (go_at_call 25; exact below_of (v := .int .i64 c) (HPL.out _ (B1.out.trans (q.h.mono B1.out.size))))); clear hK K))
              refine WQ.nil ?_
              rintro w3 ⟨⟨_, hw3⟩, rfl⟩
              have B3 := hide (B1.out.trans (hw3.mono B1.out.size))
              clear hw3 k1
              go_wp2_with fail
              go_ret
              exact Q.out _ B3.out
        · have HR := fun W => hide (checkEntry_no m W HS1.out.1 HS1.out.2.1 HS1.out.2.2 hr)
          have Q := hide (fun w' => HAI.out 160 w' (.inl ⟨hr, rfl⟩))
          unfold En.cells at HR HX
          clear hr HAI
          go_wp2_with (go_at_call 24; refine (HR _).out.mono ?_; rintro e w1 ⟨rfl, hw⟩; have B1 := hide ((BA.out _).trans (hw.mono (BA.out _).size)); clear hw HR)
          go_ret
          exact Q.out _ B1.out
end Go.Proofs.Ytlfffpgokemjbaa.U
