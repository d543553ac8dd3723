/- The program's isBarred: contract. -/
import Derived.Test.YtlfffpgokemjbaaVRow
import Derived.Test.YtlfffpgokemjbaaUThe
import Derived.Test.YtlfffpgokemjbaaUSea
namespace Go.Proofs.Ytlfffpgokemjbaa.U
set_option maxRecDepth 100000
open Go Go.RowKit
set_option linter.unusedVariables false
def geB (a b : ByteArray) : Bool := !(Op.bytesLess a.toList b.toList)
theorem geq_c (t : TypeId) (a b : ByteArray) : binOp .geq t (.string a) (.string b) = pure (.bool (geB a b)) := by simp [binOp, Op.stringOp, geB]
def gek (es : List En) (p : ByteArray) (i : Nat) : Bool := geB ((es[i]?).getD ⟨0, .empty, .empty, 0, 0, .empty⟩).path p
theorem gek_at {es : List En} {p : ByteArray} {i : Nat} {m : En} (h : es[i]? = some m) : gek es p i = geB m.path p := by unfold gek; rw [h]; rfl
/-- Paths rise. -/
def Rise (es : List En) : Prop := ∀ (j k : Nat) a b, j < k → es[j]? = some a → es[k]? = some b → Op.bytesLess a.path.toList b.path.toList = true
theorem ge_irr (p : ByteArray) : geB p p = true := by unfold geB; rw [bl_irr]; rfl
/-- The place that a search tells is the one of that path, if there is one. -/
theorem sea_at {es : List En} {p : ByteArray} (hr : Rise es) {c k : Nat} {m : En} (hc : c = 0 ∨ gek es p (c - 1) = false) (hc2 : c = es.length ∨ gek es p c = true) (hk : es[k]? = some m) (hm : m.path = p) : c = k := by
  have hkl := (List.getElem?_eq_some_iff.1 hk).1
  rcases Nat.lt_trichotomy c k with h | h | h
  · rcases hc2 with h2 | h2
    · omega
    · have hcl : c < es.length := by omega
      obtain ⟨q, hq⟩ : ∃ m, es[c]? = some m := ⟨_, List.getElem?_eq_getElem hcl⟩
      rw [gek_at hq] at h2
      have := hr c k q m h hq hk
      rw [hm] at this
      unfold geB at h2
      rw [this] at h2
      cases h2
  · exact h
  · rcases hc with h2 | h2
    · omega
    · by_cases e : c - 1 = k
      · rw [e, gek_at hk, hm, ge_irr] at h2
        cases h2
      · by_cases hcl : c - 1 < es.length
        · obtain ⟨q, hq⟩ : ∃ m, es[c - 1]? = some m := ⟨_, List.getElem?_eq_getElem hcl⟩
          rw [gek_at hq] at h2
          have h3 := hr k (c - 1) m q (by omega) hk hq
          unfold geB at h2
          rw [Bool.not_eq_false'] at h2
          rw [← hm] at h2
          have := bl_trans h3 h2
          rw [bl_irr] at this
          cases this
        · unfold gek at h2
          rw [List.getElem?_eq_none (by omega)] at h2
          simp only [Option.getD_none] at h2
          unfold geB at h2
          rw [Bool.not_eq_false'] at h2
          rcases hc2 with h4 | h4
          · omega
          · unfold gek at h4
            rw [List.getElem?_eq_none (by omega)] at h4
            simp only [Option.getD_none] at h4
            unfold geB at h4
            rw [h2] at h4
            cases h4
set_option maxHeartbeats 4000000 in
theorem barred1_c (b2 b3 : Nat) (a : Option Addr) (cap : Nat) (es : List En) (p : ByteArray) (w : World) (h2 : w.cell? ⟨b2, 0, none⟩ = some (.slice a es.length cap)) (h3 : w.cell? ⟨b3, 0, none⟩ = some (.string p)) (h : EntsIn w a es) (hl : es.length ≤ 100000) (i : Nat) (hi : i < es.length) :
    Calls Try.prog 57 #[.int .i64 (i : Int), .pointer (some ⟨b2, 0, none⟩), .pointer (some ⟨b3, 0, none⟩)] w fun e w' => e = .returned (.bool (gek es p i)) ∧ Below w.heap.size w w' := by
  obtain ⟨m, hm⟩ : ∃ m, es[i]? = some m := ⟨_, List.getElem?_eq_getElem hi⟩
  rw [gek_at hm]
  obtain ⟨b, off, hb, rfl, a0, a1, a2, a3, a4, a5⟩ := h.six hm
  have hge := geq_c 9 m.path p
  obtain ⟨n, hn⟩ : ∃ n, n = es.length := ⟨_, rfl⟩
  rw [← hn] at h2 hi hl
  have hiI : (i : Int) < (n : Int) := by omega
  have hlI : (n : Int) ≤ 100000 := by omega
  clear hn h hm hi hl hb a0 a2 a3 a4 a5
  have k1 := by_cell a1
  have k2 := by_cell h2
  have k3 := by_cell h3
  go_enter Try.func57, Try.ntmps57
  go_upto_region 1 with fail
  refine wp_region_below (by kernel_rfl) (by kernel_rfl) ?_
  repeat (refine WQ.step (fun K hK => ?_); go_simp; first | (refine hK _ ?_; clear hK K))
  refine WQ.nil ?_
  rintro w3 ⟨⟨_, hw⟩, rfl⟩
  go_wp2_with fail
  go_ret
  exact ⟨rfl, hw⟩
def BaOk (es : List En) (p : ByteArray) (w : World) (e : Ending) (w' : World) : Prop := ∃ b : Bool, e = .returned (.bool b) ∧ (b = true ↔ ∃ m ∈ es, m.path = p ∧ m.kind ≠ 2) ∧ Below w.heap.size w w'
theorem enters_b1 : ∀ args w, (callFunc 57 args).run Try.prog w = .ok (.enter 57 args) w := enters_of Try.func57 (by kernel_rfl) rfl
set_option maxHeartbeats 8000000 in
theorem isBarred_c (a : Option Addr) (cap : Nat) (es : List En) (p : ByteArray) (w : World) (h : EntsIn w a es) (hl : es.length ≤ 100000) (hr : Rise es) : Calls Try.prog 42 #[.slice a es.length cap, .string p] w (BaOk es p w) := by
  have HF : Hid ((¬ ∃ m ∈ es, m.path = p ∧ m.kind ≠ 2) → ∀ w', Below w.heap.size w w' → BaOk es p w (.returned (.bool false)) w') := hide fun g w' q => ⟨false, rfl, ⟨fun s => (by cases s), fun s => absurd s g⟩, q⟩
  have HT : Hid ((∃ m ∈ es, m.path = p ∧ m.kind ≠ 2) → ∀ w', Below w.heap.size w w' → BaOk es p w (.returned (.bool true)) w') := hide fun g w' q => ⟨true, rfl, ⟨fun _ => g, fun _ => rfl⟩, q⟩
  have HR := hide hr
  obtain ⟨Wa, hWa⟩ : ∃ W, W = (w.alloc (.cells #[.slice a es.length cap] 22)).alloc (.cells #[.string p] 9) := ⟨_, rfl⟩
  have BA : Hid (Below w.heap.size w Wa) := hide (by rw [hWa]; exact ((Below.refl _ w).alloc (Nat.le_refl _) _).alloc (by simp) _)
  have c2 : Wa.cell? ⟨w.heap.size, 0, none⟩ = some (.slice a es.length cap) := by
    rw [hWa]
    exact ((Below.refl _ (w.alloc (.cells #[.slice a es.length cap] 22))).alloc (Nat.le_refl _) _ |>.cell (by simp)).trans (cells_new w _ _ 0 _ rfl)
  have c3 : Wa.cell? ⟨w.heap.size + 1, 0, none⟩ = some (.string p) := by
    rw [hWa]
    simp
  have HA := hide (h.stay BA.out)
  have HS1 := hide (search_c 57 #[.pointer (some ⟨w.heap.size, 0, none⟩), .pointer (some ⟨w.heap.size + 1, 0, none⟩)] es.length (gek es p) Wa enters_b1 hl (fun W hW i hi => barred1_c w.heap.size (w.heap.size + 1) a cap es p W ((hW.cell (lt_of_cell c2)).trans c2) ((hW.cell (lt_of_cell c3)).trans c3) (HA.out.stay hW) hl i hi))
  have C2 := hide c2
  have C3 := hide c3
  obtain ⟨n, hn⟩ : ∃ n, n = es.length := ⟨_, rfl⟩
  have HN := hide hn
  rw [← hn] at hl c2 C2 HS1 hWa ⊢
  have HL := hide hl
  have hmf : ∀ (fn : Fn) (first cap : Array Value) (w : World), (Instr.makeFunc fn first cap).run Try.prog w = .ok (.func fn first cap) w := fun _ _ _ _ => rfl
  have hwa : Hid _ := hWa.symm
  clear h hl hr hn hWa c3
  go_enter Try.func42, Try.ntmps42
  go_upto_region 1 with fail
  rw [hwa.out]
  go_upto_region 2 with (go_at_call 56; refine HS1.out.mono ?_; rintro e w1 ⟨c, rfl, hc1, hc2, hc3, hw⟩; have B1 := hide hw; have HC := hide (And.intro hc1 (And.intro hc2 hc3)); clear hw hc1 hc2 hc3 HS1)
  clear c2
  have B1' := hide (BA.out.trans (B1.out.mono BA.out.size))
  have hnI : (n : Int) ≤ 100000 := by have := HL.out; omega
  by_cases hcn : c = n
  · subst hcn
    have Q := hide (HF.out (fun ⟨m, hm, hmp, hk⟩ => by
      obtain ⟨k, hk2, e⟩ := List.getElem_of_mem hm
      have hkk : es[k]? = some m := by rw [List.getElem?_eq_getElem hk2, e]
      have := sea_at HR.out (p := p) (c := c) HC.out.2.1 (.inl HN.out) hkk hmp
      have := HN.out
      omega))
    have hge : ¬ (c : Int) < (c : Int) := by omega
    have k2 := by_cell ((B1.out.cell (lt_of_cell C2.out)).trans C2.out)
    have k3 := by_cell ((B1.out.cell (lt_of_cell C3.out)).trans C3.out)
    clear HF HT
    refine wp_region_below (by kernel_rfl) (by kernel_rfl) ?_
    repeat (refine WQ.step (fun K hK => ?_); go_simp; first | (refine hK _ ?_; clear hK K))
    refine WQ.nil ?_
    rintro w3 ⟨⟨_, hw⟩, rfl⟩
    have B3 := hide (B1'.out.trans (hw.mono B1'.out.size))
    clear hw
    go_wp2_with fail
    go_ret
    exact Q.out _ B3.out
  · have hlt : (c : Int) < (n : Int) := by have := HC.out.1; omega
    have hcl : c < es.length := by have := HC.out.1; have := HN.out; omega
    obtain ⟨m, hm⟩ : ∃ m, es[c]? = some m := ⟨_, List.getElem?_eq_getElem hcl⟩
    obtain ⟨b, off, hb, rfl, a0, a1, a2, a3, a4, a5⟩ := (HA.out.stay B1.out).six hm
    have k0 := by_cell a0
    have k1 := by_cell a1
    have k2 := by_cell ((B1.out.cell (lt_of_cell C2.out)).trans C2.out)
    have k3 := by_cell ((B1.out.cell (lt_of_cell C3.out)).trans C3.out)
    have HM := hide (List.mem_of_getElem? hm)
    have HO : Hid (∀ q ∈ es, q.path = p → q = m) := hide fun q hq hqp => by
      obtain ⟨k, hk2, e⟩ := List.getElem_of_mem hq
      have hkk : es[k]? = some q := by rw [List.getElem?_eq_getElem hk2, e]
      obtain rfl := sea_at HR.out (p := p) (c := c) HC.out.2.1 (by rcases HC.out.2.2 with g | g; exact absurd g hcn; exact .inr g) hkk hqp
      exact (Option.some.inj (hm.symm.trans hkk)).symm
    have dlt : decide ((c : Int) < (n : Int)) = true := decide_eq_true hlt
    clear hm hcl hb a0 a1 a2 a3 a4 a5
    by_cases he : m.path.toList = p.toList
    · have heb : (m.path.toList == p.toList) = true := by rw [he]; exact beq_self_eq_true _
      by_cases hk : m.kind = 2
      · have hkb : (m.kind != 2) = false := by simp [hk]
        have Q := hide (HF.out (fun ⟨q, hq, hqp, hkq⟩ => hkq (by rw [HO.out q hq hqp]; exact hk)))
        clear he hk HF HT
        refine wp_region_below (by kernel_rfl) (by kernel_rfl) ?_
        repeat (refine WQ.step (fun K hK => ?_); go_simp; first | (refine hK _ ?_; clear hK K))
        refine WQ.nil ?_
        rintro w3 ⟨⟨_, hw⟩, rfl⟩
        have B3 := hide (B1'.out.trans (hw.mono B1'.out.size))
        clear hw
        go_wp2_with fail
        go_ret
        exact Q.out _ B3.out
      · have hkb : (m.kind != 2) = true := by simpa using hk
        have Q := hide (HT.out ⟨m, HM.out, bytes_ext he, hk⟩)
        clear he hk HF HT
        refine wp_region_below (by kernel_rfl) (by kernel_rfl) ?_
        repeat (refine WQ.step (fun K hK => ?_); go_simp; first | (refine hK _ ?_; clear hK K))
        refine WQ.nil ?_
        rintro w3 ⟨⟨_, hw⟩, rfl⟩
        have B3 := hide (B1'.out.trans (hw.mono B1'.out.size))
        clear hw
        go_wp2_with fail
        go_ret
        exact Q.out _ B3.out
    · have heb : (m.path.toList == p.toList) = false := by simpa using he
      have Q := hide (HF.out (fun ⟨q, hq, hqp, hkq⟩ => he (by rw [← HO.out q hq hqp, hqp])))
      clear he HF HT
      refine wp_region_below (by kernel_rfl) (by kernel_rfl) ?_
      repeat (refine WQ.step (fun K hK => ?_); go_simp; first | (refine hK _ ?_; clear hK K))
      refine WQ.nil ?_
      rintro w3 ⟨⟨_, hw⟩, rfl⟩
      have B3 := hide (B1'.out.trans (hw.mono B1'.out.size))
      clear hw
      go_wp2_with fail
      go_ret
      exact Q.out _ B3.out
theorem isBarred_yes (a : Option Addr) (cap : Nat) (es : List En) (p : ByteArray) (w : World) (h : EntsIn w a es) (hl : es.length ≤ 100000) (hr : Rise es) (hu : ∃ m ∈ es, m.path = p ∧ m.kind ≠ 2) : Calls Try.prog 42 #[.slice a es.length cap, .string p] w fun e w' => e = .returned (.bool true) ∧ Below w.heap.size w w' :=
  (isBarred_c a cap es p w h hl hr).mono fun e w' ⟨b, he, hb, hw⟩ => by rw [hb.2 hu] at he; exact ⟨he, hw⟩
theorem isBarred_no (a : Option Addr) (cap : Nat) (es : List En) (p : ByteArray) (w : World) (h : EntsIn w a es) (hl : es.length ≤ 100000) (hr : Rise es) (hu : ¬ ∃ m ∈ es, m.path = p ∧ m.kind ≠ 2) : Calls Try.prog 42 #[.slice a es.length cap, .string p] w fun e w' => e = .returned (.bool false) ∧ Below w.heap.size w w' :=
  (isBarred_c a cap es p w h hl hr).mono fun e w' ⟨b, he, hb, hw⟩ => by
    cases b
    · exact ⟨he, hw⟩
    · exact absurd (hb.1 rfl) hu
end Go.Proofs.Ytlfffpgokemjbaa.U
