/- The program's Size, Find: contracts. -/
import Derived.Test.YtlfffpgokemjbabVRow
import Derived.Test.YtlfffpgokemjbabURef
import Derived.Laws.ResultCell
namespace Go.Proofs.Ytlfffpgokemjbab.U
set_option maxRecDepth 100000
open Go Go.RowKit
set_option linter.unusedVariables false
set_option maxHeartbeats 4000000 in
theorem size_c (a : Option Addr) (cap : Nat) (es : List En) (w : World) (h : EntsIn w a es) (hn : es.length ≤ 1000000000) : Calls Try.prog 9 #[.slice a es.length cap] w fun e w' => e = .returned (.int .i64 (szw es)) ∧ Below w.heap.size w w' := by
  obtain ⟨v, hv⟩ : ∃ v, v = szw es := ⟨_, rfl⟩
  rw [← hv]
  have HV := hide hv
  clear hv
  obtain ⟨n, hnn⟩ : ∃ n, n = es.length := ⟨_, rfl⟩
  have HN := hide hnn
  rw [← hnn] at hn ⊢
  clear hnn
  have HE := hide h
  have HL := hide hn
  clear h hn
  go_enter Try.func9, Try.ntmps9
  go_wp2_with fail
  go_loopg [3, 8] n (fun gk u3 u8 wx => ∃ i : Nat, i + gk = n ∧ u3 = .int .i64 (szw (es.take i)) ∧ u8 = .int .i64 (i : Int) ∧ Hid (Below w.heap.size w wx))
  case atStart => exact ⟨0, by omega, rfl, rfl, hide (Below.refl _ _)⟩
  case round =>
    obtain ⟨i, hig, rfl, rfl, BX⟩ := hrel
    cases gk with
    | zero =>
      obtain rfl : i = n := by omega
      have hge : ¬ (i : Int) < (i : Int) := by omega
      go_wp2_with fail
      go_ret
      have e : es.take i = es := by rw [HN.out]; exact List.take_length
      exact ⟨by rw [HV.out, e]; rfl, BX.out⟩
    | succ g1 =>
      have hlt : (i : Int) < (n : Int) := by omega
      have hnI : (n : Int) ≤ 1000000000 := by have := HL.out; omega
      have hi : i < es.length := by have := HN.out; omega
      obtain ⟨m, hm⟩ : ∃ m, es[i]? = some m := ⟨_, List.getElem?_eq_getElem hi⟩
      obtain ⟨b, off, hb, rfl, a0, a1, a2, a3, a4, a5⟩ := (HE.out.stay BX.out).six hm
      have HS := hide (szw_succ hm)
      have BA : Hid (∀ o, Below w.heap.size w (wr.alloc o)) := hide fun o => BX.out.alloc BX.out.size _
      generalize szw (es.take i) = x at *
      clear hi hm
      have IG := hide hig
      clear hig
      go_wp2_with fail
      go_roundg g1
      case measure => omega
      case rel => exact ⟨i + 1, by have := IG.out; omega, by rw [HS.out], by go_num, hide (BA.out _)⟩
def E0 : En := ⟨0, .empty, .empty, 0, 0, .empty⟩
/-- The first one with that path; else a zero one. -/
def fnd (p : ByteArray) (es : List En) : Option En := es.find? fun m => decide (m.path = p)
theorem fnd_none {p : ByteArray} {es : List En} (h : ∀ m ∈ es, m.path ≠ p) : fnd p es = none := by
  unfold fnd
  rw [List.find?_eq_none]
  intro m hm
  simpa using h m hm
theorem fnd_some {p : ByteArray} {es : List En} {i : Nat} {m : En} (hm : es[i]? = some m) (hp : m.path = p) (h : ∀ q ∈ es.take i, q.path ≠ p) : fnd p es = some m := by
  have e : es = es.take i ++ m :: es.drop (i + 1) := by
    have hi := List.getElem?_eq_some_iff.1 hm
    conv => lhs; rw [← List.take_append_drop i es, List.drop_eq_getElem_cons hi.1, hi.2]
  unfold fnd
  rw [e, List.find?_append]
  have h0 : (es.take i).find? (fun m => decide (m.path = p)) = none := fnd_none h
  rw [h0]
  simp [hp]
def FnOk (p : ByteArray) (es : List En) (w : World) (e : Ending) (w' : World) : Prop := e = .returned (.tuple #[.agg ((fnd p es).getD E0).cells, .bool (fnd p es).isSome]) ∧ Below w.heap.size w w'
theorem six_stay {W : World} {a : Option Addr} {es : List En} (h : EntsIn W a es) {i : Nat} {m : En} (hm : es[i]? = some m) : ∃ b off, b < W.heap.size ∧ a = some ⟨b, off, none⟩ ∧ ∀ V, Below W.heap.size W V →
    V.cell? ⟨b, off + i * 6, none⟩ = some (.int .i64 m.kind) ∧ V.cell? ⟨b, off + i * 6 + 1, none⟩ = some (.string m.path) ∧ V.cell? ⟨b, off + i * 6 + 2, none⟩ = some (.string m.target) ∧ V.cell? ⟨b, off + i * 6 + 3, none⟩ = some (.int .i64 m.mode) ∧ V.cell? ⟨b, off + i * 6 + 4, none⟩ = some (.int .i64 m.time) ∧ V.cell? ⟨b, off + i * 6 + 5, none⟩ = some (.string m.data) := by
  obtain ⟨b, off, hb, ha, _⟩ := h.six hm
  refine ⟨b, off, hb, ha, fun V hV => ?_⟩
  obtain ⟨b', o', _, e, h⟩ := (h.stay hV).six hm
  rw [ha] at e
  simp only [Option.some.injEq, Addr.mk.injEq] at e
  obtain ⟨rfl, rfl, _⟩ := e
  exact h
/-- Six cells laid over six. -/
theorem set6 {w : World} {g : Nat} {old : List Value} {t : TypeId} (h : w.heap[g]? = some (.cells old.toArray t (0, 0))) (hs : old.length = 6) (a0 a1 a2 a3 a4 a5 : Value) :
    ((((((w.setCell ⟨g, 0, none⟩ a0).setCell ⟨g, 1, none⟩ a1).setCell ⟨g, 2, none⟩ a2).setCell ⟨g, 3, none⟩ a3).setCell ⟨g, 4, none⟩ a4).setCell ⟨g, 5, none⟩ a5).heap[g]? = some (.cells #[a0, a1, a2, a3, a4, a5] t (0, 0)) ∧
    Kept (fun k => k = g) w ((((((w.setCell ⟨g, 0, none⟩ a0).setCell ⟨g, 1, none⟩ a1).setCell ⟨g, 2, none⟩ a2).setCell ⟨g, 3, none⟩ a3).setCell ⟨g, 4, none⟩ a4).setCell ⟨g, 5, none⟩ a5) := by
  obtain ⟨h1, h2⟩ := setCells_row g t [a0, a1, a2, a3, a4, a5] 0 old w h (by simp [hs])
  refine ⟨?_, h2⟩
  have e : (old.take 0 ++ [a0, a1, a2, a3, a4, a5] ++ old.drop (0 + [a0, a1, a2, a3, a4, a5].length)).toArray = #[a0, a1, a2, a3, a4, a5] := by
    rw [List.drop_of_length_le (by simp [hs])]; simp
  rw [e] at h1
  exact h1
theorem retE {g : Nat} {cs : Array Value} {w : World} {fn : Func} (hr : fn.results = #[.cell 4 27, .tmp 5]) (tmps : Array Value) (hp : tmps.getD 4 undef = .pointer (some ⟨g, 0, none⟩)) (hg : w.heap[g]? = some (.cells cs 27 (0, 0))) (hs : cs.size = 6) :
    (results fn tmps).run Try.prog w = .ok (.tuple #[.agg cs, tmps.getD 5 undef]) w := by
  obtain ⟨i, hi, hz, hsz, hby⟩ := info_parts infoE
  have hl := run_loadVar_row (P := Try.prog) w g 27 27 cs (0, 0) _ hg Try.underlying27 rfl (by rw [hi]; simp [hsz, hs])
  rw [results_cell_tmp (p := 4) (u := 5) (ty := 27) hr, hp]
  simp [asAddr, Result.andThen, hl]
set_option maxHeartbeats 4000000 in
theorem find_c (a : Option Addr) (cap : Nat) (es : List En) (p : ByteArray) (w : World) (h : EntsIn w a es) (hn : es.length ≤ 1000000000) : Calls Try.prog 6 #[.slice a es.length cap, .string p] w (FnOk p es w) := by
  have HZ : Hid (∀ w', (∀ m ∈ es, m.path ≠ p) → Below w.heap.size w w' → FnOk p es w (.returned (.tuple #[.agg #[.int .i64 0, .string .empty, .string .empty, .int .i64 0, .int .i64 0, .string .empty], .bool false])) w') := hide fun w' q r => ⟨by rw [fnd_none q]; rfl, r⟩
  have HY : Hid (∀ (i : Nat) m w', es[i]? = some m → m.path = p → (∀ q ∈ es.take i, q.path ≠ p) → Below w.heap.size w w' → FnOk p es w (.returned (.tuple #[.agg #[.int .i64 m.kind, .string m.path, .string m.target, .int .i64 m.mode, .int .i64 m.time, .string m.data], .bool true])) w') := hide fun i m w' q1 q2 q3 r => ⟨by rw [fnd_some q1 q2 q3]; rfl, r⟩
  obtain ⟨n, hnn⟩ : ∃ n, n = es.length := ⟨_, rfl⟩
  have HN := hide hnn
  rw [← hnn] at hn ⊢
  clear hnn
  have HE := hide h
  have HL := hide hn
  clear h hn
  go_enter Try.func6, Try.ntmps6
  go_wp2_with fail
  go_loopg [10] n (fun gk u10 wx => ∃ i : Nat, i + gk = n ∧ u10 = .int .i64 (i : Int) ∧ Hid (∀ q ∈ es.take i, q.path ≠ p) ∧ Hid (wx.heap[w.heap.size]? = some (.cells #[.int .i64 0, .string .empty, .string .empty, .int .i64 0, .int .i64 0, .string .empty] 27 (0, 0))) ∧ Hid (Below w.heap.size w wx))
  case atStart => exact ⟨0, by omega, rfl, hide (by simp), hide (heap_new w _), hide ((Below.refl _ _).alloc (Nat.le_refl _) _)⟩
  case round =>
    obtain ⟨i, hig, rfl, NO, CX, BX⟩ := hrel
    cases gk with
    | zero =>
      obtain rfl : i = n := by omega
      have hge : ¬ (i : Int) < (i : Int) := by omega
      have e : es.take i = es := by rw [HN.out]; exact List.take_length
      rw [e] at NO
      clear e
      have Q := hide (fun w' => HZ.out w' NO.out)
      have c0 : wr.cell? ⟨w.heap.size, 0, none⟩ = some (.int .i64 0) := cells_of CX.out 0
      have c1 : wr.cell? ⟨w.heap.size, 1, none⟩ = some (.string .empty) := cells_of CX.out 1
      have c2 : wr.cell? ⟨w.heap.size, 2, none⟩ = some (.string .empty) := cells_of CX.out 2
      have c3 : wr.cell? ⟨w.heap.size, 3, none⟩ = some (.int .i64 0) := cells_of CX.out 3
      have c4 : wr.cell? ⟨w.heap.size, 4, none⟩ = some (.int .i64 0) := cells_of CX.out 4
      have c5 : wr.cell? ⟨w.heap.size, 5, none⟩ = some (.string .empty) := cells_of CX.out 5
      have fr : ∀ k, wr.frozen? ⟨w.heap.size, k, none⟩ = false := free_of CX.out
      have f0 := fr 0
      have f1 := fr 1
      have f2 := fr 2
      have f3 := fr 3
      have f4 := fr 4
      have f5 := fr 5
      clear fr
      go_wp2_with fail
      obtain ⟨r1, r2⟩ := set6 (t := 27) (old := [.int .i64 0, .string .empty, .string .empty, .int .i64 0, .int .i64 0, .string .empty]) CX.out rfl (.int .i64 0) (.string .empty) (.string .empty) (.int .i64 0) (.int .i64 0) (.string .empty)
      exact bodyPost_ret (retE rfl _ (by rfl) r1 rfl) rfl (Q.out _ (BX.out.trans (r2.below BX.out.size (fun k hk hkg => by omega))))
    | succ g1 =>
      have hlt : (i : Int) < (n : Int) := by omega
      have hnI : (n : Int) ≤ 1000000000 := by have := HL.out; omega
      have hi : i < es.length := by have := HN.out; omega
      obtain ⟨m, hm⟩ : ∃ m, es[i]? = some m := ⟨_, List.getElem?_eq_getElem hi⟩
      obtain ⟨b, off, hb, rfl, a0, a1, a2, a3, a4, a5⟩ := (HE.out.stay BX.out).six hm
      have HM := hide hm
      have HMP := hide (show m.path.toList ≠ p.toList → ∀ q ∈ es.take (i + 1), q.path ≠ p from fun hne q hq => by
        rw [List.take_add_one, hm] at hq
        rcases List.mem_append.1 hq with hq | hq
        · exact NO.out q hq
        · simp at hq; subst hq; exact fun e => hne (by rw [e]))
      have IG := hide hig
      clear hig hi hm
      have W2 : Hid (∀ o, (wr.alloc o).heap[w.heap.size]? = some (.cells #[.int .i64 0, .string .empty, .string .empty, .int .i64 0, .int .i64 0, .string .empty] 27 (0, 0))) := hide fun o => by
        rw [Below.heap_alloc _ _ _ (lt_of_block CX.out)]; exact CX.out
      have BA : Hid (∀ o, Below w.heap.size w (wr.alloc o)) := hide fun o => BX.out.alloc BX.out.size _
      by_cases he : m.path.toList = p.toList
      · have heb : (m.path.toList == p.toList) = true := by rw [he]; exact beq_self_eq_true _
        have HPE := hide (bytes_ext he)
        have c0 : ∀ o, (wr.alloc o).cell? ⟨w.heap.size, 0, none⟩ = some (.int .i64 0) := fun o => cells_of (W2.out o) 0
        have c1 : ∀ o, (wr.alloc o).cell? ⟨w.heap.size, 1, none⟩ = some (.string .empty) := fun o => cells_of (W2.out o) 1
        have c2 : ∀ o, (wr.alloc o).cell? ⟨w.heap.size, 2, none⟩ = some (.string .empty) := fun o => cells_of (W2.out o) 2
        have c3 : ∀ o, (wr.alloc o).cell? ⟨w.heap.size, 3, none⟩ = some (.int .i64 0) := fun o => cells_of (W2.out o) 3
        have c4 : ∀ o, (wr.alloc o).cell? ⟨w.heap.size, 4, none⟩ = some (.int .i64 0) := fun o => cells_of (W2.out o) 4
        have c5 : ∀ o, (wr.alloc o).cell? ⟨w.heap.size, 5, none⟩ = some (.string .empty) := fun o => cells_of (W2.out o) 5
        have fr : ∀ o k, (wr.alloc o).frozen? ⟨w.heap.size, k, none⟩ = false := fun o => free_of (W2.out o)
        clear he
        go_wp2_with fail
        obtain ⟨r1, r2⟩ := set6 (t := 27) (old := [.int .i64 0, .string .empty, .string .empty, .int .i64 0, .int .i64 0, .string .empty]) (W2.out _) rfl (.int .i64 m.kind) (.string m.path) (.string m.target) (.int .i64 m.mode) (.int .i64 m.time) (.string m.data)
        exact bodyPost_ret (retE rfl _ (by rfl) r1 rfl) rfl (HY.out i m _ HM.out HPE.out NO.out ((BA.out _).trans (r2.below (BA.out _).size (fun k hk hkg => by omega))))
      · have heb : (m.path.toList == p.toList) = false := by simpa using he
        have NO2 := hide (HMP.out he)
        clear he
        go_wp2_with fail
        go_roundg g1
        case measure => omega
        case rel => exact ⟨i + 1, by have := IG.out; omega, by go_num, NO2, hide (W2.out _), hide (BA.out _)⟩
end Go.Proofs.Ytlfffpgokemjbab.U
