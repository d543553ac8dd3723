/- Several texts, laid together: IBits, ROut. -/
import Derived.Test.YtlakgbckopjelabGreatDoorG24RSmall
/- The bits of bytes as the program's reader and as the reference tell them; the reference's bits and next over the plain functions; its Order. -/
namespace Go.Proofs.YtlakgbckopjelabGreatDoor
set_option maxRecDepth 100000
open Go Go.RowKit

theorem lb_row (zs : List Int) : lb (rowOf zs) = ib zs := by
  funext i
  have := congrFun (row_bits zs 0) i
  simp only [bn, bz, Nat.zero_add] at this
  exact this

/-- The reference's next, of a stream without an error. -/
theorem rnext_c (lo hi B : Nat) (a o ra : Option Addr) (ac ol oc rc : Nat) (ls L : List Int) (p : Nat) (m : Int) (w : World) (h3 : ls.length ≤ 320) (hg : Good ls) (hL : L.length ≤ 1000000) (hb : Bin L) (hp : p ≤ L.length) (hl : Ints lo hi w a L) (hr : RAt B w ra ls) (hBw : B ≤ w.heap.size) :
    Calls Tryz.prog 58 #[.agg (sA a L.length ac p o ol oc m 0), .slice ra ls.length rc] w fun x w' => ((∃ q v, iNx ls (lb L) L.length p = .ok (q, v) ∧ v < ls.length ∧ x = .returned (.tuple #[.agg (sA a L.length ac (q : Int) o ol oc m 0), .int .i64 (v : Int)])) ∨ (∃ e, (e = 60 ∨ e = 63) ∧ iNx ls (lb L) L.length p = .error e ∧ x = .returned (.tuple #[.agg (sA a L.length ac p o ol oc m e), .int .i64 0]))) ∧ Below w.heap.size w w' := by
  obtain ⟨N, hN⟩ := longest_ex hg.fit
  refine (rnext_is lo hi B a o ra ac ol oc rc ls L p N m w h3 hg hN hL hb hp hl hr hBw).mono ?_
  rintro x w' ⟨s, n, err, hx, rfl, h2⟩
  refine ⟨?_, h2⟩
  rcases iNx_of (b := lb L) (lb_le hb) (T := L.length) (p := p) hN hx with ⟨rfl, hh, e⟩ | ⟨rfl, e⟩ | ⟨rfl, e⟩
  · exact .inl ⟨_, _, e, hh.2.1, rfl⟩
  · rcases hx with ⟨h0, _⟩ | ⟨rfl, rfl, _⟩
    · exact absurd h0 (by decide)
    · exact .inr ⟨60, .inl rfl, e, rfl⟩
  · rcases hx with ⟨h0, _⟩ | ⟨rfl, rfl, _⟩
    · exact absurd h0 (by decide)
    · exact .inr ⟨63, .inr rfl, e, rfl⟩

theorem rOrder_c (w : World) : Calls Tryz.prog 79 #[] w fun x w' => x = .returned (.slice (some ⟨w.heap.size, 0, none⟩) 19 19) ∧ w' = w.alloc (.cells (valA (iOrd.map Int.ofNat)) 3) := by
  go_enter Tryz.func79, Tryz.ntmps79
  go_wp2
  go_ret
  exact ⟨rfl, rfl⟩
end Go.Proofs.YtlakgbckopjelabGreatDoor

/- A call of the reference that tells bytes: its own state, its result's cell, and what was told, which may lie in an elder block. -/
namespace Go.Proofs.YtlakgbckopjelabGreatDoor
set_option maxRecDepth 100000
open Go Go.RowKit

/-- In a call that began in w with the value ov for what was told: the state lies at the first block, the result's cell at the second; nothing elder is written but what ov owns. -/
structure OS (B0 : Nat) (w wr : World) (ov : Value) (a : Option Addr) (al ac : Nat) (p : Int) (o : Option Addr) (oc : Nat) (m e : Int) (out : List Int) (rv : Array Value) : Prop where
  s0 : wr.heap[w.heap.size]? = some (.cells (sA a al ac p o out.length oc m e) 63 (0, 0))
  s1 : wr.heap[w.heap.size + 1]? = some (.cells rv 63 (0, 0))
  owns : OwnsB wr B0 (.slice o out.length oc) out
  kept : Kept (fun b => ov.ownBlock = some b) w wr
  old : ∀ g, (Value.slice o out.length oc).ownBlock = some g → g < w.heap.size → ov.ownBlock = some g
theorem OS.size {B0 : Nat} {w wr : World} {ov : Value} {a : Option Addr} {al ac : Nat} {p : Int} {o : Option Addr} {oc : Nat} {m e : Int} {out : List Int} {rv : Array Value} (h : OS B0 w wr ov a al ac p o oc m e out rv) : w.heap.size + 1 < wr.heap.size := lt_of_block h.s1
/-- A byte is told. -/
theorem OS.push {B0 : Nat} {w wr w4 : World} {ov : Value} {a o : Option Addr} {al ac oc g c4 : Nat} {p m e x : Int} {out : List Int} {rv : Array Value} {ob : Obj} (h : OS B0 w wr ov a al ac p o oc m e out rv)
    (hown : w4.ownsRow B0 5 1 (.slice (some ⟨g, 0, none⟩) (out.length + 1) c4) (out.length + 1) (out.map (Value.int .u8) ++ [.int .u8 x])) (hgrow : (wr.alloc ob).grownBy w4 (Value.slice o out.length oc).ownBlock)
    (hat : (Value.slice o out.length oc).ownBlock = some g ∨ g = wr.heap.size + 1) : OS B0 w (w4.setCell ⟨w.heap.size, 2, none⟩ (.slice (some ⟨g, 0, none⟩) (out.length + 1) c4)) ov a al ac p (some ⟨g, 0, none⟩) c4 m e (out ++ [x]) rv := by
  have hsz := h.size
  have hl : (out ++ [x]).length = out.length + 1 := by simp
  have hk := Kept.of_grown hgrow
  have hk2 : Kept (fun b => some b = (Value.slice o out.length oc).ownBlock) wr w4 := Kept.trans (M' := fun b => some b = (Value.slice o out.length oc).ownBlock) (b := wr.alloc ob) (Kept.alloc _ (Kept.refl _ wr) _) hk (fun _ _ h => h)
  have hz2 := hk2.size
  have n0 : ¬ some w.heap.size = (Value.slice o out.length oc).ownBlock := fun e' => ownsRow_apart h.owns h.s0 (by decide) e'.symm
  have n1 : ¬ some (w.heap.size + 1) = (Value.slice o out.length oc).ownBlock := fun e' => ownsRow_apart h.owns h.s1 (by decide) e'.symm
  have q0 := (hk2.block w.heap.size (by omega) n0).trans h.s0
  have q1 := (hk2.block (w.heap.size + 1) (by omega) n1).trans h.s1
  have hgn : g ≠ w.heap.size := by
    rcases hat with hat | hat
    · intro e'; exact n0 (by rw [hat, e'])
    · omega
  refine ⟨?_, ?_, ?_, ?_, ?_⟩
  · rw [set_of q0 2, hl]
    simp [sA]
  · rw [set_other (by omega)]; exact q1
  · have := ownsRow_kept hown ((Kept.refl (fun b => b = w.heap.size) w4).setCell (p := ⟨w.heap.size, 2, none⟩) (fun _ => rfl) (.slice (some ⟨g, 0, none⟩) (out.length + 1) c4)) (fun g' hg' e' => by
      simp [Value.ownBlock] at hg'
      omega)
    unfold OwnsB
    rw [hl]
    simpa using this
  · refine Kept.setCell (Kept.trans (M' := fun b => some b = (Value.slice o out.length oc).ownBlock) (b := wr) h.kept hk2 fun b hb e' => ?_) (fun hb => absurd hb (Nat.lt_irrefl _)) _
    exact h.old b e'.symm hb
  · intro g' hg' hlt
    simp [Value.ownBlock] at hg'
    subst hg'
    rcases hat with hat | hat
    · exact h.old g hat hlt
    · omega
theorem OS.new {B0 : Nat} {w : World} {a : Option Addr} {al ac : Nat} {p : Int} {o : Option Addr} {oc : Nat} {m e : Int} {out : List Int} (rv : Array Value) (h : OwnsB w B0 (.slice o out.length oc) out) : OS B0 w ((w.alloc (.cells (sA a al ac p o out.length oc m e) 63)).alloc (.cells rv 63)) (.slice o out.length oc) a al ac p o oc m e out rv := by
  have hT := Two.new w (sA a al ac p o out.length oc m e) rv
  exact ⟨hT.s0, hT.s1, ownsRow_kept h (Kept.of_below hT.below) (fun g hg e' => by have := (ownsRow_lt h hg).2; omega), (Kept.of_below hT.below).mono (fun i hi e' => by omega), fun g hg _ => hg⟩
/-- A callee that writes nothing elder. -/
theorem OS.stay {B0 : Nat} {w wr w2 : World} {ov : Value} {a : Option Addr} {al ac : Nat} {p : Int} {o : Option Addr} {oc : Nat} {m e : Int} {out : List Int} {rv : Array Value} (h : OS B0 w wr ov a al ac p o oc m e out rv) (k : Below wr.heap.size wr w2) : OS B0 w w2 ov a al ac p o oc m e out rv := by
  have hz := h.size
  have hz2 := h.kept.size
  exact ⟨(k.block _ (by omega)).trans h.s0, (k.block _ (by omega)).trans h.s1, ownsRow_kept h.owns (Kept.of_below k) (fun g hg e' => by have := (ownsRow_lt h.owns hg).2; omega), h.kept.trans (Kept.of_below k) (fun i hi e' => by omega), h.old⟩
/-- The state is stored, what was told as it was. -/
theorem OS.own {B0 : Nat} {w wr w2 : World} {ov : Value} {a : Option Addr} {al ac : Nat} {p : Int} {o : Option Addr} {oc : Nat} {m e : Int} {out : List Int} {rv : Array Value} {p2 e2 : Int} (h : OS B0 w wr ov a al ac p o oc m e out rv) (h2 : w2.heap[w.heap.size]? = some (.cells (sA a al ac p2 o out.length oc m e2) 63 (0, 0))) (k : Kept (fun i => i = w.heap.size) wr w2) : OS B0 w w2 ov a al ac p2 o oc m e2 out rv := by
  have hz := h.size
  exact ⟨h2, (k.block _ (by omega) (by omega)).trans h.s1, ownsRow_kept h.owns k (fun g hg e' => by subst e'; exact ownsRow_apart h.owns h.s0 (by decide) hg), h.kept.trans k (fun i hi e' => by omega), h.old⟩
/-- The place is set. -/
theorem OS.at_ {B0 : Nat} {w wr : World} {ov : Value} {a : Option Addr} {al ac : Nat} {p : Int} {o : Option Addr} {oc : Nat} {m e : Int} {out : List Int} {rv : Array Value} (h : OS B0 w wr ov a al ac p o oc m e out rv) (q : Int) : OS B0 w (wr.setCell ⟨w.heap.size, 1, none⟩ (.int .i64 q)) ov a al ac q o oc m e out rv := by
  refine h.own ?_ ((Kept.refl (fun i => i = w.heap.size) wr).setCell (fun _ => rfl) _)
  rw [set_of h.s0 1]
  simp [sA]
/-- The result is stored. -/
theorem OS.res {B0 : Nat} {w wr w2 : World} {ov : Value} {a : Option Addr} {al ac : Nat} {p : Int} {o : Option Addr} {oc : Nat} {m e : Int} {out : List Int} {rv : Array Value} {v2 : Array Value} (h : OS B0 w wr ov a al ac p o oc m e out rv) (h2 : w2.heap[w.heap.size + 1]? = some (.cells v2 63 (0, 0))) (k : Kept (fun i => i = w.heap.size + 1) wr w2) : OS B0 w w2 ov a al ac p o oc m e out v2 := by
  have hz := h.size
  exact ⟨(k.block _ (by omega) (by omega)).trans h.s0, h2, ownsRow_kept h.owns k (fun g hg e' => by subst e'; exact ownsRow_apart h.owns h.s1 (by decide) hg), h.kept.trans k (fun i hi e' => by omega), h.old⟩
end Go.Proofs.YtlakgbckopjelabGreatDoor
