/- The reference's bits and symbols, by what they answer. -/
import Derived.Test.YtlakgbckopjelabGreatDoorREnd
import Derived.Deep.RegionLaw
namespace Go.Proofs.YtlakgbckopjelabGreatDoor
set_option maxRecDepth 100000
open Go Go.RowKit

/-- Rows stay where what was told is written. -/
theorem OS.rows {B0 : Nat} {w wr : World} {ov : Value} {a : Option Addr} {al ac : Nat} {p : Int} {o : Option Addr} {oc : Nat} {m e : Int} {out out0 : List Int} {rv : Array Value} {ra : Option Addr} {ls : List Int} (h : OS B0 w wr ov a al ac p o oc m e out rv) (how : OwnsB w B0 ov out0) (hr : RAt2 w ra ls) : RAt2 wr ra ls :=
  hr.kept h.kept (fun _ _ _ hb h5 _ e9 => ownsRow_apart how hb h5 e9)

def zA : Array Value := #[.slice none 0 0, .int .i64 0, .slice none 0 0, .int .i64 0, .int .i64 0]

theorem rnext_got {lo hi : Nat} {a o ra : Option Addr} {ac ol oc rc : Nat} {ls L : List Int} {p : Nat} {m : Int} {w : World} (h3 : ls.length ≤ 320) (hg : Good ls) (hL : L.length ≤ 1000000) (hb : Bin L) (hp : p ≤ L.length) (hl : Ints lo hi w a L) (hr : RAt2 w ra ls) {q v : Nat} (hx : iNx ls (lb L) L.length p = .ok (q, v)) :
    Calls Tryz.prog 58 #[.agg (sA a L.length ac p o ol oc m 0), .slice ra ls.length rc] w fun x w' => x = .returned (.tuple #[.agg (sA a L.length ac (q : Int) o ol oc m 0), .int .i64 (v : Int)]) ∧ Below w.heap.size w w' := by
  refine (rnext_c lo hi w.heap.size a o ra ac ol oc rc ls L p m w h3 hg hL hb hp hl hr.at_ (Nat.le_refl _)).mono ?_
  rintro x w' ⟨⟨q', v', e, _, rfl⟩ | ⟨e, _, e', _⟩, hb⟩
  · rw [hx] at e; cases e; exact ⟨rfl, hb⟩
  · rw [hx] at e'; cases e'
theorem rnext_bad {lo hi : Nat} {a o ra : Option Addr} {ac ol oc rc : Nat} {ls L : List Int} {p : Nat} {m : Int} {w : World} (h3 : ls.length ≤ 320) (hg : Good ls) (hL : L.length ≤ 1000000) (hb : Bin L) (hp : p ≤ L.length) (hl : Ints lo hi w a L) (hr : RAt2 w ra ls) {e : Int} (hx : iNx ls (lb L) L.length p = .error e) :
    Calls Tryz.prog 58 #[.agg (sA a L.length ac p o ol oc m 0), .slice ra ls.length rc] w fun x w' => x = .returned (.tuple #[.agg (sA a L.length ac p o ol oc m e), .int .i64 0]) ∧ Below w.heap.size w w' := by
  refine (rnext_c lo hi w.heap.size a o ra ac ol oc rc ls L p m w h3 hg hL hb hp hl hr.at_ (Nat.le_refl _)).mono ?_
  rintro x w' ⟨⟨q', v', e, _, rfl⟩ | ⟨e, _, e', rfl⟩, hb⟩
  · rw [hx] at e; cases e
  · rw [hx] at e'; cases e'; exact ⟨rfl, hb⟩
theorem rbits_got {lo hi : Nat} {a o : Option Addr} {ac ol oc : Nat} {L : List Int} {p n : Nat} {m : Int} {w : World} (hL : L.length ≤ 1000000) (hb : Bin L) (hi_ : Ints lo hi w a L) (hn : n ≤ 16) {q v : Nat} (hx : iTk (lb L) L.length p n = .ok (q, v)) (ni : Int) (hni : ni = n) :
    Calls Tryz.prog 30 #[.agg (sA a L.length ac p o ol oc m 0), .int .i64 ni] w fun x w' => x = .returned (.tuple #[.agg (sA a L.length ac (q : Int) o ol oc m 0), .int .i64 (v : Int)]) ∧ Below w.heap.size w w' := by
  subst hni
  obtain ⟨rfl, h2, rfl⟩ := iTk_got hx
  exact rbits_yes lo hi a o ac ol oc L p n m w hL hb hi_ hn h2
theorem rbits_bad {a o : Option Addr} {ac ol oc : Nat} {L : List Int} {p n : Nat} {m : Int} {w : World} (hp : p ≤ L.length) (hn : n ≤ 16) {e : Int} (hx : iTk (lb L) L.length p n = .error e) (ni : Int) (hni : ni = n) :
    Calls Tryz.prog 30 #[.agg (sA a L.length ac p o ol oc m 0), .int .i64 ni] w fun x w' => x = .returned (.tuple #[.agg (sA a L.length ac p o ol oc m e), .int .i64 0]) ∧ Below w.heap.size w w' := by
  subst hni
  by_cases h : p + n ≤ L.length
  · rw [iTk_ok h] at hx; cases hx
  · rw [iTk_err (by omega)] at hx
    cases hx
    exact rbits_no a o L.length ac ol oc p n m 0 w hn hp (.inr (by omega))
theorem iTk_e {b : Nat → Nat} {T p n : Nat} {e : Int} (h : iTk b T p n = .error e) : e = 60 := by
  by_cases hl : T < p + n
  · rw [iTk_err hl] at h; cases h; rfl
  · rw [iTk_ok (by omega)] at h; cases h
theorem iNx_e {ls : List Int} {b : Nat → Nat} {T p : Nat} {e : Int} (h : iNx ls b T p = .error e) : 60 ≤ e ∧ e ≤ 65 := by have := (iNx_failed h).2; omega

theorem kg_of {wr w4 : World} {ob : Obj} {row : Option Nat} (hgrow : (wr.alloc ob).grownBy w4 row) : Kept (fun b => some b = row) wr w4 :=
  Kept.trans (M' := fun b => some b = row) (b := wr.alloc ob) (Kept.alloc _ (Kept.refl _ wr) _) (Kept.of_grown hgrow) (fun _ _ h => h)
end Go.Proofs.YtlakgbckopjelabGreatDoor
