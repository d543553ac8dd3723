/- A dynamic block's head is as long whenever it is laid; of like bytes the stream is short. -/
import Derived.Test.YtlakgbckopjelabGreatDoorE10DDef
namespace Go.Proofs.YtlakgbckopjelabGreatDoor
set_option maxRecDepth 100000
open Go Go.RowKit

/-- The cost of best lengths is one. -/
theorem cst_same {ls F F' : List Int} {n : Nat} (h : L.LGoodR ls n F) (h' : L.LGoodR ls n F') : L.cst (L.zOf ls F (L.occ ls ls.length)) = L.cst (L.zOf ls F' (L.occ ls ls.length)) := by
  rcases Nat.lt_or_ge (L.occ ls ls.length).length 2 with h2 | h2
  · have e : L.zOf ls F (L.occ ls ls.length) = L.zOf ls F' (L.occ ls ls.length) := by
      unfold L.zOf
      apply List.map_congr_left
      intro x hx
      obtain ⟨i, rfl, hi, h0⟩ := (L.occ_mem ls ls.length x).1 hx
      have h1 : (L.occ ls ls.length).length = 1 := by have := List.length_pos_of_mem hx; omega
      simp only [L.keyOf, Int.toNat_natCast]
      rw [h.one h1 i hi h0, h'.one h1 i hi h0]
    rw [e]
  · rw [(h.best h2).cost, (h'.best h2).cost, L.zOf_fst, L.zOf_fst]
theorem mks_len {F : List Int} (hF : Fit F) (ms : List Mk) : ((ms.flatMap (mkB F)).length : Int) = mco false F (ms.map fun m => (false, m)) + ((ms.map fun m => m.2.2).sum : Nat) := by
  induction ms with
  | nil => simp [mco]
  | cons m r ih =>
    have h1 := ln_fit hF m.1
    have e : mco false F ((m :: r).map fun m => (false, m)) = ln F m.1 + mco false F (r.map fun m => (false, m)) := by simp [mco]
    rw [List.flatMap_cons, List.length_append, mkB_length, e, List.map_cons, List.sum_cons]
    omega
theorem LLOk.mco {S D F : List Int} {many : Nat} (h : LLOk S D F many) (hl : (inN (S ++ D)).length ≤ 1000) : mco false F ((inN (S ++ D)).map fun m => (false, m)) = ((L.cst (L.zOf (tlm (inN (S ++ D))) F (L.occ (tlm (inN (S ++ D))) (tlm (inN (S ++ D))).length)) : Nat) : Int) := by
  have hlen : ((inN (S ++ D)).map fun m => (false, m)).length ≤ 1000 := by rw [List.length_map]; exact hl
  have hA : L.Alw (tlm (inN (S ++ D))) 7 := ⟨by rw [tlm_length]; decide, by decide, by decide, fun i _ => by
    have := tly_le false 19 ((inN (S ++ D)).map fun m => (false, m)) i
    exact ⟨this.1, Int.le_trans this.2 (by omega)⟩⟩
  have h1 := cost_tly false F 19 ((inN (S ++ D)).map fun m => (false, m)) (check_good h.inn.chk).fit (by omega) (fun x hx _ => by
    obtain ⟨m, hm, rfl⟩ := List.mem_map.1 hx
    have := (h.inn.has m hm).1
    rw [h.inn.len] at this
    exact ⟨this, by rw [h.inn.len]; exact this⟩)
  rw [← h1]
  exact h.good.cost hA
theorem LLOk.zero {S D F F' : List Int} {many many' : Nat} (h : LLOk S D F many) (h' : LLOk S D F' many') (hl : (inN (S ++ D)).length ≤ 1000) (i : Nat) (hi : i < 19) : ln F i = 0 ↔ ln F' i = 0 := by
  have hA : L.AlwTo (tlm (inN (S ++ D))) (tlm (inN (S ++ D))).length := fun i _ => by
    have := tly_le false 19 ((inN (S ++ D)).map fun m => (false, m)) i
    rw [List.length_map] at this
    exact ⟨this.1, Int.le_trans this.2 (by omega)⟩
  have v := h.good.valid hA (by decide) i (by rw [tlm_length]; exact hi)
  have v' := h'.good.valid hA (by decide) i (by rw [tlm_length]; exact hi)
  have e1 : L.ln F i = ln F i := rfl
  have e2 : L.ln F' i = ln F' i := rfl
  rw [e1] at v
  rw [e2] at v'
  omega
theorem LLOk.many_le {S D F F' : List Int} {many many' : Nat} (h : LLOk S D F many) (h' : LLOk S D F' many') (hl : (inN (S ++ D)).length ≤ 1000) : many' ≤ many := by
  rcases Nat.lt_or_ge many many' with hlt | hge
  · have a := h.m0
    have b := h'.m1
    rcases h'.ml with e | e
    · omega
    · have z := h.mz (many' - 1) (by omega) (by omega)
      have o := (ord_lt ⟨many' - 1, by omega⟩).1
      exact absurd ((h.zero h' hl _ o).1 z) e
  · exact hge
theorem hd_same {k : Nat} {S D H H' : List Int} (h : HdIs k S D H) (h' : HdIs k S D H') : H.length = H'.length := by
  rcases h with ⟨rfl, rfl⟩ | ⟨rfl, hsd, F, many, hll, rfl⟩
  · rcases h' with ⟨_, rfl⟩ | ⟨h, _⟩
    · rfl
    · omega
  · rcases h' with ⟨h, _⟩ | ⟨_, _, F', many', hll', rfl⟩
    · omega
    · have hs1 := hsd.s1
      have hd1 := hsd.d1
      have hil := inN_len _ (S ++ D) rfl
      rw [List.length_append] at hil
      have hl : (inN (S ++ D)).length ≤ 1000 := by omega
      have hm : many = many' := Nat.le_antisymm (hll'.many_le hll hl) (hll.many_le hll' hl)
      subst hm
      have m1 := mks_len (check_good hll.inn.chk).fit (inN (S ++ D))
      have m2 := mks_len (check_good hll'.inn.chk).fit (inN (S ++ D))
      rw [hll.mco hl] at m1
      rw [hll'.mco hl, ← cst_same hll.good hll'.good] at m2
      unfold hdB
      simp only [List.length_append, bitsN_length, innB_length]
      omega
theorem bl_size {k : Nat} {last : Bool} {H S D : List Int} {ts : List M.Tk} (hS : Fit S) (hD : Fit D) : ((blB k last H S D ts).length : Int) = szB k H S D ts + (fur (emk ts) : Nat) := by
  have := eB_len hS hD (emk ts)
  unfold blB szB
  rw [List.length_append, List.length_append, knd_length, ← eB_dat]
  omega
theorem fix9 (v : Nat) : (ln iFix v).toNat ≤ 9 := by
  have key : ∀ x : Fin 288, (ln iFix x.val).toNat ≤ 9 := by decide +kernel
  by_cases h : v < 288
  · exact key ⟨v, h⟩
  · unfold ln; rw [List.getD_eq_getElem?_getD, List.getElem?_eq_none (by rw [iFix_length]; omega)]; simp
theorem five5 (v : Nat) : (ln iFive v).toNat ≤ 5 := by
  by_cases h : v < 32
  · rw [iFive_ln h]; decide
  · unfold ln; rw [List.getD_eq_getElem?_getD, List.getElem?_eq_none (by rw [iFive_length]; omega)]; simp
theorem tok32 {t : M.Tk} (h : (t.2.1 = 0 ∧ 0 ≤ t.1 ∧ t.1 ≤ 255) ∨ (3 ≤ t.2.1 ∧ t.2.1 ≤ 258 ∧ 1 ≤ t.2.2 ∧ t.2.2 ≤ 32768)) : (tokB iFix iFive t).length ≤ 32 := by
  unfold tokB
  split
  · rw [mkB_length]; have := fix9 t.1.toNat; simp only; omega
  · rename_i h0
    have h' := h.resolve_left (fun e => h0 e.1)
    have a1 := lmk_ok t.2.1.toNat (by omega)
    have a2 := bmk_ok t.2.2.toNat (by omega)
    have a3 := fix9 (lmk t.2.1.toNat).1
    have a4 := five5 (bmk t.2.2.toNat).1
    rw [List.length_append, mkB_length, mkB_length]
    omega
theorem dat32 : ∀ ts : List M.Tk, TOk ts → (datB iFix iFive ts).length ≤ 32 * ts.length + 9
  | [], _ => by
    have := fix9 256
    simp only [datB, List.flatMap_nil, List.nil_append, mkB_length, List.length_nil]
    omega
  | t :: r, h => by
    have h1 := tok32 (h t (List.mem_cons_self ..))
    have h2 := dat32 r (fun x hx => h x (List.mem_cons_of_mem _ hx))
    rw [datB_cons, List.length_append, List.length_cons]
    omega
/-- Of like bytes the tokens are few. -/
theorem like_few {zs : List Int} {ts : List M.Tk} (hl : ∀ i, i < zs.length → M.ln zs i = M.ln zs 0) (h : M.FdTo zs zs.length ts) : ts.length ≤ (zs.length + 516) / 258 + 2 := by
  have := h.like hl
  omega
theorem like_len {zs X : List Int} {lv : Int} (h : DefIs zs lv X) (hlv : 1 ≤ lv) (hl : ∀ i, i < zs.length → M.ln zs i = M.ln zs 0) (h4 : 4 ≤ zs.length) : X.length ≤ 20 + zs.length / 50 := by
  obtain ⟨ts, k, S, D, H0, H, hr, hb, _, hle, hfd, hbk, hH0, hH, hsz, hX⟩ := h.2 hlv
  have hfew := like_few hl hfd
  have hS := (check_good hbk.cs).fit
  have hD := (check_good hbk.cd).fit
  have b1 := bl_size (k := k) (last := true) (H := H) (ts := ts) hS hD
  have b2 := bl_size (k := 1) (last := true) (H := []) (ts := ts) iFix_good.fit iFive_good.fit
  have hs := hd_same hH hH0
  have e : szB k H S D ts = szB k H0 S D ts := by unfold szB; rw [hs]
  have d := dat32 ts (TOk.of hr hb)
  have b3 : (blB 1 true [] iFix iFive ts).length = 3 + (datB iFix iFive ts).length := by unfold blB; rw [List.length_append, List.nil_append, knd_length]
  have hlen : (dataL (blB k true H S D ts)).length ≤ 20 + zs.length / 50 := by
    rw [dataL_length]
    omega
  rcases hX with ⟨rfl, _⟩ | ⟨rfl, h⟩
  · exact hlen
  · omega
end Go.Proofs.YtlakgbckopjelabGreatDoor
