/- The stream's lengths: contract. -/
import Derived.Test.YtibolmgijaploaaDoorPInner
namespace Go.Proofs.YtibolmgijaploaaDoor
set_option maxRecDepth 100000
open Go Go.RowKit

theorem iLoop_step {σ : Type} {T : Nat} {f : Nat → σ → Except Int (Nat × (Bool × σ))} {p q : Nat} {s t : σ} {c : Bool} (h : f p s = .ok (q, (c, t))) (h1 : p < q) (h2 : q ≤ T) : iLoop T f p s = if c = true then iLoop T f q t else .ok (q, t) := by
  cases c with
  | true => rw [iLoop_on h h1 h2]; rfl
  | false => rw [iLoop_end h]; rfl
theorem iLen_err {first : List Int} {many : Nat} {b : Nat → Nat} {T p : Nat} {all : List Int} {e : Int} (h : iNx first b T p = .error e) : iLen first many b T p all = .error e := by unfold iLen; rw [iThen_of_err h]
theorem iLen_one {first : List Int} {many : Nat} {b : Nat → Nat} {T p q v : Nat} {all : List Int} (h : iNx first b T p = .ok (q, v)) (hv : v < 16) : iLen first many b T p all = .ok (q, (decide (all.length + 1 < many), all ++ [(v : Int)])) := by
  unfold iLen; rw [iThen_of_ok h, if_pos hv]
theorem iLen_none {first : List Int} {many : Nat} {b : Nat → Nat} {T p q : Nat} {all : List Int} (h : iNx first b T p = .ok (q, 16)) (h0 : all.length = 0) : iLen first many b T p all = .error 63 := by
  unfold iLen; rw [iThen_of_ok h, if_neg (by decide), if_pos ⟨rfl, h0⟩]
theorem iLen_bad {first : List Int} {many : Nat} {b : Nat → Nat} {T p q v n : Nat} {all : List Int} {e : Int} (h : iNx first b T p = .ok (q, v)) (hv : 16 ≤ v) (h0 : ¬ (v = 16 ∧ all.length = 0)) (hn : (if v = 16 then 2 else if v = 17 then 3 else 7) = n) (ht : iTk b T q n = .error e) : iLen first many b T p all = .error e := by
  unfold iLen; rw [iThen_of_ok h, if_neg (by omega), if_neg h0, hn, iThen_of_err ht]
theorem iLen_over {first : List Int} {many : Nat} {b : Nat → Nat} {T p q q2 v n k x : Nat} {all : List Int} (h : iNx first b T p = .ok (q, v)) (hv : 16 ≤ v) (h0 : ¬ (v = 16 ∧ all.length = 0)) (hn : (if v = 16 then 2 else if v = 17 then 3 else 7) = n) (hk : (if v = 18 then 11 else 3) = k) (ht : iTk b T q n = .ok (q2, x)) (ho : many < all.length + (k + x)) : iLen first many b T p all = .error 63 := by
  unfold iLen; rw [iThen_of_ok h, if_neg (by omega), if_neg h0, hn, iThen_of_ok ht, hk, if_pos (by omega)]
theorem iLen_more {first : List Int} {many : Nat} {b : Nat → Nat} {T p q q2 v n k x : Nat} {all : List Int} {L : Int} (h : iNx first b T p = .ok (q, v)) (hv : 16 ≤ v) (h0 : ¬ (v = 16 ∧ all.length = 0)) (hn : (if v = 16 then 2 else if v = 17 then 3 else 7) = n) (hk : (if v = 18 then 11 else 3) = k) (hL : (if v = 16 then ln all (all.length - 1) else 0) = L) (ht : iTk b T q n = .ok (q2, x)) (ho : all.length + (k + x) ≤ many) :
    iLen first many b T p all = .ok (q2, (decide (all.length + (k + x) < many), all ++ List.replicate (k + x) L)) := by
  unfold iLen; rw [iThen_of_ok h, if_neg (by omega), if_neg h0, hn, iThen_of_ok ht, hk, hL, if_neg (by omega), Nat.add_comm x k]

theorem made_none (n : Nat) (i : TypeInfo) (hi : Tryd.prog.info? 3 = some i) (hz : i.zero = some (.int .i64 0)) (hs : i.size = 1) (hb : i.bytes = 8) (hn : n ≤ 1000000000) (W : World) :
    (Instr.makeSlice 43 (.int .i64 0) (.int .i64 (n : Int))).run Tryd.prog W = .ok (.slice (some ⟨W.heap.size, 0, none⟩) 0 n) (W.alloc (.cells (valA (List.replicate n 0)) 3)) := by
  have := run_make (P := Tryd.prog) W 43 3 i (.int .i64 0) Tryd.underlying43 hi hz .i64 .i64 0 n (by omega) (by omega) (by rw [hb]; omega) (by omega)
  rw [this, hs]
  have e2 : madeCells (Value.int .i64 0).cells n = valA (List.replicate n 0) := by
    have := toList_madeCells_one (Value.int .i64 0) n
    rw [← Array.toList_inj]
    simpa [Value.cells, valA] using this
  rw [Int.toNat_natCast, Nat.mul_one, e2]
  rfl
theorem own_none {B g n : Nat} {w : World} (h : w.heap[g]? = some (.cells (valA (List.replicate n 0)) 3 (0, 0))) (hB : B ≤ g) (hn : n ≤ 1000000000) : Owns w B (.slice (some ⟨g, 0, none⟩) 0 n) [] := by
  refine ⟨by simp, .inr ⟨g, n, _, rfl, hB, h, by simp, by unfold maxLen; omega, ?_, ?_⟩⟩
  · simp [valA]
  · simp

/-- While lengths are read: the call began in w. -/
structure LW (br : Nat) (a : Option Addr) (len cap : Nat) (w wr : World) (p : Nat) (v : Value) (all : List Int) : Prop where
  kept : Kept (fun b => b = br) w wr
  rd : wr.heap[br]? = some (.cells (rA a len cap p) 54 (0, 0))
  owns : Owns wr w.heap.size v all
  pl : p ≤ len * 8
section
variable {B bs br : Nat} {a : Option Addr} {len cap : Nat} {zs : List Int} {m : Nat} {w wr w' : World} {p : Nat} {o : Option Addr} {oc : Nat} {fc : Value} {out : List Int}
theorem LW.move {v : Value} {all : List Int} {q : Nat} {w2 : World} (h : LW br a len cap w wr p v all) (hbr : br < w.heap.size) (k : Kept (fun b => b = br) wr w2) (hr : w2.heap[br]? = some (.cells (rA a len cap q) 54 (0, 0))) (hq : q ≤ len * 8) : LW br a len cap w w2 q v all :=
  ⟨h.kept.trans k (fun _ _ e => e), hr, h.owns.kept k (fun g hg e => by have := (ownsRow_lt h.owns hg).1; omega), hq⟩
theorem LW.push {v v' : Value} {all : List Int} {x : Int} {w4 : World} {ob : Obj} (h : LW br a len cap w wr p v all) (hbr : br < w.heap.size) (hown : w4.ownsRow w.heap.size 3 1 v' (all.length + 1) (all.map (Value.int .i64) ++ [.int .i64 x])) (hgrow : (wr.alloc ob).grownBy w4 v.ownBlock) : LW br a len cap w w4 p v' (all ++ [x]) := by
  have hk := Kept.of_grown hgrow
  have hz := h.kept.size
  have hk2 : Kept (fun b => some b = v.ownBlock) wr w4 := Kept.trans (M' := fun b => some b = v.ownBlock) (b := wr.alloc ob) (Kept.alloc _ (Kept.refl _ wr) _) hk (fun _ _ h => h)
  refine ⟨h.kept.trans hk2 (fun i hi e => ?_), hk2.heap h.rd (fun e => ?_), Owns.push hown, h.pl⟩
  · have := (ownsRow_lt h.owns e.symm).1; omega
  · have := (ownsRow_lt h.owns e.symm).1; omega
def LGot (br : Nat) (a : Option Addr) (len cap : Nat) (w : World) (q : Nat) (all : List Int) (x : Ending) (w' : World) : Prop :=
  ∃ al ac, x = .returned (.tuple #[.slice al all.length ac, .int .i64 0]) ∧ LW br a len cap w w' q (.slice al all.length ac) all
def LBad (br : Nat) (w : World) (e : Int) (x : Ending) (w' : World) : Prop := x = .returned (.tuple #[.slice none 0 0, .int .i64 e]) ∧ Kept (fun b => b = br) w w' ∧ 60 ≤ e ∧ e ≤ 65
def LOk (br : Nat) (a : Option Addr) (len cap : Nat) (w : World) (r : Except Int (Nat × List Int)) (x : Ending) (w' : World) : Prop := (∃ q f, r = .ok (q, f) ∧ LGot br a len cap w q f x w') ∨ (∃ e, r = .error e ∧ LBad br w e x w')
theorem LOk.got {r : Except Int (Nat × List Int)} {x : Ending} {q : Nat} {f : List Int} (hr : r = .ok (q, f)) (h : LOk br a len cap w r x w') : LGot br a len cap w q f x w' := by
  subst hr
  obtain ⟨q', c', e, h⟩ | ⟨e, h', _⟩ := h
  · cases e; exact h
  · cases h'
theorem LOk.bad {r : Except Int (Nat × List Int)} {x : Ending} {e : Int} (hr : r = .error e) (h : LOk br a len cap w r x w') : LBad br w e x w' := by
  subst hr
  obtain ⟨q', c', e, h⟩ | ⟨e, h', h⟩ := h
  · cases e
  · cases h'; exact h
/-- Lengths, wherever they lie. -/
def LX (br : Nat) (a : Option Addr) (len cap : Nat) (w wr : World) (p : Nat) (v : Value) (all : List Int) : Prop := ∃ al ac, v = .slice al all.length ac ∧ LW br a len cap w wr p v all

set_option maxHeartbeats 16000000 in
theorem lengths_c (h : SS B bs br a len cap zs m w p o oc fc out) (hl8 : len * 8 ≤ 9223372036854775000) {lo hi bc gl gc : Nat} {vo : Value} {N : Nat} {first : List Int} (hc : CodeAt lo hi w bc gl gc vo N first) (hg : Good first) (h19 : first.length = 19) (hbr : br < lo ∨ hi ≤ br) (many : Nat) (mi : Int) (hmi : mi = many) (hm0 : 1 ≤ many) (hm1 : many ≤ 1000) :
    Calls Tryd.prog 41 #[.pointer (some ⟨bs, 0, none⟩), .pointer (some ⟨bc, 0, none⟩), .int .i64 mi] w (LOk br a len cap w (iAll first many (ib zs) (len * 8) p)) := by
  subst hmi
  obtain ⟨i0, hi0, hz0, hz1, hz2⟩ := info_parts Tryd.info3
  have hmk := made_none many i0 hi0 hz0 hz1 hz2 (by omega)
  obtain ⟨R, hR⟩ : ∃ R, R = iAll first many (ib zs) (len * 8) p := ⟨_, rfl⟩
  rw [← hR]
  have H0 := hide h
  have HC := hide hc
  have HG := hide hg
  have H19 := hide h19
  have hbrw := lt_of_block h.rd
  have hpl := h.pl
  have HL0 : Hid (LW br a len cap w (w.alloc (.cells (valA (List.replicate many 0)) 3)) p (.slice (some ⟨w.heap.size, 0, none⟩) 0 many) []) := ⟨Kept.alloc _ (Kept.refl _ w) _, heap_old h.rd, own_none (heap_new _ _) (Nat.le_refl _) (by omega), h.pl⟩
  have HR0 : Hid (R = if ([] : List Int).length < many then iLoop (len * 8) (iLen first many (ib zs) (len * 8)) p [] else .ok (p, [])) := by rw [hR, if_pos (show ([] : List Int).length < many by simp; omega)]; exact rfl
  clear h hc hg h19 hR
  generalize valA (List.replicate many 0) = ZZ at hmk HL0
  go_enter Tryd.func41, Tryd.ntmps41
  go_wp2_with fail
  go_step3
  go_wp2_with fail
  go_step3
  go_wp2_with fail
  go_loopg [8, 9] (len * 8 - p) (fun gk v8 v9 wx => ∃ (p' : Nat) (all : List Int) (_ : p' + gk = len * 8) (_ : all.length ≤ many), v9 = .int .i64 0 ∧ Hid (R = if all.length < many then iLoop (len * 8) (iLen first many (ib zs) (len * 8)) p' all else .ok (p', all)) ∧ Hid (LX br a len cap w wx p' v8 all))
  case atStart => exact ⟨p, [], by omega, by simp, rfl, HR0, _, _, rfl, HL0.out⟩
  case round =>
    obtain ⟨p', all, hpg, hal, rfl, HR, HX⟩ := hrel
    obtain ⟨al, ac, rfl, hLW⟩ := HX.out
    have HL := hide hLW
    clear hLW HX HL0 HR0
    by_cases hlt : all.length < many
    case neg =>
      have HRE : Hid (R = .ok (p', all)) := by rw [HR.out, if_neg hlt]; exact rfl
      have hlt' : ¬ (all.length : Int) < many := by omega
      clear HR
      go_wp2_with fail
      go_ret2
      exact .inl ⟨p', all, HRE.out, al, ac, rfl, HL.out⟩
    case pos =>
    have hlt' : (all.length : Int) < many := by omega
    replace HR : Hid (R = iLoop (len * 8) (iLen first many (ib zs) (len * 8)) p' all) := by rw [HR.out, if_pos hlt]; exact rfl
    have HS := hide (H0.out.move HL.out.kept HL.out.rd HL.out.pl)
    have hS := symbol_c HS.out hl8 (HC.out.kept HL.out.kept (fun b h1 h2 e => by omega)) HG.out (by rw [H19.out]; decide) hbr
    rcases h1 : iNx first (ib zs) (len * 8) p' with e | ⟨q1, v⟩
    · rw [h1] at hS
      have HSy := hide (hS.mono fun _ _ => NOk.bad rfl)
      have HRE := hide (HR.out.trans (iLoop_err (iLen_err h1)))
      clear hS h1 HR
      go_wp2_with (go_at_call 54; refine HSy.out.mono ?_; rintro x w1 ⟨rfl, k1, e1, e2⟩; have K1 := hide (HL.out.kept.trans k1 (fun _ _ e => e)); clear k1)
      go_ret2
      exact .inr ⟨e, HRE.out, rfl, K1.out, e1, e2⟩
    obtain ⟨hv, hpq⟩ := iNx_lt h1
    rw [H19.out] at hv
    rw [h1] at hS
    have HSy := hide (hS.mono fun _ _ => NOk.got rfl)
    clear hS
    by_cases hv16 : v < 16
    · have hO := iLen_one (many := many) (all := all) h1 hv16
      have hgo := iGo_len first many (ib zs) (len * 8) p' all q1 _ hO
      have HRE : Hid (R = if (all ++ [(v : Int)]).length < many then iLoop (len * 8) (iLen first many (ib zs) (len * 8)) q1 (all ++ [(v : Int)]) else .ok (q1, all ++ [(v : Int)])) := hide (by
        have := HR.out.trans (iLoop_step hO hgo.1 hgo.2)
        simpa using this)
      have hql := hgo.2
      have hv16' : (v : Int) < 16 := by omega
      clear hO hgo h1 HR
      go_wp2_with (first
        | (go_at_call 54; refine HSy.out.mono ?_; rintro x w1 ⟨rfl, k1, r1, l1⟩; have L1 := hide (HL.out.move hbrw k1 r1 l1); clear k1 r1)
        | (at_builtin; refine wpList_append_own _ rfl _ _ 43 rfl w.heap.size 3 i0 (.int .i64 0) 1 8 Tryd.underlying43 hi0 hz0 hz1 hz2 rfl (by decide) (.slice al all.length ac) all.length (all.map (Value.int .i64)) rfl (World.ownsRow.alloc L1.out.owns _) ⟨w1.heap.size, 0, none⟩ 1 1 [.int .i64 (v : Int)] rfl rfl (one_int w1 _) (by intro u hu; simp at hu; subst hu; rfl) (by unfold maxLen; omega) (by omega) (by have := L1.out.kept.size; simp; omega) ?_; intro v' w2 hown' hgrow hnil; obtain ⟨a2, c2, rfl⟩ := own_form hown'; have L2 := hide (L1.out.push hbrw hown' hgrow); clear hown' hgrow hnil))
      go_roundg (len * 8 - q1)
      case measure => omega
      case rel => exact ⟨q1, all ++ [(v : Int)], by omega, by simp; omega, rfl, HRE, a2, c2, by simp, L2.out⟩
    by_cases hnone : v = 16 ∧ all.length = 0
    · obtain ⟨rfl, h0⟩ := hnone
      have HRE := hide (HR.out.trans (iLoop_err (iLen_none h1 h0)))
      have h0' : (all.length : Int) = 0 := by omega
      clear h1 HR hv16
      go_wp2_with (go_at_call 54; refine HSy.out.mono ?_; rintro x w1 ⟨rfl, k1, r1, l1⟩; have L1 := hide (HL.out.move hbrw k1 r1 l1); clear k1 r1)
      go_ret2
      exact .inr ⟨63, HRE.out, rfl, L1.out.kept, by decide, by decide⟩
    have h3 : v = 16 ∨ v = 17 ∨ v = 18 := by omega
    rcases h3 with rfl | rfl | rfl
    · -- v = 16
      have hpos : 0 < all.length := by omega
      obtain ⟨j, hj⟩ : ∃ j, all.length = j + 1 := ⟨all.length - 1, by omega⟩
      have hji : (all.length : Int) - 1 = (j : Int) := by omega
      have hjl : (j : Int) < (all.length : Int) := by omega
      obtain ⟨x, hx⟩ : ∃ x, x = ln all (all.length - 1) := ⟨_, rfl⟩
      obtain ⟨gA, rfl, hgA⟩ : ∃ g, al = some ⟨g, 0, none⟩ ∧ g < wr.heap.size := by
        obtain ⟨g, c9, hv9, _, hlt9⟩ := World.ownsRow.form HL.out.owns hpos
        simp at hv9
        exact ⟨g, hv9.1, hlt9⟩
      have HCJ : Hid (∀ wz v9, LW br a len cap w wz v9 (.slice (some ⟨gA, 0, none⟩) all.length ac) all → wz.cell? ⟨gA, j, none⟩ = some (.int .i64 x)) := fun wz v9 hw => by
        rw [World.ownsRow.cellAt hw.owns j (by omega), hx, hj]
        simp [ln, List.getD, hj]
      have h0' : ¬ (all.length : Int) = 0 := by omega
      have hTm := fun w1 (s : SS B bs br a len cap zs m w1 q1 o oc fc out) => times_c s hl8 16 2 3 (by decide)
      rcases h2 : iTk (ib zs) (len * 8) q1 2 with e | ⟨q2, t⟩
      · rw [h2] at hTm
        have HTm := fun w1 s => hide ((hTm w1 s).mono fun _ _ => NOk.bad rfl)
        have HRE := hide (HR.out.trans (iLoop_err (iLen_bad h1 (by decide) hnone rfl h2)))
        clear hTm h1 h2 HR hnone hv16 hj hx
        go_wp2_with (first
          | (go_at_call 54; refine HSy.out.mono ?_; rintro x w1 ⟨rfl, k1, r1, l1⟩; have L1 := hide (HL.out.move hbrw k1 r1 l1); have cj := HCJ.out _ _ L1.out; clear k1 r1)
          | (go_at_call 56; refine (HTm w1 (H0.out.move L1.out.kept L1.out.rd L1.out.pl)).out.mono ?_; rintro x w2 ⟨rfl, k2, e1, e2⟩; have K2 := hide (L1.out.kept.trans k2 (fun _ _ e => e)); clear k2))
        go_ret2
        exact .inr ⟨e, HRE.out, rfl, K2.out, e1, e2⟩
      have ht := iTk_lt (ib_le zs) h2
      rw [h2] at hTm
      have HTm := fun w1 s => hide ((hTm w1 s).mono fun _ _ => NOk.got rfl)
      clear hTm
      by_cases hov : many < all.length + (3 + t)
      · have HRE := hide (HR.out.trans (iLoop_err (iLen_over h1 (by decide) hnone rfl rfl h2 hov)))
        obtain ⟨tm, htm⟩ : ∃ tm, tm = 3 + t := ⟨_, rfl⟩
        rw [← htm] at HTm hov
        have hov' : (many : Int) - (all.length : Int) < (tm : Int) := by omega
        clear h1 h2 HR hnone hv16 hj hx
        go_wp2_with (first
          | (go_at_call 54; refine HSy.out.mono ?_; rintro x w1 ⟨rfl, k1, r1, l1⟩; have L1 := hide (HL.out.move hbrw k1 r1 l1); have cj := HCJ.out _ _ L1.out; clear k1 r1)
          | (go_at_call 56; refine (HTm w1 (H0.out.move L1.out.kept L1.out.rd L1.out.pl)).out.mono ?_; rintro x w2 ⟨rfl, k2, r2, l2⟩; have K2 := hide (L1.out.kept.trans k2 (fun _ _ e => e)); clear k2 r2))
        go_ret2
        exact .inr ⟨63, HRE.out, rfl, K2.out, by decide, by decide⟩
      · have hO := iLen_more (many := many) (k := 3) (L := x) h1 (by decide) hnone rfl rfl (by rw [if_pos rfl, ← hx]) h2 (by omega)
        have hgo := iGo_len first many (ib zs) (len * 8) p' all q2 _ hO
        obtain ⟨tm, htm⟩ : ∃ tm, tm = 3 + t := ⟨_, rfl⟩
        rw [← htm] at HTm hov hO
        have htmB : tm ≤ 200 := by omega
        have HRE : Hid (R = if (all ++ List.replicate tm x).length < many then iLoop (len * 8) (iLen first many (ib zs) (len * 8)) q2 (all ++ List.replicate tm x) else .ok (q2, all ++ List.replicate tm x)) := hide (by
          have := HR.out.trans (iLoop_step hO hgo.1 hgo.2)
          simpa using this)
        have hql := hgo.2
        have hpq2 := hgo.1
        have hov' : ¬ (many : Int) - (all.length : Int) < (tm : Int) := by omega
        clear hO hgo h1 h2 HR hnone hv16 htm ht hj hx
        go_wp2_with (first
          | (go_at_call 54; refine HSy.out.mono ?_; rintro x w1 ⟨rfl, k1, r1, l1⟩; have L1 := hide (HL.out.move hbrw k1 r1 l1); have cj := HCJ.out _ _ L1.out; clear k1 r1)
          | (go_at_call 56; refine (HTm w1 (H0.out.move L1.out.kept L1.out.rd L1.out.pl)).out.mono ?_; rintro x w2 ⟨rfl, k2, r2, l2⟩; have L2 := hide (L1.out.move hbrw k2 r2 l2); clear k2 r2))
        clear HTm HSy L1 HL HS HCJ cj
        obtain ⟨W0, rfl⟩ : ∃ W, W = wr := ⟨wr, rfl⟩
        obtain ⟨g1, rfl⟩ : ∃ g1, gk = g1 + 1 := ⟨gk - 1, by omega⟩
        go_loopg [8, 66] tm (fun g2 v8 v66 wx => ∃ (i : Nat) (_ : i + g2 = tm), v66 = .int .i64 (i : Int) ∧ Hid (LX br a len cap w wx q2 v8 (all ++ List.replicate i x)))
        case atStart => exact ⟨0, by omega, rfl, (some ⟨gA, 0, none⟩), ac, by simp, by simpa using L2.out⟩
        case round =>
          obtain ⟨i, hig, rfl, HX2⟩ := hrel
          obtain ⟨a8, c8, rfl, hLW⟩ := HX2.out
          have L3 := hide hLW
          clear hLW HX2 L2
          cases gk with
          | zero =>
            obtain rfl : i = tm := by omega
            go_wp2_with fail
            go_roundg (len * 8 - q2)
            case measure => omega
            case rel => exact ⟨q2, all ++ List.replicate i x, by omega, by simp; omega, rfl, HRE, a8, c8, rfl, L3.out⟩
          | succ g3 =>
            have hit : (i : Int) < tm := by omega
            obtain ⟨F, hF⟩ : ∃ F, F = all ++ List.replicate i x := ⟨_, rfl⟩
            have HFS : Hid (all ++ List.replicate (i + 1) x = F ++ [x]) := by rw [hF, List.replicate_succ', List.append_assoc]; exact rfl
            have hFl : F.length ≤ 2000 := by rw [hF]; simp; omega
            rw [← hF] at L3 ⊢
            clear hF
            go_wp2_with (at_builtin; refine wpList_append_own _ rfl _ _ 43 rfl w.heap.size 3 i0 (.int .i64 0) 1 8 Tryd.underlying43 hi0 hz0 hz1 hz2 rfl (by decide) _ F.length (F.map (Value.int .i64)) rfl (World.ownsRow.alloc L3.out.owns _) ⟨wr.heap.size, 0, none⟩ 1 1 [.int .i64 x] rfl rfl (one_int wr _) (by intro u hu; simp at hu; subst hu; rfl) (by unfold maxLen; omega) (by omega) (by have := L3.out.kept.size; simp; omega) ?_; intro v' w4 hown' hgrow hnil; obtain ⟨a4, c4, rfl⟩ := own_form hown'; have L4 := hide (L3.out.push hbrw hown' hgrow); clear hown' hgrow hnil)
            go_roundg g3
            case measure => omega
            case rel =>
              refine ⟨i + 1, by omega, by go_num, ?_⟩
              rw [HFS.out]
              exact ⟨a4, c4, by simp, L4.out⟩
    · -- v = 17
      have hTm := fun w1 (s : SS B bs br a len cap zs m w1 q1 o oc fc out) => times_c s hl8 17 3 3 (by decide)
      rcases h2 : iTk (ib zs) (len * 8) q1 3 with e | ⟨q2, t⟩
      · rw [h2] at hTm
        have HTm := fun w1 s => hide ((hTm w1 s).mono fun _ _ => NOk.bad rfl)
        have HRE := hide (HR.out.trans (iLoop_err (iLen_bad h1 (by decide) hnone rfl h2)))
        clear hTm h1 h2 HR hnone hv16
        go_wp2_with (first
          | (go_at_call 54; refine HSy.out.mono ?_; rintro x w1 ⟨rfl, k1, r1, l1⟩; have L1 := hide (HL.out.move hbrw k1 r1 l1); clear k1 r1)
          | (go_at_call 56; refine (HTm w1 (H0.out.move L1.out.kept L1.out.rd L1.out.pl)).out.mono ?_; rintro x w2 ⟨rfl, k2, e1, e2⟩; have K2 := hide (L1.out.kept.trans k2 (fun _ _ e => e)); clear k2))
        go_ret2
        exact .inr ⟨e, HRE.out, rfl, K2.out, e1, e2⟩
      have ht := iTk_lt (ib_le zs) h2
      rw [h2] at hTm
      have HTm := fun w1 s => hide ((hTm w1 s).mono fun _ _ => NOk.got rfl)
      clear hTm
      by_cases hov : many < all.length + (3 + t)
      · have HRE := hide (HR.out.trans (iLoop_err (iLen_over h1 (by decide) hnone rfl rfl h2 hov)))
        obtain ⟨tm, htm⟩ : ∃ tm, tm = 3 + t := ⟨_, rfl⟩
        rw [← htm] at HTm hov
        have hov' : (many : Int) - (all.length : Int) < (tm : Int) := by omega
        clear h1 h2 HR hnone hv16
        go_wp2_with (first
          | (go_at_call 54; refine HSy.out.mono ?_; rintro x w1 ⟨rfl, k1, r1, l1⟩; have L1 := hide (HL.out.move hbrw k1 r1 l1); clear k1 r1)
          | (go_at_call 56; refine (HTm w1 (H0.out.move L1.out.kept L1.out.rd L1.out.pl)).out.mono ?_; rintro x w2 ⟨rfl, k2, r2, l2⟩; have K2 := hide (L1.out.kept.trans k2 (fun _ _ e => e)); clear k2 r2))
        go_ret2
        exact .inr ⟨63, HRE.out, rfl, K2.out, by decide, by decide⟩
      · have hO := iLen_more (many := many) (k := 3) (L := (0 : Int)) h1 (by decide) hnone rfl rfl rfl h2 (by omega)
        have hgo := iGo_len first many (ib zs) (len * 8) p' all q2 _ hO
        obtain ⟨tm, htm⟩ : ∃ tm, tm = 3 + t := ⟨_, rfl⟩
        rw [← htm] at HTm hov hO
        have htmB : tm ≤ 200 := by omega
        have HRE : Hid (R = if (all ++ List.replicate tm (0 : Int)).length < many then iLoop (len * 8) (iLen first many (ib zs) (len * 8)) q2 (all ++ List.replicate tm (0 : Int)) else .ok (q2, all ++ List.replicate tm (0 : Int))) := hide (by
          have := HR.out.trans (iLoop_step hO hgo.1 hgo.2)
          simpa using this)
        have hql := hgo.2
        have hpq2 := hgo.1
        have hov' : ¬ (many : Int) - (all.length : Int) < (tm : Int) := by omega
        clear hO hgo h1 h2 HR hnone hv16 htm ht
        go_wp2_with (first
          | (go_at_call 54; refine HSy.out.mono ?_; rintro x w1 ⟨rfl, k1, r1, l1⟩; have L1 := hide (HL.out.move hbrw k1 r1 l1); clear k1 r1)
          | (go_at_call 56; refine (HTm w1 (H0.out.move L1.out.kept L1.out.rd L1.out.pl)).out.mono ?_; rintro x w2 ⟨rfl, k2, r2, l2⟩; have L2 := hide (L1.out.move hbrw k2 r2 l2); clear k2 r2))
        clear HTm HSy L1 HL HS
        obtain ⟨W0, rfl⟩ : ∃ W, W = wr := ⟨wr, rfl⟩
        obtain ⟨g1, rfl⟩ : ∃ g1, gk = g1 + 1 := ⟨gk - 1, by omega⟩
        go_loopg [8, 66] tm (fun g2 v8 v66 wx => ∃ (i : Nat) (_ : i + g2 = tm), v66 = .int .i64 (i : Int) ∧ Hid (LX br a len cap w wx q2 v8 (all ++ List.replicate i (0 : Int))))
        case atStart => exact ⟨0, by omega, rfl, al, ac, by simp, by simpa using L2.out⟩
        case round =>
          obtain ⟨i, hig, rfl, HX2⟩ := hrel
          obtain ⟨a8, c8, rfl, hLW⟩ := HX2.out
          have L3 := hide hLW
          clear hLW HX2 L2
          cases gk with
          | zero =>
            obtain rfl : i = tm := by omega
            go_wp2_with fail
            go_roundg (len * 8 - q2)
            case measure => omega
            case rel => exact ⟨q2, all ++ List.replicate i (0 : Int), by omega, by simp; omega, rfl, HRE, a8, c8, rfl, L3.out⟩
          | succ g3 =>
            have hit : (i : Int) < tm := by omega
            obtain ⟨F, hF⟩ : ∃ F, F = all ++ List.replicate i (0 : Int) := ⟨_, rfl⟩
            have HFS : Hid (all ++ List.replicate (i + 1) (0 : Int) = F ++ [(0 : Int)]) := by rw [hF, List.replicate_succ', List.append_assoc]; exact rfl
            have hFl : F.length ≤ 2000 := by rw [hF]; simp; omega
            rw [← hF] at L3 ⊢
            clear hF
            go_wp2_with (at_builtin; refine wpList_append_own _ rfl _ _ 43 rfl w.heap.size 3 i0 (.int .i64 0) 1 8 Tryd.underlying43 hi0 hz0 hz1 hz2 rfl (by decide) _ F.length (F.map (Value.int .i64)) rfl (World.ownsRow.alloc L3.out.owns _) ⟨wr.heap.size, 0, none⟩ 1 1 [.int .i64 (0 : Int)] rfl rfl (one_int wr _) (by intro u hu; simp at hu; subst hu; rfl) (by unfold maxLen; omega) (by omega) (by have := L3.out.kept.size; simp; omega) ?_; intro v' w4 hown' hgrow hnil; obtain ⟨a4, c4, rfl⟩ := own_form hown'; have L4 := hide (L3.out.push hbrw hown' hgrow); clear hown' hgrow hnil)
            go_roundg g3
            case measure => omega
            case rel =>
              refine ⟨i + 1, by omega, by go_num, ?_⟩
              rw [HFS.out]
              exact ⟨a4, c4, by simp, L4.out⟩
    · -- v = 18
      have hTm := fun w1 (s : SS B bs br a len cap zs m w1 q1 o oc fc out) => times_c s hl8 18 7 11 (by decide)
      rcases h2 : iTk (ib zs) (len * 8) q1 7 with e | ⟨q2, t⟩
      · rw [h2] at hTm
        have HTm := fun w1 s => hide ((hTm w1 s).mono fun _ _ => NOk.bad rfl)
        have HRE := hide (HR.out.trans (iLoop_err (iLen_bad h1 (by decide) hnone rfl h2)))
        clear hTm h1 h2 HR hnone hv16
        go_wp2_with (first
          | (go_at_call 54; refine HSy.out.mono ?_; rintro x w1 ⟨rfl, k1, r1, l1⟩; have L1 := hide (HL.out.move hbrw k1 r1 l1); clear k1 r1)
          | (go_at_call 56; refine (HTm w1 (H0.out.move L1.out.kept L1.out.rd L1.out.pl)).out.mono ?_; rintro x w2 ⟨rfl, k2, e1, e2⟩; have K2 := hide (L1.out.kept.trans k2 (fun _ _ e => e)); clear k2))
        go_ret2
        exact .inr ⟨e, HRE.out, rfl, K2.out, e1, e2⟩
      have ht := iTk_lt (ib_le zs) h2
      rw [h2] at hTm
      have HTm := fun w1 s => hide ((hTm w1 s).mono fun _ _ => NOk.got rfl)
      clear hTm
      by_cases hov : many < all.length + (11 + t)
      · have HRE := hide (HR.out.trans (iLoop_err (iLen_over h1 (by decide) hnone rfl rfl h2 hov)))
        obtain ⟨tm, htm⟩ : ∃ tm, tm = 11 + t := ⟨_, rfl⟩
        rw [← htm] at HTm hov
        have hov' : (many : Int) - (all.length : Int) < (tm : Int) := by omega
        clear h1 h2 HR hnone hv16
        go_wp2_with (first
          | (go_at_call 54; refine HSy.out.mono ?_; rintro x w1 ⟨rfl, k1, r1, l1⟩; have L1 := hide (HL.out.move hbrw k1 r1 l1); clear k1 r1)
          | (go_at_call 56; refine (HTm w1 (H0.out.move L1.out.kept L1.out.rd L1.out.pl)).out.mono ?_; rintro x w2 ⟨rfl, k2, r2, l2⟩; have K2 := hide (L1.out.kept.trans k2 (fun _ _ e => e)); clear k2 r2))
        go_ret2
        exact .inr ⟨63, HRE.out, rfl, K2.out, by decide, by decide⟩
      · have hO := iLen_more (many := many) (k := 11) (L := (0 : Int)) h1 (by decide) hnone rfl rfl rfl h2 (by omega)
        have hgo := iGo_len first many (ib zs) (len * 8) p' all q2 _ hO
        obtain ⟨tm, htm⟩ : ∃ tm, tm = 11 + t := ⟨_, rfl⟩
        rw [← htm] at HTm hov hO
        have htmB : tm ≤ 200 := by omega
        have HRE : Hid (R = if (all ++ List.replicate tm (0 : Int)).length < many then iLoop (len * 8) (iLen first many (ib zs) (len * 8)) q2 (all ++ List.replicate tm (0 : Int)) else .ok (q2, all ++ List.replicate tm (0 : Int))) := hide (by
          have := HR.out.trans (iLoop_step hO hgo.1 hgo.2)
          simpa using this)
        have hql := hgo.2
        have hpq2 := hgo.1
        have hov' : ¬ (many : Int) - (all.length : Int) < (tm : Int) := by omega
        clear hO hgo h1 h2 HR hnone hv16 htm ht
        go_wp2_with (first
          | (go_at_call 54; refine HSy.out.mono ?_; rintro x w1 ⟨rfl, k1, r1, l1⟩; have L1 := hide (HL.out.move hbrw k1 r1 l1); clear k1 r1)
          | (go_at_call 56; refine (HTm w1 (H0.out.move L1.out.kept L1.out.rd L1.out.pl)).out.mono ?_; rintro x w2 ⟨rfl, k2, r2, l2⟩; have L2 := hide (L1.out.move hbrw k2 r2 l2); clear k2 r2))
        clear HTm HSy L1 HL HS
        obtain ⟨W0, rfl⟩ : ∃ W, W = wr := ⟨wr, rfl⟩
        obtain ⟨g1, rfl⟩ : ∃ g1, gk = g1 + 1 := ⟨gk - 1, by omega⟩
        go_loopg [8, 66] tm (fun g2 v8 v66 wx => ∃ (i : Nat) (_ : i + g2 = tm), v66 = .int .i64 (i : Int) ∧ Hid (LX br a len cap w wx q2 v8 (all ++ List.replicate i (0 : Int))))
        case atStart => exact ⟨0, by omega, rfl, al, ac, by simp, by simpa using L2.out⟩
        case round =>
          obtain ⟨i, hig, rfl, HX2⟩ := hrel
          obtain ⟨a8, c8, rfl, hLW⟩ := HX2.out
          have L3 := hide hLW
          clear hLW HX2 L2
          cases gk with
          | zero =>
            obtain rfl : i = tm := by omega
            go_wp2_with fail
            go_roundg (len * 8 - q2)
            case measure => omega
            case rel => exact ⟨q2, all ++ List.replicate i (0 : Int), by omega, by simp; omega, rfl, HRE, a8, c8, rfl, L3.out⟩
          | succ g3 =>
            have hit : (i : Int) < tm := by omega
            obtain ⟨F, hF⟩ : ∃ F, F = all ++ List.replicate i (0 : Int) := ⟨_, rfl⟩
            have HFS : Hid (all ++ List.replicate (i + 1) (0 : Int) = F ++ [(0 : Int)]) := by rw [hF, List.replicate_succ', List.append_assoc]; exact rfl
            have hFl : F.length ≤ 2000 := by rw [hF]; simp; omega
            rw [← hF] at L3 ⊢
            clear hF
            go_wp2_with (at_builtin; refine wpList_append_own _ rfl _ _ 43 rfl w.heap.size 3 i0 (.int .i64 0) 1 8 Tryd.underlying43 hi0 hz0 hz1 hz2 rfl (by decide) _ F.length (F.map (Value.int .i64)) rfl (World.ownsRow.alloc L3.out.owns _) ⟨wr.heap.size, 0, none⟩ 1 1 [.int .i64 (0 : Int)] rfl rfl (one_int wr _) (by intro u hu; simp at hu; subst hu; rfl) (by unfold maxLen; omega) (by omega) (by have := L3.out.kept.size; simp; omega) ?_; intro v' w4 hown' hgrow hnil; obtain ⟨a4, c4, rfl⟩ := own_form hown'; have L4 := hide (L3.out.push hbrw hown' hgrow); clear hown' hgrow hnil)
            go_roundg g3
            case measure => omega
            case rel =>
              refine ⟨i + 1, by omega, by go_num, ?_⟩
              rw [HFS.out]
              exact ⟨a4, c4, by simp, L4.out⟩
end
end Go.Proofs.YtibolmgijaploaaDoor
