/- Several texts, laid together: MOpen, MFinds0, DDef, DAns. -/
import Derived.Test.YtlakgbckopjelaaGreatDoorK33MAlive
import Derived.ProofKit
import Derived.OpenShut
import Derived.ShutString
import Derived.ChangeOld
import Derived.SizedLaws
import Derived.Deep.Slices
import Derived.Deep.Strs
import Derived.Lib.SmallJoins
import Derived.Test.YtlakgbckopjelaaGreatDoorG32DShst
/- How the laws' arguments are opened: tokens, bytes. -/
namespace Go.Proofs.YtlakgbckopjelaaGreatDoor.M
set_option maxRecDepth 100000
open Go.ChangeShapes Go.WideShapes Go.ChangeAt Go.RowKit

theorem own : ownKnob Tryz.prog.godebug = none := by kernel_rfl
theorem laidOut : laidOutB Tryz.prog = true := by kernel_rfl
theorem Tryz.cells5 : Tryz.prog.cellsOf 5 = 1 := by kernel_rfl
theorem Tryz.cells3 : Tryz.prog.cellsOf 3 = 1 := by kernel_rfl
theorem Tryz.cells38 : Tryz.prog.cellsOf 38 = 3 := by kernel_rfl

section
variable {H : Type} {enc : TypeId × Value → H} {W : World}

theorem addr_plain (b off i : Nat) : ((⟨b, off, none⟩ : Addr).add i) = ⟨b, off + i, none⟩ := by unfold Addr.add; split <;> simp_all

/-- Bytes that came in. -/
structure BIn (W : World) (a : Option Addr) (cap : Nat) (zs : List Int) : Prop where
  by_ : Bys W a zs
  cap_ : zs.length ≤ cap
  most : cap ≤ 9223372036854775807
  nil : a = none → zs.length = 0 ∧ cap = 0
/-- Tokens that came in. -/
structure TIn (W : World) (a : Option Addr) (cap : Nat) (xs : List Tk) : Prop where
  toks : Toks W a xs
  bt : Bt xs
  cap_ : xs.length ≤ cap
  nil : a = none → xs.length = 0 ∧ cap = 0
theorem open_tok {fuel b o : Nat} {cs : List Value} {x : DataW H × List MemPlace} (hc : W.cells? 0 ⟨b, o, none⟩ 3 = some cs) (h : DataW.trod enc Tryz.prog W 0 (fun _ => true) true fuel 38 cs = some x) :
    ∃ t : Tk, (0 ≤ t.1 ∧ t.1 ≤ 255) ∧ W.cell? ⟨b, o, none⟩ = some (.int .u8 t.1) ∧ W.cell? ⟨b, o + 1, none⟩ = some (.int .i64 t.2.1) ∧ W.cell? ⟨b, o + 2, none⟩ = some (.int .i64 t.2.2) := by
  obtain ⟨_, hl, hcell⟩ := World.cells?_some hc
  obtain ⟨y0, y1, y2, n, _, _, h0, h1, h2⟩ := Deep.trod_struct3 Tryz.underlying38 h
  match cs, hl with
  | [c0, c1, c2], _ =>
    simp only [Tryz.cells3, Tryz.cells5] at h0 h1 h2
    obtain ⟨k, e0, _, wf0⟩ := DataW.trod_int Tryz.underlying5 h0
    obtain ⟨v, e1, _, _⟩ := DataW.trod_int Tryz.underlying3 h1
    obtain ⟨m, e2, _, _⟩ := DataW.trod_int Tryz.underlying3 h2
    simp at e0 e1 e2
    subst e0 e1 e2
    have q0 := hcell 0 (by omega)
    have q1 := hcell 1 (by omega)
    have q2 := hcell 2 (by omega)
    rw [addr_plain] at q0 q1 q2
    have hb := bounds_u8 wf0
    exact ⟨(k, v, m), ⟨by simp only; omega, by simp only; omega⟩, by simpa using q0, by simpa using q1, by simpa using q2⟩
theorem open_toks {a : Option Addr} {len cap : Nat} {d : DataW H} {p : List MemPlace} (h : DataW.Trod enc Tryz.prog W 0 (fun _ => true) true 27 (.slice a len cap) d p) : ∃ xs, len = xs.length ∧ TIn W a cap xs := by
  obtain ⟨fuel, hf⟩ := h
  rcases Deep.open_slice Tryz.underlying27 hf with ⟨hcs, _⟩ | ⟨ad, l, c, m, n, D, Pl, hcs, _, hl, hm, hmm, _, hall⟩
  · simp [Value.cells] at hcs
    obtain ⟨rfl, rfl, rfl⟩ := hcs
    exact ⟨[], rfl, .inl rfl, Bt.nil, Nat.zero_le _, fun _ => ⟨rfl, rfl⟩⟩
  · simp [Value.cells] at hcs
    obtain ⟨rfl, rfl, rfl⟩ := hcs
    have hmc : m = cap := by simpa using hmm
    subst hmc
    by_cases h0 : len = 0
    · exact ⟨[], h0, .inl rfl, Bt.nil, Nat.zero_le _, fun e => by cases e⟩
    · obtain ⟨b, off, spot⟩ := ad
      rw [Tryz.cells38] at hall
      obtain ⟨cs0, hc0, _⟩ := hall 0 (by omega)
      obtain ⟨_, hl0, hcell0⟩ := World.cells?_some hc0
      have q0 := hcell0 0 (by omega)
      have hspot : spot = none := by
        match cs0, hl0 with
        | [c0, c1, c2], _ =>
          have q1 : W.cell? ((⟨b, off, spot⟩ : Addr).add (0 * 3) |>.add 0) = some c0 := by simpa using q0
          simpa [Addr.add] using World.cell?_spot q1
      subst hspot
      have hb : b < W.heap.size := by
        match cs0, hl0 with
        | [c0, c1, c2], _ =>
          have q1 : W.cell? ((⟨b, off, none⟩ : Addr).add (0 * 3) |>.add 0) = some c0 := by simpa using q0
          have := lt_of_cell q1
          simpa [Addr.add] using this
      obtain ⟨f, hfs⟩ := Deep.choose_lt (n := len) (p := fun i (t : Tk) => (0 ≤ t.1 ∧ t.1 ≤ 255) ∧ W.cell? ⟨b, off + i * 3, none⟩ = some (.int .u8 t.1) ∧ W.cell? ⟨b, off + i * 3 + 1, none⟩ = some (.int .i64 t.2.1) ∧ W.cell? ⟨b, off + i * 3 + 2, none⟩ = some (.int .i64 t.2.2)) (fun i hi => by
        obtain ⟨cs, hc, ht⟩ := hall i (by omega)
        rw [addr_plain] at hc
        exact open_tok hc ht)
      have hlen : ((List.range len).map f).length = len := by simp
      have hat : ∀ i, i < len → tk ((List.range len).map f) i = f i := fun i hi => by
        rw [tk_in (by rw [hlen]; exact hi)]; simp
      refine ⟨(List.range len).map f, hlen.symm, .inr ⟨b, off, hb, rfl, fun i hi => ?_⟩, fun i => ?_, by rw [hlen]; exact hl, fun e => by cases e⟩
      · rw [hlen] at hi
        rw [hat i hi]
        exact (hfs i hi).2
      · by_cases hi : i < len
        · rw [hat i hi]; exact (hfs i hi).1
        · unfold tk List.getD; rw [List.getElem?_eq_none (by rw [hlen]; omega)]; simp
end
/-- A law's call that answers true and writes nothing that was there. -/
def Yes (w : World) (e : Ending) (w' : World) : Prop := e = .returned (.bool true) ∧ Below w.heap.size w w'
end Go.Proofs.YtlakgbckopjelaaGreatDoor.M

/- What is found, whatever the level. -/
namespace Go.Proofs.YtlakgbckopjelaaGreatDoor.M
set_option maxRecDepth 100000
open Go Go.RowKit

/-- What is found, whatever the level. -/
theorem FindOk.all {zs : List Int} {lv : Int} {w : World} {e : Ending} {w' : World} (h : FindOk zs lv w e w') (hz : ∀ i, 0 ≤ ln zs i ∧ ln zs i ≤ 255) : ∃ a cap xs, e = .returned (.slice a xs.length cap) ∧ Toks w' a xs ∧ Below w.heap.size w w' ∧ Rt xs ∧ Bt xs ∧ tel xs = zs ∧ xs.length ≤ zs.length ∧ (1 ≤ lv → FdTo zs zs.length xs) ∧ OwnsT w' w.heap.size (.slice a xs.length cap) xs := by
  obtain ⟨a, cap, xs, he, ho, hb, h0, h1⟩ := h
  obtain ⟨_, _, hv, htk, _, _, _⟩ := ho.form
  simp only [Value.slice.injEq] at hv
  obtain ⟨rfl, _, rfl⟩ := hv
  by_cases hlv : lv < 1
  · obtain rfl := h0 hlv
    exact ⟨_, _, _, he, htk, hb, alT_rt zs, alT_bt hz, alT_tell zs, by rw [alT_length]; exact Nat.le_refl _, h1, ho⟩
  · have hf := h1 (by omega)
    exact ⟨_, _, _, he, htk, hb, hf.rt, hf.bt, by rw [hf.tell, List.take_length], hf.many, h1, ho⟩

end Go.Proofs.YtlakgbckopjelaaGreatDoor.M

/- Deflate (of data that makes one row of tokens): contract. -/
namespace Go.Proofs.YtlakgbckopjelaaGreatDoor
set_option maxRecDepth 100000
open Go Go.RowKit

/-- What Deflate makes of data. -/
def DefIs (zs : List Int) (lv : Int) (X : List Int) : Prop := (lv < 1 → X = stB zs) ∧ (1 ≤ lv → ∃ ts k S D H0 H, M.Rt ts ∧ M.Bt ts ∧ M.tel ts = zs ∧ ts.length ≤ zs.length ∧ M.FdTo zs zs.length ts ∧ BkOk k ts S D ∧ HdIs k S D H0 ∧ HdIs k S D H ∧ szB k H0 S D ts ≤ szB 1 [] iFix iFive ts ∧
  ((X = dataL (blB k true H S D ts) ∧ X.length ≤ (stB zs).length) ∨ (X = stB zs ∧ (stB zs).length < (dataL (blB k true H S D ts)).length)))
def DefRet (w : World) (zs : List Int) (lv : Int) (e : Ending) (w' : World) : Prop := ∃ g cap X, e = .returned (.slice (some ⟨g, 0, none⟩) X.length cap) ∧ OwnsB w' w.heap.size (.slice (some ⟨g, 0, none⟩) X.length cap) X ∧ DefIs zs lv X ∧ Below w.heap.size w w'
theorem o_below {w1 w2 : World} {b : Nat} {v : Value} {D : List Int} (h : OwnsB w1 b v D) (k : Below w1.heap.size w1 w2) : OwnsB w2 b v D := OwnsB.below h k
theorem text_bys {B : Nat} {w : World} {a : Option Addr} {zs : List Int} (h : Text B w a zs.length zs) (hB : B ≤ w.heap.size) : M.Bys w a zs := by
  obtain ⟨_, h2, h3⟩ := h
  refine ⟨?_, fun i => h2 i⟩
  rcases h3 with h3 | ⟨b, off, hb, e, hc⟩
  · exact .inl h3
  · exact .inr ⟨b, off, by omega, e, fun i hi => hc i hi⟩
set_option maxHeartbeats 8000000 in
theorem deflate_c (w : World) (hT : Tab w) (h0 : 0 < w.heap.size) (a : Option Addr) (cap : Nat) (zs : List Int) (lv : Int) (ht : Text w.heap.size w a zs.length zs) (hnil : a = none → zs.length = 0 ∧ cap = 0) (hcap : zs.length ≤ cap) (hcm : cap ≤ 9223372036854775807) (hl : zs.length ≤ 16384) :
    Calls Tryz.prog 23 #[.slice a zs.length cap, .int .i64 lv] w (DefRet w zs lv) := by
  have HSO := hide (stored_c w a cap zs ht hnil hcap (by omega))
  have hz : ∀ i, 0 ≤ M.ln zs i ∧ M.ln zs i ≤ 255 := fun i => ht.2.1 i
  have HT := hide hT
  have HTX := hide ht
  by_cases hlv : lv < 1
  · have HQ : Hid (∀ e w', StoRet w zs e w' → ∃ g c, e = .returned (.slice (some ⟨g, 0, none⟩) (stB zs).length c) ∧ DefRet w zs lv (.returned (.slice (some ⟨g, 0, none⟩) (stB zs).length c)) w') := fun e w' h => by
      obtain ⟨g, c, rfl, h1, h2⟩ := h
      exact ⟨g, c, rfl, g, c, stB zs, rfl, h1, ⟨fun _ => rfl, fun h => by omega⟩, h2⟩
    generalize stB zs = ST at HQ
    clear hT ht hnil hz HT HTX
    go_enter Tryz.func23, Tryz.ntmps23
    go_wp2_with (go_at_call 9; refine HSO.out.mono ?_; intro e w1 h1; obtain ⟨g, c, rfl, hq⟩ := HQ.out _ _ h1; have HR := hide hq; clear h1 hq HSO HQ)
    go_ret
    exact HR.out
  · have HFI : Hid (∀ w1, Below w.heap.size w w1 → Calls Tryz.prog 45 #[.slice a zs.length cap, .int .i64 lv] w1 (M.FindOk zs lv w1)) := fun w1 hb => M.find_c a cap zs lv w1 (text_bys (B := w.heap.size) (HTX.out.kept (Kept.of_below hb) (fun b hb' e => by omega)) hb.size) (by omega) hcap hcm
    have hlv' : 1 ≤ lv := by omega
    clear hT ht hnil
    go_enter Tryz.func23, Tryz.ntmps23
    go_upto_region 4 with (go_at_call 9; refine HSO.out.mono ?_; rintro e w1 ⟨g1, c1, rfl, o1, b1⟩; have HF1 := hide (HFI.out w1 b1); have O1 := hide o1; have B1 := hide b1; clear o1 b1 HSO HFI)
    have HSH : Hid (∀ w2 e, M.FindOk zs lv w1 e w2 → ∃ ta ct ts, e = .returned (.slice ta ts.length ct) ∧ M.Rt ts ∧ M.Bt ts ∧ M.tel ts = zs ∧ ts.length ≤ zs.length ∧ M.FdTo zs zs.length ts ∧ Below w1.heap.size w1 w2 ∧ Calls Tryz.prog 44 #[.slice ta ts.length ct] w2 (OneQ w2 ts)) := fun w2 e h => by
      obtain ⟨ta, ct, ts, rfl, ht, hb, hr, hbt, htel, hm, hfd, how⟩ := h.all hz
      obtain ⟨a', c', hv, htk, hblk, hnl, hcl⟩ := how.form
      simp only [Value.slice.injEq] at hv
      obtain ⟨rfl, _, rfl⟩ := hv
      have hb2 : Below w.heap.size w w2 := B1.out.trans (hb.mono B1.out.size)
      refine ⟨ta, ct, ts, rfl, hr, hbt, htel, hm, hfd hlv', hb, shortest_c w2 (HT.out.below hb2 h0) (Nat.lt_of_lt_of_le h0 hb2.size) ta ct ts ⟨htk, fun b off e => (hblk b off e).2, TOk.of hr hbt, by omega⟩ (by omega) hcl (fun e => (hnl e).2)⟩
    go_upto_region 5 with (first
      | (go_at_call 45; refine HF1.out.mono ?_; intro e w2 hf; obtain ⟨ta, ct, ts, rfl, f1, f2, f3, f4, f5, f6, f7⟩ := HSH.out w2 e hf; have F1 := hide f1; have F2 := hide f2; have F3 := hide f3; have F4 := hide f4; have F5 := hide f5; have B2 := hide (B1.out.trans (f6.mono B1.out.size)); have O2 := hide (o_below O1.out f6); have HS2 := hide f7; clear hf f1 f2 f3 f4 f5 f6 f7 HF1 HSH)
      | (go_at_call 44; refine HS2.out.mono ?_; rintro e w3 ⟨b3, off3, c3, q, rfl, l3, r3, i3, t3, hd3, le3, bl3⟩; have HST := hide (stream_c w3 (HT.out.below (B2.out.trans (bl3.mono B2.out.size)) h0) (by have := B2.out.size; have := bl3.size; omega) b3 off3 c3 [q] r3 (by simp) (fun x hx => by rw [List.mem_singleton.1 hx]; exact i3) (by unfold few; simp; have := F4.out; rw [t3]; omega)); have I3 := hide i3; have T3 := hide t3; have HD3 := hide hd3; have LE3 := hide le3; have B3 := hide (B2.out.trans (bl3.mono B2.out.size)); have O3 := hide (o_below O2.out bl3); clear l3 r3 i3 t3 hd3 le3 bl3 HS2)
      | (go_at_call 29; refine HST.out.mono ?_; rintro e w4 ⟨xs, g4, c4, hh4, rfl, o4, bl4⟩; have HH4 := hide hh4; have O4 := hide o4; have B4 := hide (B3.out.trans (bl4.mono B3.out.size)); have O3b := hide (o_below O3.out bl4); have BS := hide B3.out.size; clear hh4 o4 bl4 HST))
    obtain ⟨H, hx, hH⟩ : ∃ H, strN 1 xs = blB q.k true H q.S q.D q.ts ∧ HdIs q.k q.S q.D H := by
      obtain ⟨h1, h2⟩ := HH4.out
      obtain ⟨x, rfl⟩ : ∃ x, xs = [x] := by
        have := congrArg List.length h1
        rw [List.length_map] at this
        exact List.length_eq_one_iff.1 this
      simp only [List.map_cons, List.map_nil, List.cons.injEq, and_true] at h1
      have hx := h2 x (by simp)
      obtain ⟨y, H⟩ := x
      simp only at h1 hx
      subst h1
      exact ⟨H, by simp [strN], hx⟩
    have hlen1 : [q].length = 1 := rfl
    rw [hlen1, hx] at O4
    rw [hx]
    have HOUT : Hid (∀ X g c, OwnsB w4 w.heap.size (.slice (some ⟨g, 0, none⟩) X.length c) X → ((X = dataL (blB q.k true H q.S q.D q.ts) ∧ X.length ≤ (stB zs).length) ∨ (X = stB zs ∧ (stB zs).length < (dataL (blB q.k true H q.S q.D q.ts)).length)) → DefRet w zs lv (.returned (.slice (some ⟨g, 0, none⟩) X.length c)) w4) := fun X g c ho hX => by
      obtain ⟨H0, hH0, hsz⟩ := HD3.out
      have hts := T3.out
      have hle := LE3.out
      rw [hsz] at hle
      have hok := I3.out.ok
      subst hts
      exact ⟨g, c, X, rfl, ho, ⟨fun h => by omega, fun _ => ⟨q.ts, q.k, q.S, q.D, H0, H, F1.out, F2.out, F3.out, F4.out, F5.out, hok, hH0, hH, hle, hX⟩⟩, B4.out⟩
    have O4' := hide (OwnsB.low O4.out BS.out)
    generalize dataL (blB q.k true H q.S q.D q.ts) = Y at O4' HOUT ⊢
    generalize stB zs = ST at O3b HOUT ⊢
    clear hx hH HH4 O4 O1 O2 O3 HD3 T3 LE3 I3 F1 F2 F3 F4 F5 B1 B2 B3 B4 BS HT HTX hz hlen1
    by_cases hle : Y.length ≤ ST.length
    case pos =>
      have hle' : (Y.length : Int) ≤ (ST.length : Int) := by omega
      have HR := hide (HOUT.out Y g4 c4 O4'.out (.inl ⟨rfl, hle⟩))
      clear HOUT
      go_wp2_with fail
      go_ret
      exact HR.out
    case neg =>
      have hle' : ¬ (Y.length : Int) ≤ (ST.length : Int) := by omega
      have HR := hide (HOUT.out ST g1 c1 O3b.out (.inr ⟨rfl, by omega⟩))
      clear HOUT
      go_wp2_with fail
      go_ret
      exact HR.out
end Go.Proofs.YtlakgbckopjelaaGreatDoor

/- What Deflate makes is read as the data. Of no program. -/
namespace Go.Proofs.YtlakgbckopjelaaGreatDoor
set_option maxRecDepth 100000
open Go Go.RowKit

theorem bin_rowL (c n : Nat) : Bin (rowL c n) := fun i => by
  by_cases h : i < n
  · have := rowL_at c n h
    unfold ln at this
    rw [this]
    unfold bitC
    omega
  · rw [List.getD_eq_getElem?_getD, List.getElem?_eq_none (by rw [rowL_length]; omega)]; simp
theorem bin_nil : Bin [] := fun i => by simp
theorem bin_mk (ls : List Int) (m : Mk) : Bin (mkB ls m) := bin_append (bin_rowL _ _) (bin_bitsN _ _)
theorem bin_flat {α : Type} (f : α → List Int) (h : ∀ x, Bin (f x)) (l : List α) : Bin (l.flatMap f) := by
  induction l with
  | nil => exact bin_nil
  | cons x l ih => rw [List.flatMap_cons]; exact bin_append (h x) ih
theorem bin_knd (last : Bool) (k : Nat) : Bin (knd last k) := bin_append (bin_bitsN _ _) (bin_bitsN _ _)
theorem bin_hd {k : Nat} {S D H : List Int} (h : HdIs k S D H) : Bin H := by
  rcases h with ⟨_, rfl⟩ | ⟨_, _, F, many, _, rfl⟩
  · exact bin_nil
  · unfold hdB innB
    exact bin_append (bin_bitsN _ _) (bin_append (bin_bitsN _ _) (bin_append (bin_bitsN _ _) (bin_append (bin_flat _ (fun _ => bin_bitsN _ _) _) (bin_flat _ (fun m => bin_mk F m) _))))
theorem bin_bl {k : Nat} {last : Bool} {S D H : List Int} {ts : List M.Tk} (h : HdIs k S D H) : Bin (blB k last H S D ts) := by
  unfold blB
  refine bin_append (bin_knd _ _) (bin_append (bin_hd h) ?_)
  rw [← eB_dat]
  exact bin_flat _ (fun x => by unfold eB; split <;> exact bin_mk _ _) _
theorem SDOk.read {S D F : List Int} {many : Nat} (h : SDOk S D) (cs : check S true = 0) (cd : check D true = 0) (hl : LLOk S D F many) : HOk S D F many :=
  ⟨h.s0, h.s1, h.d0, h.d1, cs, cd, h.e, hl.inn.len, hl.inn.f7, hl.inn.chk, hl.m0, hl.m1, hl.mz, hl.inn.has⟩
end Go.Proofs.YtlakgbckopjelaaGreatDoor
