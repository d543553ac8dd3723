/- Several texts, laid together: DDefN, DAlive0, DLaid. -/
import Derived.Test.YtlakgbckopjelabDoorE10DDef
import Derived.Test.YtlakgbckopjelabDoorE11DSize
import Derived.Test.YtlakgbckopjelabDoorG08ISpec
import Derived.Test.YtlakgbckopjelabDoorG12PRunW
import Derived.Lib.SlBytesConst
import Derived.Test.YtlakgbckopjelabDoorG03RefLay
import Derived.Test.YtlakgbckopjelabDoorCards
import Derived.Test.YtlakgbckopjelabDoorTie
import Derived.LaidMore
import Derived.Lib.LaidTab
import Derived.Stop.Joined
import Derived.Lay
import Derived.ChangeMaps5
import Derived.SevenTiedAt
import Derived.JoinedCond
/- Deflate of any data: contract. -/
namespace Go.Proofs.YtlakgbckopjelabDoor
set_option maxRecDepth 100000
open Go Go.RowKit

theorem shortest_any (w : World) (hT : Tab w) (h0 : 0 < w.heap.size) (ta : Option Addr) (ct : Nat) (ts : List M.Tk) (hI : TkIn w ta ts) (hc : ts.length ≤ ct) (hnil : ta = none → ct = 0) :
    Calls Tryd.prog 10 #[.slice ta ts.length ct] w (ManyQ w ts) := by
  have hl := hI.len
  by_cases hn : ts.length ≤ 16384
  · exact (shortest_c w hT h0 ta ct ts hI hn hc hnil).mono fun e w' h => h.many hn
  · rcases hI.t with h | ⟨b, off, _, rfl, _⟩
    · omega
    · exact shortest_many w hT h0 b off ct ts hI (by omega) hc
theorem fur_app (x y : List (Bool × Mk)) : fur (x ++ y) = fur x + fur y := by simp [fur]
theorem fur_emk (ts : List M.Tk) : fur (emk ts) = fur (tms ts) := by simp [emk, fur]
theorem tms_app (x y : List M.Tk) : tms (x ++ y) = tms x ++ tms y := by simp [tms]
theorem fur_all (l : List (List M.Tk)) : fur (tms l.flatten) = (l.map fun t => fur (emk t)).sum := by
  induction l with
  | nil => rfl
  | cons t r ih => rw [List.flatten_cons, tms_app, fur_app, ih, List.map_cons, List.sum_cons, fur_emk]
/-- How long several blocks are. -/
theorem strN_size (n : Nat) : ∀ (m : Nat) (xs : List (Bq × List Int)), xs.length = m → (∀ x ∈ xs, Fit x.1.S ∧ Fit x.1.D) → ((strN n xs).length : Int) = (xs.map fun x => szB x.1.k x.2 x.1.S x.1.D x.1.ts).sum + ((xs.map fun x => fur (emk x.1.ts)).sum : Nat) := by
  intro m
  induction m with
  | zero => intro xs h _; obtain rfl := List.eq_nil_of_length_eq_zero h; rfl
  | succ m ih =>
    intro xs h hf
    obtain ⟨r, x, rfl⟩ : ∃ r x, xs = r ++ [x] := ⟨xs.dropLast, xs.getLast (by intro e; rw [e] at h; simp at h), (List.dropLast_concat_getLast _).symm⟩
    have h1 := ih r (by simpa using h) (fun y hy => hf y (by simp [hy]))
    have h2 := hf x (by simp)
    have h3 := bl_size (k := x.1.k) (last := decide (r.length + 1 = n)) (H := x.2) (ts := x.1.ts) h2.1 h2.2
    rw [strN_snoc, List.length_append, List.map_append, List.sum_append, List.map_append, List.sum_append]
    simp only [List.map_cons, List.map_nil, List.sum_cons, List.sum_nil]
    omega
/-- Blocks that tokens are written as. -/
structure BlX (ts : List M.Tk) (xs : List (Bq × List Int)) : Prop where
  pos : 0 < xs.length
  ok : ∀ x ∈ xs, BkOk x.1.k x.1.ts x.1.S x.1.D ∧ HdIs x.1.k x.1.S x.1.D x.2
  all : xs.flatMap (·.1.ts) = ts
  len : (strN xs.length xs).length ≤ (blB 1 true [] iFix iFive ts).length
  ch : MCh ts (xs.map (·.1))
theorem blX_of {ts : List M.Tk} {qs : List Bq} {xs : List (Bq × List Int)} (h : Heads qs xs) (hn : 0 < qs.length ∧ qs.length ≤ 1000) (hok : ∀ q ∈ qs, BkOk q.k q.ts q.S q.D) (ht : qs.flatMap (·.ts) = ts) (hd : ∀ q ∈ qs, ∃ H, HdIs q.k q.S q.D H ∧ q.sz = szB q.k H q.S q.D q.ts) (hch : MCh ts qs) : BlX ts xs := by
  obtain ⟨h1, h2⟩ := h
  have hle := hch.1
  have mem : ∀ x ∈ xs, x.1 ∈ qs := fun x hx => by rw [← h1]; exact List.mem_map_of_mem hx
  have hl : xs.length = qs.length := by rw [← h1, List.length_map]
  have hall : xs.flatMap (·.1.ts) = ts := by
    rw [← ht, ← h1]
    simp [List.flatMap_map]
  refine ⟨by omega, fun x hx => ⟨hok _ (mem x hx), h2 x hx⟩, hall, ?_, by rw [h1]; exact hch⟩
  have s := strN_size xs.length xs.length xs rfl (fun x hx => ⟨(check_good (hok _ (mem x hx)).cs).fit, (check_good (hok _ (mem x hx)).cd).fit⟩)
  have e1 : (xs.map fun x => szB x.1.k x.2 x.1.S x.1.D x.1.ts) = qs.map (·.sz) := by
    rw [← h1, List.map_map]
    apply List.map_congr_left
    intro x hx
    obtain ⟨H, a1, a2⟩ := hd _ (mem x hx)
    have := hd_same (h2 x hx) a1
    simp only [Function.comp]
    rw [a2]
    unfold szB
    rw [this]
  have e2 : (xs.map fun x => fur (emk x.1.ts)).sum = fur (emk ts) := by
    rw [fur_emk, ← hall]
    have := fur_all (xs.map (·.1.ts))
    rw [List.map_map] at this
    rw [show xs.flatMap (·.1.ts) = (xs.map (·.1.ts)).flatten from by simp [List.flatMap], this]
    rfl
  have f := bl_size (k := 1) (last := true) (H := []) (ts := ts) iFix_good.fit iFive_good.fit
  rw [e1, e2] at s
  have : (qs.map (·.sz)).sum = szS qs := rfl
  omega
/-- What Deflate makes of data. -/
def DefIsN (zs : List Int) (lv : Int) (X : List Int) : Prop := (lv < 1 → X = stB zs) ∧ (1 ≤ lv → ∃ ts xs, M.Rt ts ∧ M.Bt ts ∧ M.tel ts = zs ∧ ts.length ≤ zs.length ∧ (M.FdTo zs zs.length ts ∧ M.FndAll zs lv ts) ∧ BlX ts xs ∧
  ((X = dataL (strN xs.length xs) ∧ X.length ≤ (stB zs).length) ∨ (X = stB zs ∧ (stB zs).length < (dataL (strN xs.length xs)).length)))
def DefRetN (w : World) (zs : List Int) (lv : Int) (e : Ending) (w' : World) : Prop := ∃ g cap X, e = .returned (.slice (some ⟨g, 0, none⟩) X.length cap) ∧ OwnsB w' w.heap.size (.slice (some ⟨g, 0, none⟩) X.length cap) X ∧ DefIsN zs lv X ∧ Below w.heap.size w w'
/-- What of a block and its head is laid. -/
def tupH (x : Bq × List Int) : (Nat × List Int × List Int × List M.Tk × Int) × List Int := (tup x.1, x.2)
theorem strN_tup (n : Nat) {xs ys : List (Bq × List Int)} (h : xs.map tupH = ys.map tupH) : strN n xs = strN n ys := by
  have e : ∀ l : List (Bq × List Int), strN n l = ((l.map tupH).zipIdx).flatMap fun p => blB p.1.1.1 (decide (p.2 + 1 = n)) p.1.2 p.1.1.2.1 p.1.1.2.2.1 p.1.1.2.2.2.1 := fun l => by
    rw [List.zipIdx_map, List.flatMap_map]
    rfl
  rw [e, e, h]
theorem BlX.uniq {ts : List M.Tk} {xs ys : List (Bq × List Int)} (h : BlX ts xs) (g : BlX ts ys) : xs.map tupH = ys.map tupH := by
  have hm := h.ch.uniq g.ch
  have hl : xs.length = ys.length := by have := congrArg List.length hm; simpa using this
  apply List.ext_getElem (by simpa using hl)
  intro i h1 h2
  rw [List.length_map] at h1 h2
  have e : tup xs[i].1 = tup ys[i].1 := by
    have a : (((xs.map (·.1)).map tup)[i]'(by simpa using h1)) = (((ys.map (·.1)).map tup)[i]'(by simpa using h2)) := by simp only [hm]
    simpa using a
  have hx := (h.ok xs[i] (List.getElem_mem h1)).2
  have hy := (g.ok ys[i] (List.getElem_mem h2)).2
  rw [List.getElem_map, List.getElem_map]
  unfold tupH
  rw [e]
  congr 1
  have e1 : xs[i].1.k = ys[i].1.k := congrArg (·.1) e
  have e2 : xs[i].1.S = ys[i].1.S := congrArg (·.2.1) e
  have e3 : xs[i].1.D = ys[i].1.D := congrArg (·.2.2.1) e
  rw [e1, e2, e3] at hx
  exact hx.uniq hy
/-- Deflate is one answer. -/
theorem DefIsN.uniq {zs X Y : List Int} {lv : Int} (h : DefIsN zs lv X) (g : DefIsN zs lv Y) : X = Y := by
  by_cases hlv : lv < 1
  · rw [h.1 hlv, g.1 hlv]
  · obtain ⟨ts, xs, _, _, _, _, ⟨_, a1⟩, a2, a3⟩ := h.2 (by omega)
    obtain ⟨us, ys, _, _, _, _, ⟨_, b1⟩, b2, b3⟩ := g.2 (by omega)
    obtain rfl := a1.one b1
    have hu := a2.uniq b2
    have hl : xs.length = ys.length := by have := congrArg List.length hu; simpa using this
    have e : dataL (strN xs.length xs) = dataL (strN ys.length ys) := by rw [strN_tup xs.length hu, hl]
    rcases a3 with ⟨p1, p2⟩ | ⟨p1, p2⟩
    · rcases b3 with ⟨q1, q2⟩ | ⟨q1, q2⟩
      · rw [p1, q1, e]
      · rw [p1, e] at p2; omega
    · rcases b3 with ⟨q1, q2⟩ | ⟨q1, q2⟩
      · rw [q1, ← e] at q2; omega
      · rw [p1, q1]
set_option maxHeartbeats 8000000 in
theorem deflate_big (w : World) (hT : Tab w) (h0 : 0 < w.heap.size) (a : Option Addr) (cap : Nat) (zs : List Int) (lv : Int) (ht : Text w.heap.size w a zs.length zs) (hnil : a = none → zs.length = 0 ∧ cap = 0) (hcap : zs.length ≤ cap) (hcm : cap ≤ 9223372036854775807) (hl : zs.length ≤ 1000000) :
    Calls Tryd.prog 5 #[.slice a zs.length cap, .int .i64 lv] w (DefRetN w zs lv) := by
  have HSO := hide (stored_c w a cap zs ht hnil hcap (by omega))
  have hz : ∀ i, 0 ≤ M.ln zs i ∧ M.ln zs i ≤ 255 := fun i => ht.2.1 i
  have HT := hide hT
  have HTX := hide ht
  by_cases hlv : lv < 1
  · have HQ : Hid (∀ e w', StoRet w zs e w' → ∃ g c, e = .returned (.slice (some ⟨g, 0, none⟩) (stB zs).length c) ∧ DefRetN w zs lv (.returned (.slice (some ⟨g, 0, none⟩) (stB zs).length c)) w') := fun e w' h => by
      obtain ⟨g, c, rfl, h1, h2⟩ := h
      exact ⟨g, c, rfl, g, c, stB zs, rfl, h1, ⟨fun _ => rfl, fun h => by omega⟩, h2⟩
    generalize stB zs = ST at HQ
    clear hT ht hnil hz HT HTX
    go_enter Tryd.func5, Tryd.ntmps5
    go_wp2_with (go_at_call 6; refine HSO.out.mono ?_; intro e w1 h1; obtain ⟨g, c, rfl, hq⟩ := HQ.out _ _ h1; have HR := hide hq; clear h1 hq HSO HQ)
    go_ret
    exact HR.out
  · have HFI : Hid (∀ w1, Below w.heap.size w w1 → Calls Tryd.prog 11 #[.slice a zs.length cap, .int .i64 lv] w1 (M.FindOk zs lv w1)) := fun w1 hb => M.find_c a cap zs lv w1 (text_bys (B := w.heap.size) (HTX.out.kept (Kept.of_below hb) (fun b hb' e => by omega)) hb.size) (by omega) hcap hcm
    have hlv' : 1 ≤ lv := by omega
    clear hT ht hnil
    go_enter Tryd.func5, Tryd.ntmps5
    go_upto_region 4 with (go_at_call 6; refine HSO.out.mono ?_; rintro e w1 ⟨g1, c1, rfl, o1, b1⟩; have HF1 := hide (HFI.out w1 b1); have O1 := hide o1; have B1 := hide b1; clear o1 b1 HSO HFI)
    have HSH : Hid (∀ w2 e, M.FindOk zs lv w1 e w2 → ∃ ta ct ts, e = .returned (.slice ta ts.length ct) ∧ M.Rt ts ∧ M.Bt ts ∧ M.tel ts = zs ∧ ts.length ≤ zs.length ∧ (M.FdTo zs zs.length ts ∧ M.FndAll zs lv ts) ∧ Below w1.heap.size w1 w2 ∧ Calls Tryd.prog 10 #[.slice ta ts.length ct] w2 (ManyQ w2 ts)) := fun w2 e h => by
      obtain ⟨ta, ct, ts, rfl, ht, hb, hr, hbt, htel, hm, hfd, how⟩ := h.all hz
      obtain ⟨a', c', hv, htk, hblk, hnl, hcl⟩ := how.form
      simp only [Value.slice.injEq] at hv
      obtain ⟨rfl, _, rfl⟩ := hv
      have hb2 : Below w.heap.size w w2 := B1.out.trans (hb.mono B1.out.size)
      refine ⟨ta, ct, ts, rfl, hr, hbt, htel, hm, hfd hlv', hb, shortest_any w2 (HT.out.below hb2 h0) (Nat.lt_of_lt_of_le h0 hb2.size) ta ct ts ⟨htk, fun b off e => (hblk b off e).2, TOk.of hr hbt, by omega⟩ hcl (fun e => (hnl e).2)⟩
    go_upto_region 5 with (first
      | (go_at_call 11; refine HF1.out.mono ?_; intro e w2 hf; obtain ⟨ta, ct, ts, rfl, f1, f2, f3, f4, f5, f6, f7⟩ := HSH.out w2 e hf; have F1 := hide f1; have F2 := hide f2; have F3 := hide f3; have F4 := hide f4; have F5 := hide f5; have B2 := hide (B1.out.trans (f6.mono B1.out.size)); have O2 := hide (o_below O1.out f6); have HS2 := hide f7; clear hf f1 f2 f3 f4 f5 f6 f7 HF1 HSH)
      | (go_at_call 10; refine HS2.out.mono ?_; rintro e w3 ⟨b3, off3, c3, qs, rfl, r3, n3, i3, t3, hd3, le3, fw3, bl3⟩; have HST := hide (stream_c w3 (HT.out.below (B2.out.trans (bl3.mono B2.out.size)) h0) (by have := B2.out.size; have := bl3.size; omega) b3 off3 c3 qs r3 ⟨n3.1, by omega⟩ i3 fw3); have N3 := hide n3; have I3 := hide i3; have T3 := hide t3; have HD3 := hide hd3; have LE3 := hide le3; have B3 := hide (B2.out.trans (bl3.mono B2.out.size)); have O3 := hide (o_below O2.out bl3); clear r3 n3 i3 t3 hd3 le3 fw3 bl3 HS2)
      | (go_at_call 9; refine HST.out.mono ?_; rintro e w4 ⟨xs, g4, c4, hh4, rfl, o4, bl4⟩; have HH4 := hide hh4; have O4 := hide o4; have B4 := hide (B3.out.trans (bl4.mono B3.out.size)); have O3b := hide (o_below O3.out bl4); have BS := hide B3.out.size; clear hh4 o4 bl4 HST))
    have HOUT : Hid (∀ X g c, OwnsB w4 w.heap.size (.slice (some ⟨g, 0, none⟩) X.length c) X → ((X = dataL (strN qs.length xs) ∧ X.length ≤ (stB zs).length) ∨ (X = stB zs ∧ (stB zs).length < (dataL (strN qs.length xs)).length)) → DefRetN w zs lv (.returned (.slice (some ⟨g, 0, none⟩) X.length c)) w4) := fun X g c ho hX => by
      have hh := HH4.out
      have hql : xs.length = qs.length := by rw [← hh.1, List.length_map]
      rw [← hql] at hX
      have hbx : BlX ts xs := blX_of hh N3.out (fun q hq => (I3.out q hq).ok) T3.out HD3.out LE3.out
      exact ⟨g, c, X, rfl, ho, ⟨fun h => by omega, fun _ => ⟨ts, xs, F1.out, F2.out, F3.out, F4.out, F5.out, hbx, hX⟩⟩, B4.out⟩
    have O4' := hide (OwnsB.low O4.out BS.out)
    generalize dataL (strN qs.length xs) = Y at O4' HOUT ⊢
    generalize stB zs = ST at O3b HOUT ⊢
    clear HH4 N3 O4 O1 O2 O3 HD3 T3 LE3 I3 F1 F2 F3 F4 F5 B1 B2 B3 B4 BS HT HTX hz
    by_cases hle : Y.length ≤ ST.length
    case pos =>
      have hle' : (Y.length : Int) ≤ (ST.length : Int) := by omega
      have HR := hide (HOUT.out Y g4 c4 O4'.out (.inl ⟨rfl, hle⟩))
      clear HOUT
      go_wp2_with fail
      go_ret
      exact HR.out
    case neg =>
      have hle' : ¬ (Y.length : Int) ≤ (ST.length : Int) := by omega
      have HR := hide (HOUT.out ST g1 c1 O3b.out (.inr ⟨rfl, by omega⟩))
      clear HOUT
      go_wp2_with fail
      go_ret
      exact HR.out
end Go.Proofs.YtlakgbckopjelabDoor

/- alive: contract. -/
namespace Go.Proofs.YtlakgbckopjelabDoor
set_option maxRecDepth 100000
open Go Go.RowKit
set_option linter.unusedVariables false

theorem text_lit {w : World} {g : Nat} {L : List Int} {cs : Array Value} {t : TypeId} {fr : Nat × Nat} (h : w.heap[g]? = some (.cells cs t fr)) (hc : cs = (L.map (Value.int .u8)).toArray) (hb : ∀ x ∈ L, 0 ≤ x ∧ x ≤ 255) : Text w.heap.size w (some ⟨g, 0, none⟩) L.length L := by
  refine ⟨rfl, fun i => ?_, .inr ⟨g, 0, lt_of_block h, rfl, fun i hi => ?_⟩⟩
  · by_cases hi : i < L.length
    · simp only [List.getD, List.getElem?_eq_getElem hi, Option.getD_some]
      exact hb _ (List.getElem_mem hi)
    · simp [List.getD, List.getElem?_eq_none (show L.length ≤ i by omega)]
  · subst hc
    simp [World.cell?, h, List.getD, hi]
abbrev tkA : List M.Tk := [(97, 0, 0)]
theorem fix_a : dataL (blB 1 true [] iFix iFive tkA) = [75, 4, 0] := by decide +kernel
theorem fix_none : (dataL (blB 1 true [] iFix iFive [])).length = 2 := by decide +kernel
theorem sz_none : szB 1 [] iFix iFive [] = 10 := by decide +kernel
theorem sto_a : stB [97] = [1, 1, 0, 254, 255, 97] := by rw [stB_small (by decide)]; rfl
theorem sto_none : (stB []).length = 5 := by rw [stB_small (by decide)]; rfl
theorem tk_in {w : World} {v : Array Value} (hv : v = #[.int .u8 97, .int .i64 0, .int .i64 0]) : TkIn (w.alloc (.cells v 30)) (some ⟨w.heap.size, 0, none⟩) tkA := by
  have hb : (w.alloc (.cells v 30)).heap[w.heap.size]? = some (.cells v 30 (0, 0)) := heap_new w _
  refine ⟨.inr ⟨w.heap.size, 0, lt_of_block hb, rfl, fun i hi => ?_⟩, fun b off e => ?_, fun t ht => ?_, by decide⟩
  · obtain rfl : i = 0 := by simpa using hi
    subst hv
    refine ⟨?_, ?_, ?_⟩ <;> rw [cells_of hb] <;> rfl
  · simp only [Option.some.injEq, Addr.mk.injEq, and_true] at e
    obtain ⟨rfl, _⟩ := e
    exact lt_of_block hb
  · simp at ht
    subst ht
    exact .inl ⟨rfl, by decide, by decide⟩
theorem rt_a : M.Rt tkA := fun j hj => by
  obtain rfl : j = 0 := by simpa using hj
  exact .inl ⟨rfl, rfl⟩
theorem dyn_len {S D H : List Int} {ts : List M.Tk} (hb : BkOk 2 ts S D) (hH : HdIs 2 S D H) : 29 ≤ 3 + H.length := by
  rcases hH with ⟨h, _⟩ | ⟨_, _, F, many, hll, rfl⟩
  · omega
  · have := hll.m0
    unfold hdB
    simp only [List.length_append, bitsN_length, innB_length]
    omega
theorem def_none {X : List Int} (h : DefIs [] 1 X) : X.length = 2 := by
  obtain ⟨ts, k, S, D, H0, H, hr, h8, htel, hle, _, hb, hH0, hH, hsz, hX⟩ := h.2 (by decide)
  have hts : ts = [] := List.eq_nil_of_length_eq_zero (by simpa using hle)
  subst hts
  rw [sz_none] at hsz
  have hn1 := mco_nonneg false (check_ok hb.cs).2.1 (emk [])
  have hn2 := mco_nonneg true (check_ok hb.cd).2.1 (emk [])
  rcases hb.kind with ⟨rfl, rfl, rfl⟩ | ⟨rfl, _⟩
  · obtain ⟨_, _, rfl⟩ := kind_one hb hH
    rcases hX with ⟨rfl, _⟩ | ⟨rfl, hlt⟩
    · exact fix_none
    · rw [fix_none, sto_none] at hlt; omega
  · have := dyn_len hb hH0
    unfold szB at hsz
    omega
set_option maxHeartbeats 4000000 in
theorem alive_c (w : World) (hT : Tab w) : Calls Tryd.prog 4 #[] w fun e w' => e = .returned (.bool true) ∧ Below w.heap.size w w' := by
  have h0 : 0 < w.heap.size := lt_of_cell (hT 0 (by decide))
  have HT := hide hT
  have HA1 : Hid (Calls Tryd.prog 6 #[.slice (some ⟨w.heap.size, 0, none⟩) 1 1] (w.alloc (.cells #[.int .u8 97] 5 (1, 2))) fun e w' => ∃ g c, e = .returned (.slice (some ⟨g, 0, none⟩) 6 c) ∧ OwnsB w' 0 (.slice (some ⟨g, 0, none⟩) 6 c) [1, 1, 0, 254, 255, 97] ∧ Below w.heap.size w w') := by
    have hb : Below w.heap.size w (w.alloc (.cells #[.int .u8 97] 5 (1, 2))) := (Below.refl _ w).alloc (Nat.le_refl _) _
    refine (stored_c _ (some ⟨w.heap.size, 0, none⟩) 1 [97] (text_lit (heap_new w _) rfl (by decide)) (fun e => by cases e) (by decide) (by decide)).mono ?_
    rintro e w' ⟨g, c, rfl, o, b⟩
    rw [sto_a] at o ⊢
    exact ⟨g, c, rfl, OwnsB.low o (Nat.zero_le _), hb.trans (b.mono hb.size)⟩
  have HA2 : Hid (∀ w1, Below w.heap.size w w1 → Calls Tryd.prog 7 #[.slice (some ⟨w1.heap.size, 0, none⟩) 1 1] (w1.alloc (.cells #[.int .u8 97, .int .i64 0, .int .i64 0] 30)) fun e w' => ∃ g c, e = .returned (.tuple #[.slice (some ⟨g, 0, none⟩) 3 c, .bool true]) ∧ OwnsB w' 0 (.slice (some ⟨g, 0, none⟩) 3 c) [75, 4, 0] ∧ Below w1.heap.size w1 w') := fun w1 hb1 => by
    have hb : Below w1.heap.size w1 (w1.alloc (.cells #[.int .u8 97, .int .i64 0, .int .i64 0] 30)) := (Below.refl _ w1).alloc (Nat.le_refl _) _
    have hb2 : Below w.heap.size w (w1.alloc (.cells #[.int .u8 97, .int .i64 0, .int .i64 0] 30)) := hb1.trans (hb.mono hb1.size)
    refine (fixed_yes _ (HT.out.below hb2 h0) (Nat.lt_of_lt_of_le h0 hb2.size) (some ⟨w1.heap.size, 0, none⟩) 1 tkA (tk_in rfl) rt_a).mono ?_
    rintro e w' ⟨S, D, H, g, c, hbk, _, hH, rfl, o, b⟩
    obtain ⟨rfl, rfl, rfl⟩ := kind_one hbk hH
    rw [fix_a] at o ⊢
    exact ⟨g, c, rfl, OwnsB.low o (Nat.zero_le _), hb.trans (b.mono hb.size)⟩
  have HA3 : Hid (∀ w1, Below w.heap.size w w1 → Calls Tryd.prog 8 #[.slice (some ⟨w1.heap.size, 0, none⟩) 1 1] (w1.alloc (.cells #[.int .u8 97, .int .i64 0, .int .i64 0] 30)) fun e w' => ∃ g c n, e = .returned (.tuple #[.slice (some ⟨g, 0, none⟩) n c, .bool true]) ∧ 3 < n ∧ Below w1.heap.size w1 w') := fun w1 hb1 => by
    have hb : Below w1.heap.size w1 (w1.alloc (.cells #[.int .u8 97, .int .i64 0, .int .i64 0] 30)) := (Below.refl _ w1).alloc (Nat.le_refl _) _
    have hb2 : Below w.heap.size w (w1.alloc (.cells #[.int .u8 97, .int .i64 0, .int .i64 0] 30)) := hb1.trans (hb.mono hb1.size)
    refine (dynamic_yes _ (HT.out.below hb2 h0) (Nat.lt_of_lt_of_le h0 hb2.size) (some ⟨w1.heap.size, 0, none⟩) 1 tkA (tk_in rfl) rt_a).mono ?_
    rintro e w' ⟨S, D, H, g, c, hbk, _, hH, rfl, o, b⟩
    refine ⟨g, c, _, rfl, ?_, hb.trans (b.mono hb.size)⟩
    have := dyn_len hbk hH
    rw [dataL_length]
    unfold blB
    rw [List.length_append, List.length_append, knd_length]
    omega
  have HA4 : Hid (∀ w1, Below w.heap.size w w1 → Calls Tryd.prog 5 #[.slice none 0 0, .int .i64 1] w1 fun e w' => ∃ g c, e = .returned (.slice (some ⟨g, 0, none⟩) 2 c) ∧ Below w1.heap.size w1 w') := fun w1 hb1 => by
    refine (deflate_c w1 (HT.out.below hb1 h0) (Nat.lt_of_lt_of_le h0 hb1.size) none 0 [] 1 ⟨rfl, fun i => by simp, .inl rfl⟩ (fun _ => ⟨rfl, rfl⟩) (by decide) (by decide) (by decide)).mono ?_
    rintro e w' ⟨g, c, X, rfl, o, hX, b⟩
    rw [def_none hX]
    exact ⟨g, c, rfl, b⟩
  have hcb := Lib.run_convert_bytes_const (P := Tryd.prog) w 22 5 #[.int .u8 97] 1 1 Tryd.underlying22 Tryd.underlying5
  change _ = Result.ok _ (w.alloc (.cells #[.int .u8 97] 5 (1, 2))) at hcb
  clear hT
  go_enter Tryd.func4, Tryd.ntmps4
  go_upto_region 2 with (go_at_call 6; refine HA1.out.mono ?_; rintro e w1 ⟨g1, c1, rfl, o1, b1⟩; have O1 := hide o1; have B1 := hide b1; have H2 := hide (HA2.out w1 b1); clear o1 b1 HA1 HA2)
  go_upto_region 3 with (go_at_call 7; refine H2.out.mono ?_; rintro e w2 ⟨g2, c2, rfl, o2, b2⟩; have O2 := hide o2; have O12 := hide (OwnsB.below O1.out b2); have B2 := hide (B1.out.trans (b2.mono B1.out.size)); have H3 := hide (HA3.out w2 B2.out); clear o2 b2 H2 HA3 O1)
  go_upto_region 4 with (go_at_call 8; refine H3.out.mono ?_; rintro e w3 ⟨g3, c3, n3, rfl, hn3, b3⟩; have O13 := hide (OwnsB.below O12.out b3); have O23 := hide (OwnsB.below O2.out b3); have B3 := hide (B2.out.trans (b3.mono B2.out.size)); have H4 := hide (HA4.out w3 B3.out); clear b3 H3 HA4 O12 O2)
  have k1 : (convert 22 9 (.slice (some ⟨g1, 0, none⟩) 6 c1)).run Tryd.prog w3 = .ok (.string ⟨#[1, 1, 0, 254, 255, 97]⟩) w3 := conv_own O13.out
  have k2 : (convert 22 9 (.slice (some ⟨g2, 0, none⟩) 3 c2)).run Tryd.prog w3 = .ok (.string ⟨#[75, 4, 0]⟩) w3 := conv_own O23.out
  have hn : (3 : Int) < (n3 : Int) := by omega
  clear O13 O23
  go_wp2_with (go_at_call 5; refine H4.out.mono ?_; rintro e w4 ⟨g4, c4, rfl, b4⟩; have B4 := hide (B3.out.trans (b4.mono B3.out.size)); clear b4 H4)
  go_ret
  exact ⟨rfl, B4.out⟩
end Go.Proofs.YtlakgbckopjelabDoor

/- PROVED: where the listed variable reads as the program's text lays it, the order of lengths lies in its variable; the world that the program's own start leaves is such a world. How the laws' arguments are opened. -/
namespace Go.Proofs.YtlakgbckopjelabDoor
set_option maxRecDepth 100000
open Go Go.RowKit
set_option linter.unusedVariables false

/-- The name of the listed variable, as the row has it. -/
def vnO : String := ((Rows.deflateAgainRow.laid.map Prod.fst)[0]?).getD ""
theorem gO : Tryd.prog.globalNamed vnO = some 0 := by kernel_rfl
theorem tO : (Tryd.prog.globals[0]?).map (·.type) = some 114 := by kernel_rfl
theorem tabIs_of_vars {P : Program} {W : World} {name : String} {k : IntKind} {zs : List Int} {rest : List (String × DataW Unit)} {g : Nat} {t e : TypeId} {n : Nat} {ps : List MemPlace}
    (hg : P.globalNamed name = some g) (hty : (P.globals[g]?).map (·.type) = some t) (ht : P.underlying t = some (.array n e)) (he : P.underlying e = some (.int k)) (hce : P.cellsOf e = 1) (hct : P.cellsOf t = n)
    (h : DataW.LaidVars P W ((name, Lib.tabData k zs) :: rest) ps) : Lib.TabIs P W name k zs := by
  obtain ⟨g', t', cs, fuel, p, q, hg', ht', hvar, hd, _, _⟩ := h
  obtain rfl := Option.some.inj (hg.symm.trans hg')
  obtain rfl := Option.some.inj (hty.symm.trans ht')
  unfold Lib.TabIs
  rw [hvar, ← Lib.cells_of_tab ht he hce hct hd]
theorem laid_eq : ∃ r, Rows.deflateAgainRow.laid = (vnO, Lib.tabData .i64 (iOrd.map Int.ofNat)) :: r := ⟨_, rfl⟩
theorem cells19 : Tryd.prog.cellsOf 114 = 19 := by kernel_rfl
theorem tab_of_laid {W : World} (h : laidMetH Tryd.prog Rows.deflateAgainRow.laid W) : Tab W := by
  rw [MakeChecks.laidMetH_plain _ _ _ (by kernel_rfl)] at h
  obtain ⟨r, he⟩ := laid_eq
  rw [he] at h
  obtain ⟨ps, hl, _⟩ := h
  have hO := tabIs_of_vars gO tO Tryd.underlying114 Tryd.underlying3 Tryd.cells3 cells19 hl
  intro i hi
  have := hO.cell gO i (by rw [List.length_map]; exact hi)
  rw [this]
  congr 2
  have hi' : i < iOrd.length := hi
  simp [List.getD, hi']
theorem wit_met (os : Os) (args : Array Value) : laidMetH Tryd.prog Rows.deflateAgainRow.laid ((World.laidAll Tryd.prog os Rows.deflateAgainRow.laid).forCall (fun _ _ => 0) ⟨#[], args, []⟩).memory := by
  rw [MakeChecks.laidMetH_plain _ _ _ (by kernel_rfl)]
  exact laidMet_laidAll _ (by kernel_rfl) (by kernel_rfl)

section
open Go.ChangeShapes Go.WideShapes Go.ChangeAt
variable {H : Type} {enc : TypeId × Value → H} {W : World}
/-- Bytes that come in. -/
def BIn (W : World) (a : Option Addr) (len cap : Nat) (zs : List Int) : Prop := Text W.heap.size W a len zs ∧ len ≤ cap ∧ cap ≤ 9223372036854775807 ∧ (a = none → len = 0 ∧ cap = 0)
theorem trod_bytes {fuel : Nat} {cs : List Value} {x : DataW H × List MemPlace} (h : DataW.trod enc Tryd.prog W 0 (fun _ => true) true fuel 22 cs = some x) :
    ∃ a len cap zs, cs = [.slice a len cap] ∧ BIn W a len cap zs ∧ ((x.1 = .nil ∧ len = 0) ∨ ∃ els sp, x.1 = .slice els sp ∧ els.length = len) := by
  rcases open_ints Tryd.underlying22 Tryd.underlying5 Tryd.cells5 h with ⟨rfl, rfl⟩ | ⟨a, l, c, zs, rfl, _, hl, hm, hz, rfl, hcell, hwz⟩
  · exact ⟨none, 0, 0, [], rfl, ⟨⟨rfl, by intro i; simp, .inl rfl⟩, Nat.le_refl _, by omega, fun _ => ⟨rfl, rfl⟩⟩, .inl ⟨rfl, rfl⟩⟩
  · have hz' : zs.length = c := by simpa using hz
    refine ⟨some a, l, c, zs.take l, rfl, ⟨⟨by simp; omega, ?_, ?_⟩, hl, by unfold maxLen at hm; omega, fun e => by simp at e⟩, .inr ⟨_, _, rfl, by simp [lits]; omega⟩⟩
    · intro i
      by_cases hi : i < (zs.take l).length
      · have hm := List.getElem_mem hi
        have hw := bounds_u8 (hwz _ (List.mem_of_mem_take hm))
        simp only [List.getD, List.getElem?_eq_getElem hi, Option.getD_some]
        omega
      · simp [List.getD, List.getElem?_eq_none (show (zs.take l).length ≤ i by omega)]
    · by_cases h0 : l = 0
      · exact .inl h0
      · obtain ⟨b, off, spot⟩ := a
        have hc := hcell 0 (by omega)
        have hspot : spot = none := by simpa [Addr.add] using World.cell?_spot hc
        subst hspot
        refine .inr ⟨b, off, ?_, rfl, fun i hi => ?_⟩
        · have := lt_of_cell hc
          simpa [Addr.add] using this
        · have := hcell i (by omega)
          have e : ((⟨b, off, none⟩ : Addr).add i) = ⟨b, off + i, none⟩ := by unfold Addr.add; split <;> simp_all
          rw [e] at this
          rw [this]
          simp [List.getD, hi]
theorem open_bytes {ts : List TypeId} {ds : List (DataW H)} {j : Nat} {a : Option Addr} {len cap : Nat} {d : DataW H} {p : List MemPlace} (hsz : (DataW.weightsEach Tryd.prog ts ds).all (· ≤ reachBytes) = true) (ht : ts[j]? = some 22) (hd : ds[j]? = some d)
    (h : DataW.Trod enc Tryd.prog W 0 (fun _ => true) true 22 (.slice a len cap) d p) : ∃ zs, BIn W a len cap zs ∧ len ≤ 140737488351232 := by
  obtain ⟨fuel, hf⟩ := h
  obtain ⟨a', len', cap', zs, hcs, htx, hx⟩ := trod_bytes hf
  simp [Value.cells] at hcs
  obtain ⟨rfl, rfl, rfl⟩ := hcs
  refine ⟨zs, htx, ?_⟩
  rcases hx with ⟨_, h0⟩ | ⟨els, sp, hx, hl⟩
  · omega
  · simp only at hx
    subst hx
    have := sized_slice hsz ht hd Tryd.underlying22
    rw [Tryd.bytes5] at this
    simp only [reachBytes] at this
    omega
theorem bulk_one (d : DataW H) : 1 ≤ Rows.uptoBulk d := by
  cases d with
  | lit l => cases l <;> simp [Rows.uptoBulk]
  | nil => simp [Rows.uptoBulk]
  | ptr d => simp [Rows.uptoBulk]
  | slice elems spare => simp [Rows.uptoBulk]
  | agg parts => simp [Rows.uptoBulk]
  | iface t d => simp [Rows.uptoBulk]
  | map entries => simp [Rows.uptoBulk]
  | held h => simp [Rows.uptoBulk]
theorem bulk_len (l : List (DataW H)) : l.length ≤ Rows.uptoBulkAll l := by
  induction l with
  | nil => simp [Rows.uptoBulkAll]
  | cons x r ih => have := bulk_one x; simp only [Rows.uptoBulkAll, List.length_cons]; omega
theorem open_small {a : Option Addr} {len cap : Nat} {d : DataW H} {p : List MemPlace} (hk : Rows.uptoBulk d ≤ 1048576) (h : DataW.Trod enc Tryd.prog W 0 (fun _ => true) true 22 (.slice a len cap) d p) : ∃ zs, BIn W a len cap zs ∧ len ≤ 1048576 := by
  obtain ⟨fuel, hf⟩ := h
  obtain ⟨a', len', cap', zs, hcs, htx, hx⟩ := trod_bytes hf
  simp [Value.cells] at hcs
  obtain ⟨rfl, rfl, rfl⟩ := hcs
  refine ⟨zs, htx, ?_⟩
  rcases hx with ⟨_, h0⟩ | ⟨els, sp, hx, hl⟩
  · omega
  · simp only at hx
    subst hx
    have := bulk_len els
    simp only [Rows.uptoBulk] at hk
    omega
end
theorem text_up8 {B B' : Nat} {w : World} {a : Option Addr} {len : Nat} {zs : List Int} (h : Text B w a len zs) (hB : B ≤ B') : Text B' w a len zs := by
  obtain ⟨h1, h2, h3⟩ := h
  refine ⟨h1, h2, ?_⟩
  rcases h3 with h3 | ⟨b, off, hb, r⟩
  · exact .inl h3
  · exact .inr ⟨b, off, by omega, r⟩
theorem BIn.stay {W W' : World} {a : Option Addr} {len cap : Nat} {zs : List Int} (h : BIn W a len cap zs) (k : Below W.heap.size W W') : BIn W' a len cap zs :=
  ⟨text_up8 (h.1.kept (Kept.of_below k) (fun b hb e => by omega)) k.size, h.2⟩
theorem Tab.pos {w : World} (h : Tab w) : 0 < w.heap.size := lt_of_cell (h 0 (by decide))
theorem Tab.on {w w' : World} (h : Tab w) (k : Below w.heap.size w w') : Tab w' := h.below k h.pos
end Go.Proofs.YtlakgbckopjelabDoor
