/- Several texts, laid together: PFixed, PHead, PInner, DCount. -/
import Derived.Test.YtlakgbckopjelaaGreatDoorG17PMake
import Derived.Test.YtlakgbckopjelaaGreatDoorDEach
import Derived.Test.YtlakgbckopjelaaGreatDoorG14DNums
/- The stream's fixedBlock: contract. -/
namespace Go.Proofs.YtlakgbckopjelaaGreatDoor
set_option maxRecDepth 100000
open Go Go.RowKit

theorem ints_at {w : World} {g : Nat} {L : List Int} {t : TypeId} {fr : Nat × Nat} (h : w.heap[g]? = some (.cells (valA L) t fr)) : Ints g (g + 1) w (some ⟨g, 0, none⟩) L :=
  .inr ⟨g, 0, by omega, by omega, lt_of_block h, rfl, fun i hi => by
    rw [Nat.zero_add]
    have : w.cell? ⟨g, i, none⟩ = (valA L)[i]? := by simp [World.cell?, h]
    rw [this]; exact valA_at L hi⟩
section
variable {B bs br : Nat} {a : Option Addr} {len cap : Nat} {zs : List Int} {m : Nat} {w w' : World} {p : Nat} {o : Option Addr} {oc : Nat} {fc : Value} {out : List Int}
theorem iFix_good : Good iFix := check_good iFix_check
theorem iFive_good : Good iFive := check_good iFive_check

end
end Go.Proofs.YtlakgbckopjelaaGreatDoor

/- What a dynamic block says of its codes, in parts; the stream's counts: contract. -/
namespace Go.Proofs.YtlakgbckopjelaaGreatDoor
set_option maxRecDepth 100000
open Go Go.RowKit

def iCnt (b : Nat → Nat) (T p : Nat) : Except Int (Nat × (Nat × Nat × Nat)) :=
  iThen (iTk b T p 5) fun q x => iThen (iTk b T q 5) fun q y => iThen (iTk b T q 4) fun q z => if 286 < x + 257 ∨ 30 < y + 1 then .error 63 else .ok (q, (x, y, z))
def iInn (b : Nat → Nat) (T p z : Nat) : Except Int (Nat × List Int) := iThen (iRd3 b T (z + 4) p 0 (List.replicate 19 0)) fun q first => if ¬ check first false = 0 then .error 63 else .ok (q, first)
noncomputable def iAll (first : List Int) (many : Nat) (b : Nat → Nat) (T p : Nat) : Except Int (Nat × List Int) := iLoop T (iLen first many b T) p []
theorem iHdr_eq (b : Nat → Nat) (T p : Nat) : iHdr b T p = iThen (iCnt b T p) fun q c => iThen (iInn b T q c.2.2) fun q first => iThen (iAll first (c.1 + 258 + c.2.1) b T q) fun q all =>
    if ln all 256 = 0 ∨ ¬ check (all.take (c.1 + 257)) true = 0 ∨ ¬ check (all.drop (c.1 + 257)) true = 0 then .error 63 else .ok (q, (all.take (c.1 + 257), all.drop (c.1 + 257))) := by
  unfold iHdr iCnt iInn iAll
  cases iTk b T p 5 with
  | error e => rfl
  | ok x =>
    obtain ⟨q, x⟩ := x
    simp only [iThen]
    cases iTk b T q 5 with
    | error e => rfl
    | ok y =>
      obtain ⟨q, y⟩ := y
      simp only
      cases iTk b T q 4 with
      | error e => rfl
      | ok z =>
        obtain ⟨q, z⟩ := z
        simp only
        by_cases hc : 286 < x + 257 ∨ 30 < y + 1
        · rw [if_pos hc, if_pos hc]
        · rw [if_neg hc, if_neg hc]
          simp only
          cases iRd3 b T (z + 4) q 0 (List.replicate 19 0) with
          | error e => rfl
          | ok f =>
            obtain ⟨q, f⟩ := f
            simp only
            by_cases hk : ¬ check f false = 0
            · rw [if_pos hk, if_pos hk]
            · rw [if_neg hk, if_neg hk]
section
variable {B bs br : Nat} {a : Option Addr} {len cap : Nat} {zs : List Int} {m : Nat} {w w' : World} {p : Nat} {o : Option Addr} {oc : Nat} {fc : Value} {out : List Int}
def CBad (br : Nat) (w : World) (e : Int) (x : Ending) (w' : World) : Prop := x = .returned (.tuple #[.int .i64 0, .int .i64 0, .int .i64 0, .int .i64 e]) ∧ Kept (fun b => b = br) w w' ∧ 60 ≤ e ∧ e ≤ 65
end
end Go.Proofs.YtlakgbckopjelaaGreatDoor

/- The stream's innerCode: contract. -/
namespace Go.Proofs.YtlakgbckopjelaaGreatDoor
set_option maxRecDepth 100000
open Go Go.RowKit

/-- The order of lengths lies in its variable. -/
def Tab (w : World) : Prop := ∀ i, i < 19 → w.cell? ⟨0, i, none⟩ = some (.int .i64 ((iOrd.getD i 0 : Nat) : Int))
theorem Tab.kept {M : Nat → Prop} {w w' : World} (h : Tab w) (k : Kept M w w') (h0 : ¬ M 0) : Tab w' := fun i hi => (k.cell (p := ⟨0, i, none⟩) (lt_of_cell (h i hi)) h0).trans (h i hi)
theorem Tab.below {B : Nat} {w w' : World} (h : Tab w) (k : Below B w w') (h0 : 0 < B) : Tab w' := h.kept (Kept.of_below k) (by omega)
theorem iOrd_lt : ∀ i, i < 19 → iOrd.getD i 0 < 19 := by decide
theorem valA_set (L : List Int) (i : Nat) (x : Int) : (valA L).setIfInBounds i (.int .i64 x) = valA (L.set i x) := by
  rw [← Array.toList_inj]
  simp [valA, List.map_set]
section
variable {B bs br : Nat} {a : Option Addr} {len cap : Nat} {zs : List Int} {m : Nat} {w w' : World} {p : Nat} {o : Option Addr} {oc : Nat} {fc : Value} {out : List Int}
/-- A code, wherever its parts lie. -/
def CodeX (lo hi : Nat) (w : World) (bc : Nat) (ls : List Int) : Prop := ∃ gl gc vo N, CodeAt lo hi w bc gl gc vo N ls
def IBad (br : Nat) (w : World) (e : Int) (x : Ending) (w' : World) : Prop := x = .returned (.tuple #[.pointer none, .int .i64 e]) ∧ Kept (fun b => b = br) w w' ∧ 60 ≤ e ∧ e ≤ 65
end
end Go.Proofs.YtlakgbckopjelaaGreatDoor

/- count: how often each symbol is: contract. -/
namespace Go.Proofs.YtlakgbckopjelaaGreatDoor
set_option maxRecDepth 100000
open Go Go.RowKit

/-- How often each symbol is among marks. -/
def tly (b : Bool) (n : Nat) (ms : List (Bool × Mk)) : List Int := (List.range n).map fun s => ((ms.countP (fun x => x.1 == b && x.2.1 == s) : Nat) : Int)
theorem tly_length (b : Bool) (n : Nat) (ms : List (Bool × Mk)) : (tly b n ms).length = n := by simp [tly]
theorem tly_ln (b : Bool) (n : Nat) (ms : List (Bool × Mk)) {s : Nat} (h : s < n) : ln (tly b n ms) s = ((ms.countP (fun x => x.1 == b && x.2.1 == s) : Nat) : Int) := by simp [ln, tly, List.getD, h]
theorem tly_nil (b : Bool) (n : Nat) : tly b n [] = List.replicate n 0 := by
  apply List.ext_getElem
  · simp [tly]
  · intro i h1 h2; simp [tly]
theorem tly_le (b : Bool) (n : Nat) (ms : List (Bool × Mk)) (s : Nat) : 0 ≤ ln (tly b n ms) s ∧ ln (tly b n ms) s ≤ ms.length := by
  by_cases h : s < n
  · rw [tly_ln b n ms h]
    have := List.countP_le_length (p := fun x : Bool × Mk => x.1 == b && x.2.1 == s) (l := ms)
    omega
  · have : ln (tly b n ms) s = 0 := by unfold ln; rw [List.getD_eq_getElem?_getD, List.getElem?_eq_none (by rw [tly_length]; omega)]; rfl
    omega
theorem tly_set (b : Bool) (n : Nat) (ms : List (Bool × Mk)) (m : Mk) (h : m.1 < n) : tly b n (ms ++ [(b, m)]) = (tly b n ms).set m.1 (ln (tly b n ms) m.1 + 1) := by
  apply List.ext_getElem
  · rw [List.length_set, tly_length, tly_length]
  · intro i h1 h2
    rw [tly_length] at h1
    rw [List.getElem_set]
    split
    · rename_i e
      subst e
      rw [tly_ln b n ms h]
      simp [tly, List.countP_append]
    · rename_i e
      simp [tly, List.countP_append, e]
theorem tly_other (b c : Bool) (n : Nat) (ms : List (Bool × Mk)) (m : Mk) (h : ¬ c = b) : tly b n (ms ++ [(c, m)]) = tly b n ms := by
  apply List.ext_getElem
  · rw [tly_length, tly_length]
  · intro i h1 h2
    simp [tly, List.countP_append, h]
/-- A tally in memory. -/
def TlAt (w : World) (tb : Nat) (A B : List Int) : Prop := w.heap[tb]? = some (.cells (valA (A ++ B)) 91 (0, 0)) ∧ A.length = 286 ∧ B.length = 30
def PAt (w : World) (bp tb : Nat) : Prop := w.heap[bp]? = some (.cells #[.pointer (some ⟨tb, 0, none⟩)] 57 (0, 0))
theorem TlAt.a {w : World} {tb : Nat} {A B : List Int} (h : TlAt w tb A B) : Ints 0 (tb + 1) w (some ⟨tb, 0, none⟩) A := by
  obtain ⟨h, hA, hB⟩ := h
  refine .inr ⟨tb, 0, Nat.zero_le _, by omega, lt_of_block h, rfl, fun i hi => ?_⟩
  rw [Nat.zero_add, cells_of h, valA_at _ (by rw [List.length_append]; omega)]
  unfold ln
  rw [getD_left hi]
theorem TlAt.b {w : World} {tb : Nat} {A B : List Int} (h : TlAt w tb A B) : Ints 0 (tb + 1) w (some ⟨tb, 286, none⟩) B := by
  obtain ⟨h, hA, hB⟩ := h
  refine .inr ⟨tb, 286, Nat.zero_le _, by omega, lt_of_block h, rfl, fun i hi => ?_⟩
  rw [cells_of h, valA_at _ (by rw [List.length_append]; omega)]
  unfold ln
  rw [getD_right (by omega), hA, Nat.add_sub_cancel_left]
theorem TlAt.below {w w' : World} {tb : Nat} {A B : List Int} (h : TlAt w tb A B) (k : Below w.heap.size w w') : TlAt w' tb A B := ⟨(k.block _ (lt_of_block h.1)).trans h.1, h.2⟩

theorem count1_c (bp tb : Nat) (A B : List Int) (m : Mk) (w : World) (hp : PAt w bp tb) (ht : TlAt w tb A B) (hm : m.1 < 286) (hb : 0 ≤ ln A m.1 ∧ ln A m.1 ≤ 4000000000) :
    Calls Tryz.prog 63 #[mkV m, .pointer (some ⟨bp, 0, none⟩)] w fun e w' => e = .returned (.tuple #[]) ∧ TlAt w' tb (A.set m.1 (ln A m.1 + 1)) B ∧ Kept (fun k => k = tb) w w' := by
  obtain ⟨s, x, n⟩ := m
  unfold mkV
  simp only at hm hb ⊢
  obtain ⟨W, hW⟩ : ∃ W, W = w.alloc (.cells #[.int .i64 (s : Int), .int .i64 (x : Int), .int .i64 (n : Int)] 94) := ⟨_, rfl⟩
  have bl : Below w.heap.size w W := by rw [hW]; exact (Below.refl _ _).alloc (Nat.le_refl _) _
  have hm0 : W.heap[w.heap.size]? = some (.cells #[.int .i64 (s : Int), .int .i64 (x : Int), .int .i64 (n : Int)] 94 (0, 0)) := by rw [hW]; exact heap_new w _
  have hp0 : W.heap[bp]? = _ := (bl.block _ (lt_of_block hp)).trans hp
  have ht0 := ht.below bl
  have cp := cells_of hp0 0
  have cm := cells_of hm0 0
  have hlen : s < (A ++ B).length := by rw [List.length_append, ht.2.1]; omega
  have ct := cells_of ht0.1 s
  rw [valA_at _ hlen, show ln (A ++ B) s = ln A s by unfold ln; exact getD_left (by rw [ht.2.1]; omega)] at ct
  have ft := free_of ht0.1 s
  simp at cp cm
  have HT := hide ht0
  have HK : Hid (Kept (fun k => k = tb) w W) := (Kept.of_below bl).mono (fun i hi e => by omega)
  have HW : Hid (w.alloc (.cells #[.int .i64 (s : Int), .int .i64 (x : Int), .int .i64 (n : Int)] 94) = W) := hW.symm
  have hs2 : (s : Int) < 286 := by omega
  have hs1 : (0 : Int) ≤ (s : Int) := by omega
  obtain ⟨X, hX⟩ : ∃ X, ln A s = X := ⟨_, rfl⟩
  rw [hX] at ct hb ⊢
  clear hp ht bl hm0 hp0 ht0 hW hlen hX
  go_enter Tryz.func63, Tryz.ntmps63
  go_upto_region 1 with fail
  rw [HW.out]
  go_region
  go_wp2_with fail
  go_end0
  refine ⟨rfl, ⟨?_, by rw [List.length_set]; exact HT.out.2.1, HT.out.2.2⟩, (HK.out.setCell (fun _ => rfl) _).drew⟩
  have := set_of HT.out.1 s (.int .i64 (X + 1))
  rw [valA_set, List.set_append_left _ _ (by rw [HT.out.2.1]; omega)] at this
  exact this
theorem count2_c (bp tb : Nat) (A B : List Int) (m : Mk) (w : World) (hp : PAt w bp tb) (ht : TlAt w tb A B) (hm : m.1 < 30) (hb : 0 ≤ ln B m.1 ∧ ln B m.1 ≤ 4000000000) :
    Calls Tryz.prog 64 #[mkV m, .pointer (some ⟨bp, 0, none⟩)] w fun e w' => e = .returned (.tuple #[]) ∧ TlAt w' tb A (B.set m.1 (ln B m.1 + 1)) ∧ Kept (fun k => k = tb) w w' := by
  obtain ⟨s, x, n⟩ := m
  unfold mkV
  simp only at hm hb ⊢
  obtain ⟨W, hW⟩ : ∃ W, W = w.alloc (.cells #[.int .i64 (s : Int), .int .i64 (x : Int), .int .i64 (n : Int)] 94) := ⟨_, rfl⟩
  have bl : Below w.heap.size w W := by rw [hW]; exact (Below.refl _ _).alloc (Nat.le_refl _) _
  have hm0 : W.heap[w.heap.size]? = some (.cells #[.int .i64 (s : Int), .int .i64 (x : Int), .int .i64 (n : Int)] 94 (0, 0)) := by rw [hW]; exact heap_new w _
  have hp0 : W.heap[bp]? = _ := (bl.block _ (lt_of_block hp)).trans hp
  have ht0 := ht.below bl
  have cp := cells_of hp0 0
  have cm := cells_of hm0 0
  have hlen : 286 + s < (A ++ B).length := by rw [List.length_append, ht.2.1, ht.2.2]; omega
  have ct := cells_of ht0.1 (286 + s)
  rw [valA_at _ hlen, show ln (A ++ B) (286 + s) = ln B s by unfold ln; rw [getD_right (by rw [ht.2.1]; omega), ht.2.1, Nat.add_sub_cancel_left]] at ct
  have ft := free_of ht0.1 (286 + s)
  simp at cp cm
  have HT := hide ht0
  have HK : Hid (Kept (fun k => k = tb) w W) := (Kept.of_below bl).mono (fun i hi e => by omega)
  have HW : Hid (w.alloc (.cells #[.int .i64 (s : Int), .int .i64 (x : Int), .int .i64 (n : Int)] 94) = W) := hW.symm
  have hs2 : (s : Int) < 30 := by omega
  have hs1 : (0 : Int) ≤ (s : Int) := by omega
  obtain ⟨X, hX⟩ : ∃ X, ln B s = X := ⟨_, rfl⟩
  rw [hX] at ct hb ⊢
  clear hp ht bl hm0 hp0 ht0 hW hlen hX
  go_enter Tryz.func64, Tryz.ntmps64
  go_upto_region 1 with fail
  rw [HW.out]
  go_region
  go_wp2_with fail
  go_end0
  refine ⟨rfl, ⟨?_, HT.out.2.1, by rw [List.length_set]; exact HT.out.2.2⟩, (HK.out.setCell (fun _ => rfl) _).drew⟩
  have := set_of HT.out.1 (286 + s) (.int .i64 (X + 1))
  rw [valA_set, List.set_append_right _ _ (by rw [HT.out.2.1]; omega), HT.out.2.1, Nat.add_sub_cancel_left] at this
  exact this

theorem built_tly : Tryz.prog.built 91 [] = some (valA (List.replicate 286 0 ++ List.replicate 30 0)) := by kernel_rfl
/-- What a tally of tokens is. -/
def TlOf (w : World) (tb : Nat) (ts : List M.Tk) : Prop := TlAt w tb (tly false 286 (emk ts)) (tly true 30 (emk ts))
theorem tmk_len (t : M.Tk) : (tmk t).length ≤ 2 := by unfold tmk; split <;> simp
theorem tms_len (ts : List M.Tk) : (tms ts).length ≤ 2 * ts.length := by
  induction ts with
  | nil => simp [tms]
  | cons t ts ih =>
    have := tmk_len t
    simp only [tms, List.flatMap_cons, List.length_append, List.length_cons] at ih ⊢
    omega
theorem emk_len (ts : List M.Tk) : (emk ts).length ≤ 2 * ts.length + 1 := by have := tms_len ts; simp [emk]; omega
/-- The marks' symbols are in their bounds. -/
theorem emk_ok {ts : List M.Tk} (h : TOk ts) : ∀ x ∈ emk ts, (x.1 = false → x.2.1 < 286) ∧ (x.1 = true → x.2.1 < 30) ∧ x.2.2.1 < 2 ^ x.2.2.2 ∧ x.2.2.2 ≤ 13 := by
  intro x hx
  unfold emk tms at hx
  rw [List.mem_append, List.mem_flatMap] at hx
  rcases hx with ⟨t, ht, hx⟩ | hx
  · unfold tmk at hx
    rcases h t ht with ⟨h0, h1, h2⟩ | ⟨h1, h2, h3, h4⟩
    · rw [if_pos h0] at hx
      simp at hx
      subst hx
      refine ⟨fun _ => by show t.1.toNat < 286; omega, fun e => (by cases e), Nat.zero_lt_one, Nat.zero_le _⟩
    · rw [if_neg (by omega)] at hx
      have a := lmk_ok t.2.1.toNat (by omega)
      have b := bmk_ok t.2.2.toNat (by omega)
      simp at hx
      rcases hx with rfl | rfl
      · exact ⟨fun _ => by show (lmk _).1 < 286; omega, fun e => (by cases e), a.2.2.2.2.1, by show (lmk _).2.2 ≤ 13; omega⟩
      · exact ⟨fun e => (by cases e), fun _ => by show (bmk _).1 < 30; omega, b.2.2.2.1, b.2.2.2.2⟩
  · simp at hx
    subst hx
    exact ⟨fun _ => by decide, fun e => (by cases e), by decide, by decide⟩
set_option maxHeartbeats 1000000 in
theorem count_c (a : Option Addr) (cap : Nat) (ts : List M.Tk) (w : World) (hT : M.Toks w a ts) (hok : TOk ts) (hl : ts.length ≤ 1000000000) :
    Calls Tryz.prog 31 #[.slice a ts.length cap] w fun e w' => e = .returned (.pointer (some ⟨w.heap.size, 0, none⟩)) ∧ TlOf w' w.heap.size ts ∧ Below w.heap.size w w' := by
  have hmf : ∀ (fn : Fn) (first cap : Array Value) (w : World), (Instr.makeFunc fn first cap).run Tryz.prog w = .ok (.func fn first cap) w := fun _ _ _ _ => rfl
  have HBD := hide built_tly
  obtain ⟨Z, hZ⟩ : ∃ Z, Z = valA (List.replicate 286 0 ++ List.replicate 30 0) := ⟨_, rfl⟩
  rw [← hZ] at HBD
  obtain ⟨W, hW⟩ : ∃ W, W = (w.alloc (.cells Z 91)).alloc (.cells #[.pointer (some ⟨w.heap.size, 0, none⟩)] 57) := ⟨_, rfl⟩
  have bl : Below w.heap.size w W := by rw [hW]; exact ((Below.refl _ _).alloc (Nat.le_refl _) _).alloc (by simp) _
  have ht0 : TlAt W w.heap.size (tly false 286 []) (tly true 30 []) := by
    rw [tly_nil, tly_nil]
    refine ⟨?_, by simp, by simp⟩
    rw [hW, heap_new1, hZ]
  have hp0 : PAt W (w.heap.size + 1) w.heap.size := by unfold PAt; rw [hW, heap_new2]
  have hmk := emk_ok hok
  have hml := emk_len ts
  obtain ⟨I, hI⟩ : ∃ I : List (Bool × Mk) → World → Prop, I = fun ms w' => TlAt w' w.heap.size (tly false 286 ms) (tly true 30 ms) ∧ PAt w' (w.heap.size + 1) w.heap.size ∧ M.Toks w' a ts ∧ Below w.heap.size w w' := ⟨_, rfl⟩
  have hTb : ∀ w', Below w.heap.size w w' → M.Toks w' a ts := fun w' k => hT.stay k
  have stepk : ∀ {w1 w2 : World} {ms' : List (Bool × Mk)} {A B : List Int}, TlAt w1 w.heap.size A B → PAt w1 (w.heap.size + 1) w.heap.size → Below w.heap.size w w1 → TlAt w2 w.heap.size (tly false 286 ms') (tly true 30 ms') → Kept (fun k => k = w.heap.size) w1 w2 → I ms' w2 ∧ w1.heap.size ≤ w2.heap.size ∧ ∀ (b : Nat) (cs : Array Value), w1.heap[b]? = some (Obj.cells cs 38 (0, 0)) → w2.heap[b]? = some (Obj.cells cs 38 (0, 0)) := by
    intro w1 w2 ms' A B ht1 hp hb ht hk
    have hb2 : Below w.heap.size w w2 := hb.trans (hk.below hb.size (fun i hi e => by omega))
    refine ⟨?_, hk.size, fun b cs h => hk.heap h (fun e => ?_)⟩
    · rw [hI]
      exact ⟨ht, hk.heap hp (by omega), hTb w2 hb2, hb2⟩
    · subst e
      rw [ht1.1] at h
      simp only [Option.some.injEq, Obj.cells.injEq] at h
      exact absurd h.2.1 (by decide)
  have HE := hide (each_count I (.pointer (some ⟨w.heap.size + 1, 0, none⟩)) (.pointer (some ⟨w.heap.size + 1, 0, none⟩)) a cap ts
    (fun ms w1 w2 h k => by
      subst hI
      obtain ⟨h1, h2, h3, h4⟩ := h
      exact ⟨h1.below k, (k.block _ (lt_of_block h2)).trans h2, h3.stay k, h4.trans (k.mono h4.size)⟩)
    (fun ms w1 h => by subst hI; exact h.2.2.1)
    (fun ms m w1 h hp => by
      have hI' := hI
      rw [hI'] at h
      obtain ⟨h1, h2, h3, h4⟩ := h
      have hm := (hmk _ (pre_mem hp)).1 rfl
      have hq := pre_len hp
      have hle := tly_le false 286 ms m.1
      refine (count1_c (w.heap.size + 1) w.heap.size _ _ m w1 h2 h1 hm (by omega)).mono ?_
      rintro e w2 ⟨rfl, k1, k2⟩
      rw [← tly_set false 286 ms m hm, ← tly_other true false 30 ms m (by decide)] at k1
      obtain ⟨r1, r2, r3⟩ := stepk h1 h2 h4 k1 k2
      exact ⟨rfl, r1, r2, r3⟩)
    (fun ms m w1 h hp => by
      have hI' := hI
      rw [hI'] at h
      obtain ⟨h1, h2, h3, h4⟩ := h
      have hm := (hmk _ (pre_mem hp)).2.1 rfl
      have hq := pre_len hp
      have hle := tly_le true 30 ms m.1
      refine (count2_c (w.heap.size + 1) w.heap.size _ _ m w1 h2 h1 hm (by omega)).mono ?_
      rintro e w2 ⟨rfl, k1, k2⟩
      rw [← tly_set true 30 ms m hm, ← tly_other false true 286 ms m (by decide)] at k1
      obtain ⟨r1, r2, r3⟩ := stepk h1 h2 h4 k1 k2
      exact ⟨rfl, r1, r2, r3⟩)
    hok hl W (by subst hI; exact ⟨ht0, hp0, hTb W bl, bl⟩))
  have HI := hide hI
  have HW : Hid ((w.alloc (.cells Z 91)).alloc (.cells #[.pointer (some ⟨w.heap.size, 0, none⟩)] 57) = W) := hW.symm
  clear hT hok hZ hW bl ht0 hp0 hmk hml hTb stepk hI
  go_enter Tryz.func31, Tryz.ntmps31
  go_upto_region 2 with (refine M.wpList_build rfl 91 _ rfl _ Z HBD.out (by simp [Act.eval]) ?_)
  rw [HW.out]
  go_wp2_with (go_at_call 62; refine HE.out.mono ?_; rintro e w1 ⟨rfl, k1⟩; rw [HI.out] at k1; have c0 := cells_of k1.2.1 0; simp at c0; have K1 := hide k1; clear k1)
  go_ret
  exact ⟨rfl, K1.out.1, K1.out.2.2.2⟩
end Go.Proofs.YtlakgbckopjelaaGreatDoor
