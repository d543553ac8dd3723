/- Several texts, laid together: DCount, DInner, DKraft, DTwo, DConcat. -/
import Derived.Test.YteknifnadbmfiaaGreatDoorpDEach
import Derived.Test.YteknifnadbmfiaaGreatDoorpMg01MRun
import Derived.Test.YteknifnadbmfiaaGreatDoorpAg12HPut
import Derived.Test.YteknifnadbmfiaaGreatDoorpDg01DNums
import Derived.Test.YteknifnadbmfiaaGreatDoorpLg06LAlive
import Derived.Test.YteknifnadbmfiaaGreatDoorpAg04ISpec
import Derived.Test.YteknifnadbmfiaaGreatDoorpDg00DTok
import Derived.Lib.AppendZeros
/- count: how often each symbol is: contract. -/
namespace Go.Proofs.YteknifnadbmfiaaGreatDoor
set_option maxRecDepth 100000
open Go Go.RowKit

/-- How often each symbol is among marks. -/
def tly (b : Bool) (n : Nat) (ms : List (Bool × Mk)) : List Int := (List.range n).map fun s => ((ms.countP (fun x => x.1 == b && x.2.1 == s) : Nat) : Int)
theorem tly_length (b : Bool) (n : Nat) (ms : List (Bool × Mk)) : (tly b n ms).length = n := by simp [tly]
theorem tly_ln (b : Bool) (n : Nat) (ms : List (Bool × Mk)) {s : Nat} (h : s < n) : ln (tly b n ms) s = ((ms.countP (fun x => x.1 == b && x.2.1 == s) : Nat) : Int) := by simp [ln, tly, List.getD, h]
theorem tly_nil (b : Bool) (n : Nat) : tly b n [] = List.replicate n 0 := by
  apply List.ext_getElem
  · simp [tly]
  · intro i h1 h2; simp [tly]
theorem tly_le (b : Bool) (n : Nat) (ms : List (Bool × Mk)) (s : Nat) : 0 ≤ ln (tly b n ms) s ∧ ln (tly b n ms) s ≤ ms.length := by
  by_cases h : s < n
  · rw [tly_ln b n ms h]
    have := List.countP_le_length (p := fun x : Bool × Mk => x.1 == b && x.2.1 == s) (l := ms)
    omega
  · have : ln (tly b n ms) s = 0 := by unfold ln; rw [List.getD_eq_getElem?_getD, List.getElem?_eq_none (by rw [tly_length]; omega)]; rfl
    omega
theorem tly_set (b : Bool) (n : Nat) (ms : List (Bool × Mk)) (m : Mk) (h : m.1 < n) : tly b n (ms ++ [(b, m)]) = (tly b n ms).set m.1 (ln (tly b n ms) m.1 + 1) := by
  apply List.ext_getElem
  · rw [List.length_set, tly_length, tly_length]
  · intro i h1 h2
    rw [tly_length] at h1
    rw [List.getElem_set]
    split
    · rename_i e
      subst e
      rw [tly_ln b n ms h]
      simp [tly, List.countP_append]
    · rename_i e
      simp [tly, List.countP_append, e]
theorem tly_other (b c : Bool) (n : Nat) (ms : List (Bool × Mk)) (m : Mk) (h : ¬ c = b) : tly b n (ms ++ [(c, m)]) = tly b n ms := by
  apply List.ext_getElem
  · rw [tly_length, tly_length]
  · intro i h1 h2
    simp [tly, List.countP_append, h]
/-- A tally in memory. -/
def TlAt (w : World) (tb : Nat) (A B : List Int) : Prop := w.heap[tb]? = some (.cells (valA (A ++ B)) 169 (0, 0)) ∧ A.length = 286 ∧ B.length = 30
def PAt (w : World) (bp tb : Nat) : Prop := w.heap[bp]? = some (.cells #[.pointer (some ⟨tb, 0, none⟩)] 135 (0, 0))
theorem TlAt.a {w : World} {tb : Nat} {A B : List Int} (h : TlAt w tb A B) : Ints 0 (tb + 1) w (some ⟨tb, 0, none⟩) A := by
  obtain ⟨h, hA, hB⟩ := h
  refine .inr ⟨tb, 0, Nat.zero_le _, by omega, lt_of_block h, rfl, fun i hi => ?_⟩
  rw [Nat.zero_add, cells_of h, valA_at _ (by rw [List.length_append]; omega)]
  unfold ln
  rw [getD_left hi]
theorem TlAt.b {w : World} {tb : Nat} {A B : List Int} (h : TlAt w tb A B) : Ints 0 (tb + 1) w (some ⟨tb, 286, none⟩) B := by
  obtain ⟨h, hA, hB⟩ := h
  refine .inr ⟨tb, 286, Nat.zero_le _, by omega, lt_of_block h, rfl, fun i hi => ?_⟩
  rw [cells_of h, valA_at _ (by rw [List.length_append]; omega)]
  unfold ln
  rw [getD_right (by omega), hA, Nat.add_sub_cancel_left]
theorem TlAt.below {w w' : World} {tb : Nat} {A B : List Int} (h : TlAt w tb A B) (k : Below w.heap.size w w') : TlAt w' tb A B := ⟨(k.block _ (lt_of_block h.1)).trans h.1, h.2⟩

theorem count1_c (bp tb : Nat) (A B : List Int) (m : Mk) (w : World) (hp : PAt w bp tb) (ht : TlAt w tb A B) (hm : m.1 < 286) (hb : 0 ≤ ln A m.1 ∧ ln A m.1 ≤ 4000000000) :
    Calls Tryz.prog 90 #[mkV m, .pointer (some ⟨bp, 0, none⟩)] w fun e w' => e = .returned (.tuple #[]) ∧ TlAt w' tb (A.set m.1 (ln A m.1 + 1)) B ∧ Kept (fun k => k = tb) w w' := by
  obtain ⟨s, x, n⟩ := m
  unfold mkV
  simp only at hm hb ⊢
  obtain ⟨W, hW⟩ : ∃ W, W = w.alloc (.cells #[.int .i64 (s : Int), .int .i64 (x : Int), .int .i64 (n : Int)] 163) := ⟨_, rfl⟩
  have bl : Below w.heap.size w W := by rw [hW]; exact (Below.refl _ _).alloc (Nat.le_refl _) _
  have hm0 : W.heap[w.heap.size]? = some (.cells #[.int .i64 (s : Int), .int .i64 (x : Int), .int .i64 (n : Int)] 163 (0, 0)) := by rw [hW]; exact heap_new w _
  have hp0 : W.heap[bp]? = _ := (bl.block _ (lt_of_block hp)).trans hp
  have ht0 := ht.below bl
  have cp := cells_of hp0 0
  have cm := cells_of hm0 0
  have hlen : s < (A ++ B).length := by rw [List.length_append, ht.2.1]; omega
  have ct := cells_of ht0.1 s
  rw [valA_at _ hlen, show ln (A ++ B) s = ln A s by unfold ln; exact getD_left (by rw [ht.2.1]; omega)] at ct
  have ft := free_of ht0.1 s
  simp at cp cm
  have HT := hide ht0
  have HK : Hid (Kept (fun k => k = tb) w W) := (Kept.of_below bl).mono (fun i hi e => by omega)
  have HW : Hid (w.alloc (.cells #[.int .i64 (s : Int), .int .i64 (x : Int), .int .i64 (n : Int)] 163) = W) := hW.symm
  have hs2 : (s : Int) < 286 := by omega
  have hs1 : (0 : Int) ≤ (s : Int) := by omega
  obtain ⟨X, hX⟩ : ∃ X, ln A s = X := ⟨_, rfl⟩
  rw [hX] at ct hb ⊢
  clear hp ht bl hm0 hp0 ht0 hW hlen hX
  go_enter Tryz.func90, Tryz.ntmps90
  go_upto_region 1 with fail
  rw [HW.out]
  go_region
  go_wp2_with fail
  go_end0
  refine ⟨rfl, ⟨?_, by rw [List.length_set]; exact HT.out.2.1, HT.out.2.2⟩, (HK.out.setCell (fun _ => rfl) _).drew⟩
  have := set_of HT.out.1 s (.int .i64 (X + 1))
  rw [valA_set, List.set_append_left _ _ (by rw [HT.out.2.1]; omega)] at this
  exact this
theorem count2_c (bp tb : Nat) (A B : List Int) (m : Mk) (w : World) (hp : PAt w bp tb) (ht : TlAt w tb A B) (hm : m.1 < 30) (hb : 0 ≤ ln B m.1 ∧ ln B m.1 ≤ 4000000000) :
    Calls Tryz.prog 91 #[mkV m, .pointer (some ⟨bp, 0, none⟩)] w fun e w' => e = .returned (.tuple #[]) ∧ TlAt w' tb A (B.set m.1 (ln B m.1 + 1)) ∧ Kept (fun k => k = tb) w w' := by
  obtain ⟨s, x, n⟩ := m
  unfold mkV
  simp only at hm hb ⊢
  obtain ⟨W, hW⟩ : ∃ W, W = w.alloc (.cells #[.int .i64 (s : Int), .int .i64 (x : Int), .int .i64 (n : Int)] 163) := ⟨_, rfl⟩
  have bl : Below w.heap.size w W := by rw [hW]; exact (Below.refl _ _).alloc (Nat.le_refl _) _
  have hm0 : W.heap[w.heap.size]? = some (.cells #[.int .i64 (s : Int), .int .i64 (x : Int), .int .i64 (n : Int)] 163 (0, 0)) := by rw [hW]; exact heap_new w _
  have hp0 : W.heap[bp]? = _ := (bl.block _ (lt_of_block hp)).trans hp
  have ht0 := ht.below bl
  have cp := cells_of hp0 0
  have cm := cells_of hm0 0
  have hlen : 286 + s < (A ++ B).length := by rw [List.length_append, ht.2.1, ht.2.2]; omega
  have ct := cells_of ht0.1 (286 + s)
  rw [valA_at _ hlen, show ln (A ++ B) (286 + s) = ln B s by unfold ln; rw [getD_right (by rw [ht.2.1]; omega), ht.2.1, Nat.add_sub_cancel_left]] at ct
  have ft := free_of ht0.1 (286 + s)
  simp at cp cm
  have HT := hide ht0
  have HK : Hid (Kept (fun k => k = tb) w W) := (Kept.of_below bl).mono (fun i hi e => by omega)
  have HW : Hid (w.alloc (.cells #[.int .i64 (s : Int), .int .i64 (x : Int), .int .i64 (n : Int)] 163) = W) := hW.symm
  have hs2 : (s : Int) < 30 := by omega
  have hs1 : (0 : Int) ≤ (s : Int) := by omega
  obtain ⟨X, hX⟩ : ∃ X, ln B s = X := ⟨_, rfl⟩
  rw [hX] at ct hb ⊢
  clear hp ht bl hm0 hp0 ht0 hW hlen hX
  go_enter Tryz.func91, Tryz.ntmps91
  go_upto_region 1 with fail
  rw [HW.out]
  go_region
  go_wp2_with fail
  go_end0
  refine ⟨rfl, ⟨?_, HT.out.2.1, by rw [List.length_set]; exact HT.out.2.2⟩, (HK.out.setCell (fun _ => rfl) _).drew⟩
  have := set_of HT.out.1 (286 + s) (.int .i64 (X + 1))
  rw [valA_set, List.set_append_right _ _ (by rw [HT.out.2.1]; omega), HT.out.2.1, Nat.add_sub_cancel_left] at this
  exact this

theorem built_tly : Tryz.prog.built 169 [] = some (valA (List.replicate 286 0 ++ List.replicate 30 0)) := by kernel_rfl
/-- What a tally of tokens is. -/
def TlOf (w : World) (tb : Nat) (ts : List M.Tk) : Prop := TlAt w tb (tly false 286 (emk ts)) (tly true 30 (emk ts))
theorem tmk_len (t : M.Tk) : (tmk t).length ≤ 2 := by unfold tmk; split <;> simp
theorem tms_len (ts : List M.Tk) : (tms ts).length ≤ 2 * ts.length := by
  induction ts with
  | nil => simp [tms]
  | cons t ts ih =>
    have := tmk_len t
    simp only [tms, List.flatMap_cons, List.length_append, List.length_cons] at ih ⊢
    omega
theorem emk_len (ts : List M.Tk) : (emk ts).length ≤ 2 * ts.length + 1 := by have := tms_len ts; simp [emk]; omega
/-- The marks' symbols are in their bounds. -/
theorem emk_ok {ts : List M.Tk} (h : TOk ts) : ∀ x ∈ emk ts, (x.1 = false → x.2.1 < 286) ∧ (x.1 = true → x.2.1 < 30) ∧ x.2.2.1 < 2 ^ x.2.2.2 ∧ x.2.2.2 ≤ 13 := by
  intro x hx
  unfold emk tms at hx
  rw [List.mem_append, List.mem_flatMap] at hx
  rcases hx with ⟨t, ht, hx⟩ | hx
  · unfold tmk at hx
    rcases h t ht with ⟨h0, h1, h2⟩ | ⟨h1, h2, h3, h4⟩
    · rw [if_pos h0] at hx
      simp at hx
      subst hx
      refine ⟨fun _ => by show t.1.toNat < 286; omega, fun e => (by cases e), Nat.zero_lt_one, Nat.zero_le _⟩
    · rw [if_neg (by omega)] at hx
      have a := lmk_ok t.2.1.toNat (by omega)
      have b := bmk_ok t.2.2.toNat (by omega)
      simp at hx
      rcases hx with rfl | rfl
      · exact ⟨fun _ => by show (lmk _).1 < 286; omega, fun e => (by cases e), a.2.2.2.2.1, by show (lmk _).2.2 ≤ 13; omega⟩
      · exact ⟨fun e => (by cases e), fun _ => by show (bmk _).1 < 30; omega, b.2.2.2.1, b.2.2.2.2⟩
  · simp at hx
    subst hx
    exact ⟨fun _ => by decide, fun e => (by cases e), by decide, by decide⟩
set_option maxHeartbeats 1000000 in
theorem count_c (a : Option Addr) (cap : Nat) (ts : List M.Tk) (w : World) (hT : M.Toks w a ts) (hok : TOk ts) (hl : ts.length ≤ 1000000000) :
    Calls Tryz.prog 69 #[.slice a ts.length cap] w fun e w' => e = .returned (.pointer (some ⟨w.heap.size, 0, none⟩)) ∧ TlOf w' w.heap.size ts ∧ Below w.heap.size w w' := by
  have hmf : ∀ (fn : Fn) (first cap : Array Value) (w : World), (Instr.makeFunc fn first cap).run Tryz.prog w = .ok (.func fn first cap) w := fun _ _ _ _ => rfl
  have HBD := hide built_tly
  obtain ⟨Z, hZ⟩ : ∃ Z, Z = valA (List.replicate 286 0 ++ List.replicate 30 0) := ⟨_, rfl⟩
  rw [← hZ] at HBD
  obtain ⟨W, hW⟩ : ∃ W, W = (w.alloc (.cells Z 169)).alloc (.cells #[.pointer (some ⟨w.heap.size, 0, none⟩)] 135) := ⟨_, rfl⟩
  have bl : Below w.heap.size w W := by rw [hW]; exact ((Below.refl _ _).alloc (Nat.le_refl _) _).alloc (by simp) _
  have ht0 : TlAt W w.heap.size (tly false 286 []) (tly true 30 []) := by
    rw [tly_nil, tly_nil]
    refine ⟨?_, by simp, by simp⟩
    rw [hW, heap_new1, hZ]
  have hp0 : PAt W (w.heap.size + 1) w.heap.size := by unfold PAt; rw [hW, heap_new2]
  have hmk := emk_ok hok
  have hml := emk_len ts
  obtain ⟨I, hI⟩ : ∃ I : List (Bool × Mk) → World → Prop, I = fun ms w' => TlAt w' w.heap.size (tly false 286 ms) (tly true 30 ms) ∧ PAt w' (w.heap.size + 1) w.heap.size ∧ M.Toks w' a ts ∧ Below w.heap.size w w' := ⟨_, rfl⟩
  have hTb : ∀ w', Below w.heap.size w w' → M.Toks w' a ts := fun w' k => hT.stay k
  have stepk : ∀ {w1 w2 : World} {ms' : List (Bool × Mk)} {A B : List Int}, TlAt w1 w.heap.size A B → PAt w1 (w.heap.size + 1) w.heap.size → Below w.heap.size w w1 → TlAt w2 w.heap.size (tly false 286 ms') (tly true 30 ms') → Kept (fun k => k = w.heap.size) w1 w2 → I ms' w2 ∧ w1.heap.size ≤ w2.heap.size ∧ ∀ (b : Nat) (cs : Array Value), w1.heap[b]? = some (Obj.cells cs 109 (0, 0)) → w2.heap[b]? = some (Obj.cells cs 109 (0, 0)) := by
    intro w1 w2 ms' A B ht1 hp hb ht hk
    have hb2 : Below w.heap.size w w2 := hb.trans (hk.below hb.size (fun i hi e => by omega))
    refine ⟨?_, hk.size, fun b cs h => hk.heap h (fun e => ?_)⟩
    · rw [hI]
      exact ⟨ht, hk.heap hp (by omega), hTb w2 hb2, hb2⟩
    · subst e
      rw [ht1.1] at h
      simp only [Option.some.injEq, Obj.cells.injEq] at h
      exact absurd h.2.1 (by decide)
  have HE := hide (each_count I (.pointer (some ⟨w.heap.size + 1, 0, none⟩)) (.pointer (some ⟨w.heap.size + 1, 0, none⟩)) a cap ts
    (fun ms w1 w2 h k => by
      subst hI
      obtain ⟨h1, h2, h3, h4⟩ := h
      exact ⟨h1.below k, (k.block _ (lt_of_block h2)).trans h2, h3.stay k, h4.trans (k.mono h4.size)⟩)
    (fun ms w1 h => by subst hI; exact h.2.2.1)
    (fun ms m w1 h hp => by
      have hI' := hI
      rw [hI'] at h
      obtain ⟨h1, h2, h3, h4⟩ := h
      have hm := (hmk _ (pre_mem hp)).1 rfl
      have hq := pre_len hp
      have hle := tly_le false 286 ms m.1
      refine (count1_c (w.heap.size + 1) w.heap.size _ _ m w1 h2 h1 hm (by omega)).mono ?_
      rintro e w2 ⟨rfl, k1, k2⟩
      rw [← tly_set false 286 ms m hm, ← tly_other true false 30 ms m (by decide)] at k1
      obtain ⟨r1, r2, r3⟩ := stepk h1 h2 h4 k1 k2
      exact ⟨rfl, r1, r2, r3⟩)
    (fun ms m w1 h hp => by
      have hI' := hI
      rw [hI'] at h
      obtain ⟨h1, h2, h3, h4⟩ := h
      have hm := (hmk _ (pre_mem hp)).2.1 rfl
      have hq := pre_len hp
      have hle := tly_le true 30 ms m.1
      refine (count2_c (w.heap.size + 1) w.heap.size _ _ m w1 h2 h1 hm (by omega)).mono ?_
      rintro e w2 ⟨rfl, k1, k2⟩
      rw [← tly_set true 30 ms m hm, ← tly_other false true 286 ms m (by decide)] at k1
      obtain ⟨r1, r2, r3⟩ := stepk h1 h2 h4 k1 k2
      exact ⟨rfl, r1, r2, r3⟩)
    hok hl W (by subst hI; exact ⟨ht0, hp0, hTb W bl, bl⟩))
  have HI := hide hI
  have HW : Hid ((w.alloc (.cells Z 169)).alloc (.cells #[.pointer (some ⟨w.heap.size, 0, none⟩)] 135) = W) := hW.symm
  clear hT hok hZ hW bl ht0 hp0 hmk hml hTb stepk hI
  go_enter Tryz.func69, Tryz.ntmps69
  go_upto_region 2 with (refine M.wpList_build rfl 169 _ rfl _ Z HBD.out (by simp [Act.eval]) ?_)
  rw [HW.out]
  go_wp2_with (go_at_call 67; refine HE.out.mono ?_; rintro e w1 ⟨rfl, k1⟩; rw [HI.out] at k1; have c0 := cells_of k1.2.1 0; simp at c0; have K1 := hide k1; clear k1)
  go_ret
  exact ⟨rfl, K1.out.1, K1.out.2.2.2⟩
end Go.Proofs.YteknifnadbmfiaaGreatDoor

/- innerLengths: contract. -/
namespace Go.Proofs.YteknifnadbmfiaaGreatDoor
set_option maxRecDepth 100000
open Go Go.RowKit

/-- How often each number is. -/
def tlm (ms : List Mk) : List Int := tly false 19 (ms.map fun m => (false, m))
theorem tlm_length (ms : List Mk) : (tlm ms).length = 19 := tly_length _ _ _
theorem tlm_snoc (ms : List Mk) (m : Mk) (h : m.1 < 19) : tlm (ms ++ [m]) = (tlm ms).set m.1 (ln (tlm ms) m.1 + 1) := by
  unfold tlm
  rw [List.map_append, List.map_cons, List.map_nil]
  exact tly_set false 19 _ m h
theorem zeroD19 : valA (tlm []) = #[.int .i64 0, .int .i64 0, .int .i64 0, .int .i64 0, .int .i64 0, .int .i64 0, .int .i64 0, .int .i64 0, .int .i64 0, .int .i64 0, .int .i64 0, .int .i64 0, .int .i64 0, .int .i64 0, .int .i64 0, .int .i64 0, .int .i64 0, .int .i64 0, .int .i64 0] := by
  unfold tlm
  rw [List.map_nil, tly_nil]
  rfl
theorem lens_fits {ls : List Int} {most : Nat} (h1 : ls.length ≤ 320) (h2 : 1 ≤ most ∧ most ≤ 15) (h3 : ∀ i, 0 ≤ ln ls i ∧ ln ls i ≤ 1073741824) (h4 : ls.length ≤ 2 ^ most) : L.FitsP ls most := by
  refine ⟨⟨h1, by omega, by omega, fun i _ => h3 i⟩, ?_⟩
  rw [Int.toNat_natCast]
  exact Nat.le_trans (L.occ_length ls ls.length) h4
set_option maxHeartbeats 1000000 in
theorem innerD_c (a : Option Addr) (cap : Nat) (ms : List Mk) (w : World) (h : Mks w a ms) (hm : ∀ m ∈ ms, m.1 < 19) (hl : ms.length ≤ 1000) :
    Calls Tryz.prog 111 #[.slice a ms.length cap] w fun e w' => ∃ gl F, e = .returned (.slice (some ⟨gl, 0, none⟩) 19 19) ∧ w.heap.size ≤ gl ∧ L.Ro gl #[] F w' ∧ L.LGoodR (tlm ms) 7 F ∧ Below w.heap.size w w' := by
  have HH := hide h
  have HM := hide hm
  have HZ := hide zeroD19
  clear h hm
  have HS0 : Hid ((w.alloc (.cells #[.int .i64 0, .int .i64 0, .int .i64 0, .int .i64 0, .int .i64 0, .int .i64 0, .int .i64 0, .int .i64 0, .int .i64 0, .int .i64 0, .int .i64 0, .int .i64 0, .int .i64 0, .int .i64 0, .int .i64 0, .int .i64 0, .int .i64 0, .int .i64 0, .int .i64 0] 190)).heap[w.heap.size]? = some (.cells (valA (tlm (ms.take 0))) 190 (0, 0)) ∧ Below w.heap.size w (w.alloc (.cells #[.int .i64 0, .int .i64 0, .int .i64 0, .int .i64 0, .int .i64 0, .int .i64 0, .int .i64 0, .int .i64 0, .int .i64 0, .int .i64 0, .int .i64 0, .int .i64 0, .int .i64 0, .int .i64 0, .int .i64 0, .int .i64 0, .int .i64 0, .int .i64 0, .int .i64 0] 190))) := ⟨by rw [List.take_zero, HZ.out]; exact heap_new w _, (Below.refl _ _).alloc (Nat.le_refl _) _⟩
  clear HZ
  go_enter Tryz.func111, Tryz.ntmps111
  go_wp2_with fail
  go_loopg [10] ms.length (fun gk v10 wx => ∃ i : Nat, i + gk = ms.length ∧ v10 = .int .i64 i ∧ Hid (wx.heap[w.heap.size]? = some (.cells (valA (tlm (ms.take i))) 190 (0, 0)) ∧ Below w.heap.size w wx))
  case atStart => exact ⟨0, by omega, rfl, HS0⟩
  case round =>
    obtain ⟨i, hig, rfl, HI⟩ := hrel
    clear HS0
    cases gk with
    | zero =>
      obtain rfl : i = ms.length := by omega
      have hI := HI.out
      rw [List.take_length] at hI
      have hA : Ints 0 (w.heap.size + 1) wr (some ⟨w.heap.size, 0, none⟩) (tlm ms) := by
        refine .inr ⟨w.heap.size, 0, Nat.zero_le _, by omega, lt_of_block hI.1, rfl, fun j hj => ?_⟩
        rw [Nat.zero_add, cells_of hI.1, valA_at _ hj]
      have hb := fun i => tly_le false 19 (ms.map fun m => (false, m)) i
      have hft := lens_fits (ls := tlm ms) (most := 7) (by rw [tlm_length]; decide) (by decide) (fun i => by have := hb i; rw [List.length_map] at this; unfold tlm; omega) (by rw [tlm_length]; decide)
      have hL := L.lengths_yes (w.heap.size + 1) (some ⟨w.heap.size, 0, none⟩) 19 (tlm ms) 7 wr hA hft
      rw [tlm_length] at hL
      have HL := hide hL
      have HB := hide hI.2
      unfold L.LensYes at HL
      rw [tlm_length] at HL
      clear hI hA hb hft hL HI
      go_wp2_with (go_at_call 117; refine HL.out.mono ?_; rintro e w1 ⟨gl, F, rfl, hgl, hro, hgd, hb1⟩; have HR := hide (show w.heap.size ≤ gl ∧ L.Ro gl #[] F w1 ∧ L.LGoodR (tlm ms) 7 F ∧ Below w.heap.size w w1 from ⟨Nat.le_trans HB.out.size hgl, hro, hgd, HB.out.trans (hb1.mono HB.out.size)⟩); clear hgl hro hgd hb1)
      go_ret
      exact ⟨gl, F, rfl, HR.out⟩
    | succ g1 =>
      have hi : i < ms.length := by omega
      have hlt : (i : Int) < (ms.length : Int) := by omega
      obtain ⟨hI1, hI2⟩ := HI.out
      obtain ⟨b, off, cs, rfl, hbb, hc⟩ := (HH.out.stay hI2).resolve_left (by omega)
      obtain ⟨c0, c1, c2⟩ := hc i hi
      have hs19 := HM.out _ (List.getElem_mem hi)
      have htk := tlm_snoc (ms.take i) ms[i] hs19
      rw [← List.take_succ_eq_append_getElem hi] at htk
      rw [mkAt_in hi] at c0 c1 c2
      have hle : 0 ≤ ln (tlm (ms.take i)) ms[i].1 ∧ ln (tlm (ms.take i)) ms[i].1 ≤ 1000 := by
        have := tly_le false 19 ((ms.take i).map fun m => (false, m)) ms[i].1
        rw [List.length_map, List.length_take] at this
        unfold tlm
        omega
      generalize ms[i] = m at c0 c1 c2 hs19 htk hle
      obtain ⟨m1, m2, m3⟩ := m
      simp only at c0 c1 c2 hs19 htk hle
      obtain ⟨W, hW⟩ : ∃ W, W = wr.alloc (mO (m1, m2, m3)) := ⟨_, rfl⟩
      have blW : Below wr.heap.size wr W := by rw [hW]; exact (Below.refl _ _).alloc (Nat.le_refl _) _
      have hW1 : W.heap[w.heap.size]? = some (.cells (valA (tlm (ms.take i))) 190 (0, 0)) := (blW.block _ (lt_of_block hI1)).trans hI1
      have hW2 : Below w.heap.size w W := hI2.trans (blW.mono hI2.size)
      have hWm : W.heap[wr.heap.size]? = some (mO (m1, m2, m3)) := by rw [hW]; exact heap_new wr _
      have d0 := cells_of hWm 0
      have ct := cells_of hW1 m1
      have ft := free_of hW1 m1
      rw [valA_at _ (by rw [tlm_length]; exact hs19)] at ct
      simp at d0
      obtain ⟨X, hX⟩ : ∃ X, ln (tlm (ms.take i)) m1 = X := ⟨_, rfl⟩
      rw [hX] at ct htk hle
      have HW1 := hide hW1
      have HW2 := hide hW2
      have HTK := hide htk
      have HW : Hid (wr.alloc (mO (m1, m2, m3)) = W) := hW.symm
      have hm19 : (m1 : Int) < 19 := by omega
      clear hI1 hI2 hbb hc htk hW blW hW1 hW2 hWm hX HI
      go_upto_region 5 with fail
      rw [HW.out]
      go_wp2_with fail
      go_roundg g1
      case measure => omega
      case rel =>
        refine ⟨i + 1, by omega, by go_num, ?_, ?_⟩
        · have := set_of HW1.out m1 (.int .i64 (X + 1))
          rw [valA_set, ← HTK.out] at this
          exact this
        · exact HW2.out.setCell (Nat.le_refl _) _
end Go.Proofs.YteknifnadbmfiaaGreatDoor

/- What Lengths tells may be made a code of; also where zeros at the end are left out. Of no program. -/
namespace Go.Proofs.YteknifnadbmfiaaGreatDoor
set_option maxRecDepth 100000
open Go Go.RowKit

theorem valid_fit {ls F : List Int} {n : Nat} (hv : L.Valid ls F n ls.length) (hl : F.length = ls.length) (hn : n ≤ 15) : Fit F := fun x hx => by
  obtain ⟨i, hi, rfl⟩ := List.getElem_of_mem hx
  have := hv i (by omega)
  have e : L.ln F i = F[i] := by simp [L.ln, List.getD, hi]
  rw [e] at this
  omega
theorem wt_occ {ls F : List Int} {n : Nat} (hl : F.length = ls.length) (hn : n ≤ 15) : ∀ m, m ≤ ls.length → L.Valid ls F n m → wt (F.take m) = 2 ^ (15 - n) * L.krf n (L.zOf ls F (L.occ ls m)) ∧ pos (F.take m) = (L.occ ls m).length := by
  intro m
  induction m with
  | zero => intro _ _; simp [wt, L.occ, L.zOf, L.krf, pos]
  | succ m ih =>
    intro hm hv
    obtain ⟨i1, i2⟩ := ih (by omega) (fun i hi => hv i (by omega))
    have hvm := hv m (by omega)
    rw [wt_succ F m (by omega), pos_succ F m (by omega), i1, i2]
    have e : ln F m = L.ln F m := rfl
    rw [e]
    rcases hvm with ⟨h0, h1⟩ | ⟨h0, h1, h2⟩
    · rw [L.occ_succ_zero (by omega), h1]
      simp
    · rw [L.occ_succ_pos h0, L.zOf_snoc, L.krf_snoc, if_neg (by omega), if_pos (by omega), Nat.mul_add, List.length_append]
      refine ⟨?_, by simp⟩
      congr 1
      rw [← Nat.pow_add]
      congr 1
      omega
theorem drop_zero {F : List Int} {k : Nat} (h : ∀ i, k ≤ i → ln F i = 0) : ∀ x ∈ F.drop k, x = 0 := fun x hx => by
  obtain ⟨i, hi, rfl⟩ := List.getElem_of_mem hx
  rw [List.getElem_drop]
  have hi' : k + i < F.length := by rw [List.length_drop] at hi; omega
  have := h (k + i) (by omega)
  simpa [ln, List.getD, hi'] using this
theorem wt_zero {G : List Int} (h : ∀ x ∈ G, x = 0) : wt G = 0 := by
  induction G with
  | nil => rfl
  | cons x G ih => rw [wt, h x (by simp), ih (fun y hy => h y (by simp [hy]))]; simp
theorem pos_zero {G : List Int} (h : ∀ x ∈ G, x = 0) : pos G = 0 := by
  induction G with
  | nil => rfl
  | cons x G ih => rw [pos_cons, h x (by simp), ih (fun y hy => h y (by simp [hy]))]; simp
theorem trim_wt {F : List Int} {k : Nat} (h : ∀ i, k ≤ i → ln F i = 0) : wt (F.take k) = wt F := by
  have e := wt_append (F.take k) (F.drop k)
  rw [List.take_append_drop, wt_zero (drop_zero h)] at e
  omega
theorem trim_pos {F : List Int} {k : Nat} (h : ∀ i, k ≤ i → ln F i = 0) : pos (F.take k) = pos F := by
  have e : pos (F.take k ++ F.drop k) = pos (F.take k) + pos (F.drop k) := List.countP_append
  rw [List.take_append_drop, pos_zero (drop_zero h)] at e
  omega
theorem trim_one {F : List Int} {k : Nat} (h : ∀ i, k ≤ i → ln F i = 0) : ct (F.take k) 1 = ct F 1 := by
  have e : (F.take k ++ F.drop k).count 1 = (F.take k).count 1 + (F.drop k).count 1 := List.count_append
  have z : (F.drop k).count 1 = 0 := List.count_eq_zero.2 (fun h1 => absurd (drop_zero h 1 h1) (by decide))
  rw [List.take_append_drop, z] at e
  show (F.take k).count 1 = F.count 1
  omega
theorem lens_check {ls F : List Int} {n k : Nat} {lone : Bool} (h : L.LGoodR ls n F) (ha : L.AlwTo ls ls.length) (hn : 1 ≤ n ∧ n ≤ 15) (h320 : ls.length ≤ 320) (hk : ∀ i, k ≤ i → ln F i = 0) (hl : 2 ≤ (L.occ ls ls.length).length ∨ lone = true) : check (F.take k) lone = 0 := by
  have hv := h.valid ha hn.1
  have hf := valid_fit hv h.len hn.2
  have hft : Fit (F.take k) := fun x hx => hf x (List.mem_of_mem_take hx)
  rw [check_fit (by rw [List.length_take, h.len]; omega) hft, amiss_wt _ _ hft, loneB_pos _ hft, trim_wt hk, trim_pos hk, trim_one hk]
  obtain ⟨w1, w2⟩ := wt_occ h.len hn.2 ls.length (Nat.le_refl _) hv
  rw [← h.len, List.take_length] at w1 w2
  rw [h.len] at w1 w2
  by_cases h2 : 2 ≤ (L.occ ls ls.length).length
  · have hfull := (h.best h2).full (by simpa [L.zOf] using h2) (fun z hz => by
      unfold L.zOf at hz
      obtain ⟨x, hx, rfl⟩ := List.mem_map.1 hz
      obtain ⟨i, rfl, _, hp⟩ := (L.occ_mem ls ls.length x).1 hx
      simp [L.keyOf]; omega)
    rw [hfull, ← Nat.pow_add, show 15 - n + n = 15 by omega] at w1
    rw [w1]; rfl
  · obtain rfl : lone = true := hl.resolve_left h2
    by_cases h1 : (L.occ ls ls.length).length = 1
    · have hone := h.one h1
      obtain ⟨x, hx⟩ : ∃ x, L.occ ls ls.length = [x] := List.length_eq_one_iff.1 h1
      obtain ⟨i, rfl, hi, hp⟩ := (L.occ_mem ls ls.length x).1 (by rw [hx]; simp)
      have hF1 : ln F i = 1 := hone i hi hp
      have hc : 1 ≤ F.count 1 := by
        have hiF : i < F.length := by rw [h.len]; exact hi
        have : F[i] = 1 := by simpa [ln, List.getD, hiF] using hF1
        exact List.count_pos_iff.2 (this ▸ List.getElem_mem hiF)
      have hc2 : F.count 1 ≤ pos F := by
        unfold pos
        rw [List.count]
        exact List.countP_mono_left (fun y _ hy => by simp at hy ⊢; omega)
      have hct : ct F 1 = F.count 1 := rfl
      rw [w2, h1] at hc2
      have hct1 : ct F 1 = 1 := by omega
      rw [w1, w2, h1, hct1, hx]
      have hkr : L.krf n (L.zOf ls F [(i : Int)]) = 2 ^ (n - 1) := by
        have : (L.ln F i).toNat = 1 := by rw [show L.ln F i = 1 from hF1]; rfl
        simp [L.zOf, L.keyOf, L.krf, this]
      rw [hkr, ← Nat.pow_add, show 15 - n + (n - 1) = 14 by omega]
      rfl
    · have h0 : (L.occ ls ls.length).length = 0 := by omega
      have hx : L.occ ls ls.length = [] := List.eq_nil_of_length_eq_zero h0
      rw [w1, w2, h0, hx]
      simp [L.zOf, L.krf]
end Go.Proofs.YteknifnadbmfiaaGreatDoor

/- At least two numbers occur in a dynamic block's head; each number has a code. Of no program. -/
namespace Go.Proofs.YteknifnadbmfiaaGreatDoor
set_option maxRecDepth 100000
open Go Go.RowKit
set_option linter.unusedVariables false

theorem agn_sym (x t : Nat) : (t < 3 → (agn x t).1.1 = x) ∧ (3 ≤ t → 0 < x → (agn x t).1.1 = 16) ∧ (3 ≤ t → x = 0 → (agn x t).1.1 = 17 ∨ (agn x t).1.1 = 18) := by
  unfold agn
  refine ⟨fun h => by rw [if_pos h], fun h hx => by rw [if_neg (by omega), if_pos hx], fun h hx => ?_⟩
  rw [if_neg (by omega), if_neg (by omega)]
  split
  · exact .inl rfl
  · exact .inr rfl
/-- The first number of a row. -/
theorem inN_head {xs : List Int} (h : 0 < xs.length) (h0 : 0 ≤ ln xs 0) : ∃ m r, inN xs = m :: r ∧ (0 < ln xs 0 → (m.1 : Int) = ln xs 0) ∧ (ln xs 0 = 0 → m.1 = 0 ∨ m.1 = 17 ∨ m.1 = 18) := by
  rw [inN_pos xs h]
  have hs := sam_le h
  by_cases hp : 0 < ln xs 0
  · rw [if_pos hp]
    exact ⟨_, _, rfl, fun _ => by show (((ln xs 0).toNat : Nat) : Int) = _; omega, fun e => by omega⟩
  · rw [if_neg hp, rep_pos 0 (sam xs) (by omega)]
    refine ⟨_, _, rfl, fun e => absurd e hp, fun _ => ?_⟩
    have := agn_sym 0 (sam xs)
    by_cases h3 : sam xs < 3
    · exact .inl (this.1 h3)
    · exact .inr (this.2.2 (by omega) rfl)
theorem two_syms {xs : List Int} (hf : Fit xs) (hl : 5 ≤ xs.length) {k : Nat} (hk : k < xs.length) (hz : ¬ ln xs k = 0) : ∃ m n, m ∈ inN xs ∧ n ∈ inN xs ∧ ¬ m.1 = n.1 := by
  have h0 : 0 < xs.length := by omega
  have hs := sam_le h0
  have hx := ln_fit hf 0
  obtain ⟨m, r, hm, m1, m2⟩ := inN_head h0 hx.1
  by_cases he : sam xs = xs.length
  · have hv : ln xs k = ln xs 0 := sam_same h0 (by omega)
    have hp : 0 < ln xs 0 := by omega
    rw [inN_pos xs h0, if_pos hp, rep_pos _ _ (by omega)]
    refine ⟨((ln xs 0).toNat, 0, 0), (agn (ln xs 0).toNat (sam xs - 1)).1, by simp, by simp, ?_⟩
    have := (agn_sym (ln xs 0).toNat (sam xs - 1)).2.1 (by omega) (by omega)
    rw [this]
    show ¬ (ln xs 0).toNat = 16
    omega
  · have hy : 0 < (xs.drop (sam xs)).length := by rw [List.length_drop]; omega
    have hyl : ln (xs.drop (sam xs)) 0 = ln xs (sam xs) := by simp [ln, List.getD]
    have hyf := ln_fit hf (sam xs)
    obtain ⟨n, q, hn, n1, n2⟩ := inN_head hy (by rw [hyl]; exact hyf.1)
    have hne : ¬ ln xs (sam xs) = ln xs 0 := fun e => by
      have := sam_is (xs := xs) (n := sam xs + 1) (by omega) (by omega) (fun i hi => by
        by_cases e2 : i = sam xs
        · rw [e2]; exact e
        · exact sam_same h0 (by omega)) 
      by_cases e3 : sam xs + 1 = xs.length
      · have := this (.inl e3); omega
      · by_cases e4 : ln xs (sam xs + 1) = ln xs 0
        · have hlt : (xs.drop 1).findIdx (fun y => !(y == ln xs 0)) < (xs.drop 1).length := by rw [List.length_drop]; unfold sam at he hs; omega
          have hfi := List.findIdx_getElem (w := hlt)
          simp only [List.getElem_drop] at hfi
          have e5 : 1 + (xs.drop 1).findIdx (fun y => !(y == ln xs 0)) = sam xs := rfl
          simp only [e5] at hfi
          unfold ln at e
          rw [List.getD_eq_getElem?_getD, List.getElem?_eq_getElem (by omega)] at e
          unfold ln at hfi
          simp only [Option.getD_some] at e
          simp [e] at hfi
        · have := this (.inr e4); omega
    have hmem : n ∈ inN xs := by
      rw [inN_pos xs h0, hn]; simp
    refine ⟨m, n, by rw [hm]; simp, hmem, fun e => ?_⟩
    rw [hyl] at n1 n2
    by_cases a : 0 < ln xs 0
    · have a1 := m1 a
      by_cases b : 0 < ln xs (sam xs)
      · have := n1 b; omega
      · have := n2 (by omega); omega
    · have a1 := m2 (by omega)
      by_cases b : 0 < ln xs (sam xs)
      · have := n1 b; omega
      · omega
theorem tlm_pos {ms : List Mk} {m : Mk} (h : m ∈ ms) (hm : m.1 < 19) : 0 < ln (tlm ms) m.1 := by
  unfold tlm
  rw [tly_ln false 19 _ hm]
  have : 0 < (ms.map fun m => (false, m)).countP (fun x => x.1 == false && x.2.1 == m.1) := List.countP_pos_iff.2 ⟨(false, m), List.mem_map.2 ⟨m, h, rfl⟩, by simp⟩
  omega
theorem two_occ {ms : List Mk} {m n : Mk} (hm : m ∈ ms) (hn : n ∈ ms) (h1 : m.1 < 19) (h2 : n.1 < 19) (h : ¬ m.1 = n.1) : 2 ≤ (L.occ (tlm ms) (tlm ms).length).length := by
  rw [tlm_length]
  have a : (m.1 : Int) ∈ L.occ (tlm ms) 19 := (L.occ_mem _ _ _).2 ⟨m.1, rfl, h1, tlm_pos hm h1⟩
  have b : (n.1 : Int) ∈ L.occ (tlm ms) 19 := (L.occ_mem _ _ _).2 ⟨n.1, rfl, h2, tlm_pos hn h2⟩
  rcases hl : L.occ (tlm ms) 19 with _ | ⟨x, _ | ⟨y, r⟩⟩
  · rw [hl] at a; simp at a
  · rw [hl] at a b; simp at a b; omega
  · simp
/-- Which numbers there are. -/
theorem rep_sym (x : Nat) (hx : x < 16) : ∀ t, ∀ m ∈ rep x t, m.1 < 19 ∧ m.2.1 < 2 ^ m.2.2 ∧ m.2.2 ≤ 7 := by
  intro t
  induction t using Nat.strongRecOn with
  | ind t ih =>
    intro m hm
    rcases Nat.eq_zero_or_pos t with h0 | h0
    · subst h0; rw [rep_zero] at hm; simp at hm
    · have hp := agn_pos x t h0
      rw [rep_pos x t h0] at hm
      rcases List.mem_cons.1 hm with rfl | hm
      · unfold agn
        split
        · exact ⟨by show x < 19; omega, Nat.zero_lt_one, Nat.zero_le _⟩
        · split
          · exact ⟨by show 16 < 19; decide, by show min t 6 - 3 < 2 ^ 2; omega, by show 2 ≤ 7; decide⟩
          · split
            · exact ⟨by show 17 < 19; decide, by show t - 3 < 2 ^ 3; omega, by show 3 ≤ 7; decide⟩
            · exact ⟨by show 18 < 19; decide, by show min t 138 - 11 < 2 ^ 7; omega, by show 7 ≤ 7; decide⟩
      · exact ih _ (by omega) m hm
theorem inN_sym : ∀ (n : Nat) (xs : List Int), xs.length = n → Fit xs → ∀ m ∈ inN xs, m.1 < 19 ∧ m.2.1 < 2 ^ m.2.2 ∧ m.2.2 ≤ 7 := by
  intro n
  induction n using Nat.strongRecOn with
  | ind n ih =>
    intro xs hn hf m hm
    rcases Nat.eq_zero_or_pos xs.length with h0 | h0
    · rw [List.eq_nil_of_length_eq_zero h0, inN_nil] at hm; simp at hm
    · have hs := sam_le h0
      have hx := ln_fit hf 0
      rw [inN_pos xs h0] at hm
      rcases List.mem_append.1 hm with hm | hm
      · split at hm
        · rcases List.mem_cons.1 hm with rfl | hm
          · exact ⟨by show (ln xs 0).toNat < 19; omega, Nat.zero_lt_one, Nat.zero_le _⟩
          · exact rep_sym _ (by omega) _ m hm
        · exact rep_sym 0 (by decide) _ m hm
      · exact ih (xs.length - sam xs) (by omega) (xs.drop (sam xs)) (by rw [List.length_drop]) (fun y hy => hf y (List.mem_of_mem_drop hy)) m hm
/-- What Lengths tells of the numbers. -/
structure IOkD (xs F : List Int) : Prop where
  len : F.length = 19
  f7 : ∀ i, 0 ≤ ln F i ∧ ln F i ≤ 7
  chk : check F false = 0
  has : ∀ m ∈ inN xs, Has F m.1
theorem IOkD.of {xs F : List Int} (hf : Fit xs) (hl : 5 ≤ xs.length) {k : Nat} (hk : k < xs.length) (hz : ¬ ln xs k = 0) (hL : xs.length ≤ 1000) (h : L.LGoodR (tlm (inN xs)) 7 F) : IOkD xs F := by
  have hsym := inN_sym xs.length xs rfl hf
  have hil := inN_len xs.length xs rfl
  have hA : L.AlwTo (tlm (inN xs)) (tlm (inN xs)).length := fun i _ => by
    have := tly_le false 19 ((inN xs).map fun m => (false, m)) i
    rw [List.length_map] at this
    change 0 ≤ ln (tlm (inN xs)) i ∧ ln (tlm (inN xs)) i ≤ _
    unfold tlm
    omega
  have hv := h.valid hA (by decide)
  have hlen : F.length = 19 := by rw [h.len, tlm_length]
  obtain ⟨m, n, hm, hn, hmn⟩ := two_syms hf hl hk hz
  have h2 := two_occ hm hn (hsym m hm).1 (hsym n hn).1 hmn
  have hc := lens_check (k := 19) (lone := false) h hA (by decide) (by rw [tlm_length]; decide) (fun i hi => by
    unfold ln; rw [List.getD_eq_getElem?_getD, List.getElem?_eq_none (by omega)]; rfl) (.inl h2)
  rw [List.take_of_length_le (by omega)] at hc
  refine ⟨hlen, fun i => ?_, hc, fun m hm => ?_⟩
  · by_cases hi : i < 19
    · have := hv i (by rw [tlm_length]; exact hi)
      have e : L.ln F i = ln F i := rfl
      rw [e] at this
      omega
    · have : ln F i = 0 := by unfold ln; rw [List.getD_eq_getElem?_getD, List.getElem?_eq_none (by omega)]; rfl
      omega
  · have h19 := (hsym m hm).1
    have hp := tlm_pos hm h19
    have := hv m.1 (by rw [tlm_length]; exact h19)
    have e1 : L.ln (tlm (inN xs)) m.1 = ln (tlm (inN xs)) m.1 := rfl
    have e2 : L.ln F m.1 = ln F m.1 := rfl
    rw [e1, e2] at this
    exact ⟨by omega, by omega⟩
end Go.Proofs.YteknifnadbmfiaaGreatDoor

/- slices.Grow of nothing, slices.Concat of two rows of numbers: contracts. -/
namespace Go.Proofs.YteknifnadbmfiaaGreatDoor
set_option maxRecDepth 100000
open Go Go.RowKit

theorem wpList_app_run {P : Program} {ops : Array Oper} {rest : List Oper} {o : Oper} {a : Act} {w : World} {Q : Exit → Act → World → Prop} (hgd : o.guard = none) (s x : Operand) (t tn ty : TypeId)
    (ho : o.op = .call { callee := .builtin .append, args := #[s, x], argTypes := #[t, tn] }) (hty : o.type = ty) (vs vx v : Value) (w2 : World) (hs : a.eval s = vs) (hx : a.eval x = vx)
    (hr : (Builtin.append_ #[t, tn] ty #[vs, vx]).run P w = .ok v w2) (h : wpList P ops Q rest (a.put o.dst v) w2) : wpList P ops Q (o :: rest) a w :=
  wpList_plain hgd fun _ hK => by
    unfold Oper.wp execOp
    subst hty
    simp only [ho, resolve, invoke, builtin, Sem.run_bind, Sem.run_pure, Result.andThen_ok, List.map_toArray, List.map_cons, List.map_nil, hs, hx, hr]
    exact hK _ _ h
theorem grow_c (n : Nat) (h0 : 0 < n) (hn : n ≤ 1000000) (w : World) :
    Calls Tryz.prog 130 #[.slice none 0 0, .int .i64 (n : Int)] w fun e w' => ∃ cap, e = .returned (.slice (some ⟨w.heap.size, 0, none⟩) 0 cap) ∧ Owns w' w.heap.size (.slice (some ⟨w.heap.size, 0, none⟩) 0 cap) [] ∧ Below w.heap.size w w' ∧ n ≤ cap := by
  obtain ⟨i0, hi, hz0, hz1, hz2⟩ := info_parts Tryz.info3
  have hr := Go.Lib.run_append_nil_zeros (P := Tryz.prog) w 97 3 97 3 i0 (.int .i64 0) .i64 .i64 Tryz.underlying97 Tryz.underlying3 hi hz0 n h0 (by omega) (by omega) (by rw [hz2]; omega)
  obtain ⟨C, hC⟩ : ∃ C, grownCap w n 0 3 = C := ⟨_, rfl⟩
  have hge := grownCap_ge w n 0 3
  have hmx := grownCap_le_maxLen w n 0 3 (by unfold maxLen; omega)
  rw [hC] at hr hge hmx
  obtain ⟨Z, hZ⟩ : ∃ Z, Z = Builtin.zeroCells (Value.int .i64 0).cells n ++ Builtin.zeroCells (Value.int .i64 0).cells (C - n) := ⟨_, rfl⟩
  rw [← hZ] at hr
  have hsz : Z.size = C * 1 := by rw [hZ, Array.size_append, size_zeroCells, size_zeroCells]; simp [Value.cells]; omega
  have HO : Hid (Owns (w.drew.alloc (.cells Z 3)) w.heap.size (.slice (some ⟨w.heap.size, 0, none⟩) 0 C) []) := World.ownsRow_made w.drew Z C (Nat.le_refl _) hmx hsz
  have HB : Hid (Below w.heap.size w (w.drew.alloc (.cells Z 3))) := ((Below.refl _ _).drew).alloc (Nat.le_refl _) _
  have hC0 : (0 : Int) ≤ (C : Int) := by omega
  have hpos : (0 : Int) < (n : Int) := by omega
  have HR := hide hr
  clear hZ hsz hC hmx hr
  go_enter Tryz.func130, Tryz.ntmps130
  go_wp2_with (at_builtin; refine wpList_app_run rfl (.tmp 20) (.tmp 21) 97 3 97 rfl rfl _ _ _ _ (by rfl) (by rfl) HR.out ?_)
  go_ret
  exact ⟨C, rfl, HO.out, HB.out, hge⟩

/-- Two rows, one behind the other. -/
def catT (A B : List Int) (i : Nat) : List Int := if i = 0 then [] else if i = 1 then A else A ++ B
theorem catT_zero (A B : List Int) : catT A B 0 = [] := rfl
theorem catT_one (A B : List Int) : catT A B 1 = A := rfl
theorem catT_two (A B : List Int) : catT A B 2 = A ++ B := rfl
set_option maxHeartbeats 2000000 in
theorem concat_c (bs : Nat) (a b : Option Addr) (ca cb : Nat) (A B : List Int) (w : World) (hs : w.heap[bs]? = some (.cells #[.slice a A.length ca, .slice b B.length cb] 97 (0, 0))) (hA : Ints 0 w.heap.size w a A) (hB : Ints 0 w.heap.size w b B)
    (hA0 : 0 < A.length ∧ A.length ≤ 1000) (hB0 : 0 < B.length ∧ B.length ≤ 1000) :
    Calls Tryz.prog 110 #[.slice (some ⟨bs, 0, none⟩) 2 2] w fun e w' => ∃ ad cp, e = .returned (.slice ad (A ++ B).length cp) ∧ Owns w' w.heap.size (.slice ad (A ++ B).length cp) (A ++ B) ∧ Below w.heap.size w w' := by
  obtain ⟨i0, hi0, hz0, hz1, hz2⟩ := info_parts Tryz.info3
  have c0 := cells_of hs 0
  have c1 := cells_of hs 1
  simp at c0 c1
  have HS := hide hs
  have HA := hide hA
  have HB := hide hB
  have hcl : (A ++ B).length = A.length + B.length := by simp
  obtain ⟨N, hN⟩ : ∃ N, A.length + B.length = N := ⟨_, rfl⟩
  have hNi : (A.length : Int) + (B.length : Int) = (N : Int) := by omega
  have HG := hide (grow_c N (by omega) (by omega) w)
  clear hA hB hs
  go_enter Tryz.func110, Tryz.ntmps110
  go_wp2_with fail
  go_loopg [3, 11] 2 (fun gk v3 v11 wx => ∃ i : Nat, i + gk = 2 ∧ v11 = .int .i64 i ∧ v3 = .int .i64 ((catT A B i).length : Int) ∧ w = wx)
  case atStart => exact ⟨0, by omega, rfl, rfl, rfl⟩
  case round =>
    obtain ⟨i, hig, rfl, rfl, rfl⟩ := hrel
    have hi3 : i = 0 ∨ i = 1 ∨ i = 2 := by omega
    rcases hi3 with rfl | rfl | rfl
    · rw [catT_zero]
      go_wp2_with fail
      go_roundg 1
      case measure => omega
      case rel => exact ⟨1, by omega, by go_num, by rw [catT_one], rfl⟩
    · rw [catT_one]
      go_wp2_with fail
      go_roundg 0
      case measure => omega
      case rel => exact ⟨2, by omega, by go_num, by rw [catT_two, hcl, hN], rfl⟩
    · rw [catT_two, hcl, hN]
      go_upto_region 11 with (go_at_call 130; refine HG.out.mono ?_; rintro e w1 ⟨C, rfl, o1, b1, hC⟩; have O1 := hide o1; have B1 := hide b1; clear o1 b1)
      clear HG
      have hbz := B1.out.size
      go_loopg [6, 27] 2 (fun gk v6 v27 wx => ∃ (i : Nat) (a6 : Option Addr) (c6 : Nat), i + gk = 2 ∧ v27 = .int .i64 i ∧ v6 = .slice a6 (catT A B i).length c6 ∧ Hid (Owns wx w.heap.size (.slice a6 (catT A B i).length c6) (catT A B i)) ∧ Hid (Below w.heap.size w wx))
      case atStart => exact ⟨0, _, C, by omega, rfl, rfl, O1.out, B1.out⟩
      case round =>
      obtain ⟨i, a6, c6, hig, rfl, rfl, O2, B2⟩ := hrel
      have hi3 : i = 0 ∨ i = 1 ∨ i = 2 := by omega
      rcases hi3 with rfl | rfl | rfl
      · have hbl := B2.out
        have d0 : wr.cell? ⟨bs, 0, none⟩ = some (.slice a A.length ca) := (hbl.cell (p := ⟨bs, 0, none⟩) (lt_of_block HS.out)).trans c0
        obtain ⟨ad, had, hsrc⟩ := (HA.out.stay hbl).src (by omega)
        subst had
        have O2' := hide O2.out
        obtain ⟨XS, hXS⟩ : ∃ XS, XS = A.map (Value.int .i64) := ⟨_, rfl⟩
        have HSRC : Hid (∀ j u, XS[j]? = some u → wr.cell? (ad.add j) = some u) := by rw [hXS]; exact hsrc
        have HXL : Hid (XS.length = A.length * 1) := hide (by rw [hXS]; simp)
        have HX1 : Hid (∀ u ∈ XS, u.oneCell' = true) := hide (by rw [hXS]; intro u hu; simp at hu; obtain ⟨x, _, rfl⟩ := hu; rfl)
        have HXS := hide hXS
        have hbs : w.heap.size ≤ wr.heap.size := hbl.size
        clear hbl hsrc hXS
        rw [catT_zero] at O2' ⊢
        unfold Owns at O2'
        have hcl2 := hcl
        go_wp2_with (at_builtin; refine wpList_append_own wr rfl (.tmp 31) (.tmp 32) 97 rfl w.heap.size 3 i0 (.int .i64 0) 1 8 Tryz.underlying97 hi0 hz0 hz1 hz2 rfl (by decide) _ _ _ (by rfl) O2'.out ad A.length ca XS (by rfl) HXL.out HSRC.out HX1.out (by unfold maxLen; first | omega | (simp; omega)) (by first | omega | (simp; omega)) hbs ?_; intro v9 w9 ow9 gr9 nil9; have OW9 : Hid (Owns w9 w.heap.size v9 (catT A B 1)) := hide (by unfold Owns; rw [catT_one]; rw [HXS.out] at ow9; simpa using ow9); have BW9 : Hid (Below w.heap.size w w9) := hide (B2.out.trans ((Kept.of_grown gr9).below hbs (fun i hi e => by have := (ownsRow_lt O2'.out e.symm).1; omega))); obtain ⟨a9, c9, rfl⟩ := own_form ow9; clear ow9 gr9 nil9)
        go_roundg 1
        case measure => omega
        case rel => exact ⟨1, a9, c9, by omega, by go_num, by rw [catT_one], hide (by have := OW9.out; rw [catT_one] at this ⊢; simpa using this), BW9⟩
      · have hbl := B2.out
        have d0 : wr.cell? ⟨bs, 1, none⟩ = some (.slice b B.length cb) := (hbl.cell (p := ⟨bs, 1, none⟩) (lt_of_block HS.out)).trans c1
        obtain ⟨ad, had, hsrc⟩ := (HB.out.stay hbl).src (by omega)
        subst had
        have O2' := hide O2.out
        obtain ⟨XS, hXS⟩ : ∃ XS, XS = B.map (Value.int .i64) := ⟨_, rfl⟩
        have HSRC : Hid (∀ j u, XS[j]? = some u → wr.cell? (ad.add j) = some u) := by rw [hXS]; exact hsrc
        have HXL : Hid (XS.length = B.length * 1) := hide (by rw [hXS]; simp)
        have HX1 : Hid (∀ u ∈ XS, u.oneCell' = true) := hide (by rw [hXS]; intro u hu; simp at hu; obtain ⟨x, _, rfl⟩ := hu; rfl)
        have HXS := hide hXS
        have hbs : w.heap.size ≤ wr.heap.size := hbl.size
        clear hbl hsrc hXS
        rw [catT_one] at O2' ⊢
        unfold Owns at O2'
        have hcl2 := hcl
        go_wp2_with (at_builtin; refine wpList_append_own wr rfl (.tmp 31) (.tmp 32) 97 rfl w.heap.size 3 i0 (.int .i64 0) 1 8 Tryz.underlying97 hi0 hz0 hz1 hz2 rfl (by decide) _ _ _ (by rfl) O2'.out ad B.length cb XS (by rfl) HXL.out HSRC.out HX1.out (by unfold maxLen; first | omega | (simp; omega)) (by first | omega | (simp; omega)) hbs ?_; intro v9 w9 ow9 gr9 nil9; have OW9 : Hid (Owns w9 w.heap.size v9 (catT A B 2)) := hide (by unfold Owns; rw [catT_two]; rw [HXS.out] at ow9; simpa using ow9); have BW9 : Hid (Below w.heap.size w w9) := hide (B2.out.trans ((Kept.of_grown gr9).below hbs (fun i hi e => by have := (ownsRow_lt O2'.out e.symm).1; omega))); obtain ⟨a9, c9, rfl⟩ := own_form ow9; clear ow9 gr9 nil9)
        go_roundg 0
        case measure => omega
        case rel => exact ⟨2, a9, c9, by omega, by go_num, by rw [catT_two, hcl2, hN], hide (by have := OW9.out; rw [catT_two] at this ⊢; rw [hcl2]; exact this), BW9⟩
      · rw [catT_two] at O2 ⊢
        clear hcl
        go_wp2_with fail
        go_ret
        exact ⟨a6, c6, rfl, O2.out, B2.out⟩
end Go.Proofs.YteknifnadbmfiaaGreatDoor
