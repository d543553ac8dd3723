/- Which arguments are allowed; the symbols that occur, the rarest first. -/
import Derived.Test.YtdeigchkpakdaaaLStable
import Derived.Test.YtdeigchkpakdaaaLOwn
namespace Go.Proofs.Ytdeigchkpakdaaa
open Go Go.RowKit

/-- What is allowed, so far. -/
def AlwTo (ls : List Int) (n : Nat) : Prop := ∀ i, i < n → 0 ≤ ln ls i ∧ ln ls i ≤ 1073741824
def Alw (ls : List Int) (most : Int) : Prop := ls.length ≤ 320 ∧ 1 ≤ most ∧ most ≤ 15 ∧ AlwTo ls ls.length

/-- A call that tells whether p, and turns nothing. -/
def TellsB (p : Prop) (w : World) (e : Ending) (w' : World) : Prop := ∃ b : Bool, e = .returned (.bool b) ∧ (b = true ↔ p) ∧ w' = w
theorem TellsB.yes {p : Prop} {w : World} (h : p) : TellsB p w (.returned (.bool true)) w := ⟨true, rfl, ⟨fun _ => h, fun _ => rfl⟩, rfl⟩
theorem TellsB.no {p : Prop} {w : World} (h : ¬ p) : TellsB p w (.returned (.bool false)) w := ⟨false, rfl, ⟨fun h' => (by cases h'), fun h' => absurd h' h⟩, rfl⟩

set_option maxRecDepth 100000 in
theorem allowed_c (lo hi : Nat) (a : Option Addr) (cap : Nat) (ls : List Int) (most : Int) (w : World) (hI : Ints lo hi w a ls) :
    Calls Try.prog 16 #[.slice a ls.length cap, .int .i64 most] w (TellsB (Alw ls most) w) := by
  have HI := hide hI
  clear hI
  by_cases h0 : ls.length ≤ 320 ∧ 1 ≤ most ∧ most ≤ 15
  · obtain ⟨h1, h2, h3⟩ := h0
    have b1 : ¬ (320 : Int) < (ls.length : Int) := by omega
    have b2 : ¬ most < 1 := by omega
    have b3 : ¬ (15 : Int) < most := by omega
    go_enter Try.func16, Try.ntmps16
    go_wp2_with fail
    go_loopg [20] ls.length (fun gk v20 wx => ∃ i : Nat, i + gk = ls.length ∧ v20 = .int .i64 i ∧ Hid (AlwTo ls i) ∧ w = wx)
    case atStart => exact ⟨0, by omega, rfl, fun i hi => by omega, rfl⟩
    case round =>
      obtain ⟨i, hig, rfl, HA, rfl⟩ := hrel
      cases gk with
      | zero =>
        obtain rfl : i = ls.length := by omega
        go_wp2_with fail
        go_ret
        exact TellsB.yes ⟨h1, h2, h3, HA.out⟩
      | succ g =>
        obtain ⟨b, off, _, _, hb, rfl, hcell⟩ := HI.out.resolve_left (by omega)
        have hlt : (i : Int) < (ls.length : Int) := by omega
        have hc := hcell i (by omega)
        have HC := hide hcell
        clear hcell
        obtain ⟨X, hX⟩ : ∃ X, ln ls i = X := ⟨_, rfl⟩
        have HX := hide hX
        rw [hX] at hc
        clear hX
        by_cases hn : X < 0
        · go_wp2_with fail
          go_ret
          refine TellsB.no fun h => ?_
          have := (h.2.2.2 i (by omega)).1
          rw [HX.out] at this
          omega
        · by_cases hm : 1073741824 < X
          · go_wp2_with fail
            go_ret
            refine TellsB.no fun h => ?_
            have := (h.2.2.2 i (by omega)).2
            rw [HX.out] at this
            omega
          · go_wp2_with fail
            go_roundg g
            case measure => omega
            case rel =>
              refine ⟨i + 1, by omega, by go_num, fun j hj => ?_, rfl⟩
              by_cases e : j = i
              · rw [e, HX.out]; omega
              · exact HA.out j (by omega)
  · have HNO : Hid (Alw ls most → False) := fun h => absurd ⟨h.1, h.2.1, h.2.2.1⟩ h0
    by_cases b1 : (320 : Int) < (ls.length : Int)
    · go_enter Try.func16, Try.ntmps16
      go_wp2_with fail
      go_ret
      exact TellsB.no HNO.out
    · by_cases b2 : most < 1
      · go_enter Try.func16, Try.ntmps16
        go_wp2_with fail
        go_ret
        exact TellsB.no HNO.out
      · have b3 : (15 : Int) < most := by omega
        go_enter Try.func16, Try.ntmps16
        go_wp2_with fail
        go_ret
        exact TellsB.no HNO.out

/-- The symbols that occur, among the first n. -/
def occ (ls : List Int) : Nat → List Int
  | 0 => []
  | n + 1 => if 0 < ln ls n then occ ls n ++ [(n : Int)] else occ ls n
theorem occ_mem (ls : List Int) (n : Nat) (x : Int) : x ∈ occ ls n ↔ ∃ i : Nat, x = i ∧ i < n ∧ 0 < ln ls i := by
  induction n with
  | zero => simp [occ]
  | succ n ih =>
    rw [occ]
    by_cases h : 0 < ln ls n
    · rw [if_pos h, List.mem_append, ih, List.mem_singleton]
      constructor
      · rintro (⟨i, a, b, c⟩ | e)
        · exact ⟨i, a, by omega, c⟩
        · exact ⟨n, e, by omega, h⟩
      · rintro ⟨i, a, b, c⟩
        by_cases e : i = n
        · exact .inr (by rw [a, e])
        · exact .inl ⟨i, a, by omega, c⟩
    · rw [if_neg h, ih]
      constructor
      · rintro ⟨i, a, b, c⟩; exact ⟨i, a, by omega, c⟩
      · rintro ⟨i, a, b, c⟩
        have : i ≠ n := fun e => h (e ▸ c)
        exact ⟨i, a, by omega, c⟩
theorem occ_length (ls : List Int) (n : Nat) : (occ ls n).length ≤ n := by
  induction n with
  | zero => simp [occ]
  | succ n ih =>
    rw [occ]
    split
    · simp; omega
    · omega
/-- The key by which symbols are sorted. -/
def keyOf (ls : List Int) (x : Int) : Int := ln ls x.toNat
def IsSym (ls : List Int) (x : Int) : Prop := ∃ i : Nat, x = i ∧ i < ls.length

theorem insertion_none (a : Option Addr) (cap : Nat) (fv : Value) (w : World) :
    Calls Try.prog 31 #[.slice a 0 cap, .int .i64 0, .int .i64 0, fv] w fun e w' => e = .returned (.tuple #[]) ∧ w' = w := by
  go_enter Try.func31, Try.ntmps31
  go_wp2_with fail
  go_loopg [8] 0 (fun gk v8 wx => v8 = .int .i64 1 ∧ w = wx)
  case atStart => exact ⟨rfl, rfl⟩
  case round =>
    obtain ⟨rfl, rfl⟩ := hrel
    go_wp2_with fail
    go_end0
    exact ⟨rfl, rfl⟩
set_option maxRecDepth 100000 in
theorem stable_none (a : Option Addr) (cap : Nat) (fv : Value) (w : World) :
    Calls Try.prog 29 #[.slice a 0 cap, .int .i64 0, fv] w fun e w' => e = .returned (.tuple #[]) ∧ w' = w := by
  have HQ := hide (insertion_none a cap fv)
  go_enter Try.func29, Try.ntmps29
  go_wp2_with fail
  go_loopg [7, 8] 0 (fun gk v7 v8 wx => v7 = .int .i64 0 ∧ v8 = .int .i64 20 ∧ w = wx)
  case atStart => exact ⟨rfl, rfl, rfl⟩
  case round =>
    obtain ⟨rfl, rfl, rfl⟩ := hrel
    go_wp2_with (go_at_call 31; refine (HQ.out _).mono ?_; rintro e w1 ⟨rfl, rfl⟩)
    go_loopg [6] 0 (fun gk v6 wx => v6 = .int .i64 20 ∧ w1 = wx)
    case atStart => exact ⟨rfl, rfl⟩
    case round =>
      obtain ⟨rfl, rfl⟩ := hrel
      go_wp2_with fail
      go_end0
      exact ⟨rfl, rfl⟩
theorem sortStable_none (a : Option Addr) (cap : Nat) (fv : Value) (w : World) :
    Calls Try.prog 23 #[.slice a 0 cap, fv] w fun e w' => e = .returned (.tuple #[]) ∧ w' = w := by
  have HQ := hide (stable_none a cap fv w)
  go_enter Try.func23, Try.ntmps23
  go_wp2_with (go_at_call 29; refine HQ.out.mono ?_; rintro e w1 ⟨rfl, rfl⟩)
  go_end0
  exact ⟨rfl, rfl⟩

/-- What rarestFirst tells. -/
def FirstOk (ls : List Int) (w : World) (e : Ending) (w' : World) : Prop := ∃ v d, e = .returned v ∧ Owns w' w.heap.size v d ∧ d.Perm (occ ls ls.length) ∧ Srt (keyOf ls) d 0 d.length ∧ Below w.heap.size w w'
abbrev boxO (a : Option Addr) (n cap : Nat) : Obj := .cells #[.slice a n cap] 22

theorem cmpOk_first (B g : Nat) (a : Option Addr) (cap : Nat) (ls : List Int) (w w1 : World) (hI : Ints 0 B w a ls) (hg : w.heap.size + 1 ≤ g) (hb : Below (w.heap.size + 1) (w.alloc (boxO a ls.length cap)) w1) :
    CmpOk w1 g (IsSym ls) (keyOf ls) (.pointer (some ⟨w.heap.size, 0, none⟩)) := by
  intro W hW x y hx hy
  obtain ⟨i, rfl, hi⟩ := hx
  obtain ⟨j, rfl, hj⟩ := hy
  obtain ⟨b, off, _, hb2, hb3, rfl, hcell⟩ := hI.resolve_left (by omega)
  have hs := hb.size
  simp at hs
  have hbox : W.cell? ⟨w.heap.size, 0, none⟩ = some (.slice (some ⟨b, off, none⟩) ls.length cap) := by
    rw [hW.cell (p := ⟨w.heap.size, 0, none⟩) (show w.heap.size < w1.heap.size by omega) (show ¬ w.heap.size = g by omega), hb.cell (p := ⟨w.heap.size, 0, none⟩) (show w.heap.size < w.heap.size + 1 by omega)]
    rw [cells_of (heap_new w _)]
    rfl
  have hce : ∀ n, n < ls.length → W.cell? ⟨b, off + n, none⟩ = some (.int .i64 (ln ls n)) := by
    intro n hn
    rw [hW.cell (p := ⟨b, off + n, none⟩) (show b < w1.heap.size by omega) (show ¬ b = g by omega), hb.cell (p := ⟨b, off + n, none⟩) (show b < w.heap.size + 1 by omega)]
    rw [World.cell?_of_block (w := w) (show (w.alloc (boxO (some ⟨b, off, none⟩) ls.length cap)).heap[b]? = w.heap[b]? from Below.heap_alloc _ _ _ hb3)]
    exact hcell n hn
  have := closure_c w.heap.size b off ls.length cap i j (ln ls i) (ln ls j) W hbox hi hj (hce i hi) (hce j hj)
  simpa [keyOf] using this

set_option maxHeartbeats 1000000 in
set_option maxRecDepth 100000 in
theorem rarest_c (B : Nat) (a : Option Addr) (cap : Nat) (ls : List Int) (w : World) (hl : ls.length ≤ 320) (hI : Ints 0 B w a ls) :
    Calls Try.prog 17 #[.slice a ls.length cap] w (FirstOk ls w) := by
  obtain ⟨i0, hi0, hz0, hz1', hz2'⟩ := info_parts Try.info3
  have HI := hide hI
  clear hI
  go_enter Try.func17, Try.ntmps17
  go_wp2_with fail
  go_loopg [3, 8] ls.length (fun gk v3 v8 wx => ∃ k : Nat, k + gk = ls.length ∧ v8 = .int .i64 k ∧ Hid (Owns wx (w.heap.size + 1) v3 (occ ls k)) ∧ Hid (Below (w.heap.size + 1) (w.alloc (boxO a ls.length cap)) wx))
  case atStart => exact ⟨0, by omega, rfl, Owns.nil _ _, Below.refl _ _⟩
  case round =>
    obtain ⟨i, hig, rfl, HO, HB⟩ := hrel
    obtain ⟨a3, c3, rfl⟩ := own_form HO.out
    have hol := occ_length ls i
    have hsz : w.heap.size + 1 ≤ wr.heap.size := by have := HB.out.size; simpa using this
    cases gk with
    | zero =>
      obtain rfl : i = ls.length := by omega
      by_cases h0 : occ ls ls.length = []
      · have hn0 : (occ ls ls.length).length = 0 := by rw [h0]; rfl
        have HN := hide (sortStable_none a3 c3)
        rw [hn0]
        have HO2 : Hid (Owns wr (w.heap.size + 1) (.slice a3 0 c3) []) := by have := HO.out; rw [h0] at this; exact this
        have H0 := hide h0
        clear HO hn0 h0 hol
        go_wp2_with (go_at_call 23; refine (HN.out _ _).mono ?_; rintro e w1 ⟨rfl, rfl⟩)
        go_ret
        refine ⟨_, [], rfl, HO2.out.low (by omega), by rw [H0.out], fun i j _ _ h => by simp at h, ?_⟩
        exact ((Below.refl w.heap.size w).alloc (Nat.le_refl _) _).trans (HB.out.mono (by omega))
      · obtain ⟨g, sp, cp, hv, hg, hcp, hcm, hsp, hro⟩ := HO.out.ro h0
        simp only [Value.slice.injEq] at hv
        obtain ⟨rfl, _, rfl⟩ := hv
        have hck := cmpOk_first B g a cap ls w wr HI.out hg HB.out
        have hall : All (IsSym ls) (occ ls ls.length) := fun x hx => by
          obtain ⟨i, e1, e2, _⟩ := (occ_mem ls ls.length x).1 hx
          exact ⟨i, e1, e2⟩
        have HQ := hide (sortStable_c g sp c3 (occ ls ls.length) (.pointer (some ⟨w.heap.size, 0, none⟩)) wr (IsSym ls) (keyOf ls) hck hall hro (by omega))
        have HC := hide (show (occ ls ls.length).length ≤ c3 ∧ c3 ≤ maxLen ∧ sp.size = c3 - (occ ls ls.length).length from ⟨hcp, hcm, hsp⟩)
        clear hck hall hro hcp hcm hsp h0
        obtain ⟨D, hD⟩ : ∃ D, occ ls ls.length = D := ⟨_, rfl⟩
        have HD := hide hD
        rw [hD] at HQ HC HO hol ⊢
        clear hD
        go_wp2_with (go_at_call 23; refine HQ.out.mono ?_; rintro e w1 ⟨rfl, K⟩; have HK := hide K; clear K)
        go_ret
        obtain ⟨d', s1, s2, s3, s4, s5⟩ := HK.out
        obtain ⟨q1, q2, q3⟩ := HC.out
        rw [← s2] at q1 q3 s1
        refine ⟨_, d', rfl, ?_, by rw [HD.out]; exact s3.perm, s1, ?_⟩
        · rw [← s2]; exact Owns.of_ro s4 (by omega) q1 q2 q3
        · exact ((Below.refl w.heap.size w).alloc (Nat.le_refl _) _).trans ((HB.out.mono (by omega)).trans (s5.below (by omega) (fun i hi e => by omega)))
    | succ gk =>
      obtain ⟨b, off, _, hb2, hb3, rfl, hcell⟩ := HI.out.resolve_left (by omega)
      have hlt : (i : Int) < (ls.length : Int) := by omega
      have hc : wr.cell? ⟨b, off + i, none⟩ = some (.int .i64 (ln ls i)) := by
        rw [HB.out.cell (p := ⟨b, off + i, none⟩) (show b < w.heap.size + 1 by omega)]
        rw [World.cell?_of_block (w := w) (show (w.alloc (boxO (some ⟨b, off, none⟩) ls.length cap)).heap[b]? = w.heap[b]? from Below.heap_alloc _ _ _ hb3)]
        exact hcell i (by omega)
      clear hcell
      obtain ⟨X, hX⟩ : ∃ X, ln ls i = X := ⟨_, rfl⟩
      have HX := hide hX
      rw [hX] at hc
      clear hX
      by_cases hpos : 0 < X
      · obtain ⟨O, hO⟩ : ∃ O, occ ls i = O := ⟨_, rfl⟩
        have HOE := hide hO
        rw [hO] at HO hol ⊢
        clear hO
        go_wp2_with (at_builtin; refine wpList_append_own _ rfl _ _ 22 rfl (w.heap.size + 1) 3 i0 (.int .i64 0) 1 8 Try.underlying22 hi0 hz0 hz1' hz2' rfl (by decide) _ _ _ rfl (World.ownsRow.alloc HO.out _) ⟨_, 0, none⟩ 1 1 [.int .i64 (i : Int)] rfl rfl (one_int' _ _ _ (by simp)) (by intro u hu; simp at hu; subst hu; rfl) (by unfold maxLen; omega) (by omega) (by simp; omega) ?_; intro v' w4 hown' hgrow hnil; have HOW := hide hown'; have HGR := hide hgrow; clear hown' hgrow hnil)
        go_roundg gk
        case measure => omega
        case rel =>
          refine ⟨i + 1, by omega, by go_num, ?_, ?_⟩
          · rw [occ, HX.out, if_pos hpos, HOE.out]; exact Owns.push HOW.out
          · exact (HB.out.alloc (by simpa using hsz) _).grown HGR.out (by simp; omega) (fun g e => (ownsRow_lt HO.out e).1)
      · have hno : ¬ 0 < ln ls i := by rw [HX.out]; exact hpos
        have HNO := hide (Int.not_lt.1 hno)
        clear hno
        go_wp2_with fail
        go_roundg gk
        case measure => omega
        case rel =>
          refine ⟨i + 1, by omega, by go_num, ?_, HB.out⟩
          rw [occ, if_neg (Int.not_lt.2 HNO.out)]; exact HO.out
#print axioms rarest_c
end Go.Proofs.Ytdeigchkpakdaaa
