/- The program's keyBytes, cut, keysOf, sealOf: contracts. slices.Concat of any rows of bytes: contract. The program's Seal: contracts. The program's Open: contracts. Open of a row that is known; the laws' probe: contract. -/
import Derived.Test.YtgamfpgejkhbcaaDoorNG1
import Derived.Test.YtgamfpgejkhbcaaDoorMG3
import Derived.Test.YtgamfpgejkhbcaaDoorMG2
import Derived.Great.BuildSlice
import Derived.Test.YtgamfpgejkhbcaaDoorHOpen
import Derived.Lib.SlBytesConst
namespace Go.Proofs.YtgamfpgejkhbcaaDoor.S
set_option maxRecDepth 100000
open Go Go.RowKit

/-- How many bytes a key of a strength has; 0: there is no such strength. -/
def kbs (s : Int) : Nat := if s = 1 then 16 else if s = 2 then 24 else if s = 3 then 32 else 0
theorem kbs_no {s : Int} (h : ¬ s = 1) (h2 : ¬ s = 2) (h3 : ¬ s = 3) : kbs s = 0 := by rw [kbs, if_neg h, if_neg h2, if_neg h3]
theorem kbs_cases (s : Int) : kbs s = 0 ∨ ∃ n, (n = 4 ∨ n = 6 ∨ n = 8) ∧ kbs s = 4 * n := by
  unfold kbs
  split
  · exact .inr ⟨4, by omega, rfl⟩
  · split
    · exact .inr ⟨6, by omega, rfl⟩
    · split
      · exact .inr ⟨8, by omega, rfl⟩
      · exact .inl rfl
theorem keyBytes_c (s : Int) (w : World) : Calls Tryd.prog 23 #[.int .i64 s] w fun e w' => e = .returned (.int .i64 (kbs s : Nat)) ∧ w' = w := by
  by_cases h3 : s = 3
  · subst h3
    go_enter Tryd.func23, Tryd.ntmps23
    go_wp2_with fail
    go_ret
    exact ⟨rfl, rfl⟩
  by_cases h2 : s = 2
  · subst h2
    go_enter Tryd.func23, Tryd.ntmps23
    go_wp2_with fail
    go_ret
    exact ⟨rfl, rfl⟩
  by_cases h1 : s = 1
  · subst h1
    go_enter Tryd.func23, Tryd.ntmps23
    go_wp2_with fail
    go_ret
    exact ⟨rfl, rfl⟩
  rw [kbs_no h1 h2 h3]
  go_enter Tryd.func23, Tryd.ntmps23
  go_wp2_with fail
  go_ret
  exact ⟨rfl, rfl⟩
theorem slice_lo (K : IntKind) (W : World) (b o len cap m : Nat) (h : m ≤ len) : (Instr.sliceAt 22 (.slice (some ⟨b, o, none⟩) len cap) (some (.int K (m : Int))) none none).run Tryd.prog W = .ok (.slice (some ⟨b, if cap = m then o else o + m, none⟩) (len - m) (cap - m)) W := by
  rw [run_sliceAt_slice _ _ _ _ _ _ (by kernel_rfl), run_slice_l W 22 (some ⟨b, o, none⟩) len cap (by kernel_rfl) K (m : Int) (by omega) (by omega), elemB, size5]
  by_cases hc : cap = m
  · simp [sliced, hc]
  · simp [sliced, hc, addr_plain]
/-- What cut answers. -/
def CutOk (b o len cap m : Nat) (w : World) (e : Ending) (w' : World) : Prop :=
  ∃ o2, e = .returned (.tuple #[.slice (some ⟨b, o, none⟩) m cap, .slice (some ⟨b, o2, none⟩) (len - m) (cap - m)]) ∧ (m < cap → o2 = o + m) ∧ ∃ q, w' = w.drewN q
theorem cut_c (b o len cap m : Nat) (w : World) (h : m ≤ len) (hc : len ≤ cap) : Calls Tryd.prog 30 #[.slice (some ⟨b, o, none⟩) len cap, .int .i64 (m : Int)] w (CutOk b o len cap m w) := by
  have h1 := fun W => slice_h .i64 W b o len cap m (by omega)
  have h2 := fun W => slice_lo .i64 W b o len cap m h
  have HO : Hid (m < cap → (if cap = m then o else o + m) = o + m) := fun hm => by rw [if_neg (by omega)]
  generalize (if cap = m then o else o + m) = o2 at h2 HO
  clear h hc
  go_enter Tryd.func30, Tryd.ntmps30
  go_upto_region 1 with fail
  go_quiet (fail)
  go_wp2_with fail
  go_ret2
  exact ⟨o2, rfl, HO.out, nq, rfl⟩
theorem cut_at (b o len cap m k c : Nat) (w : World) (h : m + k = len) (hc : m + c = cap) (hk : k ≤ c) (h0 : 0 < c) : Calls Tryd.prog 30 #[.slice (some ⟨b, o, none⟩) len cap, .int .i64 (m : Int)] w
    fun e w' => e = .returned (.tuple #[.slice (some ⟨b, o, none⟩) m cap, .slice (some ⟨b, o + m, none⟩) k c]) ∧ ∃ q, w' = w.drewN q :=
  (cut_c b o len cap m w (by omega) (by omega)).mono fun e w' ⟨o2, he, ho, hq⟩ => ⟨by rw [he, ho (by omega), show len - m = k by omega, show cap - m = c by omega], hq⟩
theorem Bs.take {w : World} {b o : Nat} {xs : List Nat} (h : Bs w b o xs) (n : Nat) : Bs w b o (xs.take n) := fun i hi => by
  have hi2 : i < n ∧ i < xs.length := by rw [List.length_take] at hi; omega
  rw [h i hi2.2]
  simp [List.getD, hi2.1]
theorem Bs.drop {w : World} {b o : Nat} {xs : List Nat} (h : Bs w b o xs) (n : Nat) : Bs w b (o + n) (xs.drop n) := fun i hi => by
  have hi2 : n + i < xs.length := by rw [List.length_drop] at hi; omega
  rw [Nat.add_assoc, h (n + i) hi2]
  simp [List.getD]
theorem below_drew {B : Nat} {w w' : World} (h : Below B w w') (n : Nat) : Below B w (w'.drewN n) := ⟨h.os, h.tape, h.output, h.size, h.block⟩
/-- All bytes that a password and a salt make, for keys of Lg bytes: the key, the seal's key, the look. -/
def kyL (pw salt : List Nat) (Lg : Nat) : List Nat := keyK pw salt 1000 (2 * Lg + 2)
theorem kyL_length (pw salt : List Nat) (Lg : Nat) : (kyL pw salt Lg).length = 2 * Lg + 2 := keyK_length _ _ _ _
theorem kyL_by (pw salt : List Nat) (Lg : Nat) : By (kyL pw salt Lg) := keyK_by _ _ _ _
theorem infoKeys (u v x : Value) : (Tryd.prog.info? 49).map (·.size) = some (#[u, v, x] : Array Value).size := by
  have := (zero_of_info (P := Tryd.prog) (t := 49) (n := 3) (v := .agg #[.slice none 0 0, .slice none 0 0, .slice none 0 0]) (by kernel_rfl)).2
  exact this
/-- What keysOf answers. -/
def KeysOk (ks : List Nat) (Lg : Nat) (w : World) (e : Ending) (w' : World) : Prop :=
  ∃ b o, e = .returned (.agg #[.slice (some ⟨b, o, none⟩) Lg (2 * Lg + 2), .slice (some ⟨b, o + Lg, none⟩) Lg (Lg + 2), .slice (some ⟨b, o + Lg + Lg, none⟩) 2 2]) ∧ Bs w' b o ks ∧ b < w'.heap.size ∧ Below w.heap.size w w'
theorem zeroKeys : ∀ w, (zeroValue 49).run Tryd.prog w = .ok (.agg #[.slice none 0 0, .slice none 0 0, .slice none 0 0]) w := (zero_of_info (n := 3) (by kernel_rfl)).1

set_option maxHeartbeats 4000000 in
theorem keysOf_c (a sa : Option Addr) (ca sc : Nat) (pw salt : List Nat) (Lg : Nat) (w : World) (hk : By pw) (hka : TextAt w a pw) (hkc : pw.length ≤ ca) (hkm : ca ≤ 9223372036854775807) (hkl : pw.length ≤ 1000000000000000)
    (hs : By salt) (hst : TextAt w sa salt) (hsn : sa = none → salt.length = 0 ∧ sc = 0) (hsl : salt.length ≤ 140737488351232) (hL : 1 ≤ Lg ∧ Lg ≤ 32) :
    Calls Tryd.prog 24 #[.slice a pw.length ca, .slice sa salt.length sc, .int .i64 (Lg : Int)] w (KeysOk (kyL pw salt Lg) Lg w) := by
  have hz := zeroKeys
  have BA := hide ((Below.refl _ w).alloc (Nat.le_refl _) (.cells #[.slice none 0 0, .slice none 0 0, .slice none 0 0] 49) : Below w.heap.size w _)
  have HK : Hid (Calls Tryd.prog 39 #[.slice a pw.length ca, .slice sa salt.length sc, .int .i64 1000, .int .i64 (2 * (Lg : Int) + 2)] (w.alloc (.cells #[.slice none 0 0, .slice none 0 0, .slice none 0 0] 49)) fun e w' => ∃ b o, e = .returned (.tuple #[.slice (some ⟨b, o, none⟩) (2 * Lg + 2) (2 * Lg + 2), .bool true]) ∧ Bs w' b o (kyL pw salt Lg) ∧ b < w'.heap.size ∧ Below (w.heap.size + 1) (w.alloc (.cells #[.slice none 0 0, .slice none 0 0, .slice none 0 0] 49)) w') := by
    have := key_c a sa ca sc pw salt 999 (2 * Lg + 2) _ hk (hka.below BA.out) hkc hkm hkl hs (hst.below BA.out) hsn hsl (by omega) (by omega)
    push_cast at this
    refine this.mono fun e w' ⟨a', he, ht, hn, hb⟩ => ?_
    rcases ht with h0 | ⟨b, o, rfl, h1, h2⟩
    · rw [keyK_length] at h0; omega
    · exact ⟨b, o, he, h2, h1, by simpa using hb⟩
  have HC1 := fun b o W => hide (cut_at b o (2 * Lg + 2) (2 * Lg + 2) Lg (Lg + 2) (Lg + 2) W (by omega) (by omega) (by omega) (by omega))
  have HC2 := fun b o W => hide (cut_at b o (Lg + 2) (Lg + 2) Lg 2 2 W (by omega) (by omega) (by omega) (by omega))
  have HKL := hide (kyL_length pw salt Lg)
  generalize kyL pw salt Lg = ks at HK HKL ⊢
  obtain ⟨N, hN⟩ : ∃ N, N = pw.length := ⟨_, rfl⟩
  obtain ⟨M, hM⟩ : ∃ M, M = salt.length := ⟨_, rfl⟩
  rw [← hN, ← hM] at HK ⊢
  have R0 := hide (heap_new w (.cells #[.slice none 0 0, .slice none 0 0, .slice none 0 0] 49))
  have l0 : (w.alloc (.cells #[.slice none 0 0, .slice none 0 0, .slice none 0 0] 49)).heap.size = w.heap.size + 1 := by simp
  clear hk hka hkc hkm hkl hs hst hsn hsl hN hM
  go_enter Tryd.func24, Tryd.ntmps24
  go_upto_region 4 with (first
    | (go_at_call 39; refine HK.out.mono ?_; rintro e w1 ⟨b, o, rfl, hbs, hbl, hbw⟩; have BS := hide hbs; have B1 := hide (BA.out.trans (hbw.mono (by omega))); have R1 := hide ((hbw.block _ (by omega)).trans R0.out); clear hbs hbw HK R0 l0)
    | (go_at_call 30; refine (HC1 b o w1).out.mono ?_; rintro e w2 ⟨rfl, q2, rfl⟩; clear HC1)
    | (go_at_call 30; refine (HC2 b (o + Lg) (w1.drewN q2)).out.mono ?_; rintro e w3 ⟨rfl, q3, rfl⟩; clear HC2))
  have R2 := hide (show (w1.drewN (q2 + q3)).heap[w.heap.size]? = some (.cells #[.slice none 0 0, .slice none 0 0, .slice none 0 0] 49 (0, 0)) from R1.out)
  have BS2 := hide (show Bs (w1.drewN (q2 + q3)) b o ks from BS.out)
  have B2 := hide (below_drew B1.out (q2 + q3))
  have hbl2 : b < (w1.drewN (q2 + q3)).heap.size := hbl
  have hbn : b ≠ w.heap.size := fun e => by
    subst e
    have h1 := BS.out 0 (by have := HKL.out; omega)
    have h2 := cells_of R1.out o
    rw [Nat.add_zero] at h1
    rw [h1] at h2
    rcases o with _ | _ | _ | o <;> simp at h2
  clear R1 BS B1 hbl
  generalize w1.drewN (q2 + q3) = w4 at R2 BS2 B2 hbl2 ⊢
  have HON := hide (show (#[.slice (some ⟨b, o, none⟩) Lg (2 * Lg + 2), .slice (some ⟨b, o + Lg, none⟩) Lg (Lg + 2), .slice (some ⟨b, o + Lg + Lg, none⟩) 2 2] : Array Value).all (·.oneCell') = true by simp [Value.oneCell'])
  have HI := hide (infoKeys (.slice (some ⟨b, o, none⟩) Lg (2 * Lg + 2)) (.slice (some ⟨b, o + Lg, none⟩) Lg (Lg + 2)) (.slice (some ⟨b, o + Lg + Lg, none⟩) 2 2))
  go_wp2_with (refine wpList_store_row rfl 49 (.tmp 6) (.tmp 37) rfl w.heap.size #[.slice (some ⟨b, o, none⟩) Lg (2 * Lg + 2), .slice (some ⟨b, o + Lg, none⟩) Lg (Lg + 2), .slice (some ⟨b, o + Lg + Lg, none⟩) 2 2] (by rfl) (by rfl) #[.slice none 0 0, .slice none 0 0, .slice none 0 0] 49 R2.out HI.out (by simp) HON.out ?_; intro w6 G6 K6)
  have hld : (loadVar 49 ⟨w.heap.size, 0, none⟩).run Tryd.prog w6 = .ok (.agg #[.slice (some ⟨b, o, none⟩) Lg (2 * Lg + 2), .slice (some ⟨b, o + Lg, none⟩) Lg (Lg + 2), .slice (some ⟨b, o + Lg + Lg, none⟩) 2 2]) w6 :=
    run_loadVar_row _ _ 49 49 _ (0, 0) _ G6.out Tryd.underlying49 rfl HI.out
  refine bodyPost_ret (v := .agg #[.slice (some ⟨b, o, none⟩) Lg (2 * Lg + 2), .slice (some ⟨b, o + Lg, none⟩) Lg (Lg + 2), .slice (some ⟨b, o + Lg + Lg, none⟩) 2 2]) ?_ rfl ⟨b, o, rfl, BS2.out.kept K6.out hbl2 hbn, Nat.lt_of_lt_of_le hbl2 K6.out.size, B2.out.trans (K6.out.below B2.out.size (fun i hi e => by omega))⟩
  simp [results, asAddr, Act.put, hld]

/-- What sealOf answers: the first ten bytes of the sum. -/
def tagL (key ys : List Nat) : List Nat := (outL (hmac key ys)).take 10
theorem tagL_length (key ys : List Nat) : (tagL key ys).length = 10 := by simp [tagL, outL]
theorem tagL_by (key ys : List Nat) : By (tagL key ys) := (outL_by _).take _
theorem slice10 (W : World) (b : Nat) : (Instr.sliceAt 55 (.pointer (some ⟨b, 0, none⟩)) none (some (.int .i64 10)) none).run Tryd.prog W = .ok (.slice (some ⟨b, 0, none⟩) 10 20) W := by
  have h : Tryd.prog.underlying 55 = some (.array (Tryd.prog.arrayLen 55) (Tryd.prog.elem 55)) := by kernel_rfl
  rw [run_sliceAt_array_h W 55 ⟨b, 0, none⟩ h .i64 10 (by omega) (by rw [all20]; omega), elem20, size5, all20]
  simp [slicedAt, addr_plain]
set_option maxHeartbeats 4000000 in
theorem sealOf_c (u v : Value) (a b : Option Addr) (ca cb : Nat) (key ys : List Nat) (w : World) (hk : By key) (hka : TextAt w a key) (hkc : key.length ≤ ca) (hkm : ca ≤ 9223372036854775807) (hkl : key.length ≤ 1000000000000000)
    (hy : By ys) (hb : TextAt w b ys) (hcap : ys.length ≤ cb) (hcm : cb ≤ 9223372036854775807) (hyl : ys.length ≤ 999999999999000) :
    Calls Tryd.prog 26 #[.agg #[u, .slice a key.length ca, v], .slice b ys.length cb] w fun e w' => ∃ t, w.heap.size ≤ t ∧ e = .returned (.slice (some ⟨t, 0, none⟩) 10 20) ∧ Bs w' t 0 (tagL key ys) ∧ t < w'.heap.size ∧ Below w.heap.size w w' := by
  obtain ⟨S, hS⟩ : ∃ S, S = hmac key ys := ⟨_, rfl⟩
  have hz : ∀ w, (zeroValue 55).run Tryd.prog w = .ok (.agg (oA S 0)) w := (zero20 _).1
  have BA := hide ((Below.refl _ w).alloc (Nat.le_refl _) (.cells #[u, .slice a key.length ca, v] 49) : Below w.heap.size w _)
  have c1 := cells_of (heap_new w (.cells #[u, .slice a key.length ca, v] 49)) 1
  have HM := hide (msum_c a b ca cb key ys _ hk (hka.below BA.out) hkc hkm hkl hy (hb.below BA.out) hcap hcm hyl)
  rw [← hS] at HM
  rw [tagL, ← hS]
  have H20 := hide (info20 (oB S) 20)
  have hsl := fun W b => slice10 W b
  obtain ⟨N, hN⟩ : ∃ N, N = key.length := ⟨_, rfl⟩
  obtain ⟨M, hM⟩ : ∃ M, M = ys.length := ⟨_, rfl⟩
  rw [← hN, ← hM] at HM
  rw [← hN] at BA c1
  rw [← hN, ← hM]
  clear hk hka hkc hkm hkl hy hb hcap hcm hyl hS hN hM
  go_enter Tryd.func26, Tryd.ntmps26
  simp at c1
  go_wp2_with (first
    | (go_at_call 41; refine HM.out.mono ?_; rintro e w1 ⟨rfl, b1⟩; have B1 := hide (BA.out.trans (b1.mono BA.out.size)); have R1 := hide (heap_new w1 (.cells (oA S 0) 55)); have hs1 := b1.size; clear b1 HM)
    | (refine wpList_store_row rfl 55 (.tmp 5) (.tmp 9) rfl w1.heap.size (oA S 20) (by rfl) (by rfl) (oA S 0) 55 R1.out H20.out (by rw [oA, oA, fA_size, fA_size]) (fA_one _ _ _ _) ?_; intro w3 G3 K3))
  go_ret
  have h20 : Bs w3 w1.heap.size 0 (outL S) := by
    rcases text20 G3.out with h0 | ⟨b', o', e, _, h⟩
    · rw [outL_length] at h0; omega
    · simp only [Option.some.injEq, Addr.mk.injEq] at e
      obtain ⟨rfl, rfl, _⟩ := e
      exact h
  have B2 := B1.out.alloc B1.out.size (.cells (oA S 0) 55)
  refine ⟨w1.heap.size, B1.out.size, rfl, h20.take 10, lt_of_block' G3.out, B2.trans (K3.out.below B2.size (fun i hi e => by have := B1.out.size; omega))⟩
end Go.Proofs.YtgamfpgejkhbcaaDoor.S
namespace Go.Proofs.YtgamfpgejkhbcaaDoor.S
set_option maxRecDepth 100000
open Go Go.RowKit

/-- What stands in the first i rows. -/
def preL (Y : Nat → List Nat) : Nat → List Nat
  | 0 => []
  | i + 1 => preL Y i ++ Y i
theorem preL_mono (Y : Nat → List Nat) {i j : Nat} (h : i ≤ j) : (preL Y i).length ≤ (preL Y j).length := by
  induction j with
  | zero => rw [show i = 0 by omega]; exact Nat.le_refl _
  | succ j ih =>
    rcases Nat.lt_or_ge i (j + 1) with h1 | h1
    · have := ih (by omega)
      rw [preL, List.length_append]; omega
    · rw [show i = j + 1 by omega]; exact Nat.le_refl _
/-- The rows in memory. -/
structure RowsN (w : World) (c n : Nat) (A : Nat → Option Addr) (C : Nat → Nat) (Y : Nat → List Nat) : Prop where
  cell : ∀ i, i < n → w.cell? ⟨c, i, none⟩ = some (.slice (A i) (Y i).length (C i))
  text : ∀ i, i < n → TextAt w (A i) (Y i)
  nil : ∀ i, i < n → A i = none → (Y i).length = 0 ∧ C i = 0
  lt : c < w.heap.size
/-- What Concat answers. -/
def CatN (zs : List Nat) (w : World) (e : Ending) (w' : World) : Prop := ∃ v, e = .returned v ∧ OwnsB w' w.heap.size v zs ∧ Below w.heap.size w w'

set_option maxHeartbeats 4000000 in
theorem concatN_c (c n : Nat) (A : Nat → Option Addr) (C : Nat → Nat) (Y : Nat → List Nat) (w : World) (hn : n ≤ 1000) (hr : RowsN w c n A C Y) (hl : (preL Y n).length ≤ 140737488355328) :
    Calls Tryd.prog 25 #[.slice (some ⟨c, 0, none⟩) n n] w (CatN (preL Y n) w) := by
  have HR := hide hr
  have hcl := hr.lt
  have HP : Hid (∀ i, i ≤ n → (preL Y i).length ≤ 140737488355328) := fun i hi => Nat.le_trans (preL_mono Y hi) hl
  have HX : Hid (∀ i, preL Y (i + 1) = preL Y i ++ Y i) := fun i => rfl
  clear hr
  go_enter Tryd.func25, Tryd.ntmps25
  go_wp2_with fail
  have h00 : Hid ((preL Y 0).length = 0) := rfl
  go_loopg [3, 11] n (fun gk u3 u11 wx => ∃ i : Nat, i + gk = n ∧ u3 = .int .i64 ((preL Y i).length : Nat) ∧ u11 = .int .i64 i ∧ w = wx)
  case atStart => exact ⟨0, by omega, rfl, rfl, rfl⟩
  case round =>
    obtain ⟨i, hig, rfl, rfl, rfl⟩ := hrel
    cases gk with
    | zero =>
      have hin : n = i := by omega
      subst hin
      have hge : ¬ (n : Int) < (n : Int) := by omega
      have hS := HP.out n (Nat.le_refl _)
      have HG := hide (grow_c (preL Y n).length w hS)
      obtain ⟨S, hSe⟩ : ∃ S, S = (preL Y n).length := ⟨_, rfl⟩
      rw [← hSe] at hS HG ⊢
      clear hSe
      go_wp2_with (go_at_call 40; refine HG.out.mono ?_; rintro e w1 ⟨v6, rfl, o1, b1⟩; have O1 := hide o1; have B1 := hide b1; clear o1 b1)
      go_loopg [6, 27] n (fun gk u6 u27 wx => ∃ i : Nat, i + gk = n ∧ u27 = .int .i64 i ∧ Hid (OwnsB wx w.heap.size u6 (preL Y i)) ∧ Hid (Below w.heap.size w wx))
      case atStart => exact ⟨0, by omega, rfl, O1, B1⟩
      case round =>
        obtain ⟨i, hig2, rfl, OX, BX⟩ := hrel
        clear O1 B1 HG
        cases gk with
        | zero =>
          have hin : n = i := by omega
          subst hin
          have hge : ¬ (n : Int) < (n : Int) := by omega
          go_wp2_with fail
          go_ret
          exact ⟨_, rfl, OX.out, BX.out⟩
        | succ g1 =>
          have hlt : (i : Int) < (n : Int) := by omega
          have hc := (BX.out.cell (p := ⟨c, i, none⟩) hcl).trans (HR.out.cell i (by omega))
          have HT := hide ((HR.out.text i (by omega)).below BX.out)
          have HNL := hide (HR.out.nil i (by omega))
          have HPR := hide (HX.out i).symm
          have hpl2 : (preL Y i).length + (Y i).length ≤ 140737488355328 := by
            have := HP.out (i + 1) (by omega)
            rw [HX.out, List.length_append] at this; exact this
          obtain ⟨L, hL⟩ : ∃ L, L = (Y i).length := ⟨_, rfl⟩
          have HL := hide hL.symm
          rw [← hL] at hc HNL hpl2
          have hsx := BX.out.size
          have i0 : (0 : Int) ≤ (i : Int) := by omega
          generalize A i = AI at hc HT HNL
          generalize C i = CI at hc HNL
          clear hL
          go_wp2_with (refine wpList_appB _ rfl (.tmp 31) (.tmp 32) rfl w.heap.size u6 (preL Y i) (by rfl) OX.out AI L CI (by rfl) (Y i) (preL Y (i + 1)) HPR.out HL.out HT.out HNL.out hpl2 hsx ?_; intro v7 w2 h2 k2; have O2 := hide h2; have B2 := hide (growB OX.out BX.out k2); clear h2 k2)
          go_roundg g1
          case measure => omega
          case rel => exact ⟨i + 1, by omega, by go_num, O2, B2⟩
    | succ g1 =>
      have hlt : (i : Int) < (n : Int) := by omega
      have hc := HR.out.cell i (by omega)
      have HE := hide (show (preL Y (i + 1)).length = (preL Y i).length + (Y i).length by rw [HX.out, List.length_append])
      have hsum : (preL Y i).length + (Y i).length ≤ 140737488355328 := by rw [← HE.out]; exact HP.out (i + 1) (by omega)
      have i0 : (0 : Int) ≤ (i : Int) := by omega
      generalize (Y i).length = LY at hc HE hsum
      generalize A i = AI at hc
      generalize C i = CI at hc
      generalize (preL Y i).length = S0 at HE hsum ⊢
      go_wp2_with fail
      go_roundg g1
      case measure => omega
      case rel => exact ⟨i + 1, by omega, by rw [HE.out]; go_num, by go_num, rfl⟩
end Go.Proofs.YtgamfpgejkhbcaaDoor.S
namespace Go.Proofs.YtgamfpgejkhbcaaDoor.S
set_option maxRecDepth 100000
open Go Go.RowKit

/-- The inside: data as a password and a salt encrypt it, with keys of 4 n bytes. -/
def insL (ks : List Nat) (n : Nat) (data : List Nat) : List Nat := K.strL (K.msk (K.kK (ks.take (4 * n)) n) (n + 6)) data
/-- The seal's key. -/
def sk2 (ks : List Nat) (n : Nat) : List Nat := (ks.drop (4 * n)).take (4 * n)
/-- The look. -/
def lkL (ks : List Nat) (n : Nat) : List Nat := (ks.drop (4 * n)).drop (4 * n)
/-- What is sealed. -/
def sealL (ks salt : List Nat) (n : Nat) (data : List Nat) : List Nat := salt ++ lkL ks n ++ insL ks n data ++ tagL (sk2 ks n) (insL ks n data)
theorem insL_length (ks : List Nat) (n : Nat) (data : List Nat) : (insL ks n data).length = data.length := K.strL_length _ _
theorem insL_by {ks : List Nat} (hk : By ks) {n : Nat} (hn : 1 ≤ n) {data : List Nat} (hd : By data) : By (insL ks n data) :=
  K.strL_by hd (fun i => K.msk_lt (fun r _ => K.kK_by (hk.take _) hn r) i)
theorem step_val {ops : Array Oper} {o : Oper} {a : Act} {K : Act → World → Prop} {Q : Exit → Act → World → Prop} {E : Prop} {w w' : World} {v : Value} (hgd : o.guard = none) (hrun : (execOp a.eval o).run Tryd.prog w = .ok (.value v) w') (h : K (a.put o.dst v) w') :
    if Region.wanted o (yielded ops a.tmps) = true then Oper.wp Tryd.prog o a w K Q else E := by
  have hw : Region.wanted o (yielded ops a.tmps) = true := by simp [Region.wanted, hgd]
  rw [if_pos hw]
  unfold Oper.wp
  rw [hrun]
  exact h
theorem run_four (r : Operand → Value) (o : Oper) (x0 x1 x2 x3 : Operand) (ho : o.op = .buildSlice 43 4 #[(0, x0), (1, x1), (2, x2), (3, x3)]) (w : World) (a0 a1 a2 a3 : Option Addr) (l0 l1 l2 l3 c0 c1 c2 c3 : Nat) (h0 : r x0 = .slice a0 l0 c0) (h1 : r x1 = .slice a1 l1 c1) (h2 : r x2 = .slice a2 l2 c2) (h3 : r x3 = .slice a3 l3 c3) :
    (execOp r o).run Tryd.prog w = .ok (.value (.slice (some ⟨w.heap.size, 0, none⟩) 4 4)) (w.alloc (.cells #[.slice a0 l0 c0, .slice a1 l1 c1, .slice a2 l2 c2, .slice a3 l3 c3] 22)) := by
  unfold execOp
  simp only [ho]
  simp [go_sem, Instr.buildSlice, h0, h1, h2, h3]
theorem seal_no (s : Int) (a sa d : Option Addr) (la ca ls sc ld dc : Nat) (w : World) (h : kbs s = 0 ∨ 2 * ls ≠ kbs s) :
    Calls Tryd.prog 13 #[.int .i64 s, .slice a la ca, .slice sa ls sc, .slice d ld dc] w fun e w' => e = .returned (.tuple #[.slice none 0 0, .int .i64 130]) ∧ w' = w := by
  have HB := hide (keyBytes_c s w)
  rcases kbs_cases s with h0 | ⟨n, hn, h0⟩
  · rw [h0] at HB
    clear h
    go_enter Tryd.func13, Tryd.ntmps13
    go_wp2_with (go_at_call 23; refine HB.out.mono ?_; rintro e w1 ⟨rfl, hw⟩; obtain rfl := hw.symm; clear HB)
    go_ret2
    exact ⟨rfl, rfl⟩
  · rw [h0] at HB h
    obtain ⟨Lg, hLg⟩ : ∃ Lg, Lg = 4 * n := ⟨_, rfl⟩
    rw [← hLg] at HB h
    have hL0 : ¬ (Lg : Int) = 0 := by omega
    obtain ⟨H, hH⟩ : ∃ H, H = 2 * n := ⟨_, rfl⟩
    have hq : (Lg : Int) / 2 = (H : Int) := by omega
    have hne : ¬ (ls : Int) = (H : Int) := by omega
    have hHl : H ≤ 16 := by omega
    have hb1 : ((Lg : Int) == 0) = false := by simpa using hL0
    have hb2 : ((ls : Int) != (H : Int)) = true := by simpa using hne
    clear h hLg hH h0 hn
    go_enter Tryd.func13, Tryd.ntmps13
    go_wp2_with (go_at_call 23; refine HB.out.mono ?_; rintro e w1 ⟨rfl, hw⟩; obtain rfl := hw.symm; clear HB)
    go_ret2
    exact ⟨rfl, rfl⟩
/-- What Seal answers. -/
def SealOk (zs : List Nat) (w : World) (e : Ending) (w' : World) : Prop := ∃ v, e = .returned (.tuple #[v, .int .i64 0]) ∧ OwnsB w' w.heap.size v zs ∧ Below w.heap.size w w'

set_option maxHeartbeats 8000000 in
theorem seal_c (s : Int) (n : Nat) (a sa d : Option Addr) (ca sc dc : Nat) (pw salt data : List Nat) (w : World) (hn : n = 4 ∨ n = 6 ∨ n = 8) (hs0 : kbs s = 4 * n) (hk : By pw) (hka : TextAt w a pw) (hkc : pw.length ≤ ca) (hkm : ca ≤ 9223372036854775807) (hkl : pw.length ≤ 1000000000000000)
    (hs : By salt) (hst : TextAt w sa salt) (hsn : sa = none → salt.length = 0 ∧ sc = 0) (hsl : salt.length = 2 * n) (hd : By data) (hdt : TextAt w d data) (hdl : data.length ≤ 140737488355290) (hT : K.Tab w) :
    Calls Tryd.prog 13 #[.int .i64 s, .slice a pw.length ca, .slice sa salt.length sc, .slice d data.length dc] w (SealOk (sealL (kyL pw salt (4 * n)) salt n data) w) := by
  have HB := hide (keyBytes_c s w)
  rw [hs0] at HB
  have HKY := hide (keysOf_c a sa ca sc pw salt (4 * n) w hk hka hkc hkm hkl hs hst hsn (by omega) (by omega))
  have HKL := hide (kyL_length pw salt (4 * n))
  have HKB := hide (kyL_by pw salt (4 * n))
  generalize kyL pw salt (4 * n) = ks at HKY HKL HKB ⊢
  have HST : Hid (∀ b o c (W : World), Below w.heap.size w W → b < W.heap.size → Bs W b o ks → 4 * n ≤ c → Calls Tryd.prog 11 #[.slice (some ⟨b, o, none⟩) (4 * n) c, .slice d data.length dc] W (K.StrOk (insL ks n data) W)) := fun b o c W hb hl hbs hc =>
    K.stream_c ⟨b, o, none⟩ c n (ks.take (4 * n)) d dc data W hn (by rw [List.length_take, HKL.out]; omega) (HKB.out.take _) (.inr ⟨b, o, rfl, hl, hbs.take _⟩) hc (hT.stay hb) hd (hdt.below hb) (by omega)
  have HSE : Hid (∀ b o (u v : Value) (W : World) x cx, b < W.heap.size → Bs W b o ks → TextAt W x (insL ks n data) → (insL ks n data).length ≤ cx → cx ≤ 9223372036854775807 → Calls Tryd.prog 26 #[.agg #[u, .slice (some ⟨b, o + 4 * n, none⟩) (4 * n) (4 * n + 2), v], .slice x data.length cx] W fun e w' => ∃ t, W.heap.size ≤ t ∧ e = .returned (.slice (some ⟨t, 0, none⟩) 10 20) ∧ Bs w' t 0 (tagL (sk2 ks n) (insL ks n data)) ∧ t < w'.heap.size ∧ Below W.heap.size W w') := fun b o u v W x cx hl hbs hx hxc hcm => by
    have hkk : (sk2 ks n).length = 4 * n := by rw [sk2, List.length_take, List.length_drop, HKL.out]; omega
    have := sealOf_c u v (some ⟨b, o + 4 * n, none⟩) x (4 * n + 2) cx (sk2 ks n) (insL ks n data) W ((HKB.out.drop _).take _) (.inr ⟨b, o + 4 * n, rfl, hl, (hbs.drop _).take _⟩) (by omega) (by omega) (by omega) (insL_by HKB.out (by omega) hd) hx hxc hcm (by rw [insL_length]; omega)
    rw [hkk, insL_length] at this
    exact this
  have HLK : Hid ((lkL ks n).length = 2) := by show (lkL ks n).length = 2; rw [lkL, List.length_drop, List.length_drop, HKL.out]; omega
  have HIL := hide (insL_length ks n data)
  have HTL := hide (tagL_length (sk2 ks n) (insL ks n data))
  have HE : Hid (sealL ks salt n data = salt ++ lkL ks n ++ insL ks n data ++ tagL (sk2 ks n) (insL ks n data)) := rfl
  generalize sealL ks salt n data = zs at HE ⊢
  generalize tagL (sk2 ks n) (insL ks n data) = tg at HSE HTL HE
  generalize insL ks n data = ins at HST HSE HIL HTL HE
  obtain ⟨lk, hlk⟩ : ∃ lk, lk = lkL ks n := ⟨_, rfl⟩
  have HLE := hide hlk
  rw [← hlk] at HLK HE
  obtain ⟨Lg, hLg⟩ : ∃ Lg, Lg = 4 * n := ⟨_, rfl⟩
  rw [← hLg] at HKY HKL HST HSE HB
  have hL0 : ¬ (Lg : Int) = 0 := by omega
  have hL3 : Lg ≤ 32 := by omega
  obtain ⟨N, hN⟩ : ∃ N, N = pw.length := ⟨_, rfl⟩
  obtain ⟨M, hM⟩ : ∃ M, M = salt.length := ⟨_, rfl⟩
  obtain ⟨D, hD⟩ : ∃ D, D = data.length := ⟨_, rfl⟩
  rw [← hD] at HST HSE HIL hdl
  rw [← hN, ← hM] at HKY
  rw [← hN, ← hM, ← hD]
  have hq : (Lg : Int) / 2 = (M : Int) := by omega
  have hMl : M ≤ 16 := by omega
  have HM := hide hM
  have HSA := hide hst
  have HSN := hide hsn
  have HLG := hide hLg
  clear hn hs0 hk hka hkc hkm hkl hs hst hsn hsl hd hdt hT hLg hN hM hD hlk
  go_enter Tryd.func13, Tryd.ntmps13
  have hzk := zeroKeys
  go_upto_region 5 with (first
    | (go_at_call 23; refine HB.out.mono ?_; rintro e w1 ⟨rfl, hw⟩; obtain rfl := hw.symm; clear HB)
    | (go_at_call 24; refine HKY.out.mono ?_; rintro e w2 ⟨b, o, rfl, hbs, hbl, hb2⟩; have BS := hide hbs; have B2 := hide hb2; have R2 := hide (heap_new w2 (.cells #[.slice none 0 0, .slice none 0 0, .slice none 0 0] 49)); have HI := hide (infoKeys (.slice (some ⟨b, o, none⟩) Lg (2 * Lg + 2)) (.slice (some ⟨b, o + Lg, none⟩) Lg (Lg + 2)) (.slice (some ⟨b, o + Lg + Lg, none⟩) 2 2)); have HON := hide (show (#[.slice (some ⟨b, o, none⟩) Lg (2 * Lg + 2), .slice (some ⟨b, o + Lg, none⟩) Lg (Lg + 2), .slice (some ⟨b, o + Lg + Lg, none⟩) 2 2] : Array Value).all (·.oneCell') = true by simp [Value.oneCell']); clear hbs hb2 HKY)
    | (refine wpList_store_row rfl 49 (.tmp 11) (.tmp 28) rfl w2.heap.size #[.slice (some ⟨b, o, none⟩) Lg (2 * Lg + 2), .slice (some ⟨b, o + Lg, none⟩) Lg (Lg + 2), .slice (some ⟨b, o + Lg + Lg, none⟩) 2 2] (by rfl) (by rfl) #[.slice none 0 0, .slice none 0 0, .slice none 0 0] 49 R2.out HI.out (by simp) HON.out ?_; intro w3 G3 K3))
  have c0 := cells_of G3.out 0
  simp at c0
  have hbn : ¬ b = w2.heap.size := by omega
  have K2 : Kept (fun i => i = w2.heap.size) w2 w3 := (Kept.alloc _ (Kept.refl _ w2) _).trans K3.out (fun _ _ e => e)
  have BS3 := hide (BS.out.kept K2 hbl hbn)
  have hbl3 : b < w3.heap.size := Nat.lt_of_lt_of_le hbl K2.size
  have B3 := hide (B2.out.trans (K2.below B2.out.size (fun i hi e => by have := B2.out.size; omega)))
  have R3 := hide G3.out
  have HST3 := hide (HST.out b o (2 * Lg + 2) w3 B3.out hbl3 BS3.out (by omega))
  obtain ⟨kb, hkb⟩ : ∃ kb, kb = w2.heap.size := ⟨_, rfl⟩
  rw [← hkb] at R3 c0 ⊢
  clear G3 K3 K2 BS B2 R2 hbn hbl HST hkb
  go_upto_region 6 with (go_at_call 11; refine HST3.out.mono ?_; rintro e w4 ⟨vi, rfl, oi, b4⟩; have O4 := hide oi; have B4 := hide (B3.out.trans (b4.mono B3.out.size)); have R4 := hide ((b4.block _ (lt_of_block' R3.out)).trans R3.out); have BS4 := hide (BS3.out.below b4 hbl3); have hbl4 := Nat.lt_of_lt_of_le hbl3 b4.size; clear oi b4 HST3 R3 BS3 c0)
  obtain ⟨xi, ci, rfl, hci, hcm, hni⟩ := (show OwnsB w4 w3.heap.size vi ins from O4.out).form
  have TX := hide (show TextAt w4 xi ins from OwnsB.text O4.out)
  rw [HIL.out] at hci hni
  have hcm' : ci ≤ 9223372036854775807 := by unfold maxLen at hcm; omega
  clear O4 hbl3 B3 hcm
  rw [HIL.out]
  refine wp_region_held_drew (S := fun W => W.heap[kb]? = some (.cells #[.slice (some ⟨b, o, none⟩) Lg (2 * Lg + 2), .slice (some ⟨b, o + Lg, none⟩) Lg (Lg + 2), .slice (some ⟨b, o + Lg + Lg, none⟩) 2 2] 49 (0, 0))) (by kernel_rfl) R4.out ?_
  intro hS0
  have B5 : Hid (Below w.heap.size w w4.drew) := below_drew B4.out 1
  have BS5 : Hid (Bs w4.drew b o ks) := BS4.out
  have TX5 : Hid (TextAt w4.drew xi ins) := TX.out
  have hbl5 : b < w4.drew.heap.size := hbl4
  clear B4 R4 BS4 TX hbl4
  generalize w4.drew = W0 at B5 BS5 TX5 hbl5 hS0 ⊢
  refine wpAnyH_take (i := 0) (v := .slice sa M sc) rfl (by kernel_rfl) (by kernel_rfl) (by kernel_rfl) (fun _ _ _ h => h) (Or.inl ⟨by rfl, fun _ _ => by go_simp⟩) hS0 ?_
  simp only [Act.put, List.getElem_toArray, List.getElem_cons_zero, List.setIfInBounds_toArray, List.set_cons_zero, List.set_cons_succ]
  refine wpAnyH_take (i := 1) (v := .pointer (some ⟨kb, 2, none⟩)) rfl (by kernel_rfl) (by kernel_rfl) (by kernel_rfl) (fun _ _ _ h => h) (Or.inl ⟨by rfl, fun _ _ => by go_simp⟩) hS0 ?_
  simp only [Act.put, List.getElem_toArray, List.getElem_cons_zero, List.getElem_cons_succ, List.setIfInBounds_toArray, List.set_cons_zero, List.set_cons_succ]
  refine wpAnyH_take (i := 2) (v := .slice (some ⟨b, o + Lg + Lg, none⟩) 2 2) rfl (by kernel_rfl) (by kernel_rfl) (by kernel_rfl) (fun _ _ _ h => h) (Or.inl ⟨by rfl, fun W h => by have c2 := cells_of h 2; simp at c2; go_simp⟩) hS0 ?_
  simp only [Act.put, List.getElem_toArray, List.getElem_cons_zero, List.getElem_cons_succ, List.setIfInBounds_toArray, List.set_cons_zero, List.set_cons_succ]
  refine wpAnyH_take (i := 3) (v := .slice xi D ci) rfl (by kernel_rfl) (by kernel_rfl) (by kernel_rfl) (fun _ _ _ h => h) (Or.inl ⟨by rfl, fun _ _ => by go_simp⟩) hS0 ?_
  simp only [Act.put, List.getElem_toArray, List.getElem_cons_zero, List.getElem_cons_succ, List.setIfInBounds_toArray, List.set_cons_zero, List.set_cons_succ]
  refine wpAnyH_take (i := 4) (v := .agg #[.slice (some ⟨b, o, none⟩) Lg (2 * Lg + 2), .slice (some ⟨b, o + Lg, none⟩) Lg (Lg + 2), .slice (some ⟨b, o + Lg + Lg, none⟩) 2 2]) rfl (by kernel_rfl) (by kernel_rfl) (by kernel_rfl) (fun _ _ _ h => h) (yields_row (by rfl) 49 (.tmp 11) rfl kb rfl _ 49 (0, 0) (fun _ h => h) _ Tryd.underlying49 rfl HI.out) hS0 ?_
  simp only [Act.put, List.getElem_toArray, List.getElem_cons_zero, List.getElem_cons_succ, List.setIfInBounds_toArray, List.set_cons_zero, List.set_cons_succ]
  refine wpAnyH_take (i := 5) (v := .slice xi D ci) rfl (by kernel_rfl) (by kernel_rfl) (by kernel_rfl) (fun _ _ _ h => h) (Or.inl ⟨by rfl, fun _ _ => by go_simp⟩) hS0 ?_
  simp only [Act.put, List.getElem_toArray, List.getElem_cons_zero, List.getElem_cons_succ, List.setIfInBounds_toArray, List.set_cons_zero, List.set_cons_succ]
  refine wpAnyH_ready (rs := [6]) (by kernel_rfl) (by simp) ?_
  refine AllReadyH.cons rfl (fun KK hK => ?_) AllReadyH.nil
  refine step_call rfl 26 #[.agg #[.slice (some ⟨b, o, none⟩) Lg (2 * Lg + 2), .slice (some ⟨b, o + Lg, none⟩) Lg (Lg + 2), .slice (some ⟨b, o + Lg + Lg, none⟩) 2 2], .slice xi D ci] (by kernel_rfl) (HSE.out b o _ _ W0 xi ci hbl5 BS5.out TX5.out (by rw [HIL.out]; exact hci) hcm') ?_
  rintro e W1 ⟨t, ht0, rfl, htb, htl, b1⟩
  have hS1 := (b1.block _ (lt_of_block' hS0)).trans hS0
  refine ⟨_, rfl, hK.out _ _ hS1 (fun _ => ?_)⟩
  clear hK KK
  have B6 := hide (B5.out.trans (b1.mono B5.out.size))
  have BS6 := hide (BS5.out.below b1 hbl5)
  have TX6 := hide (TX5.out.below b1)
  have hbl6 := Nat.lt_of_lt_of_le hbl5 b1.size
  have TG := hide htb
  clear B5 BS5 TX5 hbl5 hS0 htb b1 ht0
  simp only [Act.put, List.getElem_toArray, List.getElem_cons_zero, List.getElem_cons_succ, List.setIfInBounds_toArray, List.set_cons_zero, List.set_cons_succ]
  refine wpAnyH_ready (rs := [7]) (by kernel_rfl) (by simp) ?_
  refine AllReadyH.cons rfl (fun KK hK => ?_) AllReadyH.nil
  refine step_val (v := .slice (some ⟨W1.heap.size, 0, none⟩) 4 4) (w' := W1.alloc (.cells #[.slice sa M sc, .slice (some ⟨b, o + Lg + Lg, none⟩) 2 2, .slice xi D ci, .slice (some ⟨t, 0, none⟩) 10 20] 22)) rfl ?_ ?_
  · exact run_four _ _ (.tmp 36) (.tmp 38) (.tmp 39) (.tmp 42) rfl _ _ _ _ _ _ _ _ _ _ _ _ _ rfl rfl rfl rfl
  have hA := (Below.refl _ W1).alloc (Nat.le_refl _) (.cells #[.slice sa M sc, .slice (some ⟨b, o + Lg + Lg, none⟩) 2 2, .slice xi D ci, .slice (some ⟨t, 0, none⟩) 10 20] 22)
  have hS2 := (hA.block _ (lt_of_block' hS1)).trans hS1
  refine hK.out _ _ hS2 (fun _ => ?_)
  clear hK KK
  simp only [Act.put, List.getElem_toArray, List.getElem_cons_zero, List.getElem_cons_succ, List.setIfInBounds_toArray, List.set_cons_zero, List.set_cons_succ]
  refine wpAnyH_ready (rs := [8]) (by kernel_rfl) (by simp) ?_
  refine AllReadyH.cons rfl (fun KK hK => ?_) AllReadyH.nil
  refine step_call rfl 25 #[.slice (some ⟨W1.heap.size, 0, none⟩) 4 4] (by kernel_rfl) (concatN_c W1.heap.size 4 (fun i => match i with | 0 => sa | 1 => some ⟨b, o + Lg + Lg, none⟩ | 2 => xi | _ => some ⟨t, 0, none⟩) (fun i => match i with | 0 => sc | 1 => 2 | 2 => ci | _ => 20) (fun i => match i with | 0 => salt | 1 => lk | 2 => ins | _ => tg) _ (by omega) ?_ ?_) ?_
  · have hcl := cells_of (heap_new W1 (.cells #[.slice sa M sc, .slice (some ⟨b, o + Lg + Lg, none⟩) 2 2, .slice xi D ci, .slice (some ⟨t, 0, none⟩) 10 20] 22))
    refine ⟨fun i hi => ?_, fun i hi => ?_, fun i hi => ?_, by simp⟩
    · rw [hcl]
      match i, hi with
      | 0, _ => show some (Value.slice sa M sc) = some (.slice sa salt.length sc); rw [HM.out]
      | 1, _ => show some (Value.slice (some ⟨b, o + Lg + Lg, none⟩) 2 2) = some (.slice (some ⟨b, o + Lg + Lg, none⟩) lk.length 2); rw [HLK.out]
      | 2, _ => show some (Value.slice xi D ci) = some (.slice xi ins.length ci); rw [HIL.out]
      | 3, _ => show some (Value.slice (some ⟨t, 0, none⟩) 10 20) = some (.slice (some ⟨t, 0, none⟩) tg.length 20); rw [HTL.out]
    · match i, hi with
      | 0, _ => exact (HSA.out.below B6.out).below hA
      | 1, _ => exact TextAt.below (show TextAt W1 (some ⟨b, o + Lg + Lg, none⟩) lk from .inr ⟨b, _, rfl, hbl6, by rw [HLE.out, lkL, ← HLG.out]; exact (BS6.out.drop Lg).drop Lg⟩) hA
      | 2, _ => exact TX6.out.below hA
      | 3, _ => exact TextAt.below (show TextAt W1 (some ⟨t, 0, none⟩) tg from .inr ⟨t, 0, rfl, htl, TG.out⟩) hA
    · match i, hi with
      | 0, _ => exact fun e => by have := HSN.out e; exact this
      | 1, _ => exact fun e => by cases e
      | 2, _ => exact fun e => by show ins.length = 0 ∧ ci = 0; rw [HIL.out]; exact hni e
      | 3, _ => exact fun e => by cases e
  · show ((([] ++ salt) ++ lk) ++ ins ++ tg).length ≤ _
    have := HM.out; have := HLK.out; have := HIL.out; have := HTL.out
    simp only [List.length_append, List.length_nil]
    omega
  rintro e W2 ⟨v8, rfl, o8, b8⟩
  have hS3 := (b8.block _ (lt_of_block' hS2)).trans hS2
  refine ⟨_, rfl, hK.out _ _ hS3 (fun _ => ?_)⟩
  clear hK KK
  have B8 := hide ((B6.out.trans (hA.mono B6.out.size)).trans (b8.mono (Nat.le_trans B6.out.size hA.size)))
  have O8 := hide (o8.low (show w.heap.size ≤ (W1.alloc (.cells #[.slice sa M sc, .slice (some ⟨b, o + Lg + Lg, none⟩) 2 2, .slice xi D ci, .slice (some ⟨t, 0, none⟩) 10 20] 22)).heap.size from Nat.le_trans B6.out.size hA.size))
  have HZ := hide (show preL (fun i => match i with | 0 => salt | 1 => lk | 2 => ins | _ => tg) 4 = zs by rw [HE.out]; simp [preL])
  rw [HZ.out] at O8
  clear o8 b8 hA B6 BS6 TX6 TG hS1 hS2 HZ
  simp only [Act.put, List.getElem_toArray, List.getElem_cons_zero, List.getElem_cons_succ, List.setIfInBounds_toArray, List.set_cons_zero, List.set_cons_succ]
  refine wpAnyH_take (i := 9) (v := v8) rfl (by kernel_rfl) (by kernel_rfl) (by kernel_rfl) (fun _ _ _ h => h) (Or.inl ⟨by rfl, fun _ _ => by go_simp⟩) hS3 ?_
  simp only [Act.put, List.getElem_toArray, List.getElem_cons_zero, List.getElem_cons_succ, List.setIfInBounds_toArray, List.set_cons_zero, List.set_cons_succ]
  refine wpAnyH_take (i := 10) (v := .int .i64 0) rfl (by kernel_rfl) (by kernel_rfl) (by kernel_rfl) (fun _ _ _ h => h) (Or.inl ⟨by rfl, fun _ _ => by go_simp⟩) hS3 ?_
  simp only [Act.put, List.getElem_toArray, List.getElem_cons_zero, List.getElem_cons_succ, List.setIfInBounds_toArray, List.set_cons_zero, List.set_cons_succ]
  refine wpAnyH_done (by kernel_rfl) ?_ _
  go_wp2_with fail
  go_ret2
  exact ⟨_, rfl, O8.out, B8.out⟩
end Go.Proofs.YtgamfpgejkhbcaaDoor.S
namespace Go.Proofs.YtgamfpgejkhbcaaDoor.S
set_option maxRecDepth 100000
open Go Go.RowKit

theorem open_no (s : Int) (u : Value) (d : Option Addr) (ld dc : Nat) (w : World) (h : kbs s = 0 ∨ 2 * ld < kbs s + 24) :
    Calls Tryd.prog 15 #[.int .i64 s, u, .slice d ld dc] w fun e w' => e = .returned (.tuple #[.slice none 0 0, .int .i64 130]) ∧ w' = w := by
  have HB := hide (keyBytes_c s w)
  rcases kbs_cases s with h0 | ⟨n, hn, h0⟩
  · rw [h0] at HB
    clear h
    go_enter Tryd.func15, Tryd.ntmps15
    go_wp2_with (go_at_call 23; refine HB.out.mono ?_; rintro e w1 ⟨rfl, hw⟩; obtain rfl := hw.symm; clear HB)
    go_ret2
    exact ⟨rfl, rfl⟩
  · rw [h0] at HB h
    obtain ⟨Lg, hLg⟩ : ∃ Lg, Lg = 4 * n := ⟨_, rfl⟩
    rw [← hLg] at HB h
    have hL0 : ¬ (Lg : Int) = 0 := by omega
    obtain ⟨H, hH⟩ : ∃ H, H = 2 * n := ⟨_, rfl⟩
    have hq : (Lg : Int) / 2 = (H : Int) := by omega
    have hHl : H ≤ 16 := by omega
    have hlt : (ld : Int) < (H : Int) + 2 + 10 := by omega
    have hb1 : ((Lg : Int) == 0) = false := by simpa using hL0
    have hb2 : decide ((ld : Int) < (H : Int) + 2 + 10) = true := by simpa using hlt
    clear h hLg hH h0 hn
    go_enter Tryd.func15, Tryd.ntmps15
    go_wp2_with (go_at_call 23; refine HB.out.mono ?_; rintro e w1 ⟨rfl, hw⟩; obtain rfl := hw.symm; clear HB)
    go_ret2
    exact ⟨rfl, rfl⟩
/-- What Open answers of bytes that are long enough. -/
def OpenOk (ks : List Nat) (n : Nat) (lk ins tg : List Nat) (w : World) (e : Ending) (w' : World) : Prop :=
  Below w.heap.size w w' ∧ if lk = lkL ks n then (if tg = tagL (sk2 ks n) ins then ∃ v, e = .returned (.tuple #[v, .int .i64 0]) ∧ OwnsB w' w.heap.size v (insL ks n ins) else e = .returned (.tuple #[.slice none 0 0, .int .i64 132])) else e = .returned (.tuple #[.slice none 0 0, .int .i64 131])

set_option maxHeartbeats 8000000 in
theorem open_c (s : Int) (n : Nat) (a : Option Addr) (ca b o sp : Nat) (pw salt lk ins tg : List Nat) (w : World) (hn : n = 4 ∨ n = 6 ∨ n = 8) (hs0 : kbs s = 4 * n) (hk : By pw) (hka : TextAt w a pw) (hkc : pw.length ≤ ca) (hkm : ca ≤ 9223372036854775807) (hkl : pw.length ≤ 1000000000000000)
    (hys : By (salt ++ lk ++ ins ++ tg)) (hb : b < w.heap.size) (hbs : Bs w b o (salt ++ lk ++ ins ++ tg)) (hsl : salt.length = 2 * n) (hll : lk.length = 2) (htl : tg.length = 10) (hil : ins.length ≤ 140737488355290) (hcp : 2 * n + 12 + ins.length + sp ≤ 9223372036854775807) (hT : K.Tab w) :
    Calls Tryd.prog 15 #[.int .i64 s, .slice a pw.length ca, .slice (some ⟨b, o, none⟩) (2 * n + (2 + (ins.length + 10))) (2 * n + (2 + (ins.length + (10 + sp))))] w (OpenOk (kyL pw salt (4 * n)) n lk ins tg w) := by
  have HB := hide (keyBytes_c s w)
  rw [hs0] at HB
  have hyS : By salt := fun x hx => hys x (by simp [hx])
  have hyL : By lk := fun x hx => hys x (by simp [hx])
  have hyI : By ins := fun x hx => hys x (by simp [hx])
  have hyT : By tg := fun x hx => hys x (by simp [hx])
  have BSS := hide (show Bs w b o salt by have := hbs.take (2 * n); rwa [List.append_assoc, List.append_assoc, ← hsl, List.take_left] at this)
  have BSL := hide (show Bs w b (o + 2 * n) lk by
    have := (hbs.drop (2 * n)).take 2
    rw [List.append_assoc, List.append_assoc, ← hsl, List.drop_left, ← hll, List.take_left, hsl] at this
    exact this)
  have BSI := hide (show Bs w b (o + 2 * n + 2) ins by
    have := ((hbs.drop (2 * n)).drop 2).take ins.length
    rw [List.append_assoc, List.append_assoc, ← hsl, List.drop_left, ← hll, List.drop_left, List.take_left, hsl, hll] at this
    exact this)
  have BST := hide (show Bs w b (o + 2 * n + 2 + ins.length) tg by
    have := ((hbs.drop (2 * n)).drop 2).drop ins.length
    rw [List.append_assoc, List.append_assoc, ← hsl, List.drop_left, ← hll, List.drop_left, List.drop_left, hsl, hll] at this
    exact this)
  have HKY := fun q => hide (keysOf_c a (some ⟨b, o, none⟩) ca (2 * n + (2 + (ins.length + (10 + sp)))) pw salt (4 * n) (w.drewN q) hk (show TextAt (w.drewN q) a pw from hka) hkc hkm hkl hyS (show TextAt (w.drewN q) _ salt from .inr ⟨b, o, rfl, hb, BSS.out⟩) (fun e => by cases e) (by omega) (by omega))
  have HKL := hide (kyL_length pw salt (4 * n))
  have HKB := hide (kyL_by pw salt (4 * n))
  generalize kyL pw salt (4 * n) = ks at HKY HKL HKB ⊢
  have HST : Hid (∀ b2 o2 c (W : World), Below w.heap.size w W → b2 < W.heap.size → Bs W b2 o2 ks → 4 * n ≤ c → Calls Tryd.prog 11 #[.slice (some ⟨b2, o2, none⟩) (4 * n) c, .slice (some ⟨b, o + 2 * n + 2, none⟩) ins.length (ins.length + (10 + sp))] W (K.StrOk (insL ks n ins) W)) := fun b2 o2 c W hbw hl hbs2 hc =>
    K.stream_c ⟨b2, o2, none⟩ c n (ks.take (4 * n)) (some ⟨b, o + 2 * n + 2, none⟩) (ins.length + (10 + sp)) ins W hn (by rw [List.length_take, HKL.out]; omega) (HKB.out.take _) (.inr ⟨b2, o2, rfl, hl, hbs2.take _⟩) hc (hT.stay hbw) hyI (.inr ⟨b, o + 2 * n + 2, rfl, Nat.lt_of_lt_of_le hb hbw.size, BSI.out.below hbw hb⟩) (by omega)
  have HSE : Hid (∀ b2 o2 (u v : Value) (W : World), Below w.heap.size w W → b2 < W.heap.size → Bs W b2 o2 ks → Calls Tryd.prog 26 #[.agg #[u, .slice (some ⟨b2, o2 + 4 * n, none⟩) (4 * n) (4 * n + 2), v], .slice (some ⟨b, o + 2 * n + 2, none⟩) ins.length (ins.length + (10 + sp))] W fun e w' => ∃ t, W.heap.size ≤ t ∧ e = .returned (.slice (some ⟨t, 0, none⟩) 10 20) ∧ Bs w' t 0 (tagL (sk2 ks n) ins) ∧ t < w'.heap.size ∧ Below W.heap.size W w') := fun b2 o2 u v W hbw hl hbs2 => by
    have hkk : (sk2 ks n).length = 4 * n := by rw [sk2, List.length_take, List.length_drop, HKL.out]; omega
    have := sealOf_c u v (some ⟨b2, o2 + 4 * n, none⟩) (some ⟨b, o + 2 * n + 2, none⟩) (4 * n + 2) (ins.length + (10 + sp)) (sk2 ks n) ins W ((HKB.out.drop _).take _) (.inr ⟨b2, o2 + 4 * n, rfl, hl, (hbs2.drop _).take _⟩) (by omega) (by omega) (by omega) hyI (.inr ⟨b, o + 2 * n + 2, rfl, Nat.lt_of_lt_of_le hb hbw.size, BSI.out.below hbw hb⟩) (by omega) (by omega) (by omega)
    rw [hkk] at this
    exact this
  have hlk2 : (lkL ks n).length = 2 := by rw [lkL, List.length_drop, List.length_drop, HKL.out]; omega
  have HS1 : Hid (∀ b2 o2 (W : World), Below w.heap.size w W → b2 < W.heap.size → Bs W b2 o2 ks → Calls Tryd.prog 31 #[.slice (some ⟨b, o + 2 * n, none⟩) 2 (2 + (ins.length + (10 + sp))), .slice (some ⟨b2, o2 + 4 * n + 4 * n, none⟩) 2 2] W fun e w' => e = .returned (.bool (decide (lk = lkL ks n))) ∧ ∃ q, w' = W.drewN q) := fun b2 o2 W hbw hl hbs2 => by
    have := same_c (some ⟨b, o + 2 * n, none⟩) (some ⟨b2, o2 + 4 * n + 4 * n, none⟩) (2 + (ins.length + (10 + sp))) 2 lk (lkL ks n) W hyL ((HKB.out.drop _).drop _) (.inr ⟨b, o + 2 * n, rfl, Nat.lt_of_lt_of_le hb hbw.size, BSL.out.below hbw hb⟩) (.inr ⟨b2, _, rfl, hl, (hbs2.drop _).drop _⟩) (by omega)
    rw [hll, hlk2] at this
    exact this
  have htg2 := tagL_length (sk2 ks n) ins
  have HS2 : Hid (∀ t (W : World), Below w.heap.size w W → t < W.heap.size → Bs W t 0 (tagL (sk2 ks n) ins) → Calls Tryd.prog 31 #[.slice (some ⟨b, o + 2 * n + 2 + ins.length, none⟩) 10 (10 + sp), .slice (some ⟨t, 0, none⟩) 10 20] W fun e w' => e = .returned (.bool (decide (tg = tagL (sk2 ks n) ins))) ∧ ∃ q, w' = W.drewN q) := fun t W hbw hl hbs2 => by
    have := same_c (some ⟨b, o + 2 * n + 2 + ins.length, none⟩) (some ⟨t, 0, none⟩) (10 + sp) 20 tg (tagL (sk2 ks n) ins) W hyT (tagL_by _ _) (.inr ⟨b, _, rfl, Nat.lt_of_lt_of_le hb hbw.size, BST.out.below hbw hb⟩) (.inr ⟨t, 0, rfl, hl, hbs2⟩) (by omega)
    rw [htl, htg2] at this
    exact this
  obtain ⟨B1, hB1⟩ : ∃ B1, B1 = decide (lk = lkL ks n) := ⟨_, rfl⟩
  obtain ⟨B2, hB2⟩ : ∃ B2, B2 = decide (tg = tagL (sk2 ks n) ins) := ⟨_, rfl⟩
  rw [← hB1] at HS1
  rw [← hB2] at HS2
  have HPO : Hid (∀ e w', Below w.heap.size w w' → (B1 = true → B2 = true → ∃ v, e = .returned (.tuple #[v, .int .i64 0]) ∧ OwnsB w' w.heap.size v (insL ks n ins)) → (B1 = true → B2 = false → e = .returned (.tuple #[.slice none 0 0, .int .i64 132])) → (B1 = false → e = .returned (.tuple #[.slice none 0 0, .int .i64 131])) → OpenOk ks n lk ins tg w e w') := fun e w' hbw h1 h2 h3 => by
    refine ⟨hbw, ?_⟩
    by_cases c1 : lk = lkL ks n
    · rw [if_pos c1]
      by_cases c2 : tg = tagL (sk2 ks n) ins
      · rw [if_pos c2]; exact h1 (by rw [hB1]; simpa using c1) (by rw [hB2]; simpa using c2)
      · rw [if_neg c2]; exact h2 (by rw [hB1]; simpa using c1) (by rw [hB2]; simpa using c2)
    · rw [if_neg c1]; exact h3 (by rw [hB1]; simpa using c1)
  clear hB1 hB2
  generalize OpenOk ks n lk ins tg w = PO at HPO ⊢
  generalize insL ks n ins = out at HPO HST
  generalize tagL (sk2 ks n) ins = tg2 at HSE HS2
  obtain ⟨J, hJ⟩ : ∃ J, J = ins.length := ⟨_, rfl⟩
  rw [← hJ] at HKY HST HSE HS1 HS2 ⊢
  rw [← hJ] at hil hcp
  obtain ⟨H, hH⟩ : ∃ H, H = 2 * n := ⟨_, rfl⟩
  obtain ⟨Lg, hLg⟩ : ∃ Lg, Lg = 4 * n := ⟨_, rfl⟩
  rw [← hLg] at HKY HKL HST HSE HS1 HB
  rw [← hH] at HKY HST HSE HS1 HS2 ⊢
  rw [hsl, ← hH] at HKY
  have hL0 : ¬ (Lg : Int) = 0 := by omega
  have hL3 : Lg ≤ 32 := by omega
  have hq : (Lg : Int) / 2 = (H : Int) := by omega
  have hHl : H ≤ 16 := by omega
  obtain ⟨C2, hC2⟩ : ∃ C2, C2 = J + (10 + sp) := ⟨_, rfl⟩
  obtain ⟨C3, hC3⟩ : ∃ C3, C3 = 10 + sp := ⟨_, rfl⟩
  obtain ⟨R2, hR2⟩ : ∃ R2, R2 = J + 10 := ⟨_, rfl⟩
  obtain ⟨C1, hC1⟩ : ∃ C1, C1 = 2 + C2 := ⟨_, rfl⟩
  obtain ⟨R1, hR1⟩ : ∃ R1, R1 = 2 + R2 := ⟨_, rfl⟩
  obtain ⟨C0, hC0⟩ : ∃ C0, C0 = H + C1 := ⟨_, rfl⟩
  obtain ⟨R0, hR0⟩ : ∃ R0, R0 = H + R1 := ⟨_, rfl⟩
  have HC1 := fun W => hide (cut_at b o R0 C0 H R1 C1 W (by omega) (by omega) (by omega) (by omega))
  have HC2 := fun W => hide (show Calls Tryd.prog 30 #[.slice (some ⟨b, o + H, none⟩) R1 C1, .int .i64 2] W fun e w' => e = .returned (.tuple #[.slice (some ⟨b, o + H, none⟩) 2 C1, .slice (some ⟨b, o + H + 2, none⟩) R2 C2]) ∧ ∃ q, w' = W.drewN q from cut_at b (o + H) R1 C1 2 R2 C2 W (by omega) (by omega) (by omega) (by omega))
  have HC3 := fun W => hide (cut_at b (o + H + 2) R2 C2 J 10 C3 W (by omega) (by omega) (by omega) (by omega))
  rw [← hC2] at HKY HST HSE HS1 ⊢
  rw [← hC1] at HKY HS1 ⊢
  rw [← hC0] at HKY ⊢
  rw [← hC3] at HS2
  rw [← hR2, ← hR1, ← hR0]
  have hr1 : ¬ (R0 : Int) < (H : Int) + 2 + 10 := by omega
  have hb1 : ((Lg : Int) == 0) = false := by simpa using hL0
  have hb2 : decide ((R0 : Int) < (H : Int) + 2 + 10) = false := by simpa using hr1
  have hr2 : (R2 : Int) - 10 = (J : Int) := by omega
  have hr3 : R2 ≤ 140737488355300 := by omega
  clear hn hs0 hk hka hkc hkm hkl hys hbs hsl hll htl hcp hT hyS hyL hyI hyT BSS BSL BSI BST hlk2 htg2 hJ hH hLg hC0 hC1 hC2 hC3 hR0 hR1 hR2
  go_enter Tryd.func15, Tryd.ntmps15
  have hzk := zeroKeys
  go_upto_region 8 with (first
    | (go_at_call 23; refine HB.out.mono ?_; rintro e w1 ⟨rfl, hw⟩; obtain rfl := hw.symm; clear HB)
    | (go_at_call 30; refine (HC1 _).out.mono ?_; rintro e w2 ⟨rfl, q2, rfl⟩; clear HC1)
    | (go_at_call 30; refine (HC2 _).out.mono ?_; rintro e w3 ⟨rfl, q3, rfl⟩; clear HC2)
    | (go_at_call 30; refine (HC3 _).out.mono ?_; rintro e w4 ⟨rfl, q4, rfl⟩; clear HC3)
    | (go_at_call 24; refine (HKY _).out.mono ?_; rintro e w5 ⟨b2, o2, rfl, hbs, hbl, hb5⟩; have BS := hide hbs; have BB := hide (show Below w.heap.size w w5 from (below_drew (Below.refl _ w) _).trans hb5); have RR := hide (heap_new w5 (.cells #[.slice none 0 0, .slice none 0 0, .slice none 0 0] 49)); have HI := hide (infoKeys (.slice (some ⟨b2, o2, none⟩) Lg (2 * Lg + 2)) (.slice (some ⟨b2, o2 + Lg, none⟩) Lg (Lg + 2)) (.slice (some ⟨b2, o2 + Lg + Lg, none⟩) 2 2)); have HON := hide (show (#[.slice (some ⟨b2, o2, none⟩) Lg (2 * Lg + 2), .slice (some ⟨b2, o2 + Lg, none⟩) Lg (Lg + 2), .slice (some ⟨b2, o2 + Lg + Lg, none⟩) 2 2] : Array Value).all (·.oneCell') = true by simp [Value.oneCell']); clear hbs hb5 HKY)
    | (refine wpList_store_row rfl 49 (.tmp 14) (.tmp 51) rfl w5.heap.size #[.slice (some ⟨b2, o2, none⟩) Lg (2 * Lg + 2), .slice (some ⟨b2, o2 + Lg, none⟩) Lg (Lg + 2), .slice (some ⟨b2, o2 + Lg + Lg, none⟩) 2 2] (by rfl) (by rfl) #[.slice none 0 0, .slice none 0 0, .slice none 0 0] 49 RR.out HI.out (by simp) HON.out ?_; intro w6 G6 K6))
  have hbn : ¬ b2 = w5.heap.size := by omega
  have K5 : Kept (fun i => i = w5.heap.size) w5 w6 := (Kept.alloc _ (Kept.refl _ w5) _).trans K6.out (fun _ _ e => e)
  have BS6 := hide (BS.out.kept K5 hbl hbn)
  have hbl6 : b2 < w6.heap.size := Nat.lt_of_lt_of_le hbl K5.size
  have BB6 := hide (BB.out.trans (K5.below BB.out.size (fun i hi e => by have := BB.out.size; omega)))
  have R6 := hide G6.out
  have c0 := cells_of G6.out 0
  have c2 := cells_of G6.out 2
  simp at c0 c2
  have HS16 := hide (HS1.out b2 o2 w6 BB6.out hbl6 BS6.out)
  obtain ⟨kb, hkb⟩ : ∃ kb, kb = w5.heap.size := ⟨_, rfl⟩
  rw [← hkb] at R6 c0 c2 ⊢
  clear G6 K6 K5 BS BB RR hbn hbl HS1 hkb
  cases B1 with
  | false =>
    go_wp2_with (go_at_call 31; refine HS16.out.mono ?_; rintro e w7 ⟨rfl, q7, rfl⟩; clear HS16)
    exact HPO.out _ _ (below_drew BB6.out q7) (fun h => by cases h) (fun h => by cases h) (fun _ => rfl)
  | true =>
    go_upto_region 10 with (go_at_call 31; refine HS16.out.mono ?_; rintro e w7 ⟨rfl, q7, rfl⟩; clear HS16)
    have BB7 := hide (below_drew BB6.out q7)
    have BS7 := hide (show Bs (w6.drewN q7) b2 o2 ks from BS6.out)
    have R7 := hide (show (w6.drewN q7).heap[kb]? = _ from R6.out)
    have hbl7 : b2 < (w6.drewN q7).heap.size := hbl6
    clear BB6 BS6 R6 hbl6 c0 c2
    generalize w6.drewN q7 = w7 at BB7 BS7 R7 hbl7 ⊢
    have HSE7 := hide (HSE.out b2 o2 (.slice (some ⟨b2, o2, none⟩) Lg (2 * Lg + 2)) (.slice (some ⟨b2, o2 + Lg + Lg, none⟩) 2 2) w7 BB7.out hbl7 BS7.out)
    clear HSE
    cases B2 with
    | false =>
      go_wp2_with (first
        | (refine wpList_load_row rfl 49 (.tmp 14) rfl kb (by rfl) _ 49 (0, 0) R7.out _ Tryd.underlying49 rfl HI.out ?_)
        | (go_at_call 26; refine HSE7.out.mono ?_; rintro e w8 ⟨t, ht0, rfl, htb, htl, b8⟩; have BB8 := hide (BB7.out.trans (b8.mono BB7.out.size)); have HS28 := hide (HS2.out t w8 BB8.out htl htb); clear htb b8 HSE7)
        | (go_at_call 31; refine HS28.out.mono ?_; rintro e w9 ⟨rfl, q9, rfl⟩; clear HS28))
      exact HPO.out _ _ (below_drew BB8.out q9) (fun _ h => by cases h) (fun _ _ => rfl) (fun h => by cases h)
    | true =>
      go_upto_region 12 with (first
        | (refine wpList_load_row rfl 49 (.tmp 14) rfl kb (by rfl) _ 49 (0, 0) R7.out _ Tryd.underlying49 rfl HI.out ?_)
        | (go_at_call 26; refine HSE7.out.mono ?_; rintro e w8 ⟨t, ht0, rfl, htb, htl, b8⟩; have BB8 := hide (BB7.out.trans (b8.mono BB7.out.size)); have BS8 := hide (BS7.out.below b8 hbl7); have R8 := hide ((b8.block _ (lt_of_block' R7.out)).trans R7.out); have hbl8 := Nat.lt_of_lt_of_le hbl7 b8.size; have HS28 := hide (HS2.out t w8 BB8.out htl htb); clear htb b8 HSE7)
        | (go_at_call 31; refine HS28.out.mono ?_; rintro e w9 ⟨rfl, q9, rfl⟩; clear HS28))
      have BB9 := hide (below_drew BB8.out q9)
      have c0 := cells_of (show (w8.drewN q9).heap[kb]? = _ from R8.out) 0
      simp at c0
      have HST9 := hide (HST.out b2 o2 (2 * Lg + 2) (w8.drewN q9) BB9.out hbl8 BS8.out (by omega))
      clear BB8 BS8 R8 HST
      go_wp2_with (go_at_call 11; refine HST9.out.mono ?_; rintro e wz ⟨vi, rfl, oi, bz⟩; have OZ := hide oi; have BZ := hide bz; clear oi bz HST9)
      exact HPO.out _ _ (BB9.out.trans (BZ.out.mono BB9.out.size)) (fun _ _ => ⟨_, rfl, (show OwnsB wz _ vi out from OZ.out).low BB9.out.size⟩) (fun _ h => by cases h) (fun h => by cases h)
end Go.Proofs.YtgamfpgejkhbcaaDoor.S
namespace Go.Proofs.YtgamfpgejkhbcaaDoor.S
set_option maxRecDepth 100000
open Go Go.RowKit

theorem open_at (s : Int) (n : Nat) (a : Option Addr) (ca b o c : Nat) (pw salt lk ins tg : List Nat) (w : World) (hn : n = 4 ∨ n = 6 ∨ n = 8) (hs0 : kbs s = 4 * n) (hk : By pw) (hka : TextAt w a pw) (hkc : pw.length ≤ ca) (hkm : ca ≤ 9223372036854775807) (hkl : pw.length ≤ 1000000000000000)
    (hys : By (salt ++ lk ++ ins ++ tg)) (hb : b < w.heap.size) (hbs : Bs w b o (salt ++ lk ++ ins ++ tg)) (hsl : salt.length = 2 * n) (hll : lk.length = 2) (htl : tg.length = 10) (hil : ins.length ≤ 140737488355290) (hc : (salt ++ lk ++ ins ++ tg).length ≤ c) (hcp : c ≤ 9223372036854775807) (hT : K.Tab w) :
    Calls Tryd.prog 15 #[.int .i64 s, .slice a pw.length ca, .slice (some ⟨b, o, none⟩) (salt ++ lk ++ ins ++ tg).length c] w (OpenOk (kyL pw salt (4 * n)) n lk ins tg w) := by
  have hl : (salt ++ lk ++ ins ++ tg).length = 2 * n + (2 + (ins.length + 10)) := by simp only [List.length_append, hsl, hll, htl]; omega
  rw [hl] at hc ⊢
  obtain ⟨sp, rfl⟩ : ∃ sp, c = 2 * n + (2 + (ins.length + (10 + sp))) := ⟨c - (2 * n + (2 + (ins.length + 10))), by omega⟩
  exact open_c s n a ca b o sp pw salt lk ins tg w hn hs0 hk hka hkc hkm hkl hys hb hbs hsl hll htl hil (by omega) hT
theorem lkL_length {ks : List Nat} {n : Nat} (h : ks.length = 2 * (4 * n) + 2) : (lkL ks n).length = 2 := by rw [lkL, List.length_drop, List.length_drop]; omega
theorem sealL_by {ks salt : List Nat} {n : Nat} {data : List Nat} (hk : By ks) (hn : 1 ≤ n) (hs : By salt) (hd : By data) : By (sealL ks salt n data) := fun x hx => by
  simp only [sealL, List.mem_append] at hx
  rcases hx with ((h | h) | h) | h
  · exact hs x h
  · exact ((hk.drop _).drop _) x h
  · exact insL_by hk hn hd x h
  · exact tagL_by _ _ x h
/-- What was sealed is opened as it was. -/
theorem back_c (s : Int) (n : Nat) (a : Option Addr) (ca b o c : Nat) (pw salt data : List Nat) (w : World) (hn : n = 4 ∨ n = 6 ∨ n = 8) (hs0 : kbs s = 4 * n) (hk : By pw) (hka : TextAt w a pw) (hkc : pw.length ≤ ca) (hkm : ca ≤ 9223372036854775807) (hkl : pw.length ≤ 1000000000000000)
    (hs : By salt) (hd : By data) (hb : b < w.heap.size) (hbs : Bs w b o (sealL (kyL pw salt (4 * n)) salt n data)) (hsl : salt.length = 2 * n) (hil : data.length ≤ 140737488355290) (hc : (sealL (kyL pw salt (4 * n)) salt n data).length ≤ c) (hcp : c ≤ 9223372036854775807) (hT : K.Tab w) :
    Calls Tryd.prog 15 #[.int .i64 s, .slice a pw.length ca, .slice (some ⟨b, o, none⟩) (sealL (kyL pw salt (4 * n)) salt n data).length c] w (SealOk data w) := by
  refine (open_at s n a ca b o c pw salt (lkL (kyL pw salt (4 * n)) n) (insL (kyL pw salt (4 * n)) n data) (tagL (sk2 (kyL pw salt (4 * n)) n) (insL (kyL pw salt (4 * n)) n data)) w hn hs0 hk hka hkc hkm hkl (sealL_by (kyL_by _ _ _) (by omega) hs hd) hb hbs hsl (lkL_length (kyL_length _ _ _)) (tagL_length _ _) (by rw [insL_length]; exact hil) hc hcp hT).mono ?_
  rintro e w' ⟨hbw, h⟩
  rw [if_pos rfl, if_pos rfl] at h
  obtain ⟨v, he, ho⟩ := h
  refine ⟨v, he, ?_, hbw⟩
  rw [insL, insL, K.strL_twice] at ho
  exact ho
theorem lit_text {w : World} {b : Nat} {c : Array Value} {xs : List Nat} {t : TypeId} {fr : Nat × Nat} (hc : c = kA xs) (h : w.heap[b]? = some (.cells c t fr)) : TextAt w (some ⟨b, 0, none⟩) xs := .inr ⟨b, 0, rfl, lt_of_block' h, text64 (by rw [← hc]; exact h)⟩
theorem by_lit {xs : List Nat} (h : xs.all (· < 256) = true) : By xs := fun x hx => by simpa using (List.all_eq_true.1 h) x hx
def tP : List Nat := [112]
def tS : List Nat := [115, 97, 108, 116, 115, 97, 108, 116]
def tD : List Nat := [97, 98]
def cP : Array Value := #[.int .u8 112]
def cS : Array Value := #[.int .u8 115, .int .u8 97, .int .u8 108, .int .u8 116, .int .u8 115, .int .u8 97, .int .u8 108, .int .u8 116]
def cD : Array Value := #[.int .u8 97, .int .u8 98]
theorem kP : cP = kA tP := by kernel_rfl
theorem kS : cS = kA tS := by kernel_rfl
theorem kD : cD = kA tD := by kernel_rfl
theorem str_S : strOfNums (tS.map fun (x : Nat) => (x : Int)) = ⟨#[115, 97, 108, 116, 115, 97, 108, 116]⟩ := by kernel_rfl
theorem str_D : strOfNums (tD.map fun (x : Nat) => (x : Int)) = ⟨#[97, 98]⟩ := by kernel_rfl

set_option maxHeartbeats 4000000 in
theorem alive_c (w : World) (hT : K.Tab w) : Calls Tryd.prog 10 #[] w fun e w' => e = .returned (.bool true) ∧ Below w.heap.size w w' := by
  have kc := fun (w : World) (C : Array Value) (n c : Nat) => Lib.run_convert_bytes_const (P := Tryd.prog) w 22 5 C n c Tryd.underlying22 Tryd.underlying5
  have kc2 : ∀ (w : World) (o : Obj) (C : Array Value) (n c : Nat), (convert 22 22 (.slice (some ⟨w.heap.size + 1, 0, none⟩) n c)).run Tryd.prog ((w.alloc o).alloc (.cells C 5)) = .ok (.slice (some ⟨w.heap.size + 1, 0, none⟩) n c) ((w.alloc o).alloc (.cells C 5 (C.size, C.size + 1))) := fun w o C n c => by
    have h := Lib.run_convert_bytes_const (P := Tryd.prog) (w.alloc o) 22 5 C n c Tryd.underlying22 Tryd.underlying5
    rw [show (w.alloc o).heap.size = w.heap.size + 1 by simp] at h
    exact h
  have kc3 : ∀ (w : World) (o p : Obj) (C : Array Value) (n c : Nat), (convert 22 22 (.slice (some ⟨w.heap.size + 1 + 1, 0, none⟩) n c)).run Tryd.prog (((w.alloc o).alloc p).alloc (.cells C 5)) = .ok (.slice (some ⟨w.heap.size + 1 + 1, 0, none⟩) n c) (((w.alloc o).alloc p).alloc (.cells C 5 (C.size, C.size + 1))) := fun w o p C n c => by
    have h := Lib.run_convert_bytes_const (P := Tryd.prog) ((w.alloc o).alloc p) 22 5 C n c Tryd.underlying22 Tryd.underlying5
    rw [show ((w.alloc o).alloc p).heap.size = w.heap.size + 1 + 1 by simp] at h
    exact h
  have BA : Hid (Below w.heap.size w (((w.alloc (.cells cP 5 (1, 2))).alloc (.cells cS 5 (8, 9))).alloc (.cells cD 5 (2, 3)))) := (((Below.refl _ w).alloc (Nat.le_refl _) (.cells cP 5 (1, 2))).alloc (by simp) (.cells cS 5 (8, 9))).alloc (by simp; omega) (.cells cD 5 (2, 3))
  obtain ⟨ks, hks⟩ : ∃ ks, ks = kyL tP tS 16 := ⟨_, rfl⟩
  have HKL := hide (kyL_length tP tS 16)
  have HS := hide (show Calls Tryd.prog 13 #[.int .i64 1, .slice (some ⟨w.heap.size, 0, none⟩) 1 1, .slice (some ⟨w.heap.size + 1, 0, none⟩) 8 8, .slice (some ⟨w.heap.size + 1 + 1, 0, none⟩) 2 2] (((w.alloc (.cells cP 5 (1, 2))).alloc (.cells cS 5 (8, 9))).alloc (.cells cD 5 (2, 3))) (fun e w' => ∃ v, e = .returned (.tuple #[v, .int .i64 0]) ∧ OwnsB w' w.heap.size v (sealL ks tS 4 tD) ∧ Below w.heap.size w w') from by
    rw [hks]
    refine (seal_c 1 4 (some ⟨w.heap.size, 0, none⟩) (some ⟨w.heap.size + 1, 0, none⟩) (some ⟨w.heap.size + 1 + 1, 0, none⟩) 1 8 2 tP tS tD _ (by omega) (by rfl) (by_lit (by decide)) (lit_text kP (heap_old (heap_new1 _ _ _))) (by decide) (by omega) (by decide) (by_lit (by decide)) (lit_text kS (heap_old (heap_new2 _ _ _))) (fun e => by cases e) (by decide) (by_lit (by decide)) (lit_text kD (by have := heap_new ((w.alloc (.cells cP 5 (1, 2))).alloc (.cells cS 5 (8, 9))) (.cells cD 5 (2, 3)); simpa using this)) (by decide) (hT.stay BA.out)).mono ?_
    rintro e w' ⟨v, he, ho, hb⟩
    exact ⟨v, he, ho.low BA.out.size, BA.out.trans (hb.mono BA.out.size)⟩)
  have HT := hide hT
  have HO := fun (W : World) (b o c : Nat) (h1 : Below w.heap.size w W) (h2 : b < W.heap.size) (h3 : Bs W b o (sealL ks tS 4 tD)) (h4 : 22 ≤ c) (h5 : c ≤ 9223372036854775807) => hide (show Calls Tryd.prog 15 #[.int .i64 1, .slice (some ⟨W.heap.size, 0, none⟩) 1 1, .slice (some ⟨b, o, none⟩) 22 c] (W.alloc (.cells cP 5 (1, 2))) (fun e w' => ∃ v, e = .returned (.tuple #[v, .int .i64 0]) ∧ OwnsB w' W.heap.size v tD ∧ Below W.heap.size W w') from by
    have bA := (Below.refl _ W).alloc (Nat.le_refl _) (.cells cP 5 (1, 2))
    have hl : (sealL (kyL tP tS (4 * 4)) tS 4 tD).length = 22 := by
      have := lkL_length (ks := kyL tP tS (4 * 4)) (n := 4) (kyL_length _ _ _)
      simp only [sealL, List.length_append, this, insL_length, tagL_length]
      rfl
    have := back_c 1 4 (some ⟨W.heap.size, 0, none⟩) 1 b o c tP tS tD (W.alloc (.cells cP 5 (1, 2))) (by omega) (by rfl) (by_lit (by decide)) (lit_text kP (heap_new _ _)) (by decide) (by omega) (by decide) (by_lit (by decide)) (by_lit (by decide)) (Nat.lt_of_lt_of_le h2 bA.size) (by rw [hks] at h3; exact h3.below bA h2) (by decide) (by decide) (by rw [hl]; exact h4) h5 ((HT.out.stay h1).stay bA)
    rw [hl] at this
    refine Calls.mono this ?_
    rintro e w' ⟨v, he, ho, hb⟩
    exact ⟨v, he, ho.low bA.size, bA.trans (hb.mono bA.size)⟩)
  have HTK : Hid ((sealL ks tS 4 tD).take 8 = tS ∧ (sealL ks tS 4 tD).length = 22) := by
    rw [hks]
    have := lkL_length (ks := kyL tP tS (4 * 4)) (n := 4) (kyL_length _ _ _)
    refine ⟨?_, ?_⟩
    · simp only [sealL, List.append_assoc]
      exact List.take_left (l₁ := tS)
    · simp only [sealL, List.length_append, this, insL_length, tagL_length]
      rfl
  generalize sealL ks tS 4 tD = zs at HS HO HTK
  clear hks hT HKL
  go_enter Tryd.func10, Tryd.ntmps10
  go_upto_region 2 with (go_at_call 13; refine HS.out.mono ?_; rintro e w1 ⟨v, rfl, o1, b1⟩; have O1 := hide o1; have B1 := hide b1; clear b1 o1)
  obtain ⟨x1, c1, rfl, hc1, hm1, hn1⟩ := (show OwnsB w1 w.heap.size v zs from O1.out).form
  have T1 := OwnsB.text O1.out
  rw [HTK.out.2] at hc1 hn1 ⊢
  obtain ⟨b, o, rfl, hb, hbs⟩ : ∃ b o, x1 = some ⟨b, o, none⟩ ∧ b < w1.heap.size ∧ Bs w1 b o zs := by
    rcases T1 with h | ⟨b, o, h, hb, hbs⟩
    · rw [HTK.out.2] at h; cases h
    · exact ⟨b, o, h, hb, hbs⟩
  have hm1' : c1 ≤ 9223372036854775807 := by unfold maxLen at hm1; omega
  have HO1 := hide (HO w1 b o c1 B1.out hb hbs hc1 hm1').out
  have HBS := hide hbs
  clear HO HS hn1 hm1 hbs BA O1 T1
  go_upto_region 3 with (go_at_call 15; refine HO1.out.mono ?_; rintro e w2 ⟨v2, rfl, o2, b2⟩; have O2 := hide o2; have B2 := hide b2; clear b2 o2)
  obtain ⟨x2, c2, rfl, hc2, hm2, hn2⟩ := (show OwnsB w2 w1.heap.size v2 tD from O2.out).form
  have hcv2 : ∀ c, (convert 22 9 (.slice x2 2 c)).run Tryd.prog w2 = .ok (.string ⟨#[97, 98]⟩) w2 := fun c => by
    have := conv_at (cap := c) (OwnsB.text O2.out)
    rw [str_D] at this
    exact this
  have hcv1 : ∀ c, (convert 22 9 (.slice (some ⟨b, o, none⟩) 8 c)).run Tryd.prog w2 = .ok (.string ⟨#[115, 97, 108, 116, 115, 97, 108, 116]⟩) w2 := fun c => by
    have h8 : TextAt w2 (some ⟨b, o, none⟩) tS := .inr ⟨b, o, rfl, Nat.lt_of_lt_of_le hb B2.out.size, by have := (HBS.out.below B2.out hb).take 8; rw [HTK.out.1] at this; exact this⟩
    have := conv_at (cap := c) h8
    rw [str_S] at this
    exact this
  have hsh := fun W => slice_h .i64 W b o 22 c1 8 (by omega)
  have BB := hide (B1.out.trans (B2.out.mono B1.out.size))
  clear HO1 HBS O2 hn2 hm2 hc2 kc kc2 kc3 B1 B2 HTK
  rw [show tD.length = 2 from rfl]
  go_wp2_with fail
  go_ret
  exact ⟨rfl, ⟨BB.out.os, BB.out.tape, BB.out.output, BB.out.size, BB.out.block⟩⟩
end Go.Proofs.YtgamfpgejkhbcaaDoor.S
