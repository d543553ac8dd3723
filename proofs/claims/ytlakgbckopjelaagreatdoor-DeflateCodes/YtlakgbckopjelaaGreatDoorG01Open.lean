/- Several texts, laid together: Row, Write, Data, Open. -/
import Derived.Test.YtlakgbckopjelaaGreatDoorG00Read
import Derived.Deep.RegionWith
import Derived.Deep.LoopGhost
import Derived.Maps.AppendAt
import Derived.Deep.DeepCutAuto
import Derived.Deep.RegionLaw
import Derived.Laws.CopyOwn
import Derived.Laws.BytesArg
import Derived.Deep.DeepMust
import Derived.ProofKit
import Derived.OpenShut
import Derived.ShutString
import Derived.ChangeOld
import Derived.SizedLaws
import Derived.Deep.Slices
import Derived.Lib.SmallJoins
/- Rows of bits as lists: the n lowest bits of a number, the bits of bytes. No Go text in sight. -/
namespace Go.Proofs.YtlakgbckopjelaaGreatDoor
set_option maxRecDepth 100000
open Go.RowKit

/-- The n lowest bits of a number, the lowest first. -/
def bitsN (x : Int) : Nat → List Int
  | 0 => []
  | n + 1 => bitsN x n ++ [x / 2 ^ n % 2]

theorem bitsN_length (x : Int) (n : Nat) : (bitsN x n).length = n := by
  induction n with
  | zero => rfl
  | succ n ih => simp [bitsN, ih]

theorem div_pow_add (x : Int) (m n : Nat) : x / 2 ^ m / 2 ^ n = x / 2 ^ (m + n) := by
  rw [Int.ediv_ediv_of_nonneg (by have := pow_pos' m; omega), ← Int.pow_add]

theorem bitsN_add (x : Int) (m n : Nat) : bitsN x (m + n) = bitsN x m ++ bitsN (x / 2 ^ m) n := by
  induction n with
  | zero => simp [bitsN]
  | succ n ih => rw [← Nat.add_assoc, bitsN, ih, bitsN, div_pow_add, List.append_assoc]

theorem bitsN_mod (x : Int) (n m : Nat) (h : n ≤ m) : bitsN (x % 2 ^ m) n = bitsN x n := by
  induction n with
  | zero => rfl
  | succ n ih => rw [bitsN, bitsN, ih (by omega), bit_mod x m n (by omega)]

theorem bitsN_join (t v : Int) (m n : Nat) (h0 : 0 ≤ t) (h : t < 2 ^ m) : bitsN (t + v % 2 ^ n * 2 ^ m) (m + n) = bitsN t m ++ bitsN v n := by
  have hp := pow_pos' m
  rw [bitsN_add]
  have e1 : (t + v % 2 ^ n * 2 ^ m) / 2 ^ m = v % 2 ^ n := by
    rw [Int.add_mul_ediv_right _ _ (by omega), Int.ediv_eq_zero_of_lt h0 h]; omega
  have e2 : (t + v % 2 ^ n * 2 ^ m) % 2 ^ m = t := by
    rw [Int.add_mul_emod_self_right, Int.emod_eq_of_lt h0 h]
  rw [e1, bitsN_mod v n n (Nat.le_refl _), ← bitsN_mod _ m m (Nat.le_refl _), e2]

/-- The bits of bytes. -/
def rowOf (bs : List Int) : List Int := bs.flatMap fun x => bitsN x 8

theorem rowOf_append (a b : List Int) : rowOf (a ++ b) = rowOf a ++ rowOf b := by simp [rowOf]
theorem rowOf_one (x : Int) : rowOf [x] = bitsN x 8 := by simp [rowOf]
theorem rowOf_length (bs : List Int) : (rowOf bs).length = 8 * bs.length := by
  induction bs with
  | nil => rfl
  | cons x r ih =>
    have e : rowOf (x :: r) = bitsN x 8 ++ rowOf r := by simp [rowOf]
    rw [e, List.length_append, bitsN_length, ih, List.length_cons]; omega

theorem row_step (bs : List Int) (t : Int) (m : Nat) (h : 8 ≤ m) : rowOf bs ++ bitsN t m = rowOf (bs ++ [t % 256]) ++ bitsN (t / 256) (m - 8) := by
  have e : m = 8 + (m - 8) := by omega
  conv => lhs; rw [e, bitsN_add]
  rw [rowOf_append, rowOf_one, List.append_assoc]
  have h1 := bitsN_mod t 8 8 (Nat.le_refl _)
  have e2 : (2 : Int) ^ 8 = 256 := by decide
  rw [e2] at h1 ⊢
  rw [h1]

theorem rowOf_take_succ (zs : List Int) (k : Nat) (h : k < zs.length) : rowOf (zs.take (k + 1)) = rowOf (zs.take k) ++ bitsN (zs.getD k 0) 8 := by
  rw [List.take_succ_eq_append_getElem h, rowOf_append, rowOf_one]
  simp [List.getD, h]
#print axioms row_step
end Go.Proofs.YtlakgbckopjelaaGreatDoor

/- The writer of package bits: contracts of NewWriter, Len, Bits, Align. -/
namespace Go.Proofs.YtlakgbckopjelaaGreatDoor
set_option maxRecDepth 100000
open Go.RowKit

theorem Tryz.info5 : (Tryz.prog.info? 5).map (fun i => (i.zero, i.size, i.bytes)) = some (some (.int .u8 0), 1, 1) := by kernel_rfl
theorem Tryz.info3 : (Tryz.prog.info? 3).map (fun i => (i.zero, i.size, i.bytes)) = some (some (.int .i64 0), 1, 8) := by kernel_rfl

theorem newWriter_any (w : World) :
    Calls Tryz.prog 24 #[] w fun e w' => e = .returned (.pointer (some ⟨w.heap.size, 0, none⟩)) ∧ w' = w.alloc (.cells #[.slice none 0 0, .int .i64 0, .int .i64 0] 77) := by
  go_enter Tryz.func24, Tryz.ntmps24
  go_wp2
  go_ret
  exact ⟨rfl, rfl⟩

/-- A writer's block: its slice v owns the bytes bs; m bits wait in the number t. -/
structure Wr (base bw : Nat) (w : World) (v : Value) (bs : List Int) (t : Int) (m : Nat) : Prop where
  block : w.heap[bw]? = some (.cells #[v, .int .i64 t, .int .i64 (m : Int)] 77 (0, 0))
  owns : w.ownsRow base 5 1 v bs.length (bs.map (Value.int .u8))
  t0 : 0 ≤ t
  t1 : t < 2 ^ m
  m1 : m ≤ 7
  bytes : ∀ x ∈ bs, 0 ≤ x ∧ x ≤ 255

theorem len_any (base bw : Nat) (v : Value) (bs : List Int) (t : Int) (m : Nat) (w : World) (h : Wr base bw w v bs t m) (hb : bs.length ≤ 1000000000000) :
    Calls Tryz.prog 91 #[.pointer (some ⟨bw, 0, none⟩)] w fun e w' => e = .returned (.int .i64 ((bs.length * 8 + m : Nat) : Int)) ∧ ∃ q, w' = w.drewN q := by
  have c0 := cells_of h.block 0
  have c2 := cells_of h.block 2
  have hm := h.m1
  simp at c0 c2
  obtain ⟨a, cap, hv⟩ : ∃ a cap, v = .slice a bs.length cap := by
    rcases h.owns.2 with ⟨rfl, h2⟩ | ⟨g, cap, cur, rfl, _⟩
    · exact ⟨none, 0, by rw [h2]⟩
    · exact ⟨_, _, rfl⟩
  subst hv
  clear h
  go_enter Tryz.func91, Tryz.ntmps91
  go_wp2
  go_quiet (fail)
  go_wp2
  go_ret
  exact ⟨ret_int (by omega), _, rfl⟩

theorem wait_join (t x : Int) (n m : Nat) (h0 : 0 ≤ t) (h1 : t < 2 ^ m) (hn : n ≤ 24) (hm : m ≤ 7) : bits .or .i64 t (IntKind.i64.wrap (x % 2 ^ n * 2 ^ m)) = t + x % 2 ^ n * 2 ^ m := by
  have hp := pow_pos' n
  have hq := pow_pos' m
  have a0 : 0 ≤ x % 2 ^ n := Int.emod_nonneg _ (by omega)
  have a1 : x % 2 ^ n < 2 ^ n := Int.emod_lt_of_pos _ (by omega)
  have a2 := @pow_le_24 n hn
  have a3 : (2 : Int) ^ m ≤ 128 := by
    have : (2 : Nat) ^ m ≤ 2 ^ 7 := Nat.pow_le_pow_right (by decide) hm
    have h2 : ((2 ^ m : Nat) : Int) ≤ ((2 ^ 7 : Nat) : Int) := by exact_mod_cast this
    simpa using h2
  have a4 : x % 2 ^ n * 2 ^ m ≤ 16777216 * 128 := Int.mul_le_mul (by omega) a3 (by omega) (by omega)
  have a5 : 0 ≤ x % 2 ^ n * 2 ^ m := Int.mul_nonneg a0 (by omega)
  have e : IntKind.i64.wrap (x % 2 ^ n * 2 ^ m) = x % 2 ^ n * 2 ^ m := by rw [IntKind.wrap_i64]; omega
  rw [e, or_add _ _ m h0 h1 a0 (by omega) (by omega)]

theorem push_end {base bw g cap n : Nat} {v t' m' : Value} {wr w1 : World} {o : Obj} {xs : List Value} (kb : w1.heap[bw]? = some (.cells #[v, t', m'] 77 (0, 0)))
    (hown1 : w1.ownsRow base 5 1 (.slice (some ⟨g, 0, none⟩) n cap) n xs) (hgrow : (wr.alloc o).drew.grownBy w1 v.ownBlock) (hat : v.ownBlock = some g ∨ g = wr.heap.size + 1) :
    ∃ g' cap', (w1.setCell ⟨bw, 0, none⟩ (.slice (some ⟨g, 0, none⟩) n cap)).heap[bw]? = some (.cells #[.slice (some ⟨g', 0, none⟩) n cap', t', m'] 77 (0, 0)) ∧ (w1.setCell ⟨bw, 0, none⟩ (.slice (some ⟨g, 0, none⟩) n cap)).ownsRow base 5 1 (.slice (some ⟨g', 0, none⟩) n cap') n xs ∧
      Kept (fun k => k = bw ∨ v.ownBlock = some k) wr (w1.setCell ⟨bw, 0, none⟩ (.slice (some ⟨g, 0, none⟩) n cap)) ∧ (v.ownBlock = some g' ∨ wr.heap.size ≤ g') := by
  refine ⟨g, cap, ?_, ?_, ?_, ?_⟩
  · rw [set_of kb]; rfl
  · exact ownsRow_setCell_other hown1 (ownsRow_apart hown1 kb (by decide)) _
  · have k1 : Kept (fun k => k = bw ∨ v.ownBlock = some k) wr w1 := Kept.trans (Kept.drew (Kept.alloc _ (Kept.refl _ wr) o)) (Kept.of_grown hgrow) (fun i _ e => .inr e.symm)
    exact k1.setCell (fun _ => .inl rfl) _
  · rcases hat with h | h
    · exact .inl h
    · exact .inr (by omega)

theorem loop_end {base bw g cap gk : Nat} {v v0 : Value} {t' : Int} {bs' L : List Int} {w wr wc : World} (h8 : 8 ≤ gk) (rg : gk ≤ 31) (rt0 : 0 ≤ t') (rt1 : t' < 2 ^ gk) (rby : ∀ x ∈ bs', 0 ≤ x ∧ x ≤ 255) (rrow : rowOf bs' ++ bitsN t' gk = L)
    (rk : Kept (fun k => k = bw ∨ v0.ownBlock = some k) w wr) (rv : v.ownBlock = v0.ownBlock ∨ ∀ g, v.ownBlock = some g → w.heap.size ≤ g)
    (cb : wc.heap[bw]? = some (.cells #[.slice (some ⟨g, 0, none⟩) (bs'.length + 1) cap, .int .i64 t', .int .i64 (gk : Int)] 77 (0, 0)))
    (co : wc.ownsRow base 5 1 (.slice (some ⟨g, 0, none⟩) (bs'.length + 1) cap) (bs'.length + 1) (bs'.map (Value.int .u8) ++ [.int .u8 (IntKind.u8.wrap t')]))
    (ck : Kept (fun k => k = bw ∨ v.ownBlock = some k) wr wc) (cv : v.ownBlock = some g ∨ wr.heap.size ≤ g) :
    ∃ v bs' t'', ((wc.setCell ⟨bw, 1, none⟩ (.int .i64 (t' / 256))).setCell ⟨bw, 2, none⟩ (.int .i64 ((gk : Int) - 8))).heap[bw]? = some (.cells #[v, .int .i64 t'', .int .i64 ((gk - 8 : Nat) : Int)] 77 (0, 0)) ∧
      ((wc.setCell ⟨bw, 1, none⟩ (.int .i64 (t' / 256))).setCell ⟨bw, 2, none⟩ (.int .i64 ((gk : Int) - 8))).ownsRow base 5 1 v bs'.length (bs'.map (Value.int .u8)) ∧ 0 ≤ t'' ∧ t'' < 2 ^ (gk - 8) ∧ gk - 8 ≤ 31 ∧ (∀ x ∈ bs', 0 ≤ x ∧ x ≤ 255) ∧ rowOf bs' ++ bitsN t'' (gk - 8) = L ∧
      Kept (fun k => k = bw ∨ v0.ownBlock = some k) w ((wc.setCell ⟨bw, 1, none⟩ (.int .i64 (t' / 256))).setCell ⟨bw, 2, none⟩ (.int .i64 ((gk : Int) - 8))) ∧ (v.ownBlock = v0.ownBlock ∨ ∀ g, v.ownBlock = some g → w.heap.size ≤ g) := by
  have ec : ((gk : Int) - 8) = ((gk - 8 : Nat) : Int) := by omega
  have hap := ownsRow_apart co cb (by decide)
  rw [ec]
  refine ⟨.slice (some ⟨g, 0, none⟩) (bs'.length + 1) cap, bs' ++ [t' % 256], t' / 256, ?_, ?_, by omega, ?_, by omega, ?_, ?_, ?_, ?_⟩
  · rw [set_of (set_of cb 1 _) 2]; rfl
  · have e1 : (bs' ++ [t' % 256]).length = bs'.length + 1 := by simp
    have e2 : (bs' ++ [t' % 256]).map (Value.int .u8) = bs'.map (Value.int .u8) ++ [.int .u8 (IntKind.u8.wrap t')] := by simp [IntKind.wrap_u8']
    rw [e1, e2]
    exact ownsRow_setCell_other (ownsRow_setCell_other co hap _) hap _
  · have e : (2 : Int) ^ gk = 2 ^ (gk - 8) * 256 := by
      have : gk = (gk - 8) + 8 := by omega
      conv => lhs; rw [this, Int.pow_add]
      rfl
    rw [e] at rt1
    exact Int.ediv_lt_of_lt_mul (by decide) rt1
  · intro x hx
    rw [List.mem_append] at hx
    rcases hx with hx | hx
    · exact rby x hx
    · rw [List.mem_singleton] at hx; omega
  · rw [← row_step bs' t' gk h8]; exact rrow
  · have k1 : Kept (fun k => k = bw ∨ v0.ownBlock = some k) w wc := rk.trans ck (fun i hi e => by
      rcases e with e | e
      · exact .inl e
      · rcases rv with r | r
        · exact .inr (by rw [← r]; exact e)
        · have := r i e; omega)
    exact (k1.setCell (fun _ => .inl rfl) _).setCell (fun _ => .inl rfl) _
  · rcases cv with c | c
    · rcases rv with r | r
      · exact .inl (by rw [← r, c]; rfl)
      · exact .inr (fun g' e => by simp [Value.ownBlock] at e; subst e; exact r _ c)
    · exact .inr (fun g' e => by simp [Value.ownBlock] at e; subst e; have := rk.size; omega)

set_option maxHeartbeats 1000000 in
theorem wbits_yes (base bw : Nat) (v0 : Value) (bs : List Int) (t : Int) (m : Nat) (x : Int) (n : Nat) (w : World) (h : Wr base bw w v0 bs t m) (hn : n ≤ 24) (hb : bs.length ≤ 1000000000000) (hbase : base ≤ w.heap.size) :
    Calls Tryz.prog 48 #[.pointer (some ⟨bw, 0, none⟩), .int .i64 x, .int .i64 (n : Int)] w fun e w' => e = .returned (.tuple #[]) ∧ ∃ v' bs' t' m', Wr base bw w' v' bs' t' m' ∧ rowOf bs' ++ bitsN t' m' = rowOf bs ++ bitsN t m ++ bitsN x n ∧ Kept (fun k => k = bw ∨ v0.ownBlock = some k) w w' ∧ (v'.ownBlock = v0.ownBlock ∨ ∀ g, v'.ownBlock = some g → w.heap.size ≤ g) := by
  have c0 := cells_of h.block 0
  have c1 := cells_of h.block 1
  have c2 := cells_of h.block 2
  have f0 := free_of h.block 0
  have f1 := free_of h.block 1
  have f2 := free_of h.block 2
  have hm := h.m1
  have ht0 := h.t0
  have ht1 := h.t1
  obtain ⟨i0, hi, hz0, hz1, hz2⟩ := info_parts Tryz.info5
  simp at c0 c1 c2
  go_enter Tryz.func48, Tryz.ntmps48
  go_upto_region 1 with (go_at_call 83; refine (fits_yes _ _ (by omega) (by omega)).mono ?_; rintro e w ⟨rfl, rfl⟩)
  go_cut [] (fun wx => wx.heap[bw]? = some (.cells #[v0, .int .i64 (t + x % 2 ^ n * 2 ^ m), .int .i64 (m : Int)] 77 (0, 0)) ∧ Kept (fun k => k = bw) w wx)
  case first =>
    have ej := wait_join t x n m ht0 ht1 hn hm
    have HJ : Hid (bits .or .i64 t (IntKind.i64.wrap (x % 2 ^ n * 2 ^ m)) = t + x % 2 ^ n * 2 ^ m) := ej
    clear ej
    go_region_with (go_at_call 84; refine (low_any _ _ _ (by omega) (by omega)).mono ?_; rintro e w' ⟨rfl, rfl⟩)
    all_goals (go_wp2_with fail)
    all_goals go_meet
    all_goals (rw [HJ.out]; exact ⟨set_of h.block 1 _, Kept.drew (Kept.setCell (M := fun k => k = bw) (Kept.refl _ _) (fun _ => rfl) _)⟩)
  case rest =>
    obtain ⟨hbl, hkp⟩ := hcut
    clear c0 c1 c2 f0 f1 f2
    have c2 := cells_of hbl 2
    have f2 := free_of hbl 2
    simp at c2
    go_wp2
    go_loopg [] (m + n) (fun gh wr => ∃ v bs' t', wr.heap[bw]? = some (.cells #[v, .int .i64 t', .int .i64 (gh : Int)] 77 (0, 0)) ∧ wr.ownsRow base 5 1 v bs'.length (bs'.map (Value.int .u8)) ∧ 0 ≤ t' ∧ t' < 2 ^ gh ∧ gh ≤ 31 ∧ (∀ x ∈ bs', 0 ≤ x ∧ x ≤ 255) ∧
      rowOf bs' ++ bitsN t' gh = rowOf bs ++ bitsN t m ++ bitsN x n ∧ Kept (fun k => k = bw ∨ v0.ownBlock = some k) w wr ∧ (v.ownBlock = v0.ownBlock ∨ ∀ g, v.ownBlock = some g → w.heap.size ≤ g))
    case atStart =>
      have hp := pow_pos' m
      refine ⟨v0, bs, t + x % 2 ^ n * 2 ^ m, ?_, ?_, ?_, ?_, by omega, h.bytes, ?_, ?_, .inl rfl⟩
      · rw [set_of hbl]; rfl
      · exact ownsRow_setCell_other (ownsRow_kept h.owns hkp (fun g hg e => ownsRow_apart h.owns h.block (by decide) (by rw [hg, e]))) (fun e => ownsRow_apart h.owns h.block (by decide) e) _
      · have := Int.mul_nonneg (Int.emod_nonneg x (show (2 : Int) ^ n ≠ 0 by have := pow_pos' n; omega)) (show (0 : Int) ≤ 2 ^ m by omega)
        omega
      · have a1 : x % 2 ^ n + 1 ≤ 2 ^ n := Int.emod_lt_of_pos _ (show (0 : Int) < 2 ^ n by have := pow_pos' n; omega)
        have a2 : (x % 2 ^ n + 1) * 2 ^ m ≤ 2 ^ n * 2 ^ m := Int.mul_le_mul_of_nonneg_right a1 (by omega)
        rw [Int.add_mul] at a2
        rw [Int.pow_add, Int.mul_comm (2 ^ m)]
        omega
      · rw [bitsN_join t x m n ht0 ht1, List.append_assoc]
      · exact Kept.setCell (M := fun k => k = bw ∨ v0.ownBlock = some k) (hkp.mono (fun _ _ e => .inl e)) (fun _ => .inl rfl) _
    case round =>
      obtain ⟨v, bs', t', rb, ro, rt0, rt1, rg, rby, rrow, rk, rv⟩ := hrel
      have d0 := cells_of rb 0
      have d1 := cells_of rb 1
      have d2 := cells_of rb 2
      have e0 := free_of rb 0
      have e1 := free_of rb 1
      have e2 := free_of rb 2
      simp at d0 d1 d2
      have hlen : bs'.length ≤ 1000000000010 := by
        have := congrArg List.length rrow
        simp [rowOf_length, bitsN_length] at this
        omega
      have hsz : base ≤ wr.heap.size := by have := rk.size; omega
      have hbwlt := lt_of_block rb
      have hne : v.ownBlock ≠ some bw := ownsRow_apart ro rb (by decide)
      by_cases h8 : 8 ≤ gk
      · go_upto_region 4 with fail
        go_cut [] (fun wx => ∃ g cap, wx.heap[bw]? = some (.cells #[.slice (some ⟨g, 0, none⟩) (bs'.length + 1) cap, .int .i64 t', .int .i64 (gk : Int)] 77 (0, 0)) ∧ wx.ownsRow base 5 1 (.slice (some ⟨g, 0, none⟩) (bs'.length + 1) cap) (bs'.length + 1) (bs'.map (Value.int .u8) ++ [.int .u8 (IntKind.u8.wrap t')]) ∧ Kept (fun k => k = bw ∨ v.ownBlock = some k) wr wx ∧ (v.ownBlock = some g ∨ wr.heap.size ≤ g))
        case first =>
          have HR : Hid (wr.ownsRow base 5 1 v bs'.length (bs'.map (Value.int .u8))) := ro
          have HN : Hid (v.ownBlock ≠ some bw) := hne
          have HB : Hid (wr.heap[bw]? = some (.cells #[v, .int .i64 t', .int .i64 (gk : Int)] 77 (0, 0))) := rb
          clear ro hne rrow rk rv rby h hbl hkp f2 c2 rb
          go_region_law (refine step_append_lies _ (by rfl) (.tmp 41) (.tmp 47) 22 (by rfl) base 5 i0 (.int .u8 0) 1 1 Tryz.underlying22 hi hz0 hz1 hz2 (by rfl) (by decide) v bs'.length (bs'.map (Value.int .u8)) (by rfl) (by first | exact HR.out.alloc _ | exact (HR.out.alloc _).drew | exact HR.out.drew.alloc _) ⟨wr.heap.size, 0, none⟩ 1 1 [.int .u8 (IntKind.u8.wrap t')] (by rfl) (by rfl) (by exact World.news_of_block (heap_new wr _)) (by intro u hu; simp at hu; subst hu; rfl) (by decide) (by unfold maxLen; omega) (by omega) (by simp; omega) (wr.heap.size + 1) (by simp) ?_; intro g cap w1 hown1 hgrow hat hlt; have kb := (hgrow.block bw (by simp; omega) (fun e => HN.out e.symm)).trans ((Below.heap_alloc wr _ _ hbwlt).trans HB.out); have k0 := cells_of kb 0; have kf := free_of kb 0; simp at k0)
          all_goals (go_wp2_with fail)
          all_goals go_meet
          all_goals exact push_end kb hown1 hgrow hat
        case rest =>
          obtain ⟨g, cap, cb, co, ck, cv⟩ := hcut
          have a1 := cells_of cb 1
          have a2 := cells_of cb 2
          have b1 := free_of cb 1
          have b2 := free_of cb 2
          simp at a1 a2
          clear d0 d1 d2 e0 e1 e2 f2 c2
          go_wp2
          go_roundg (gk - 8)
          case measure => omega
          case rel => exact loop_end h8 rg rt0 rt1 rby rrow rk rv cb co ck cv
      · go_wp2
        go_end0
        exact ⟨rfl, v, bs', t', gk, ⟨rb, ro, rt0, rt1, by omega, rby⟩, rrow, rk, rv⟩
#print axioms wbits_yes
end Go.Proofs.YtlakgbckopjelaaGreatDoor

/- The writer's Data: the bytes, in a row of its own. -/
namespace Go.Proofs.YtlakgbckopjelaaGreatDoor
set_option maxRecDepth 100000
open Go.RowKit

/-- The bytes of a writer: those that are whole, and what waits. -/
def dataOf (bs : List Int) (t : Int) (m : Nat) : List Int := if 0 < m then bs ++ [t] else bs

theorem Wr.form {base bw : Nat} {w : World} {v : Value} {bs : List Int} {t : Int} {m : Nat} (h : Wr base bw w v bs t m) : ∃ a cap, v = .slice a bs.length cap ∧ (0 < bs.length → ∃ ad, a = some ad ∧ ∀ j u, (bs.map (Value.int .u8))[j]? = some u → w.cell? (ad.add j) = some u) := by
  rcases h.owns.2 with ⟨rfl, h2⟩ | ⟨g, cap, cur, rfl, hg, hh, hr⟩
  · exact ⟨none, 0, by rw [h2], fun h => by omega⟩
  · refine ⟨_, _, rfl, fun _ => ⟨_, rfl, fun j u hj => ?_⟩⟩
    have hjl : j < bs.length := by
      rcases Nat.lt_or_ge j bs.length with h' | h'
      · exact h'
      · simp [List.getElem?_eq_none (show (bs.map (Value.int .u8)).length ≤ j by simpa using h')] at hj
    have := h.owns.cellAt j (by omega)
    have hplain : (⟨g, 0, none⟩ : Addr).add j = ⟨g, j, none⟩ := by unfold Addr.add; split <;> simp_all
    rw [hplain, this, hj]

theorem made_bytes (n : Nat) (i : TypeInfo) (hi : Tryz.prog.info? 5 = some i) (hz : i.zero = some (.int .u8 0)) (hs : i.size = 1) (hb : i.bytes = 1) (hn : n ≤ 1000000000000) (W : World) :
    (Instr.makeSlice 22 (.int .i64 (n : Int)) (.int .i64 ((n : Int) + 1))).run Tryz.prog W = .ok (.slice (some ⟨W.heap.size, 0, none⟩) n (n + 1)) (W.alloc (.cells (List.replicate (n + 1) (Value.int .u8 0)).toArray 5)) := by
  have := run_make (P := Tryz.prog) W 22 5 i (.int .u8 0) Tryz.underlying22 hi hz .i64 .i64 n (n + 1) (by omega) (by omega) (by rw [hb]; omega) (by omega)
  rw [this, hs]
  have e1 : ((n : Int) + 1).toNat = n + 1 := by omega
  have e2 : madeCells (Value.int .u8 0).cells (n + 1) = (List.replicate (n + 1) (Value.int .u8 0)).toArray := by
    have := toList_madeCells_one (Value.int .u8 0) (n + 1)
    rw [← Array.toList_inj]
    simpa [Value.cells] using this
  rw [e1, Nat.mul_one, e2]
  simp

theorem own_splice {B g n : Nat} {w : World} {ZS CS : List Value} (h : w.heap[g]? = some (.cells (splice ZS 0 CS).toArray 5 (0, 0))) (hB : B ≤ g) (hn : n ≤ 1000000000) (hc : CS.length = n) (hz : ZS.length = n + 1) : w.ownsRow B 5 1 (.slice (some ⟨g, 0, none⟩) n (n + 1)) n CS := by
  refine ⟨by omega, .inr ⟨g, n + 1, _, rfl, hB, h, by omega, by unfold maxLen; omega, ?_, ?_⟩⟩
  · simp [splice]; omega
  · simp [splice]
    rw [List.take_append_of_le_length (by omega), List.take_of_length_le (by omega)]

set_option maxHeartbeats 1000000 in
theorem data_any (base bw : Nat) (v : Value) (bs : List Int) (t : Int) (m : Nat) (w : World) (h : Wr base bw w v bs t m) (hb : bs.length ≤ 1000000000) :
    Calls Tryz.prog 26 #[.pointer (some ⟨bw, 0, none⟩)] w fun e w' => ∃ g cap, e = .returned (.slice (some ⟨g, 0, none⟩) (dataOf bs t m).length cap) ∧ w'.ownsRow w.heap.size 5 1 (.slice (some ⟨g, 0, none⟩) (dataOf bs t m).length cap) (dataOf bs t m).length ((dataOf bs t m).map (Value.int .u8)) ∧ Below w.heap.size w w' := by
  have c0 := cells_of h.block 0
  have hbw := lt_of_block h.block
  have hm := h.m1
  have ht0 := h.t0
  have ht1 := h.t1
  simp at c0
  obtain ⟨a, cp, rfl, hsrc⟩ := h.form
  obtain ⟨i0, hi, hz0, hz1, hz2⟩ := info_parts Tryz.info5
  have ew : IntKind.i64.wrap ((bs.length : Int) + 1) = (bs.length : Int) + 1 := by rw [IntKind.wrap_i64]; omega
  have hmk := made_bytes bs.length i0 hi hz0 hz1 hz2 (by omega)
  rw [← ew] at hmk
  clear ew
  have HS : Hid (0 < bs.length → ∃ ad, a = some ad ∧ ∀ j u, (bs.map (Value.int .u8))[j]? = some u → w.cell? (ad.add j) = some u) := hsrc
  clear hsrc
  obtain ⟨ZS, hZS⟩ : ∃ ZS : List Value, ZS = List.replicate (bs.length + 1) (Value.int .u8 0) := ⟨_, rfl⟩
  rw [← hZS] at hmk
  obtain ⟨CS, hCS⟩ : ∃ CS : List Value, CS = bs.map (Value.int .u8) := ⟨_, rfl⟩
  have hcl : CS.length = bs.length := by rw [hCS]; simp
  have hzl : ZS.length = bs.length + 1 := by rw [hZS]; simp
  have hsz1 : (Tryz.prog.info? 5).map (fun x => x.size) = some 1 := by rw [hi]; simp [hz1]
  have hone : ∀ u ∈ CS, u.oneCell' = true := by intro u hu; rw [hCS] at hu; simp at hu; obtain ⟨x, _, rfl⟩ := hu; rfl
  have HZ : Hid (ZS = List.replicate (bs.length + 1) (Value.int .u8 0)) := hZS
  have HC : Hid (CS = bs.map (Value.int .u8)) := hCS
  have HO : Hid (∀ u ∈ CS, u.oneCell' = true) := hone
  have HW : Hid (Below w.heap.size w (w.alloc (.cells ZS.toArray 5)).drew) := (Below.alloc (Below.refl _ _) (Nat.le_refl _) _).drew
  have HP : Hid (0 < CS.length → some (⟨w.heap.size, 0, none⟩ : Addr) = some ⟨w.heap.size, 0, none⟩ ∧ ∃ ad, a = some ad ∧ ∀ j u, CS[j]? = some u → (w.alloc (.cells ZS.toArray 5)).drew.cell? (ad.add j) = some u) := by
    intro hp
    obtain ⟨ad, ha, hc⟩ := HS.out (by omega)
    refine ⟨rfl, ad, ha, fun j u hj => ?_⟩
    have h1 := hc j u (by rw [← hCS]; exact hj)
    have h2 := lt_of_cell h1
    rw [← h1]
    exact World.cell?_of_block (w := w) (Below.heap_alloc w _ _ h2)
  clear hZS hCS hone
  go_enter Tryz.func26, Tryz.ntmps26
  go_wp2
  go_region_held3 (fun w' => w'.cell? ⟨bw, 0, none⟩ = some (.slice a bs.length cp)) (go_keep) (fail)
  all_goals (go_wp2_with (first
    | (refine wpList_copy_splice rfl (.tmp 16) (.tmp 20) 22 22 rfl 5 Tryz.underlying22 hsz1 _ _ _ _ _ _ (by rfl) (by rfl) w.heap.size 0 ZS 5 (heap_new w _) CS (by rw [hcl]; exact (Nat.min_self _).symm) (fun hp => ⟨rfl, (HP.out hp).2⟩) (by omega) HO.out w.heap.size w HW.out (Nat.le_refl _) ?_; intro w2 HG2 hB2; have kb := (hB2.block bw hbw).trans h.block; have k1 := cells_of kb 1; have k2 := cells_of kb 2; simp at k1 k2; have HR : Hid (w2.ownsRow w.heap.size 5 1 (.slice (some ⟨w.heap.size, 0, none⟩) bs.length (bs.length + 1)) bs.length CS) := own_splice HG2.out (Nat.le_refl _) hb hcl hzl)
    | (at_builtin; go_must (refine wpList_append_lies _ rfl (.tmp 27) (.tmp 33) 22 rfl w.heap.size 5 i0 (.int .u8 0) 1 1 Tryz.underlying22 hi hz0 hz1 hz2 rfl (by decide) _ bs.length CS (by rfl) (HR.out.alloc _) ⟨w2.heap.size, 0, none⟩ 1 1 [.int .u8 (t % 256)] (by rfl) (by rfl) (World.news_of_block (heap_new w2 _)) (by intro u hu; simp at hu; subst hu; rfl) (by decide) (by unfold maxLen; omega) (by omega) (by have := hB2.size; simp; omega) _ rfl ?_; intro g cap w3 hown3 hgrow3 hat3 hlt3))))
  · go_ret
    have et : t % 256 = t := by
      have := pow_pos' m
      have a3 : (2 : Int) ^ m ≤ 128 := by
        have : (2 : Nat) ^ m ≤ 2 ^ 7 := Nat.pow_le_pow_right (by decide) hm
        have h2 : ((2 ^ m : Nat) : Int) ≤ ((2 ^ 7 : Nat) : Int) := by exact_mod_cast this
        simpa using h2
      omega
    have hd : dataOf bs t m = bs ++ [t] := by
      have : 0 < m := by assumption
      simp [dataOf, this]
    rw [et, HC.out] at hown3
    refine ⟨g, cap, ?_, ?_, ?_⟩
    · rw [hd]; simp
    · rw [hd]; simpa using hown3
    · exact (hB2.alloc hB2.size _).grown hgrow3 (by have := hB2.size; simp; omega) (fun k e => by simp [Value.ownBlock] at e; omega)
  · go_ret
    have hd : dataOf bs t m = bs := by
      have : m = 0 := by omega
      simp [dataOf, this]
    have hr := HR.out
    rw [HC.out] at hr
    exact ⟨w.heap.size, bs.length + 1, by rw [hd]; rfl, by rw [hd]; exact hr, hB2⟩
#print axioms data_any
end Go.Proofs.YtlakgbckopjelaaGreatDoor

/- How the arguments of the laws are opened: bytes, and calls of a reader or a writer. -/
namespace Go.Proofs.YtlakgbckopjelaaGreatDoor
set_option maxRecDepth 100000
open Go.ChangeShapes Go.WideShapes Go.ChangeAt Go.RowKit

theorem own : ownKnob Tryz.prog.godebug = none := by kernel_rfl
theorem laidOut : laidOutB Tryz.prog = true := by kernel_rfl
theorem Tryz.bytes5 : Tryz.prog.bytesOf 5 = 1 := by kernel_rfl
theorem Tryz.cells5 : Tryz.prog.cellsOf 5 = 1 := by kernel_rfl
theorem Tryz.cells3 : Tryz.prog.cellsOf 3 = 1 := by kernel_rfl
section
variable {H : Type} {enc : TypeId × Value → H} {W : World}


end
end Go.Proofs.YtlakgbckopjelaaGreatDoor
