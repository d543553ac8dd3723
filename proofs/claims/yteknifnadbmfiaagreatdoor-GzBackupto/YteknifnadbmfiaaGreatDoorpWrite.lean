/- The writer of package bits: contracts of NewWriter, Len, Bits, Align. -/
import Derived.Test.YteknifnadbmfiaaGreatDoorpAg00Row
import Derived.Deep.RegionWith
import Derived.Deep.LoopGhost
import Derived.Maps.AppendAt
import Derived.Deep.DeepCutAuto
import Derived.Deep.RegionLaw
namespace Go.Proofs.YteknifnadbmfiaaGreatDoor
set_option maxRecDepth 100000
open Go.RowKit

theorem Tryz.info5 : (Tryz.prog.info? 5).map (fun i => (i.zero, i.size, i.bytes)) = some (some (.int .u8 0), 1, 1) := by kernel_rfl
theorem Tryz.info3 : (Tryz.prog.info? 3).map (fun i => (i.zero, i.size, i.bytes)) = some (some (.int .i64 0), 1, 8) := by kernel_rfl

theorem newWriter_any (w : World) :
  Calls Tryz.prog 45 #[] w fun e w' => e = .returned (.pointer (some ⟨w.heap.size, 0, none⟩)) /\ w' = w.alloc (.cells #[.slice none 0 0, .int .i64 0, .int .i64 0] 125) := by
 go_enter Tryz.func45, Tryz.ntmps45
 go_wp2
 go_ret
 exact ⟨rfl, rfl⟩

structure Wr (base bw : Nat) (w : World) (v : Value) (bs : List Int) (t : Int) (m : Nat) : Prop where
 block : w.heap[bw]? = some (.cells #[v, .int .i64 t, .int .i64 (m : Int)] 125 (0, 0))
 owns : w.ownsRow base 5 1 v bs.length (bs.map (Value.int .u8))
 t0 : 0 <= t
 t1 : t < 2 ^ m
 m1 : m <= 7
 bytes : ∀ x ∈ bs, 0 <= x /\ x <= 255

theorem len_any (base bw : Nat) (v : Value) (bs : List Int) (t : Int) (m : Nat) (w : World) (h : Wr base bw w v bs t m) (hb : bs.length <= 1000000000000) :
  Calls Tryz.prog 115 #[.pointer (some ⟨bw, 0, none⟩)] w fun e w' => e = .returned (.int .i64 ((bs.length * 8 + m : Nat) : Int)) /\ ∃ q, w' = w.drewN q := by
 have c0 := cells_of h.block 0
 have c2 := cells_of h.block 2
 have hm := h.m1
 simp at c0 c2
 obtain ⟨a, cap, hv⟩ : ∃ a cap, v = .slice a bs.length cap := by
  rcases h.owns.2 with ⟨rfl, h2⟩ | ⟨g, cap, cur, rfl, _⟩
  ·exact ⟨none, 0, by rw [h2]⟩
  ·exact ⟨_, _, rfl⟩
 subst hv
 clear h
 go_enter Tryz.func115, Tryz.ntmps115
 go_wp2
 go_quiet (fail)
 go_wp2
 go_ret
 exact ⟨ret_int (by omega), _, rfl⟩

theorem wait_join (t x : Int) (n m : Nat) (h0 : 0 <= t) (h1 : t < 2 ^ m) (hn : n <= 24) (hm : m <= 7) : bits .or .i64 t (IntKind.i64.wrap (x % 2 ^ n * 2 ^ m)) = t + x % 2 ^ n * 2 ^ m := by
 have hp := pow_pos' n
 have hq := pow_pos' m
 have a0 : 0 <= x % 2 ^ n := Int.emod_nonneg _ (by omega)
 have a1 : x % 2 ^ n < 2 ^ n := Int.emod_lt_of_pos _ (by omega)
 have a2 := @pow_le_24 n hn
 have a3 : (2 : Int) ^ m <= 128 := by
  have : (2 : Nat) ^ m <= 2 ^ 7 := Nat.pow_le_pow_right (by decide) hm
  have h2 : ((2 ^ m : Nat) : Int) <= ((2 ^ 7 : Nat) : Int) := by exact_mod_cast this
  simpa using h2
 have a4 : x % 2 ^ n * 2 ^ m <= 16777216 * 128 := Int.mul_le_mul (by omega) a3 (by omega) (by omega)
 have a5 : 0 <= x % 2 ^ n * 2 ^ m := Int.mul_nonneg a0 (by omega)
 have e : IntKind.i64.wrap (x % 2 ^ n * 2 ^ m) = x % 2 ^ n * 2 ^ m := by rw [IntKind.wrap_i64]; omega
 rw [e, or_add _ _ m h0 h1 a0 (by omega) (by omega)]

theorem push_end {base bw g cap n : Nat} {v t' m' : Value} {wr w1 : World} {o : Obj} {xs : List Value} (kb : w1.heap[bw]? = some (.cells #[v, t', m'] 125 (0, 0)))
  (hown1 : w1.ownsRow base 5 1 (.slice (some ⟨g, 0, none⟩) n cap) n xs) (hgrow : (wr.alloc o).drew.grownBy w1 v.ownBlock) (hat : v.ownBlock = some g \/ g = wr.heap.size + 1) :
  ∃ g' cap', (w1.setCell ⟨bw, 0, none⟩ (.slice (some ⟨g, 0, none⟩) n cap)).heap[bw]? = some (.cells #[.slice (some ⟨g', 0, none⟩) n cap', t', m'] 125 (0, 0)) /\ (w1.setCell ⟨bw, 0, none⟩ (.slice (some ⟨g, 0, none⟩) n cap)).ownsRow base 5 1 (.slice (some ⟨g', 0, none⟩) n cap') n xs /\
   Kept (fun k => k = bw \/ v.ownBlock = some k) wr (w1.setCell ⟨bw, 0, none⟩ (.slice (some ⟨g, 0, none⟩) n cap)) /\ (v.ownBlock = some g' \/ wr.heap.size <= g') := by
 refine ⟨g, cap, ?_, ?_, ?_, ?_⟩
 ·rw [set_of kb]; rfl
 ·exact ownsRow_setCell_other hown1 (ownsRow_apart hown1 kb (by decide)) _
 ·have k1 : Kept (fun k => k = bw \/ v.ownBlock = some k) wr w1 := Kept.trans (Kept.drew (Kept.alloc _ (Kept.refl _ wr) o)) (Kept.of_grown hgrow) (fun i _ e => .inr e.symm)
  exact k1.setCell (fun _ => .inl rfl) _
 ·rcases hat with h | h
  ·exact .inl h
  ·exact .inr (by omega)

theorem loop_end {base bw g cap gk : Nat} {v v0 : Value} {t' : Int} {bs' L : List Int} {w wr wc : World} (h8 : 8 <= gk) (rg : gk <= 31) (rt0 : 0 <= t') (rt1 : t' < 2 ^ gk) (rby : ∀ x ∈ bs', 0 <= x /\ x <= 255) (rrow : rowOf bs' ++ bitsN t' gk = L)
  (rk : Kept (fun k => k = bw \/ v0.ownBlock = some k) w wr) (rv : v.ownBlock = v0.ownBlock \/ ∀ g, v.ownBlock = some g -> w.heap.size <= g)
  (cb : wc.heap[bw]? = some (.cells #[.slice (some ⟨g, 0, none⟩) (bs'.length + 1) cap, .int .i64 t', .int .i64 (gk : Int)] 125 (0, 0)))
  (co : wc.ownsRow base 5 1 (.slice (some ⟨g, 0, none⟩) (bs'.length + 1) cap) (bs'.length + 1) (bs'.map (Value.int .u8) ++ [.int .u8 (IntKind.u8.wrap t')]))
  (ck : Kept (fun k => k = bw \/ v.ownBlock = some k) wr wc) (cv : v.ownBlock = some g \/ wr.heap.size <= g) :
  ∃ v bs' t'', ((wc.setCell ⟨bw, 1, none⟩ (.int .i64 (t' / 256))).setCell ⟨bw, 2, none⟩ (.int .i64 ((gk : Int) - 8))).heap[bw]? = some (.cells #[v, .int .i64 t'', .int .i64 ((gk - 8 : Nat) : Int)] 125 (0, 0)) /\
   ((wc.setCell ⟨bw, 1, none⟩ (.int .i64 (t' / 256))).setCell ⟨bw, 2, none⟩ (.int .i64 ((gk : Int) - 8))).ownsRow base 5 1 v bs'.length (bs'.map (Value.int .u8)) /\ 0 <= t'' /\ t'' < 2 ^ (gk - 8) /\ gk - 8 <= 31 /\ (∀ x ∈ bs', 0 <= x /\ x <= 255) /\ rowOf bs' ++ bitsN t'' (gk - 8) = L /\
   Kept (fun k => k = bw \/ v0.ownBlock = some k) w ((wc.setCell ⟨bw, 1, none⟩ (.int .i64 (t' / 256))).setCell ⟨bw, 2, none⟩ (.int .i64 ((gk : Int) - 8))) /\ (v.ownBlock = v0.ownBlock \/ ∀ g, v.ownBlock = some g -> w.heap.size <= g) := by
 have ec : ((gk : Int) - 8) = ((gk - 8 : Nat) : Int) := by omega
 have hap := ownsRow_apart co cb (by decide)
 rw [ec]
 refine ⟨.slice (some ⟨g, 0, none⟩) (bs'.length + 1) cap, bs' ++ [t' % 256], t' / 256, ?_, ?_, by omega, ?_, by omega, ?_, ?_, ?_, ?_⟩
 ·rw [set_of (set_of cb 1 _) 2]; rfl
 ·have e1 : (bs' ++ [t' % 256]).length = bs'.length + 1 := by simp
  have e2 : (bs' ++ [t' % 256]).map (Value.int .u8) = bs'.map (Value.int .u8) ++ [.int .u8 (IntKind.u8.wrap t')] := by simp [IntKind.wrap_u8']
  rw [e1, e2]
  exact ownsRow_setCell_other (ownsRow_setCell_other co hap _) hap _
 ·have e : (2 : Int) ^ gk = 2 ^ (gk - 8) * 256 := by
   have : gk = (gk - 8) + 8 := by omega
   conv => lhs; rw [this, Int.pow_add]
   rfl
  rw [e] at rt1
  exact Int.ediv_lt_of_lt_mul (by decide) rt1
 ·intro x hx
  rw [List.mem_append] at hx
  rcases hx with hx | hx
  ·exact rby x hx
  ·rw [List.mem_singleton] at hx; omega
 ·rw [<- row_step bs' t' gk h8]; exact rrow
 ·have k1 : Kept (fun k => k = bw \/ v0.ownBlock = some k) w wc := rk.trans ck (fun i hi e => by
   rcases e with e | e
   ·exact .inl e
   ·rcases rv with r | r
    ·exact .inr (by rw [<- r]; exact e)
    ·have := r i e; omega)
  exact (k1.setCell (fun _ => .inl rfl) _).setCell (fun _ => .inl rfl) _
 ·rcases cv with c | c
  ·rcases rv with r | r
   ·exact .inl (by rw [<- r, c]; rfl)
   ·exact .inr (fun g' e => by simp [Value.ownBlock] at e; subst e; exact r _ c)
  ·exact .inr (fun g' e => by simp [Value.ownBlock] at e; subst e; have := rk.size; omega)

set_option maxHeartbeats 1000000 in
theorem wbits_yes (base bw : Nat) (v0 : Value) (bs : List Int) (t : Int) (m : Nat) (x : Int) (n : Nat) (w : World) (h : Wr base bw w v0 bs t m) (hn : n <= 24) (hb : bs.length <= 1000000000000) (hbase : base <= w.heap.size) :
  Calls Tryz.prog 63 #[.pointer (some ⟨bw, 0, none⟩), .int .i64 x, .int .i64 (n : Int)] w fun e w' => e = .returned (.tuple #[]) /\ ∃ v' bs' t' m', Wr base bw w' v' bs' t' m' /\ rowOf bs' ++ bitsN t' m' = rowOf bs ++ bitsN t m ++ bitsN x n /\ Kept (fun k => k = bw \/ v0.ownBlock = some k) w w' /\ (v'.ownBlock = v0.ownBlock \/ ∀ g, v'.ownBlock = some g -> w.heap.size <= g) := by
 have c0 := cells_of h.block 0
 have c1 := cells_of h.block 1
 have c2 := cells_of h.block 2
 have f0 := free_of h.block 0
 have f1 := free_of h.block 1
 have f2 := free_of h.block 2
 have hm := h.m1
 have ht0 := h.t0
 have ht1 := h.t1
 obtain ⟨i0, hi, hz0, hz1, hz2⟩ := info_parts Tryz.info5
 simp at c0 c1 c2
 go_enter Tryz.func63, Tryz.ntmps63
 go_upto_region 1 with (go_at_call 80; refine (fits_yes _ _ (by omega) (by omega)).mono ?_; rintro e w ⟨rfl, rfl⟩)
 go_cut [] (fun wx => wx.heap[bw]? = some (.cells #[v0, .int .i64 (t + x % 2 ^ n * 2 ^ m), .int .i64 (m : Int)] 125 (0, 0)) /\ Kept (fun k => k = bw) w wx)
 case first =>
  have ej := wait_join t x n m ht0 ht1 hn hm
  have HJ : Hid (bits .or .i64 t (IntKind.i64.wrap (x % 2 ^ n * 2 ^ m)) = t + x % 2 ^ n * 2 ^ m) := ej
  clear ej
  go_region_with (go_at_call 81; refine (low_any _ _ _ (by omega) (by omega)).mono ?_; rintro e w' ⟨rfl, rfl⟩)
  all_goals (go_wp2_with fail)
  all_goals go_meet
  all_goals (rw [HJ.out]; exact ⟨set_of h.block 1 _, Kept.drew (Kept.setCell (M := fun k => k = bw) (Kept.refl _ _) (fun _ => rfl) _)⟩)
 case rest =>
  obtain ⟨hbl, hkp⟩ := hcut
  clear c0 c1 c2 f0 f1 f2
  have c2 := cells_of hbl 2
  have f2 := free_of hbl 2
  simp at c2
  go_wp2
  go_loopg [] (m + n) (fun gh wr => ∃ v bs' t', wr.heap[bw]? = some (.cells #[v, .int .i64 t', .int .i64 (gh : Int)] 125 (0, 0)) /\ wr.ownsRow base 5 1 v bs'.length (bs'.map (Value.int .u8)) /\ 0 <= t' /\ t' < 2 ^ gh /\ gh <= 31 /\ (∀ x ∈ bs', 0 <= x /\ x <= 255) /\
   rowOf bs' ++ bitsN t' gh = rowOf bs ++ bitsN t m ++ bitsN x n /\ Kept (fun k => k = bw \/ v0.ownBlock = some k) w wr /\ (v.ownBlock = v0.ownBlock \/ ∀ g, v.ownBlock = some g -> w.heap.size <= g))
  case atStart =>
   have hp := pow_pos' m
   refine ⟨v0, bs, t + x % 2 ^ n * 2 ^ m, ?_, ?_, ?_, ?_, by omega, h.bytes, ?_, ?_, .inl rfl⟩
   ·rw [set_of hbl]; rfl
   ·exact ownsRow_setCell_other (ownsRow_kept h.owns hkp (fun g hg e => ownsRow_apart h.owns h.block (by decide) (by rw [hg, e]))) (fun e => ownsRow_apart h.owns h.block (by decide) e) _
   ·have := Int.mul_nonneg (Int.emod_nonneg x (show (2 : Int) ^ n ≠ 0 by have := pow_pos' n; omega)) (show (0 : Int) <= 2 ^ m by omega)
    omega
   ·have a1 : x % 2 ^ n + 1 <= 2 ^ n := Int.emod_lt_of_pos _ (show (0 : Int) < 2 ^ n by have := pow_pos' n; omega)
    have a2 : (x % 2 ^ n + 1) * 2 ^ m <= 2 ^ n * 2 ^ m := Int.mul_le_mul_of_nonneg_right a1 (by omega)
    rw [Int.add_mul] at a2
    rw [Int.pow_add, Int.mul_comm (2 ^ m)]
    omega
   ·rw [bitsN_join t x m n ht0 ht1, List.append_assoc]
   ·exact Kept.setCell (M := fun k => k = bw \/ v0.ownBlock = some k) (hkp.mono (fun _ _ e => .inl e)) (fun _ => .inl rfl) _
  case round =>
   obtain ⟨v, bs', t', rb, ro, rt0, rt1, rg, rby, rrow, rk, rv⟩ := hrel
   have d0 := cells_of rb 0
   have d1 := cells_of rb 1
   have d2 := cells_of rb 2
   have e0 := free_of rb 0
   have e1 := free_of rb 1
   have e2 := free_of rb 2
   simp at d0 d1 d2
   have hlen : bs'.length <= 1000000000010 := by
    have := congrArg List.length rrow
    simp [rowOf_length, bitsN_length] at this
    omega
   have hsz : base <= wr.heap.size := by have := rk.size; omega
   have hbwlt := lt_of_block rb
   have hne : v.ownBlock ≠ some bw := ownsRow_apart ro rb (by decide)
   by_cases h8 : 8 <= gk
   ·go_upto_region 4 with fail
    go_cut [] (fun wx => ∃ g cap, wx.heap[bw]? = some (.cells #[.slice (some ⟨g, 0, none⟩) (bs'.length + 1) cap, .int .i64 t', .int .i64 (gk : Int)] 125 (0, 0)) /\ wx.ownsRow base 5 1 (.slice (some ⟨g, 0, none⟩) (bs'.length + 1) cap) (bs'.length + 1) (bs'.map (Value.int .u8) ++ [.int .u8 (IntKind.u8.wrap t')]) /\ Kept (fun k => k = bw \/ v.ownBlock = some k) wr wx /\ (v.ownBlock = some g \/ wr.heap.size <= g))
    case first =>
     have HR : Hid (wr.ownsRow base 5 1 v bs'.length (bs'.map (Value.int .u8))) := ro
     have HN : Hid (v.ownBlock ≠ some bw) := hne
     have HB : Hid (wr.heap[bw]? = some (.cells #[v, .int .i64 t', .int .i64 (gk : Int)] 125 (0, 0))) := rb
     clear ro hne rrow rk rv rby h hbl hkp f2 c2 rb
     go_region_law (refine step_append_lies _ (by rfl) (.tmp 41) (.tmp 47) 24 (by rfl) base 5 i0 (.int .u8 0) 1 1 Tryz.underlying24 hi hz0 hz1 hz2 (by rfl) (by decide) v bs'.length (bs'.map (Value.int .u8)) (by rfl) (by first | exact HR.out.alloc _ | exact (HR.out.alloc _).drew | exact HR.out.drew.alloc _) ⟨wr.heap.size, 0, none⟩ 1 1 [.int .u8 (IntKind.u8.wrap t')] (by rfl) (by rfl) (by exact World.news_of_block (heap_new wr _)) (by intro u hu; simp at hu; subst hu; rfl) (by decide) (by unfold maxLen; omega) (by omega) (by simp; omega) (wr.heap.size + 1) (by simp) ?_; intro g cap w1 hown1 hgrow hat hlt; have kb := (hgrow.block bw (by simp; omega) (fun e => HN.out e.symm)).trans ((Below.heap_alloc wr _ _ hbwlt).trans HB.out); have k0 := cells_of kb 0; have kf := free_of kb 0; simp at k0)
     all_goals (go_wp2_with fail)
     all_goals go_meet
     all_goals exact push_end kb hown1 hgrow hat
    case rest =>
     obtain ⟨g, cap, cb, co, ck, cv⟩ := hcut
     have a1 := cells_of cb 1
     have a2 := cells_of cb 2
     have b1 := free_of cb 1
     have b2 := free_of cb 2
     simp at a1 a2
     clear d0 d1 d2 e0 e1 e2 f2 c2
     go_wp2
     go_roundg (gk - 8)
     case measure => omega
     case rel => exact loop_end h8 rg rt0 rt1 rby rrow rk rv cb co ck cv
   ·go_wp2
    go_end0
    exact ⟨rfl, v, bs', t', gk, ⟨rb, ro, rt0, rt1, by omega, rby⟩, rrow, rk, rv⟩
#print axioms wbits_yes
end Go.Proofs.YteknifnadbmfiaaGreatDoor
