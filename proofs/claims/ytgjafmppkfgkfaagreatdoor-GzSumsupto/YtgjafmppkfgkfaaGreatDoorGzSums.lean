/-
  PROVED: 'wainloadlaw09.GzSums' answers true: where a bit of the data's sum, or of how many bytes it has, is turned, that is found; where the arguments are together of bulk at most 1048576 (the second form). The card: the orders of lengths are what the program's text lays.
-/
import Derived.Test.YtgjafmppkfgkfaaGreatDoorqGcLaid
import Derived.Test.YtgjafmppkfgkfaaGreatDoorqTheSums
namespace Go.Proofs.YtgjafmppkfgkfaaGreatDoor.gzSums
set_option maxRecDepth 100000
open Go.ChangeShapes Go.WideShapes Go.ChangeAt Go.RowKit
set_option linter.unusedVariables false

theorem xor_pow (k : Nat) (hk : k < 8) (x : Int) (hx : 0 <= x /\ x <= 255) : ∃ y : Int, bits .xor .u8 x (2 ^ k % 256) = y /\ 0 <= y /\ y <= 255 /\ y ≠ x := by
 have h : ∀ k : Fin 8, ∀ x : Fin 256, (0 <= bits .xor .u8 ((x.val : Nat) : Int) (2 ^ k.val % 256) /\ bits .xor .u8 ((x.val : Nat) : Int) (2 ^ k.val % 256) <= 255) /\ bits .xor .u8 ((x.val : Nat) : Int) (2 ^ k.val % 256) ≠ ((x.val : Nat) : Int) := by decide +kernel
 obtain ⟨n, rfl⟩ := Int.eq_ofNat_of_zero_le hx.1
 have := h ⟨k, hk⟩ ⟨n, by omega⟩
 exact ⟨_, rfl, this.1.1, this.1.2, this.2⟩
theorem bi_set {w : World} {base g n c : Nat} {L : List Int} (h : OwnsB w base (.slice (some ⟨g, 0, none⟩) n c) L) (hn : n = L.length) (hL : ∀ x ∈ L, 0 <= x /\ x <= 255) (i : Nat) (hi : i < L.length) (y : Int) (hy : 0 <= y /\ y <= 255) :
  (w.cell? ⟨g, i, none⟩ = some (.int .u8 (L.getD i 0)) /\ w.frozen? ⟨g, i, none⟩ = false /\ g < w.heap.size /\ base <= g) /\ Bi (w.setCell ⟨g, i, none⟩ (.int .u8 y)) (w.setCell ⟨g, i, none⟩ (.int .u8 y)).heap.size (some ⟨g, 0, none⟩) c (L.set i y) := by
 rcases h.2 with ⟨hv, h0⟩ | ⟨g', cap, cur, hv, hg, hh, hc, hm, hs, ht⟩
 ·omega
 ·simp only [Value.slice.injEq, Option.some.injEq, Addr.mk.injEq, and_true] at hv
  obtain ⟨rfl, _, rfl⟩ := hv
  have hat : ∀ j, j < L.length -> cur[j]? = some (.int .u8 (L.getD j 0)) := fun j hj => by
   have e : (cur.toList.take (L.length * 1))[j]? = (L.map (Value.int .u8))[j]? := by rw [ht]
   rw [List.getElem?_take_of_lt (by omega), Array.getElem?_toList] at e
   rw [e]
   simp [List.getD, hj]
  have hlt := lt_of_block hh
  refine ⟨⟨(cells_of hh i).trans (hat i hi), free_of hh i, hlt, hg⟩, ⟨rfl, fun j => ?_, .inr ⟨g, 0, by simpa [World.setCell] using hlt, rfl, fun j hj => ?_⟩⟩, by simpa using hc, by simp, by unfold maxLen at hm; omega⟩
  ·by_cases hj : j < L.length
   ·rw [List.getD_eq_getElem?_getD, List.getElem?_set]
    by_cases e : i = j
    ·subst e; simp [hi]; exact hy
    ·have := hL L[j] (List.getElem_mem hj)
     simp [e, hj]; exact this
   ·simp [List.getD, List.getElem?_eq_none (show (L.set i y).length <= j by simp; omega)]
  ·rw [List.length_set] at hj
   rw [Nat.zero_add, cells_of (set_of hh i _), Array.getElem?_setIfInBounds]
   by_cases e : i = j
   ·subst e
    have hcs : i < cur.size := by have := hat i hi; exact (Array.getElem?_eq_some_iff.1 this).1
    simp [hcs, List.getD, hi]
   ·rw [if_neg e, hat j hj]
    simp [List.getD, e]
set_option maxHeartbeats 4000000 in
theorem walk (m : Mb) (lv bit : Int) (w : World) (hT : Tab w) (ht : m.time < 4294967296) (hs : m.name.size + m.comment.size + m.extra.size + m.data.size <= 1048576) (hc : -9223372036854775808 <= bit /\ bit <= 9223372036854775807) :
  Calls Tryz.prog 7 #[.agg m.cells, .int .i64 lv, .int .i64 bit] w fun e w' => e = .returned (.bool true) /\ Below w.heap.size w w' := by
 obtain ⟨W, hW⟩ : ∃ W, W = w.alloc (.cells m.cells 32) := ⟨_, rfl⟩
 have kW : Kept (fun _ => False) w W := by rw [hW]; exact Kept.alloc _ (Kept.refl _ w) _
 have hb : W.heap[w.heap.size]? = some (.cells m.cells 32 (0, 0)) := by rw [hW]; exact heap_new w _
 have hTW : Tab W := hT.kept kW ⟨fun e => e, fun e => e⟩
 have c5 := cells_of hb 5
 have c2 := cells_of hb 2
 simp only [Mb.cells] at c5 c2
 have HE : Hid (w.alloc (.cells m.cells 32) = W) := hW.symm
 have HB := hide hb
 have HA : Hid (∀ w1, Below w.heap.size w w1 -> Calls Tryz.prog 9 #[] w1 fun e w' => e = .returned (.bool true) /\ Below w.heap.size w w') := fun w1 b1 => (alive_c w1 (hT.below b1 hT.pos) (Nat.lt_of_lt_of_le hT.pos b1.size)).mono fun e w' h => ⟨h.1, b1.trans (h.2.mono b1.size)⟩
 have HBW : Hid (Below w.heap.size w W) := kW.below (Nat.le_refl _) (fun _ _ e => e)
 obtain ⟨b3, hb3⟩ : ∃ b3, b3 = w.heap.size := ⟨_, rfl⟩
 rw [<- hb3] at c5 c2 HB
 clear hW hb
 by_cases h1 : 3000 < m.data.size
 ·have h1' : (3000 : Int) < (m.data.size : Int) := by omega
  have HA1 := hide (HA.out W HBW.out)
  clear hs hc ht kW hTW hT HA
  go_enter Tryz.func7, Tryz.ntmps7
  go_upto_region 1 with fail
  rw [show w.alloc (.cells m.cells 32) = W from HE.out, <- hb3]
  clear hb3
  go_wp2_with (go_at_call 9; refine HA1.out.mono ?_; rintro x w9 ⟨rfl, b9⟩; have B9 := hide b9; clear b9)
  go_ret
  exact ⟨rfl, B9.out⟩
 have h1' : ¬ (3000 : Int) < (m.data.size : Int) := by omega
 by_cases h2 : 70000 < m.extra.size
 ·have h2' : (70000 : Int) < (m.extra.size : Int) := by omega
  have HA1 := hide (HA.out W HBW.out)
  clear hs hc ht kW hTW hT HA
  go_enter Tryz.func7, Tryz.ntmps7
  go_upto_region 1 with fail
  rw [show w.alloc (.cells m.cells 32) = W from HE.out, <- hb3]
  clear hb3
  go_wp2_with (go_at_call 9; refine HA1.out.mono ?_; rintro x w9 ⟨rfl, b9⟩; have B9 := hide b9; clear b9)
  go_ret
  exact ⟨rfl, B9.out⟩
 have h2' : ¬ (70000 : Int) < (m.extra.size : Int) := by omega
 by_cases h3 : bit < 0
 ·have h3' : bit < 0 := h3
  have HA1 := hide (HA.out W HBW.out)
  clear hs hc ht kW hTW hT HA
  go_enter Tryz.func7, Tryz.ntmps7
  go_upto_region 1 with fail
  rw [show w.alloc (.cells m.cells 32) = W from HE.out, <- hb3]
  clear hb3
  go_wp2_with (go_at_call 9; refine HA1.out.mono ?_; rintro x w9 ⟨rfl, b9⟩; have B9 := hide b9; clear b9)
  go_ret
  exact ⟨rfl, B9.out⟩
 have h3' : ¬ bit < 0 := h3
 by_cases h4 : 64 <= bit
 ·have h4' : (64 : Int) <= bit := h4
  have HA1 := hide (HA.out W HBW.out)
  clear hs hc ht kW hTW hT HA
  go_enter Tryz.func7, Tryz.ntmps7
  go_upto_region 1 with fail
  rw [show w.alloc (.cells m.cells 32) = W from HE.out, <- hb3]
  clear hb3
  go_wp2_with (go_at_call 9; refine HA1.out.mono ?_; rintro x w9 ⟨rfl, b9⟩; have B9 := hide b9; clear b9)
  go_ret
  exact ⟨rfl, B9.out⟩
 have h4' : ¬ (64 : Int) <= bit := h4
 obtain ⟨bn, rfl⟩ := Int.eq_ofNat_of_zero_le (show 0 <= bit by omega)
 by_cases hmay : ¬ gMay m
 ·have HW : Hid (Calls Tryz.prog 13 #[.agg m.cells, .int .i64 lv] W fun e w1 => e = .returned (.tuple #[.slice none 0 0, .bool false]) /\ Below w.heap.size w w1) := (write_no m lv W hmay).mono fun e w1 h => ⟨h.1, HBW.out.trans (h.2.below HBW.out.size (fun _ _ e => e))⟩
  clear hs ht kW hTW hT h1 h2 hmay
  go_enter Tryz.func7, Tryz.ntmps7
  go_upto_region 1 with fail
  rw [show w.alloc (.cells m.cells 32) = W from HE.out, <- hb3]
  clear hb3
  go_upto_region 4 with (first
   | (refine C.wpList_load_row rfl 32 (.tmp 3) rfl b3 (by rfl) m.cells 32 (0, 0) HB.out _ Tryz.underlying32 rfl sizeM9 ?_)
   | (go_at_call 13; refine HW.out.mono ?_; rintro e w1 ⟨rfl, l1⟩; have HA1 := hide (HA.out w1 l1); clear l1 HW HA))
  go_wp2_with (go_at_call 9; refine HA1.out.mono ?_; rintro x w9 ⟨rfl, b9⟩; have B9 := hide b9; clear b9)
  go_ret
  exact ⟨rfl, B9.out⟩
 replace hmay := Classical.not_not.1 hmay
 have hzm := sB_mem m.data
 have HW : Hid (Calls Tryz.prog 13 #[.agg m.cells, .int .i64 lv] W fun e w1 => ∃ (g n c : Nat) (x y : Int), e = .returned (.tuple #[.slice (some ⟨g, 0, none⟩) n c, .bool true]) /\ (8 <= n /\ n <= c /\ n <= 100000000 /\ c <= 9223372036854775807) /\ (w1.cell? ⟨g, n - 8 + bn / 8, none⟩ = some (.int .u8 x) /\ w1.frozen? ⟨g, n - 8 + bn / 8, none⟩ = false) /\ bits .xor .u8 x (2 ^ (bn % 8) % 256) = y /\ Hid (Calls Tryz.prog 10 #[.slice (some ⟨g, 0, none⟩) n c, .int .i64 100000] (w1.setCell ⟨g, n - 8 + bn / 8, none⟩ (.int .u8 y)).drew fun e w2 => e = .returned (.tuple #[.slice none 0 0, .int .i64 92]) /\ Below w.heap.size w w2)) := by
  refine (write_small m lv W hTW hTW.pos hmay (by omega) (by omega) (by omega) ht).mono ?_
  rintro e w1 ⟨v, X, rfl, ho, hX, hXl, k1⟩
  have hb1 : Below w.heap.size w w1 := HBW.out.trans (k1.below HBW.out.size (fun _ _ e => e))
  have hXb := hX.bytes9 hzm
  have hFb : ∀ x ∈ gHd m ++ X ++ gFt (sB m.data), 0 <= x /\ x <= 255 := gAll_mem m hXb
  have h8 : (gFt (sB m.data)).length = 8 := by unfold gFt; simp [leP_length]
  have hL : (gHd m ++ X ++ gFt (sB m.data)).length = (gHd m ++ X).length + 8 := by rw [List.length_append, h8]
  have hq : bn / 8 < 8 := by omega
  obtain ⟨a, c, rfl, hbi⟩ := owns_bi' ho hFb
  rcases hbi.t.2.2 with h0 | ⟨g, off, hg, rfl, _⟩
  ·omega
  obtain ⟨g2, c2, cur2, hv2, _⟩ : ∃ g2 c2 cur2, Value.slice (some ⟨g, off, none⟩) (gHd m ++ X ++ gFt (sB m.data)).length c = .slice (some ⟨g2, 0, none⟩) (gHd m ++ X ++ gFt (sB m.data)).length c2 /\ w1.heap[g2]? = some (.cells cur2 5 (0, 0)) := by
   rcases ho.2 with ⟨hv, h0⟩ | ⟨g', cap, cur, hv, _, hh, _⟩
   ·simp at hv
   ·exact ⟨g', cap, cur, hv, hh⟩
  simp only [Value.slice.injEq, Option.some.injEq, Addr.mk.injEq, and_true, true_and] at hv2
  obtain ⟨⟨rfl, rfl⟩, rfl⟩ := hv2
  have hi : (gHd m ++ X ++ gFt (sB m.data)).length - 8 + bn / 8 < (gHd m ++ X ++ gFt (sB m.data)).length := by omega
  have hxb := hFb _ (List.getElem_mem hi)
  obtain ⟨y, hy1, hy2, hy3, hy4⟩ := xor_pow (bn % 8) (by omega) _ hxb
  obtain ⟨⟨cc, ff, hgl, hgb⟩, hbs⟩ := bi_set ho rfl hFb _ hi y ⟨hy2, hy3⟩
  rw [List.getD_eq_getElem?_getD, List.getElem?_eq_getElem hi, Option.getD_some] at cc
  have hset : (gHd m ++ X ++ gFt (sB m.data)).set ((gHd m ++ X ++ gFt (sB m.data)).length - 8 + bn / 8) y = gHd m ++ X ++ (gFt (sB m.data)).set (bn / 8) y := by
   rw [List.set_append, if_neg (by rw [hL]; omega), show (gHd m ++ X ++ gFt (sB m.data)).length - 8 + bn / 8 - (gHd m ++ X).length = bn / 8 by omega]
  have hlm := gHd_len m
  have hX5 := hX.len9
  rw [sB_length] at hX5
  refine ⟨g, _, c, _, y, rfl, ⟨by omega, hbi.le, by rw [hL, List.length_append]; omega, hbi.max⟩, ⟨cc, ff⟩, hy1, ?_⟩
  have hT1 : Tab (w1.setCell ⟨g, (gHd m ++ X ++ gFt (sB m.data)).length - 8 + bn / 8, none⟩ (.int .u8 y)) := (hT.below hb1 hT.pos).below ((Below.refl w.heap.size w1).setCell (p := ⟨g, (gHd m ++ X ++ gFt (sB m.data)).length - 8 + bn / 8, none⟩) (Nat.le_trans HBW.out.size hgb) _) hT.pos
  have hb2 : Below w.heap.size w (w1.setCell ⟨g, (gHd m ++ X ++ gFt (sB m.data)).length - 8 + bn / 8, none⟩ (.int .u8 y)) := hb1.trans ((Below.refl w.heap.size w1).setCell (p := ⟨g, (gHd m ++ X ++ gFt (sB m.data)).length - 8 + bn / 8, none⟩) (Nat.le_trans HBW.out.size hgb) _)
  have kd : Kept (fun _ => False) (w1.setCell ⟨g, (gHd m ++ X ++ gFt (sB m.data)).length - 8 + bn / 8, none⟩ (.int .u8 y)) (w1.setCell ⟨g, (gHd m ++ X ++ gFt (sB m.data)).length - 8 + bn / 8, none⟩ (.int .u8 y)).drew := Kept.drew (Kept.refl _ _)
  have hr := read_c _ (hT1.kept kd ⟨fun e => e, fun e => e⟩) hT1.pos (some ⟨g, 0, none⟩) c _ 100000 (hbs.kept kd (fun _ _ e => e)) (by rw [List.length_set, hL, List.length_append]; omega) (by decide)
  rw [List.length_set, hset, gRead_bad (member_other m X _ hmay ht (hX.ans hzm) _ (by show _ <= (100000 : Int).toNat; omega) (by rw [List.length_set, h8]) ?_ ?_)] at hr
  ·refine hr.mono ?_
   rintro e w2 (⟨ms, v, e1, _⟩ | ⟨er, e1, _, _, rfl, b2⟩)
   ·cases e1
   ·cases e1; exact ⟨rfl, (hb2.trans (kd.below hb2.size (fun _ _ e => e))).trans (b2.mono hb2.size)⟩
  ·intro x hx
   rcases List.mem_or_eq_of_mem_set hx with h | h
   ·exact hFb x (by simp [h])
   ·subst h; exact ⟨hy2, hy3⟩
  ·intro e
   apply hy4
   have e1 : ((gFt (sB m.data)).set (bn / 8) y)[bn / 8]? = some y := by rw [List.getElem?_set_self (by omega)]
   rw [e] at e1
   rw [List.getElem_append_right (by omega)]
   have e2 : (gHd m ++ X ++ gFt (sB m.data)).length - 8 + bn / 8 - (gHd m ++ X).length = bn / 8 := by omega
   simp only [e2]
   rw [List.getElem?_eq_getElem (by omega)] at e1
   exact (Option.some.inj e1).symm
 clear hs ht kW hTW hT h1 h2 hmay hzm hc
 go_enter Tryz.func7, Tryz.ntmps7
 go_upto_region 1 with fail
 rw [show w.alloc (.cells m.cells 32) = W from HE.out, <- hb3]
 clear hb3
 go_upto_region 4 with (first
  | (refine C.wpList_load_row rfl 32 (.tmp 3) rfl b3 (by rfl) m.cells 32 (0, 0) HB.out _ Tryz.underlying32 rfl sizeM9 ?_)
  | (go_at_call 13; refine HW.out.mono ?_; rintro e w1 ⟨g, n, c, x, y, rfl, hn, hcf, hxy, HR⟩; clear HW))
 obtain ⟨hn8, hnc, hnm, hcm⟩ := hn
 obtain ⟨hcx, hfx⟩ := hcf
 have hn8' : ¬ (n : Int) < 8 := by omega
 have hwr : ∀ z : Int, 0 <= z -> z <= 200000000 -> IntKind.i64.wrap z = z := fun z h1 h2 => by rw [IntKind.wrap_i64]; omega
 have f1 : IntKind.i64.wrap ((n : Int) - 8) = ((n - 8 : Nat) : Int) := by rw [hwr _ (by omega) (by omega)]; omega
 have f2 : IntKind.i64.wrap (Int.tdiv (bn : Int) 8) = ((bn / 8 : Nat) : Int) := by
  have e : Int.tdiv (bn : Int) 8 = ((bn / 8 : Nat) : Int) := by rw [Int.tdiv_eq_ediv_of_nonneg (by omega)]; omega
  rw [e]; exact hwr _ (by omega) (by omega)
 have f3 : IntKind.i64.wrap (((n - 8 : Nat) : Int) + ((bn / 8 : Nat) : Int)) = ((n - 8 + bn / 8 : Nat) : Int) := by rw [hwr _ (by omega) (by omega)]; omega
 have f4 : Int.tmod (bn : Int) 8 = ((bn % 8 : Nat) : Int) := by rw [Int.tmod_eq_emod_of_nonneg (by omega)]; omega
 have f5 : ((n - 8 + bn / 8 : Nat) : Int) < (n : Int) := by omega
 have f6 : bn % 8 < 8 := by omega
 have g2 : (bn : Int) / 8 = ((bn / 8 : Nat) : Int) := by omega
 have g4 : (bn : Int) % 8 = ((bn % 8 : Nat) : Int) := by omega
 have g3 : wrap64 (((n - 8 : Nat) : Int) + (bn : Int) / 8) = ((n - 8 + bn / 8 : Nat) : Int) := by
  have e : wrap64 (((n - 8 : Nat) : Int) + (bn : Int) / 8) = ((n - 8 : Nat) : Int) + (bn : Int) / 8 := by unfold wrap64; omega
  rw [e]; omega
 clear hwr
 generalize n - 8 + bn / 8 = NI at *
 generalize bn % 8 = K8 at *
 generalize n - 8 = N8 at *
 generalize bn / 8 = Q8 at *
 have f7 : ((K8 : Nat) : Int) < 8 := by omega
 go_upto_region 6 with fail
 rw [<- hxy] at HR
 clear hxy
 go_cut [] (fun wx => wx = (w1.setCell ⟨g, NI, none⟩ (.int .u8 (bits .xor .u8 x (2 ^ K8 % 256)))).drew)
 case first =>
  go_region
  all_goals (go_wp2_with fail)
  all_goals go_meet
  all_goals rfl
 case rest =>
  have e := hcut
  clear hcut
  subst e
  clear hcx hfx f1 f2 f3 f4 f5 f6 f7 g2 g3 g4
  generalize (w1.setCell ⟨g, NI, none⟩ (.int .u8 (bits .xor .u8 x (2 ^ K8 % 256)))).drew = w2 at *
  go_wp2_with (first
   | (go_at_call 10; refine HR.out.mono ?_; rintro e w3 ⟨rfl, l3⟩; have HA2 := hide (HA.out w3 l3); clear l3 HR HA)
   | (go_at_call 9; refine HA2.out.mono ?_; rintro x w9 ⟨rfl, b9⟩; have B9 := hide b9; clear b9))
  go_ret
  exact ⟨rfl, B9.out⟩

theorem contract (H : Type) (enc : TypeId × Value -> H) (W : World) (base : Nat) (args : Array Value) (ds gs : List (DataW H)) (before : List MemPlace)
  (hval : ∀ (j : Nat) t v, Tryz.f7.params[j]? = some t -> args[j]? = some v -> Value.okWide Tryz.prog W .any base t v)
  (hW : DataW.Whole enc Tryz.prog Tryz.f7.params.toList Rows.gzSumsSpec.vars false W args.toList ds gs before) (hk : Rows.uptoSmall H (ds ++ gs) = true) (hT : Tab W) :
  Calls Tryz.prog 7 args W fun e W' => ∃ v, e = .returned v /\ Rows.gzSumsSpec.post enc Tryz.prog Tryz.f7 false true false false W args v W' := by
 have hW' := hW
 obtain ⟨p, q, hA0, hV, rfl, hfz, hnd⟩ := hW
 have hA : DataW.TrodAll enc Tryz.prog W 0 (fun _ => true) true Tryz.f7.params.toList args.toList ds p := hA0
 rw [Tryz.params7] at hA hval
 obtain ⟨v0, vs0, d0, ds0, p0, q0, hargs, rfl, rfl, h0, r0⟩ := trodAll_cons hA
 obtain ⟨v1, vs1, d1, ds1, p1, q1, rfl, rfl, rfl, h1, r1⟩ := trodAll_cons r0
 obtain ⟨v2, vs2, d2, ds2, p2, q2, rfl, rfl, rfl, h2, r2⟩ := trodAll_cons r1
 obtain ⟨rfl, rfl, rfl⟩ := trodAll_nil r2
 obtain rfl : args = #[v0, v1, v2] := by cases args; simp_all
 obtain ⟨rfl, rfl⟩ := trodVars_none hV
 have hb : Rows.uptoBulk d0 + (Rows.uptoBulk d1 + (Rows.uptoBulk d2 + 0)) <= 1048576 := by
  have := of_decide_eq_true hk
  simpa [Rows.uptoBulkAll] using this
 have k0 := h0
 have lt0 : ∀ x ∈ p0, x.block < W.heap.size := by obtain ⟨m, hm⟩ := k0; exact DataW.trod_lt m _ _ _ hm
 obtain ⟨x0, rfl, tm0, sz0⟩ := open_mem (hval 0 32 v0 rfl rfl) h0 (by omega)
 obtain ⟨x1, rfl, rfl, rfl, wf1⟩ := open_int Tryz.underlying3 (hval 1 3 v1 rfl rfl) h1
 have bd1 := bounds_i64 wf1
 obtain ⟨x2, rfl, rfl, rfl, wf2⟩ := open_int Tryz.underlying3 (hval 2 3 v2 rfl rfl) h2
 have bd2 := bounds_i64 wf2
 clear hA0
 refine (walk x0 x1 x2 W hT tm0 sz0 bd2).mono fun e W' ⟨he, bel⟩ => ?_
 subst he
 exact ⟨_, rfl, _, _, _, [], _, [], hW', trodAll_mk1 (shut_bool Tryz.underlying4 _), (trodAll_cons_mk (Below.trod laidOut9 (by kernel_rfl) (of_decide_eq_true (by kernel_rfl)) k0 bel lt0) (trodAll_cons_mk (shut_int Tryz.underlying3 wf1) (trodAll_cons_mk (shut_int Tryz.underlying3 wf2) trodAll_mk0))), rfl, bel.frame _, fun h => by cases h⟩

set_option maxRecDepth 100000 in
theorem lifted (os : Os) (started : os.Started) (H : Type) (enc : TypeId × Value -> H) (F : Stop.Interp) :
  ReturnsInHanded {} Tryz.checked os 7 .any (fun w args => ((Rows.OpenSpec.upto Rows.gzSumsSpec).pre enc Tryz.prog Tryz.f7 Rows.gzSumsUptoRow.domain false w args /\ laidMetH Tryz.prog Rows.gzSumsUptoRow.laid w) /\ sizedMet enc Tryz.prog Tryz.f7 (Rows.OpenSpec.upto Rows.gzSumsSpec) false w args)
   (((Rows.OpenSpec.upto Rows.gzSumsSpec).at F).post enc Tryz.prog Tryz.f7 false true false false) := by
 have hok : Input.okWideB Tryz.prog ((World.laidAll Tryz.prog os Rows.gzReadsRow.laid).forCall (fun _ _ => 0) ⟨#[], #[.agg mb0.cells, .int .i64 0, .int .i64 0], []⟩) 7 ⟨#[], #[.agg mb0.cells, .int .i64 0, .int .i64 0], []⟩ = true := by kernel_rfl
 have hwh : DataW.whole enc Tryz.prog ((World.laidAll Tryz.prog os Rows.gzReadsRow.laid).forCall (fun _ _ => 0) ⟨#[], #[.agg mb0.cells, .int .i64 0, .int .i64 0], []⟩).memory Tryz.f7.params.toList Rows.gzSumsSpec.vars false [.agg mb0.cells, .int .i64 0, .int .i64 0] 8 = some ([.agg [.lit (.string []), .lit (.string []), .lit (.string []), .lit (.int .u32 0), .lit (.bool false), .lit (.string [])], .lit (.int .i64 0), .lit (.int .i64 0)], [], []) := by kernel_rfl
 refine returnsInHanded_of_calls (C := Tryz.checked) own started (by kernel_rfl)
  ⟨World.laidAll Tryz.prog os Rows.gzReadsRow.laid, fun _ _ => 0, ⟨#[], #[.agg mb0.cells, .int .i64 0, .int .i64 0], []⟩, World.laidAll_os _ _ _, World.shaped_of_ZipB (by kernel_rfl) (by kernel_rfl), (Input.okWide_of_okWideB (base := 0) hok).1, (Input.okWide_of_okWideB hok).2,
   ⟨⟨(OpenSpec.pre_some (k := Rows.uptoSmall) rfl _ _ _ _).2 ⟨[.agg [.lit (.string []), .lit (.string []), .lit (.string []), .lit (.int .u32 0), .lit (.bool false), .lit (.string [])], .lit (.int .i64 0), .lit (.int .i64 0)], [], [], DataW.Whole_of_whole hwh, rfl, by kernel_rfl⟩, wit_met os _⟩, sizedMet_of_sizedB (s := Rows.gzSumsSpec) (fuel := 8) (by kernel_rfl)⟩, by
    simp only [Assume.holds]
    exact ⟨by simp, by simp, fun h => (by cases h), by simp, by simp⟩⟩ ?_
 intro w tape i _ _ _ hok hpre hholds
 obtain ⟨_, _, _, fn', hfn', _, _, _, _, hval⟩ := hok
 obtain rfl : fn' = Tryz.f7 := Option.some.inj (hfn'.symm.trans Tryz.func7)
 obtain ⟨⟨hp1, hx⟩, _⟩ := hpre
 obtain ⟨ds, gs, before, hw, _, hkk⟩ := (OpenSpec.pre_some (k := Rows.uptoSmall) rfl _ _ _ _).1 hp1
 have hw' := DataW.Whole.of_heap (w' := w.forCall tape i) (by rfl) hw
 have hx' : laidMetH Tryz.prog Rows.gzReadsRow.laid (w.forCall tape i) := laidMetH.of_heap (by rfl) hx
 refine (contract H enc (w.forCall tape i) w.heap.size i.args ds gs before hval hw' hkk (tab_of_laid hx')).mono fun e W' ⟨v, he, hp⟩ => ?_
 subst he
 exact ChangeSpec.post_blind hp

theorem over : Rows.GzSumsUptoSaid :=
 OpenClaim.holds_of_cond 7 Tryz.f7 rfl rfl rfl rfl rfl rfl rfl ⟨rfl, rfl, rfl, rfl, rfl⟩ rfl rfl rfl rfl rfl (by kernel_rfl) Tryz.func7 (by kernel_rfl)
  (of_decide_eq_true (by kernel_rfl)) (by unfold Func.isWrapper; first | (rw [if_pos (by decide +kernel)]; kernel_rfl) | (rw [if_neg (by decide +kernel)]; exact ⟨rfl, rfl⟩))
  (fun os started H enc _ F => lifted os started H enc F)
end Go.Proofs.YtgjafmppkfgkfaaGreatDoor.gzSums
namespace Go.Proofs.YtgjafmppkfgkfaaGreatDoor
theorem gzSumsUpto_holds : Rows.GzSumsUptoCardSaid :=
 Claim7.holds_tied_plain_at .later [] [.data, .data] true Rows.gzSumsUptoCard.stood.harness false
  gzSums.over (fun _ h => by cases h) (by kernel_rfl) (fun _ h => by cases h) gzSumsUpto_row_tie rfl ⟨rfl, rfl⟩ (by kernel_rfl) rfl
  (fun f fn hf hfn => by
   obtain rfl : f = 7 := Option.some.inj ((show Tryz.prog.funcNamed Rows.gzSumsUptoRow.func = some 7 by kernel_rfl).symm.trans hf) |>.symm
   obtain rfl : fn = Tryz.f7 := (Option.some.inj (Tryz.func7.symm.trans hfn)).symm
   exact ⟨by kernel_rfl, fun j t ht => by
    rw [Tryz.params7] at ht
    have hm : t ∈ [32, 3, 3] := by simpa using Array.mem_of_getElem? ht
    have hall : ([32, 3, 3].all fun u => !Tryz.prog.wantsStandIn u) = true := by kernel_rfl
    exact (show Tryz.prog.wantsStandIn t = false by simpa using List.all_eq_true.1 hall t hm)⟩)
  (by kernel_rfl)
#print axioms gzSumsUpto_holds
end Go.Proofs.YtgjafmppkfgkfaaGreatDoor
