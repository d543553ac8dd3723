/- gz: qG9Wh. -/
import Derived.Test.YteknifnadbmfiaaGreatDoorqG8Wr
import Derived.Deep.QuietTactic
import Derived.Lib.SlBytesConst
namespace Go.Proofs.YteknifnadbmfiaaGreatDoor
set_option maxRecDepth 100000
open Go Go.RowKit
set_option linter.unusedVariables false

def nul (s : ByteArray) : Bool := decide (0 ∈ sB s)
theorem index_str (s : ByteArray) : (nul s = true -> ∃ n : Nat, Lib.indexByte s.data.toList 0 = (n : Int)) /\ (nul s = false -> Lib.indexByte s.data.toList 0 = -1) := by
 have e : Lib.bytesOf (sB s) = s.data.toList := by
  unfold Lib.bytesOf sB
  rw [List.map_map]
  conv => rhs; rw [<- List.map_id s.data.toList]
  exact List.map_congr_left fun b _ => by simp
 rw [<- e]
 constructor
 ·intro h
  rcases zero_cases (sB s) with hz | ⟨a, b, hab, hz⟩
  ·exact absurd (of_decide_eq_true h) (fun h0 => hz 0 h0 rfl)
  ·refine ⟨a.length, ?_⟩
   rw [hab]
   exact index_some (fun x hx => sB_mem s x (by rw [hab]; simp [hx])) hz
 ·intro h
  exact index_none (sB_mem s) (fun x hx e0 => by subst e0; exact of_decide_eq_false h hx)
set_option maxHeartbeats 1000000 in
theorem slIndex_c (s : ByteArray) (w : World) : Calls Tryz.prog 28 #[.string s, .int .u8 0] w fun e w' => e = .returned (.int .i64 (Lib.indexByte s.data.toList 0)) /\ w' = w := by
 have hr := Lib.run_indexByteString (P := Tryz.prog) s 0 w
 rw [show ((0 : Int).toNat.toUInt8) = 0 from rfl] at hr
 generalize Lib.indexByte s.data.toList 0 = R at hr ⊢
 go_enter Tryz.func28, Tryz.ntmps28
 go_wp2
 rw [run_callFunc_extern Tryz.func44 (by kernel_rfl) (by kernel_rfl) (by kernel_rfl) (e := Extern.BytealgIndexByte.indexByte) (by kernel_rfl), hr]
 simp only [Result.andThen]
 rw [Oper.upon_value]
 go_wp2
 go_ret
 exact ⟨rfl, rfl⟩
theorem sIndex_c (s : ByteArray) (w : World) : Calls Tryz.prog 16 #[.string s, .int .u8 0] w fun e w' => e = .returned (.int .i64 (Lib.indexByte s.data.toList 0)) /\ w' = w := by
 have H := hide (slIndex_c s w)
 generalize Lib.indexByte s.data.toList 0 = R at H ⊢
 go_enter Tryz.func16, Tryz.ntmps16
 go_wp2_with (go_at_call 28; refine H.out.mono ?_; rintro e w' ⟨rfl, rfl⟩)
 go_ret
 exact ⟨rfl, rfl⟩
theorem hasNul_c (s : ByteArray) (w : World) : Calls Tryz.prog 9 #[.string s] w fun e w' => e = .returned (.bool (nul s)) /\ w' = w := by
 have H := hide (sIndex_c s w)
 have hi := index_str s
 cases hn : nul s
 ·rw [hi.2 hn] at H
  clear hi hn
  go_enter Tryz.func9, Tryz.ntmps9
  go_wp2_with (go_at_call 16; refine H.out.mono ?_; rintro e w' ⟨rfl, rfl⟩)
  go_ret
  exact ⟨rfl, rfl⟩
 ·obtain ⟨n, hn'⟩ := hi.1 hn
  rw [hn'] at H
  have h0 : (0 : Int) <= (n : Int) := by omega
  clear hi hn hn'
  go_enter Tryz.func9, Tryz.ntmps9
  go_wp2_with (go_at_call 16; refine H.out.mono ?_; rintro e w' ⟨rfl, rfl⟩)
  go_ret
  exact ⟨by simp, rfl⟩
theorem where_c (b : Bool) (f : Int) (w : World) : Calls Tryz.prog 29 #[.bool b, .int .u8 f] w fun e w' => e = .returned (.int .u8 (if b = true then f else 0)) /\ w' = w := by
 cases b
 all_goals
  go_enter Tryz.func29, Tryz.ntmps29
  go_wp2
  go_ret
  exact ⟨rfl, rfl⟩
def flN (b1 b4 b8 b16 : Bool) : Nat := (if b1 = true then 1 else 0) + (if b4 = true then 4 else 0) + (if b8 = true then 8 else 0) + (if b16 = true then 16 else 0)
theorem or_fl : ∀ b1 b4 b8 b16 : Bool, bits .or .u8 (bits .or .u8 (bits .or .u8 (if b1 = true then 1 else 0) (if b4 = true then 4 else 0)) (if b8 = true then 8 else 0)) (if b16 = true then 16 else 0) = ((flN b1 b4 b8 b16 : Nat) : Int) := by decide +kernel
def has (s : ByteArray) : Bool := decide (s.size ≠ 0)
theorem has_ne (s : ByteArray) : (!s.toList.isEmpty) = has s := by
 unfold has
 by_cases h : s.size = 0
 ·rw [str_empty h, Lib.toList_data]; rfl
 ·rw [toList_ne h]; simp [h]
def fls (m : Mb) : Nat := flN m.text (has m.extra) (has m.name) (has m.comment)
set_option maxHeartbeats 4000000 in
theorem flagsOf_c (m : Mb) (w : World) : Calls Tryz.prog 18 #[.agg m.cells] w fun e w' => e = .returned (.int .u8 (fls m : Nat)) /\ Kept (fun _ => False) w w' := by
 obtain ⟨W, hW⟩ : ∃ W, W = w.alloc (.cells m.cells 27) := ⟨_, rfl⟩
 have hb : W.heap[w.heap.size]? = some (.cells m.cells 27 (0, 0)) := by rw [hW]; exact heap_new w _
 have c0 := cells_of hb 0
 have c1 := cells_of hb 1
 have c2 := cells_of hb 2
 have c4 := cells_of hb 4
 simp only [Mb.cells] at c0 c1 c2 c4
 have HK : Hid (Kept (fun _ => False) w W) := by rw [hW]; exact Kept.alloc _ (Kept.refl _ w) _
 have HE : Hid (w.alloc (.cells m.cells 27) = W) := hW.symm
 have hor := or_fl m.text (has m.extra) (has m.name) (has m.comment)
 have he := has_ne m.extra
 have hn := has_ne m.name
 have hc := has_ne m.comment
 unfold fls
 generalize has m.extra = X at *
 generalize has m.name = N at *
 generalize has m.comment = C at *
 generalize flN m.text X N C = FF at *
 clear hW hb
 go_enter Tryz.func18, Tryz.ntmps18
 go_upto_region 1 with fail
 rw [show w.alloc (.cells m.cells 27) = W from HE.out]
 go_quiet ((go_at_call 29; with_reducible exact Calls.quiet_of_same (where_c _ _ _)))
 all_goals go_wp2
 all_goals go_ret
 all_goals refine ⟨?_, Kept.drewN HK.out _⟩
 all_goals rfl
def xtr (s : ByteArray) : List Int := if s.size = 0 then [] else leP s.size 2 ++ sB s
def gHd (m : Mb) : List Int := [31, 139, 8] ++ [(fls m : Int)] ++ leP m.time 4 ++ [0, 255] ++ xtr m.extra ++ txt m.name ++ txt m.comment
structure HS (base : Nat) (W0 : World) (bw : Nat) (g0 : Option Nat) (b3 : Nat) (m : Mb) (W : World) (X : List Int) : Prop where
 w : ∃ g, Wt base W bw g X /\ LK bw g0 W0 g W
 b : W.heap[b3]? = some (.cells m.cells 27 (0, 0))
 z : base <= W.heap.size
 n : b3 ≠ bw /\ b3 < W0.heap.size /\ ¬ some b3 = g0
section
variable {base : Nat} {W0 W W1 : World} {bw b3 : Nat} {g0 : Option Nat} {m : Mb} {X Y : List Int}
theorem HS.go (h : HS base W0 bw g0 b3 m W X) (k : Kept (fun _ => False) W W1) {a : Option Addr} {c B : Nat} (hb : Bi W1 B a c Y) (hl : X.length + Y.length <= 1000000000000) :
  Calls Tryz.prog 17 #[.pointer (some ⟨bw, 0, none⟩), .slice a Y.length c] W1 fun e W' => e = .returned (.tuple #[]) /\ HS base W0 bw g0 b3 m W' (X ++ Y) := by
 obtain ⟨g, hw, hk⟩ := h.w
 refine (wlay_c (hw.stay k) (Nat.le_trans h.z k.size) hb hl).mono ?_
 rintro e W' ⟨rfl, g', h', k'⟩
 have kk := hk.trans (LK.pre k k')
 refine ⟨rfl, ⟨g', h', kk⟩, ?_, Nat.le_trans h.z (Nat.le_trans k.size k'.k.size), h.n⟩
 refine k'.k.heap (k.heap h.b (fun e => e)) (fun e => ?_)
 rcases e with e | e
 ·exact h.n.1 e
 ·rcases hk.n with rfl | hn
  ·exact h.n.2.2 e
  ·have := hn b3 e.symm; have := h.n.2.1; omega
theorem HS.lit (h : HS base W0 bw g0 b3 m W X) (L : List Int) (cs : Array Value) (fr : Nat × Nat) (hc : cs = (L.map (Value.int .u8)).toArray) (hb : ∀ x ∈ L, 0 <= x /\ x <= 255) (n : Nat) (hn : L.length = n) (hn1 : n <= 1000) (hl : X.length <= 100000000000) :
  Calls Tryz.prog 17 #[.pointer (some ⟨bw, 0, none⟩), .slice (some ⟨W.heap.size, 0, none⟩) n n] (W.alloc (.cells cs 5 fr)) fun e W' => e = .returned (.tuple #[]) /\ HS base W0 bw g0 b3 m W' (X ++ L) := by
 subst hn
 refine h.go (Kept.alloc _ (Kept.refl _ W) _) (B := W.heap.size + 1) ⟨⟨rfl, fun i => ?_, .inr ⟨W.heap.size, 0, by omega, rfl, fun i hi => ?_⟩⟩, Nat.le_refl _, by simp, by omega⟩ (by omega)
 ·by_cases hi : i < L.length
  ·simp only [List.getD, List.getElem?_eq_getElem hi, Option.getD_some]
   exact hb _ (List.getElem_mem hi)
  ·simp [List.getD, List.getElem?_eq_none (show L.length <= i by omega)]
 ·rw [C.cells_of (heap_new W _), hc]
  simp [List.getD, hi]
theorem HS.num (h : HS base W0 bw g0 b3 m W X) (v n : Nat) (hv : v < 18446744073709551616) (hn : n <= 64) (hl : X.length <= 100000000000) :
  Calls Tryz.prog 19 #[.pointer (some ⟨bw, 0, none⟩), .int .u64 (v : Int), .int .i64 (n : Int)] W fun e W' => e = .returned (.tuple #[]) /\ HS base W0 bw g0 b3 m W' (X ++ leP v n) := by
 obtain ⟨g, hw, hk⟩ := h.w
 refine (wnumber_c hw h.z v n hv hn hl).mono ?_
 rintro e W' ⟨rfl, g', h', k'⟩
 refine ⟨rfl, ⟨g', h', hk.trans k'⟩, k'.k.heap h.b (fun e => ?_), Nat.le_trans h.z k'.k.size, h.n⟩
 rcases e with e | e
 ·exact h.n.1 e
 ·rcases hk.n with rfl | hn
  ·exact h.n.2.2 e
  ·have := hn b3 e.symm; have := h.n.2.1; omega
theorem HS.txt (h : HS base W0 bw g0 b3 m W X) (s : ByteArray) (hs : s.size <= 100000000000) (hl : X.length <= 100000000000) :
  Calls Tryz.prog 20 #[.pointer (some ⟨bw, 0, none⟩), .string s] W fun e W' => e = .returned (.tuple #[]) /\ HS base W0 bw g0 b3 m W' (X ++ Go.Proofs.YteknifnadbmfiaaGreatDoor.txt s) := by
 obtain ⟨g, hw, hk⟩ := h.w
 refine (wtext_c hw h.z s hs hl).mono ?_
 rintro e W' ⟨rfl, g', h', k'⟩
 refine ⟨rfl, ⟨g', h', hk.trans k'⟩, k'.k.heap h.b (fun e => ?_), Nat.le_trans h.z k'.k.size, h.n⟩
 rcases e with e | e
 ·exact h.n.1 e
 ·rcases hk.n with rfl | hn
  ·exact h.n.2.2 e
  ·have := hn b3 e.symm; have := h.n.2.1; omega
theorem HS.stay (h : HS base W0 bw g0 b3 m W X) (k : Kept (fun _ => False) W W1) : HS base W0 bw g0 b3 m W1 X := by
 obtain ⟨g, hw, hk⟩ := h.w
 exact ⟨⟨g, hw.stay k, hk.k.trans k (fun _ _ e => e.elim), hk.n⟩, k.heap h.b (fun e => e), Nat.le_trans h.z k.size, h.n⟩
theorem HS.cell (h : HS base W0 bw g0 b3 m W X) (i : Nat) : W.cell? ⟨b3, i, none⟩ = m.cells[i]? := cells_of h.b i
end
theorem fls_lt (m : Mb) : fls m < 32 := by
 have : ∀ b1 b4 b8 b16 : Bool, flN b1 b4 b8 b16 < 32 := by decide
 exact this _ _ _ _
theorem txt_len (s : ByteArray) : (txt s).length <= s.size + 1 := by
 unfold txt
 split
 ·simp
 ·simp [sB_length]
theorem xtr_len (s : ByteArray) : (xtr s).length <= s.size + 2 := by
 unfold xtr
 split
 ·simp
 ·simp [sB_length, leP_length]; omega
set_option maxHeartbeats 8000000 in
theorem whead_c {base : Nat} {W : World} {bw : Nat} {g : Option Nat} (m : Mb) (h : Wt base W bw g []) (hbase : base <= W.heap.size) (hbw : bw < W.heap.size) (h1 : m.name.size <= 10000000) (h2 : m.comment.size <= 10000000) (h3 : m.extra.size <= 65535) (ht : m.time < 4294967296) :
  Calls Tryz.prog 10 #[.pointer (some ⟨bw, 0, none⟩), .agg m.cells] W (LyOk base W bw g (gHd m)) := by
 obtain ⟨Wb, hWb⟩ : ∃ Wb, Wb = W.alloc (.cells m.cells 27) := ⟨_, rfl⟩
 have hkb : Kept (fun _ => False) W Wb := by rw [hWb]; exact Kept.alloc _ (Kept.refl _ W) _
 have hs0 : HS base Wb bw g W.heap.size m Wb [] := ⟨⟨g, h.stay hkb, LK.refl _ _ _⟩, by rw [hWb]; exact heap_new W _, Nat.le_trans hbase hkb.size, by omega, by rw [hWb]; simp, fun e => by have := h.apart _ e.symm; omega⟩
 have HE : Hid (W.alloc (.cells m.cells 27) = Wb) := hWb.symm
 have HKB := hide hkb
 have HL1 := hide (hs0.lit [31, 139, 8] #[.int .u8 31, .int .u8 139, .int .u8 8] (3, 4) rfl (by decide) 3 rfl (by decide) (by simp))
 have hfl := fls_lt m
 have hfi : ((fls m : Nat) : Int) < 32 := by omega
 have hxl := xtr_len m.extra
 have hnl := txt_len m.name
 have ht' : ((m.time : Nat) : Int) % 18446744073709551616 = (m.time : Nat) := by omega
 clear h hWb hkb hs0
 obtain ⟨b3, hb3⟩ : ∃ b3, b3 = W.heap.size := ⟨_, rfl⟩
 rw [<- hb3] at HL1
 have kc := fun (w : World) (C : Array Value) (n c : Nat) => Lib.run_convert_bytes_const (P := Tryz.prog) w 24 5 C n c Tryz.underlying24 Tryz.underlying5
 go_enter Tryz.func10, Tryz.ntmps10
 go_upto_region 1 with fail
 rw [show W.alloc (.cells m.cells 27) = Wb from HE.out, <- hb3]
 clear hb3
 go_upto_region 2 with (go_at_call 17; refine HL1.out.mono ?_; rintro e w1 ⟨rfl, s1⟩; have S1 := hide s1; clear s1 HL1)
 clear kc
 have HF := hide (flagsOf_c m w1)
 have HL2 : Hid (∀ w2, Kept (fun _ => False) w1 w2 -> Calls Tryz.prog 17 #[.pointer (some ⟨bw, 0, none⟩), .slice (some ⟨w2.heap.size, 0, none⟩) 1 1] (w2.alloc (.cells #[.int .u8 (fls m : Nat)] 5)) fun e W' => e = .returned (.tuple #[]) /\ HS base Wb bw g b3 m W' ([] ++ [31, 139, 8] ++ [((fls m : Nat) : Int)])) := fun w2 k2 => (S1.out.stay k2).lit [((fls m : Nat) : Int)] _ (0, 0) rfl (by simp; omega) 1 rfl (by decide) (by simp)
 have HB1 := hide S1.out.b
 go_upto_region 3 with (first
  | (refine C.wpList_load_row rfl 27 (.tmp 3) rfl b3 (by rfl) m.cells 27 (0, 0) HB1.out _ Tryz.underlying27 rfl (by kernel_rfl) ?_)
  | (go_at_call 18; refine HF.out.mono ?_; rintro e w2 ⟨rfl, k2⟩; have HL3 := hide (HL2.out w2 k2); clear k2 HF HL2)
  | (go_at_call 17; refine HL3.out.mono ?_; rintro e w3 ⟨rfl, s3⟩; have S3 := hide s3; clear s3 HL3))
 clear S1 HB1
 have c3 := S3.out.cell 3
 have c2 := S3.out.cell 2
 simp only [Mb.cells] at c3 c2
 have HN3 := hide (S3.out.num m.time 4 (by omega) (by decide) (by simp))
 have c2' : ∀ w4 X, HS base Wb bw g b3 m w4 X -> w4.cell? ⟨b3, 2, none⟩ = some (.string m.extra) := fun w4 X s => by have := s.cell 2; simpa [Mb.cells] using this
 have c0' : ∀ w4 X, HS base Wb bw g b3 m w4 X -> w4.cell? ⟨b3, 0, none⟩ = some (.string m.name) := fun w4 X s => by have := s.cell 0; simpa [Mb.cells] using this
 have c1' : ∀ w4 X, HS base Wb bw g b3 m w4 X -> w4.cell? ⟨b3, 1, none⟩ = some (.string m.comment) := fun w4 X s => by have := s.cell 1; simpa [Mb.cells] using this
 have C2 := hide c2'
 have C0 := hide c0'
 have C1 := hide c1'
 clear c2' c0' c1'
 go_upto_region 5 with (first
  | (go_at_call 19; refine HN3.out.mono ?_; rintro e w4 ⟨rfl, s4⟩; have HL4 := hide (s4.lit [0, 255] #[.int .u8 0, .int .u8 255] (0, 0) rfl (by decide) 2 rfl (by decide) (by simp [leP_length])); clear s4 HN3)
  | (go_at_call 17; refine HL4.out.mono ?_; rintro e w5 ⟨rfl, s5⟩; have S5 := hide s5; clear s5 HL4))
 clear S3
 -- the texts, behind the extra
 have HTX : Hid (∀ w6 X, HS base Wb bw g b3 m w6 X -> X.length <= 100000000 -> Calls Tryz.prog 20 #[.pointer (some ⟨bw, 0, none⟩), .string m.name] w6 fun e w7 => e = .returned (.tuple #[]) /\ (w7.cell? ⟨b3, 1, none⟩ = some (.string m.comment)) /\ Hid (Calls Tryz.prog 20 #[.pointer (some ⟨bw, 0, none⟩), .string m.comment] w7 fun e w8 => e = .returned (.tuple #[]) /\ HS base Wb bw g b3 m w8 (X ++ txt m.name ++ txt m.comment))) := fun w6 X s6 hl => by
  refine (s6.txt m.name (by omega) (by omega)).mono ?_
  rintro e w7 ⟨rfl, s7⟩
  exact ⟨rfl, C1.out _ _ s7, (s7.txt m.comment (by omega) (by rw [List.length_append]; omega))⟩
 have HFIN : Hid (∀ w8, HS base Wb bw g b3 m w8 (gHd m) -> LyOk base W bw g (gHd m) (.returned (.tuple #[])) w8) := fun w8 s8 => by
  obtain ⟨g8, h8, k8⟩ := s8.w
  exact ⟨rfl, g8, h8, LK.pre HKB.out k8⟩
 have c2 := C2.out _ _ S5.out
 by_cases h0 : m.extra.size = 0
 ·have ee : m.extra = ⟨#[]⟩ := str_empty h0
  rw [ee] at c2
  have c0 := C0.out _ _ S5.out
  have HT1 := hide (HTX.out w5 _ S5.out (by simp [leP_length]))
  have hg : [] ++ [31, 139, 8] ++ [((fls m : Nat) : Int)] ++ leP m.time 4 ++ [0, 255] ++ txt m.name ++ txt m.comment = gHd m := by unfold gHd xtr; rw [if_pos h0]; simp
  rw [hg] at HT1
  clear HTX S5 C2 C0 C1 hg
  go_wp2_with (first
   | (go_at_call 20; refine HT1.out.mono ?_; rintro e w7 ⟨rfl, c7, HT2⟩; clear HT1)
   | (go_at_call 20; refine HT2.out.mono ?_; rintro e w8 ⟨rfl, s8⟩; have S8 := hide s8; clear s8 HT2))
  go_end0
  exact HFIN.out _ S8.out
 ·have hne := toList_ne h0
  have hsz : ((m.extra.size : Nat) : Int) % 18446744073709551616 = (m.extra.size : Nat) := by omega
  have HN6 := hide (S5.out.num m.extra.size 2 (by omega) (by decide) (by simp [leP_length]))
  have HCV : Hid (∀ w6, HS base Wb bw g b3 m w6 ([] ++ [31, 139, 8] ++ [((fls m : Nat) : Int)] ++ leP m.time 4 ++ [0, 255] ++ leP m.extra.size 2) -> w6.cell? ⟨b3, 2, none⟩ = some (.string m.extra) /\ ∃ c w7, (convert 9 24 (.string m.extra)).run Tryz.prog w6 = .ok (.slice (some ⟨w6.heap.size, 0, none⟩) m.extra.size c) w7 /\ Hid (Calls Tryz.prog 17 #[.pointer (some ⟨bw, 0, none⟩), .slice (some ⟨w6.heap.size, 0, none⟩) m.extra.size c] w7 fun e w8 => e = .returned (.tuple #[]) /\ w8.cell? ⟨b3, 0, none⟩ = some (.string m.name) /\ Hid (Calls Tryz.prog 20 #[.pointer (some ⟨bw, 0, none⟩), .string m.name] w8 fun e w7 => e = .returned (.tuple #[]) /\ (w7.cell? ⟨b3, 1, none⟩ = some (.string m.comment)) /\ Hid (Calls Tryz.prog 20 #[.pointer (some ⟨bw, 0, none⟩), .string m.comment] w7 fun e w8 => e = .returned (.tuple #[]) /\ HS base Wb bw g b3 m w8 (gHd m))))) := fun w6 s6 => by
   obtain ⟨c, w7, hcv, hb7, k7, _⟩ := conv_str m.extra (by omega) w6
   refine ⟨C2.out _ _ s6, c, w7, hcv, ?_⟩
   have hgo := s6.go k7 hb7 (by simp [leP_length, sB_length]; omega)
   rw [sB_length] at hgo
   refine hgo.mono ?_
   rintro e w8 ⟨rfl, s8⟩
   refine ⟨rfl, C0.out _ _ s8, ?_⟩
   have := HTX.out w8 _ s8 (by simp [leP_length, sB_length]; omega)
   have hg : [] ++ [31, 139, 8] ++ [((fls m : Nat) : Int)] ++ leP m.time 4 ++ [0, 255] ++ leP m.extra.size 2 ++ sB m.extra ++ txt m.name ++ txt m.comment = gHd m := by unfold gHd xtr; rw [if_neg h0]; simp
   rw [hg] at this
   exact this
  clear HTX S5 C2 C0 C1
  go_upto_region 7 with (go_at_call 19; refine HN6.out.mono ?_; rintro e w6 ⟨rfl, s6⟩; have Q6 := hide (HCV.out w6 s6); clear s6 HN6 HCV)
  obtain ⟨c6, cc, w7, hcv, HL7⟩ := Q6.out
  clear Q6
  go_wp2_with (first
   | (go_at_call 17; refine HL7.out.mono ?_; rintro e w8 ⟨rfl, c8, HT1⟩; clear HL7)
   | (go_at_call 20; refine HT1.out.mono ?_; rintro e w9 ⟨rfl, c9, HT2⟩; clear HT1)
   | (go_at_call 20; refine HT2.out.mono ?_; rintro e w10 ⟨rfl, s10⟩; have S10 := hide s10; clear s10 HT2))
  go_end0
  exact HFIN.out _ S10.out
end Go.Proofs.YteknifnadbmfiaaGreatDoor
