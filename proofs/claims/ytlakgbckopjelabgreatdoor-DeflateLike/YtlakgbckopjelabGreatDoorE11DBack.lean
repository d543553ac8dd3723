/- Several texts, laid together: DAns, DAlive, DLaid, DBack. -/
import Derived.Test.YtlakgbckopjelabGreatDoorE10DDef
import Derived.Test.YtlakgbckopjelabGreatDoorRInf
import Derived.Test.YtlakgbckopjelabGreatDoorG14PData
import Derived.Lib.SlBytesConst
import Derived.Test.YtlakgbckopjelabGreatDoorG02RefBytes
import Derived.Test.YtlakgbckopjelabGreatDoorCards
import Derived.Test.YtlakgbckopjelabGreatDoorTie
import Derived.LaidMore
import Derived.Lib.LaidTab
import Derived.Stop.Joined
import Derived.Lay
import Derived.ChangeMaps5
import Derived.SevenTiedAt
import Derived.JoinedCond
/- What Deflate makes is read as the data. Of no program. -/
namespace Go.Proofs.YtlakgbckopjelabGreatDoor
set_option maxRecDepth 100000
open Go Go.RowKit

theorem loop_sto : ∀ (n : Nat) (zs A out : List Int) (most : Nat) (Z : List Int), zs.length = n → (∀ x ∈ zs, 0 ≤ x ∧ x ≤ 255) → out.length + zs.length ≤ most → Z = A ++ stB zs →
    iLoop (8 * Z.length) (iBlk (ib Z) (8 * Z.length) most) (8 * A.length) out = .ok (8 * Z.length, out ++ zs) := by
  intro n
  induction n using Nat.strongRecOn with
  | ind n ih =>
    intro zs A out most Z hn hz hm hZ
    by_cases h : 65535 < zs.length
    · rw [stB_big h] at hZ
      have hl : (zs.take 65535).length = 65535 := by rw [List.length_take]; omega
      have hb := iBlk_sto A (zs.take 65535) (stB (zs.drop 65535)) 0 (by decide) (fun x hx => hz x (List.mem_of_mem_take hx)) (by omega) most out (by omega) Z (by rw [hl]; exact hZ)
      rw [hl] at hb
      have hZl : Z.length = A.length + (5 + (65535 + (stB (zs.drop 65535)).length)) := by rw [hZ]; simp only [List.length_append, iHead_length, hl]
      rw [iLoop_on hb (by omega) (by omega)]
      have hi := ih (n - 65535) (by omega) (zs.drop 65535) (A ++ (iHead 0 65535 ++ zs.take 65535)) (out ++ zs.take 65535) most Z (by rw [List.length_drop]; omega) (fun x hx => hz x (List.mem_of_mem_drop hx)) (by rw [List.length_append, hl, List.length_drop]; omega) (by rw [hZ]; simp only [List.append_assoc])
      have hAl : (A ++ (iHead 0 65535 ++ zs.take 65535)).length = A.length + 5 + 65535 := by simp only [List.length_append, iHead_length, hl]; try omega
      rw [hAl] at hi
      rw [hi, List.append_assoc, List.take_append_drop]
    · rw [stB_small (by omega)] at hZ
      have hb := iBlk_sto A zs [] 1 (by decide) hz (by omega) most out hm Z (by rw [hZ]; simp)
      have hZl : Z.length = A.length + 5 + zs.length := by rw [hZ]; simp only [List.length_append, iHead_length]; omega
      rw [show decide (1 = 0) = false from rfl] at hb
      rw [iLoop_end hb, hZl]
theorem ans_stored (zs : List Int) (hz : ∀ x ∈ zs, 0 ≤ x ∧ x ≤ 255) (most : Nat) (hm : zs.length ≤ most) : iAns (stB zs) most = (zs, (stB zs).length, 0) := by
  have h := loop_sto _ zs [] [] most (stB zs) rfl hz (by simpa using hm) rfl
  unfold iAns iInf
  rw [show (0 : Nat) = 8 * ([] : List Int).length from rfl, h]
  simp only [iRes, List.nil_append]
  congr 2
  omega
theorem bin_rowL (c n : Nat) : Bin (rowL c n) := fun i => by
  by_cases h : i < n
  · have := rowL_at c n h
    unfold ln at this
    rw [this]
    unfold bitC
    omega
  · rw [List.getD_eq_getElem?_getD, List.getElem?_eq_none (by rw [rowL_length]; omega)]; simp
theorem bin_nil : Bin [] := fun i => by simp
theorem bin_mk (ls : List Int) (m : Mk) : Bin (mkB ls m) := bin_append (bin_rowL _ _) (bin_bitsN _ _)
theorem bin_flat {α : Type} (f : α → List Int) (h : ∀ x, Bin (f x)) (l : List α) : Bin (l.flatMap f) := by
  induction l with
  | nil => exact bin_nil
  | cons x l ih => rw [List.flatMap_cons]; exact bin_append (h x) ih
theorem bin_knd (last : Bool) (k : Nat) : Bin (knd last k) := bin_append (bin_bitsN _ _) (bin_bitsN _ _)
theorem bin_hd {k : Nat} {S D H : List Int} (h : HdIs k S D H) : Bin H := by
  rcases h with ⟨_, rfl⟩ | ⟨_, _, F, many, _, rfl⟩
  · exact bin_nil
  · unfold hdB innB
    exact bin_append (bin_bitsN _ _) (bin_append (bin_bitsN _ _) (bin_append (bin_bitsN _ _) (bin_append (bin_flat _ (fun _ => bin_bitsN _ _) _) (bin_flat _ (fun m => bin_mk F m) _))))
theorem bin_bl {k : Nat} {last : Bool} {S D H : List Int} {ts : List M.Tk} (h : HdIs k S D H) : Bin (blB k last H S D ts) := by
  unfold blB
  refine bin_append (bin_knd _ _) (bin_append (bin_hd h) ?_)
  rw [← eB_dat]
  exact bin_flat _ (fun x => by unfold eB; split <;> exact bin_mk _ _) _
theorem SDOk.read {S D F : List Int} {many : Nat} (h : SDOk S D) (cs : check S true = 0) (cd : check D true = 0) (hl : LLOk S D F many) : HOk S D F many :=
  ⟨h.s0, h.s1, h.d0, h.d1, cs, cd, h.e, hl.inn.len, hl.inn.f7, hl.inn.chk, hl.m0, hl.m1, hl.mz, hl.inn.has⟩
theorem rds_bl {k : Nat} {last : Bool} {S D H : List Int} {ts : List M.Tk} (hb : BkOk k ts S D) (hH : HdIs k S D H) : Rds (blB k last H S D ts) last ts := by
  obtain ⟨ht, he⟩ := hb.has.tok
  rcases hb.kind with ⟨rfl, rfl, rfl⟩ | ⟨rfl, hsd⟩
  · obtain ⟨_, _, rfl⟩ := kind_one hb hH
    unfold blB
    rw [List.nil_append]
    exact rds_fixed last (check_good iFix_check) (check_good iFive_check) he ht
  · rcases hH with ⟨h, _⟩ | ⟨_, _, F, many, hll, rfl⟩
    · omega
    · unfold blB
      exact rds_dynamic last (check_good hb.cs) (check_good hb.cd) he ht (fun b T p hb' hB => (hsd.read hb.cs hb.cd hll).read hb' hB)
theorem ans_block {k : Nat} {S D H : List Int} {ts : List M.Tk} (hb : BkOk k ts S D) (hH : HdIs k S D H) (hr : M.Rt ts) (h8 : M.Bt ts) (most : Nat) (hm : (M.tel ts).length ≤ most) : iAns (dataL (blB k true H S D ts)) most = (M.tel ts, (dataL (blB k true H S D ts)).length, 0) := by
  have := ans_blocks [(blB k true H S D ts, ts)] (rds_bl hb hH) (by simpa using bin_bl hH) (by simpa using hr) (by
    intro t ht
    simp at ht
    obtain ⟨i, hi, rfl⟩ := List.getElem_of_mem ht
    have := h8 i
    rwa [M.tk_in hi] at this) most (by simpa using hm)
  simpa using this
theorem DefIs.ans {zs X : List Int} {lv : Int} (h : DefIs zs lv X) (hz : ∀ x ∈ zs, 0 ≤ x ∧ x ≤ 255) : iAns X zs.length = (zs, X.length, 0) := by
  by_cases hlv : lv < 1
  · rw [h.1 hlv]
    exact ans_stored zs hz _ (Nat.le_refl _)
  · obtain ⟨ts, k, S, D, H0, H, hr, h8, htel, _, _, hb, _, hH, _, hX⟩ := h.2 (by omega)
    rcases hX with ⟨rfl, _⟩ | ⟨rfl, _⟩
    · have := ans_block hb hH hr h8 zs.length (by rw [htel]; exact Nat.le_refl _)
      rw [htel] at this
      exact this
    · exact ans_stored zs hz _ (Nat.le_refl _)
end Go.Proofs.YtlakgbckopjelabGreatDoor

/- alive, tells: contracts. -/
namespace Go.Proofs.YtlakgbckopjelabGreatDoor
set_option maxRecDepth 100000
open Go Go.RowKit
set_option linter.unusedVariables false

theorem text_lit {w : World} {g : Nat} {L : List Int} {cs : Array Value} {t : TypeId} {fr : Nat × Nat} (h : w.heap[g]? = some (.cells cs t fr)) (hc : cs = (L.map (Value.int .u8)).toArray) (hb : ∀ x ∈ L, 0 ≤ x ∧ x ≤ 255) : Text w.heap.size w (some ⟨g, 0, none⟩) L.length L := by
  refine ⟨rfl, fun i => ?_, .inr ⟨g, 0, lt_of_block h, rfl, fun i hi => ?_⟩⟩
  · by_cases hi : i < L.length
    · simp only [List.getD, List.getElem?_eq_getElem hi, Option.getD_some]
      exact hb _ (List.getElem_mem hi)
    · simp [List.getD, List.getElem?_eq_none (show L.length ≤ i by omega)]
  · subst hc
    simp [World.cell?, h, List.getD, hi]
abbrev tkA : List M.Tk := [(97, 0, 0)]
theorem fix_a : dataL (blB 1 true [] iFix iFive tkA) = [75, 4, 0] := by decide +kernel
theorem fix_none : (dataL (blB 1 true [] iFix iFive [])).length = 2 := by decide +kernel
theorem sz_none : szB 1 [] iFix iFive [] = 10 := by decide +kernel
theorem sto_a : stB [97] = [1, 1, 0, 254, 255, 97] := by rw [stB_small (by decide)]; rfl
theorem sto_none : (stB []).length = 5 := by rw [stB_small (by decide)]; rfl
theorem tk_in {w : World} {v : Array Value} (hv : v = #[.int .u8 97, .int .i64 0, .int .i64 0]) : TkIn (w.alloc (.cells v 31)) (some ⟨w.heap.size, 0, none⟩) tkA := by
  have hb : (w.alloc (.cells v 31)).heap[w.heap.size]? = some (.cells v 31 (0, 0)) := heap_new w _
  refine ⟨.inr ⟨w.heap.size, 0, lt_of_block hb, rfl, fun i hi => ?_⟩, fun b off e => ?_, fun t ht => ?_, by decide⟩
  · obtain rfl : i = 0 := by simpa using hi
    subst hv
    refine ⟨?_, ?_, ?_⟩ <;> rw [cells_of hb] <;> rfl
  · simp only [Option.some.injEq, Addr.mk.injEq, and_true] at e
    obtain ⟨rfl, _⟩ := e
    exact lt_of_block hb
  · simp at ht
    subst ht
    exact .inl ⟨rfl, by decide, by decide⟩
theorem rt_a : M.Rt tkA := fun j hj => by
  obtain rfl : j = 0 := by simpa using hj
  exact .inl ⟨rfl, rfl⟩
theorem dyn_len {S D H : List Int} {ts : List M.Tk} (hb : BkOk 2 ts S D) (hH : HdIs 2 S D H) : 29 ≤ 3 + H.length := by
  rcases hH with ⟨h, _⟩ | ⟨_, _, F, many, hll, rfl⟩
  · omega
  · have := hll.m0
    unfold hdB
    simp only [List.length_append, bitsN_length, innB_length]
    omega
theorem def_none {X : List Int} (h : DefIs [] 1 X) : X.length = 2 := by
  obtain ⟨ts, k, S, D, H0, H, hr, h8, htel, hle, _, hb, hH0, hH, hsz, hX⟩ := h.2 (by decide)
  have hts : ts = [] := List.eq_nil_of_length_eq_zero (by simpa using hle)
  subst hts
  rw [sz_none] at hsz
  have hn1 := mco_nonneg false (check_ok hb.cs).2.1 (emk [])
  have hn2 := mco_nonneg true (check_ok hb.cd).2.1 (emk [])
  rcases hb.kind with ⟨rfl, rfl, rfl⟩ | ⟨rfl, _⟩
  · obtain ⟨_, _, rfl⟩ := kind_one hb hH
    rcases hX with ⟨rfl, _⟩ | ⟨rfl, hlt⟩
    · exact fix_none
    · rw [fix_none, sto_none] at hlt; omega
  · have := dyn_len hb hH0
    unfold szB at hsz
    omega
set_option maxHeartbeats 4000000 in
theorem alive_c (w : World) (hT : Tab w) : Calls Tryz.prog 4 #[] w fun e w' => e = .returned (.bool true) ∧ Below w.heap.size w w' := by
  have h0 : 0 < w.heap.size := lt_of_cell (hT 0 (by decide))
  have HT := hide hT
  have HA1 : Hid (Calls Tryz.prog 7 #[.slice (some ⟨w.heap.size, 0, none⟩) 1 1] (w.alloc (.cells #[.int .u8 97] 5 (1, 2))) fun e w' => ∃ g c, e = .returned (.slice (some ⟨g, 0, none⟩) 6 c) ∧ OwnsB w' 0 (.slice (some ⟨g, 0, none⟩) 6 c) [1, 1, 0, 254, 255, 97] ∧ Below w.heap.size w w') := by
    have hb : Below w.heap.size w (w.alloc (.cells #[.int .u8 97] 5 (1, 2))) := (Below.refl _ w).alloc (Nat.le_refl _) _
    refine (stored_c _ (some ⟨w.heap.size, 0, none⟩) 1 [97] (text_lit (heap_new w _) rfl (by decide)) (fun e => by cases e) (by decide) (by decide)).mono ?_
    rintro e w' ⟨g, c, rfl, o, b⟩
    rw [sto_a] at o ⊢
    exact ⟨g, c, rfl, OwnsB.low o (Nat.zero_le _), hb.trans (b.mono hb.size)⟩
  have HA2 : Hid (∀ w1, Below w.heap.size w w1 → Calls Tryz.prog 8 #[.slice (some ⟨w1.heap.size, 0, none⟩) 1 1] (w1.alloc (.cells #[.int .u8 97, .int .i64 0, .int .i64 0] 31)) fun e w' => ∃ g c, e = .returned (.tuple #[.slice (some ⟨g, 0, none⟩) 3 c, .bool true]) ∧ OwnsB w' 0 (.slice (some ⟨g, 0, none⟩) 3 c) [75, 4, 0] ∧ Below w1.heap.size w1 w') := fun w1 hb1 => by
    have hb : Below w1.heap.size w1 (w1.alloc (.cells #[.int .u8 97, .int .i64 0, .int .i64 0] 31)) := (Below.refl _ w1).alloc (Nat.le_refl _) _
    have hb2 : Below w.heap.size w (w1.alloc (.cells #[.int .u8 97, .int .i64 0, .int .i64 0] 31)) := hb1.trans (hb.mono hb1.size)
    refine (fixed_yes _ (HT.out.below hb2 h0) (Nat.lt_of_lt_of_le h0 hb2.size) (some ⟨w1.heap.size, 0, none⟩) 1 tkA (tk_in rfl) rt_a).mono ?_
    rintro e w' ⟨S, D, H, g, c, hbk, _, hH, rfl, o, b⟩
    obtain ⟨rfl, rfl, rfl⟩ := kind_one hbk hH
    rw [fix_a] at o ⊢
    exact ⟨g, c, rfl, OwnsB.low o (Nat.zero_le _), hb.trans (b.mono hb.size)⟩
  have HA3 : Hid (∀ w1, Below w.heap.size w w1 → Calls Tryz.prog 9 #[.slice (some ⟨w1.heap.size, 0, none⟩) 1 1] (w1.alloc (.cells #[.int .u8 97, .int .i64 0, .int .i64 0] 31)) fun e w' => ∃ g c n, e = .returned (.tuple #[.slice (some ⟨g, 0, none⟩) n c, .bool true]) ∧ 3 < n ∧ Below w1.heap.size w1 w') := fun w1 hb1 => by
    have hb : Below w1.heap.size w1 (w1.alloc (.cells #[.int .u8 97, .int .i64 0, .int .i64 0] 31)) := (Below.refl _ w1).alloc (Nat.le_refl _) _
    have hb2 : Below w.heap.size w (w1.alloc (.cells #[.int .u8 97, .int .i64 0, .int .i64 0] 31)) := hb1.trans (hb.mono hb1.size)
    refine (dynamic_yes _ (HT.out.below hb2 h0) (Nat.lt_of_lt_of_le h0 hb2.size) (some ⟨w1.heap.size, 0, none⟩) 1 tkA (tk_in rfl) rt_a).mono ?_
    rintro e w' ⟨S, D, H, g, c, hbk, _, hH, rfl, o, b⟩
    refine ⟨g, c, _, rfl, ?_, hb.trans (b.mono hb.size)⟩
    have := dyn_len hbk hH
    rw [dataL_length]
    unfold blB
    rw [List.length_append, List.length_append, knd_length]
    omega
  have HA4 : Hid (∀ w1, Below w.heap.size w w1 → Calls Tryz.prog 5 #[.slice none 0 0, .int .i64 1] w1 fun e w' => ∃ g c, e = .returned (.slice (some ⟨g, 0, none⟩) 2 c) ∧ Below w1.heap.size w1 w') := fun w1 hb1 => by
    refine (deflate_c w1 (HT.out.below hb1 h0) (Nat.lt_of_lt_of_le h0 hb1.size) none 0 [] 1 ⟨rfl, fun i => by simp, .inl rfl⟩ (fun _ => ⟨rfl, rfl⟩) (by decide) (by decide) (by decide)).mono ?_
    rintro e w' ⟨g, c, X, rfl, o, hX, b⟩
    rw [def_none hX]
    exact ⟨g, c, rfl, b⟩
  have hcb := Lib.run_convert_bytes_const (P := Tryz.prog) w 23 5 #[.int .u8 97] 1 1 Tryz.underlying23 Tryz.underlying5
  change _ = Result.ok _ (w.alloc (.cells #[.int .u8 97] 5 (1, 2))) at hcb
  clear hT
  go_enter Tryz.func4, Tryz.ntmps4
  go_upto_region 2 with (go_at_call 7; refine HA1.out.mono ?_; rintro e w1 ⟨g1, c1, rfl, o1, b1⟩; have O1 := hide o1; have B1 := hide b1; have H2 := hide (HA2.out w1 b1); clear o1 b1 HA1 HA2)
  go_upto_region 3 with (go_at_call 8; refine H2.out.mono ?_; rintro e w2 ⟨g2, c2, rfl, o2, b2⟩; have O2 := hide o2; have O12 := hide (OwnsB.below O1.out b2); have B2 := hide (B1.out.trans (b2.mono B1.out.size)); have H3 := hide (HA3.out w2 B2.out); clear o2 b2 H2 HA3 O1)
  go_upto_region 4 with (go_at_call 9; refine H3.out.mono ?_; rintro e w3 ⟨g3, c3, n3, rfl, hn3, b3⟩; have O13 := hide (OwnsB.below O12.out b3); have O23 := hide (OwnsB.below O2.out b3); have B3 := hide (B2.out.trans (b3.mono B2.out.size)); have H4 := hide (HA4.out w3 B3.out); clear b3 H3 HA4 O12 O2)
  have k1 : (convert 23 9 (.slice (some ⟨g1, 0, none⟩) 6 c1)).run Tryz.prog w3 = .ok (.string ⟨#[1, 1, 0, 254, 255, 97]⟩) w3 := conv_own O13.out
  have k2 : (convert 23 9 (.slice (some ⟨g2, 0, none⟩) 3 c2)).run Tryz.prog w3 = .ok (.string ⟨#[75, 4, 0]⟩) w3 := conv_own O23.out
  have hn : (3 : Int) < (n3 : Int) := by omega
  clear O13 O23
  go_wp2_with (go_at_call 5; refine H4.out.mono ?_; rintro e w4 ⟨g4, c4, rfl, b4⟩; have B4 := hide (B3.out.trans (b4.mono B3.out.size)); clear b4 H4)
  go_ret
  exact ⟨rfl, B4.out⟩
/-- A stream that is read as the data, held against it. -/
theorem tells_yes (w : World) (a : Option Addr) (cx cz : Nat) (X zs : List Int) (b : Option Addr) (hX : Text w.heap.size w a X.length X) (hZ : Text w.heap.size w b zs.length zs) (hl : X.length ≤ 100000) (hm : zs.length ≤ 1000000) (h : iAns X zs.length = (zs, X.length, 0)) :
    Calls Tryz.prog 6 #[.slice a X.length cx, .slice b zs.length cz] w fun e w' => e = .returned (.bool true) ∧ Below w.heap.size w w' := by
  have hI := rinf_c a cx X (zs.length : Int) w hX hl (by omega)
  rw [Int.toNat_natCast, h] at hI
  have HI := hide hI
  have HZ := hide hZ
  clear hI h hX hZ
  go_enter Tryz.func6, Tryz.ntmps6
  go_wp2_with (go_at_call 13; refine HI.out.mono ?_; rintro e w1 ⟨o, oc, rfl, ow, b1⟩; have k1 : (convert 23 9 (.slice o zs.length oc)).run Tryz.prog w1 = .ok (.string (strOfNums zs)) w1 := conv_own ow; have k2 : (convert 23 9 (.slice b zs.length cz)).run Tryz.prog w1 = .ok (.string (strOfNums zs)) w1 := conv_text (HZ.out.kept (Kept.of_below b1) (fun x hx e => by omega)); have B1 := hide b1; clear ow b1 HI)
  go_ret
  exact ⟨rfl, B1.out⟩
end Go.Proofs.YtlakgbckopjelabGreatDoor

/- PROVED: where the listed variable reads as the program's text lays it, the order of lengths lies in its variable; the world that the program's own start leaves is such a world. How the laws' arguments are opened. -/
namespace Go.Proofs.YtlakgbckopjelabGreatDoor
set_option maxRecDepth 100000
open Go Go.RowKit
set_option linter.unusedVariables false

/-- The name of the listed variable, as the row has it. -/
def vnO : String := ((Rows.deflateLikeRow.laid.map Prod.fst)[0]?).getD ""
theorem gO : Tryz.prog.globalNamed vnO = some 0 := by kernel_rfl
theorem tO : (Tryz.prog.globals[0]?).map (·.type) = some 139 := by kernel_rfl
theorem tabIs_of_vars {P : Program} {W : World} {name : String} {k : IntKind} {zs : List Int} {rest : List (String × DataW Unit)} {g : Nat} {t e : TypeId} {n : Nat} {ps : List MemPlace}
    (hg : P.globalNamed name = some g) (hty : (P.globals[g]?).map (·.type) = some t) (ht : P.underlying t = some (.array n e)) (he : P.underlying e = some (.int k)) (hce : P.cellsOf e = 1) (hct : P.cellsOf t = n)
    (h : DataW.LaidVars P W ((name, Lib.tabData k zs) :: rest) ps) : Lib.TabIs P W name k zs := by
  obtain ⟨g', t', cs, fuel, p, q, hg', ht', hvar, hd, _, _⟩ := h
  obtain rfl := Option.some.inj (hg.symm.trans hg')
  obtain rfl := Option.some.inj (hty.symm.trans ht')
  unfold Lib.TabIs
  rw [hvar, ← Lib.cells_of_tab ht he hce hct hd]
theorem laid_eq : ∃ r, Rows.deflateLikeRow.laid = (vnO, Lib.tabData .i64 (iOrd.map Int.ofNat)) :: r := ⟨_, rfl⟩
theorem cells19 : Tryz.prog.cellsOf 139 = 19 := by kernel_rfl
theorem tab_of_laid {W : World} (h : laidMetH Tryz.prog Rows.deflateLikeRow.laid W) : Tab W := by
  rw [MakeChecks.laidMetH_plain _ _ _ (by kernel_rfl)] at h
  obtain ⟨r, he⟩ := laid_eq
  rw [he] at h
  obtain ⟨ps, hl, _⟩ := h
  have hO := tabIs_of_vars gO tO Tryz.underlying139 Tryz.underlying3 Tryz.cells3 cells19 hl
  intro i hi
  have := hO.cell gO i (by rw [List.length_map]; exact hi)
  rw [this]
  congr 2
  have hi' : i < iOrd.length := hi
  simp [List.getD, hi']
theorem wit_met (os : Os) (args : Array Value) : laidMetH Tryz.prog Rows.deflateLikeRow.laid ((World.laidAll Tryz.prog os Rows.deflateLikeRow.laid).forCall (fun _ _ => 0) ⟨#[], args, []⟩).memory := by
  rw [MakeChecks.laidMetH_plain _ _ _ (by kernel_rfl)]
  exact laidMet_laidAll _ (by kernel_rfl) (by kernel_rfl)

section
open Go.ChangeShapes Go.WideShapes Go.ChangeAt
variable {H : Type} {enc : TypeId × Value → H} {W : World}
/-- Bytes that come in. -/
def BIn (W : World) (a : Option Addr) (len cap : Nat) (zs : List Int) : Prop := Text W.heap.size W a len zs ∧ len ≤ cap ∧ cap ≤ 9223372036854775807 ∧ (a = none → len = 0 ∧ cap = 0)
theorem trod_bytes {fuel : Nat} {cs : List Value} {x : DataW H × List MemPlace} (h : DataW.trod enc Tryz.prog W 0 (fun _ => true) true fuel 23 cs = some x) :
    ∃ a len cap zs, cs = [.slice a len cap] ∧ BIn W a len cap zs ∧ ((x.1 = .nil ∧ len = 0) ∨ ∃ els sp, x.1 = .slice els sp ∧ els.length = len) := by
  rcases open_ints Tryz.underlying23 Tryz.underlying5 Tryz.cells5 h with ⟨rfl, rfl⟩ | ⟨a, l, c, zs, rfl, _, hl, hm, hz, rfl, hcell, hwz⟩
  · exact ⟨none, 0, 0, [], rfl, ⟨⟨rfl, by intro i; simp, .inl rfl⟩, Nat.le_refl _, by omega, fun _ => ⟨rfl, rfl⟩⟩, .inl ⟨rfl, rfl⟩⟩
  · have hz' : zs.length = c := by simpa using hz
    refine ⟨some a, l, c, zs.take l, rfl, ⟨⟨by simp; omega, ?_, ?_⟩, hl, by unfold maxLen at hm; omega, fun e => by simp at e⟩, .inr ⟨_, _, rfl, by simp [lits]; omega⟩⟩
    · intro i
      by_cases hi : i < (zs.take l).length
      · have hm := List.getElem_mem hi
        have hw := bounds_u8 (hwz _ (List.mem_of_mem_take hm))
        simp only [List.getD, List.getElem?_eq_getElem hi, Option.getD_some]
        omega
      · simp [List.getD, List.getElem?_eq_none (show (zs.take l).length ≤ i by omega)]
    · by_cases h0 : l = 0
      · exact .inl h0
      · obtain ⟨b, off, spot⟩ := a
        have hc := hcell 0 (by omega)
        have hspot : spot = none := by simpa [Addr.add] using World.cell?_spot hc
        subst hspot
        refine .inr ⟨b, off, ?_, rfl, fun i hi => ?_⟩
        · have := lt_of_cell hc
          simpa [Addr.add] using this
        · have := hcell i (by omega)
          have e : ((⟨b, off, none⟩ : Addr).add i) = ⟨b, off + i, none⟩ := by unfold Addr.add; split <;> simp_all
          rw [e] at this
          rw [this]
          simp [List.getD, hi]
theorem open_bytes {ts : List TypeId} {ds : List (DataW H)} {j : Nat} {a : Option Addr} {len cap : Nat} {d : DataW H} {p : List MemPlace} (hsz : (DataW.weightsEach Tryz.prog ts ds).all (· ≤ reachBytes) = true) (ht : ts[j]? = some 23) (hd : ds[j]? = some d)
    (h : DataW.Trod enc Tryz.prog W 0 (fun _ => true) true 23 (.slice a len cap) d p) : ∃ zs, BIn W a len cap zs ∧ len ≤ 140737488351232 := by
  obtain ⟨fuel, hf⟩ := h
  obtain ⟨a', len', cap', zs, hcs, htx, hx⟩ := trod_bytes hf
  simp [Value.cells] at hcs
  obtain ⟨rfl, rfl, rfl⟩ := hcs
  refine ⟨zs, htx, ?_⟩
  rcases hx with ⟨_, h0⟩ | ⟨els, sp, hx, hl⟩
  · omega
  · simp only at hx
    subst hx
    have := sized_slice hsz ht hd Tryz.underlying23
    rw [Tryz.bytes5] at this
    simp only [reachBytes] at this
    omega
theorem bulk_one (d : DataW H) : 1 ≤ Rows.uptoBulk d := by
  cases d with
  | lit l => cases l <;> simp [Rows.uptoBulk]
  | nil => simp [Rows.uptoBulk]
  | ptr d => simp [Rows.uptoBulk]
  | slice elems spare => simp [Rows.uptoBulk]
  | agg parts => simp [Rows.uptoBulk]
  | iface t d => simp [Rows.uptoBulk]
  | map entries => simp [Rows.uptoBulk]
  | held h => simp [Rows.uptoBulk]
theorem bulk_len (l : List (DataW H)) : l.length ≤ Rows.uptoBulkAll l := by
  induction l with
  | nil => simp [Rows.uptoBulkAll]
  | cons x r ih => have := bulk_one x; simp only [Rows.uptoBulkAll, List.length_cons]; omega
theorem open_small {a : Option Addr} {len cap : Nat} {d : DataW H} {p : List MemPlace} (hk : Rows.uptoBulk d ≤ 1048576) (h : DataW.Trod enc Tryz.prog W 0 (fun _ => true) true 23 (.slice a len cap) d p) : ∃ zs, BIn W a len cap zs ∧ len ≤ 1048576 := by
  obtain ⟨fuel, hf⟩ := h
  obtain ⟨a', len', cap', zs, hcs, htx, hx⟩ := trod_bytes hf
  simp [Value.cells] at hcs
  obtain ⟨rfl, rfl, rfl⟩ := hcs
  refine ⟨zs, htx, ?_⟩
  rcases hx with ⟨_, h0⟩ | ⟨els, sp, hx, hl⟩
  · omega
  · simp only at hx
    subst hx
    have := bulk_len els
    simp only [Rows.uptoBulk] at hk
    omega
end
theorem BIn.stay {W W' : World} {a : Option Addr} {len cap : Nat} {zs : List Int} (h : BIn W a len cap zs) (k : Below W.heap.size W W') : BIn W' a len cap zs :=
  ⟨(h.1.kept (Kept.of_below k) (fun b hb e => by omega)).up k.size, h.2⟩
theorem Tab.pos {w : World} (h : Tab w) : 0 < w.heap.size := lt_of_cell (h 0 (by decide))
theorem Tab.on {w w' : World} (h : Tab w) (k : Below w.heap.size w w') : Tab w' := h.below k h.pos
end Go.Proofs.YtlakgbckopjelabGreatDoor

/- Deflate of data that came in, and what it is read as. -/
namespace Go.Proofs.YtlakgbckopjelabGreatDoor
set_option maxRecDepth 100000
open Go Go.RowKit

/-- The bytes of what Deflate made are bytes. -/
theorem DefIs.bytes {zs X : List Int} {lv : Int} (h : DefIs zs lv X) (hz : ∀ x ∈ zs, 0 ≤ x ∧ x ≤ 255) (i : Nat) : 0 ≤ X.getD i 0 ∧ X.getD i 0 ≤ 255 := by
  have key : ∀ Y : List Int, (∀ x ∈ Y, 0 ≤ x ∧ x ≤ 255) → 0 ≤ Y.getD i 0 ∧ Y.getD i 0 ≤ 255 := fun Y hY => by
    by_cases hi : i < Y.length
    · simp only [List.getD, List.getElem?_eq_getElem hi, Option.getD_some]
      exact hY _ (List.getElem_mem hi)
    · simp [List.getD, List.getElem?_eq_none (show Y.length ≤ i by omega)]
  by_cases hlv : lv < 1
  · rw [h.1 hlv]; exact key _ (stB_bytes _ zs rfl hz)
  · obtain ⟨ts, k, S, D, H0, H, _, _, _, _, _, _, _, hH, _, hX⟩ := h.2 (by omega)
    rcases hX with ⟨rfl, _⟩ | ⟨rfl, _⟩
    · exact dataL_bytes _ (bin_bl hH) i
    · exact key _ (stB_bytes _ zs rfl hz)
theorem DefIs.len {zs X : List Int} {lv : Int} (h : DefIs zs lv X) : X.length ≤ 2 * zs.length + 5 := by
  have hs := stB_len _ zs rfl
  by_cases hlv : lv < 1
  · rw [h.1 hlv]; exact hs
  · obtain ⟨ts, k, S, D, H0, H, _, _, _, _, _, _, _, _, _, hX⟩ := h.2 (by omega)
    rcases hX with ⟨rfl, hl⟩ | ⟨rfl, _⟩ <;> omega
theorem owns_text {w : World} {b g n c : Nat} {X : List Int} (h : OwnsB w b (.slice (some ⟨g, 0, none⟩) n c) X) (hb : ∀ i, 0 ≤ X.getD i 0 ∧ X.getD i 0 ≤ 255) : Text w.heap.size w (some ⟨g, 0, none⟩) X.length X := by
  rcases h.2 with ⟨hv, _⟩ | ⟨g', cap, cur, hv, hg, hh, _, _, _, h4⟩
  · simp at hv
  · simp only [Value.slice.injEq, Option.some.injEq, Addr.mk.injEq, and_true] at hv
    obtain ⟨rfl, _, _⟩ := hv
    refine ⟨rfl, hb, .inr ⟨g, 0, lt_of_block hh, rfl, fun i hi => ?_⟩⟩
    rw [Nat.zero_add, cells_of hh]
    have e : (cur.toList.take (X.length * 1))[i]? = (X.map (Value.int .u8))[i]? := by rw [h4]
    rw [List.getElem?_take_of_lt (by omega), Array.getElem?_toList] at e
    rw [e]
    simp [List.getD, hi]
/-- Deflate of data that came in, and what it is read as. -/
theorem back_in {w : World} {a : Option Addr} {len cap : Nat} {zs : List Int} (h : BIn w a len cap zs) (hT : Tab w) (hl : len ≤ 4000) (lv : Int) :
    Calls Tryz.prog 5 #[.slice a len cap, .int .i64 lv] w fun e w' => ∃ g c n, e = .returned (.slice (some ⟨g, 0, none⟩) n c) ∧ Below w.heap.size w w' ∧ Calls Tryz.prog 6 #[.slice (some ⟨g, 0, none⟩) n c, .slice a len cap] w' fun e w'' => e = .returned (.bool true) ∧ Below w'.heap.size w' w'' := by
  have hzl : zs.length = len := h.1.1
  subst hzl
  have hz : ∀ x ∈ zs, 0 ≤ x ∧ x ≤ 255 := h.1.mem
  refine (deflate_c w hT hT.pos a cap zs lv h.1 h.2.2.2 h.2.1 h.2.2.1 (by omega)).mono ?_
  rintro e w' ⟨g, c, X, rfl, o, hX, b⟩
  have hlx := hX.len
  exact ⟨g, c, X.length, rfl, b, tells_yes w' (some ⟨g, 0, none⟩) c cap X zs a (owns_text o (hX.bytes hz)) ((h.stay b).1) (by omega) (by omega) (hX.ans hz)⟩
end Go.Proofs.YtlakgbckopjelabGreatDoor
