/- huff's Next: contract. -/
import Derived.Test.YtibolmgijaploaaDoorHRef3
import Derived.Test.YtibolmgijaploaaDoorReadBits
namespace Go.Proofs.YtibolmgijaploaaDoor
set_option maxRecDepth 100000
open Go Go.RowKit

/-- The bits of bytes from p on. -/
def bz (zs : List Int) (p i : Nat) : Nat := (bitAt zs (p + i)).toNat
theorem bz_le (zs : List Int) (p i : Nat) : bz zs p i ≤ 1 := by have := bitAt_bd zs (p + i); unfold bz; omega
theorem bz_int (zs : List Int) (p i : Nat) : (bz zs p i : Int) = bitAt zs (p + i) := by have := bitAt_bd zs (p + i); unfold bz; omega

theorem code_join (v x : Nat) (hv : v ≤ 1000000) (hx : x ≤ 1) : bits .or .i64 ((v : Int) * 2) (x : Int) = ((2 * v + x : Nat) : Int) := by
  have := or_add_low (x : Int) (v : Int) 1 (by omega) (by omega) (by omega) (by omega) (by omega)
  simp only [Int.pow_one] at this
  rw [this]; push_cast; omega

theorem bits1_yes (B br : Nat) (a : Option Addr) (len cap p : Nat) (zs : List Int) (w : World) (hb : w.heap[br]? = some (.cells #[.slice a len cap, .int .i64 (p : Int)] 54 (0, 0)))
    (ht : Text B w a len zs) (hl : len * 8 ≤ 9223372036854775000) (hp : p + 1 ≤ len * 8) :
    Calls Tryd.prog 31 #[.pointer (some ⟨br, 0, none⟩), .int .i64 1] w fun e w' => e = .returned (.tuple #[.int .i64 (bz zs p 0 : Int), .bool true]) ∧ w'.heap[br]? = some (.cells #[.slice a len cap, .int .i64 ((p + 1 : Nat) : Int)] 54 (0, 0)) ∧ Kept (fun k => k = br) w w' := by
  have h := bits_yes B br a len cap p 1 zs w hb ht hl (by omega) hp
  have e : bitsVal zs p 1 = (bz zs p 0 : Int) := by rw [bz_int]; simp [bitsVal]
  rw [e] at h
  exact h

/-- What stands while a code is read: n bits are taken. -/
structure Nx (lo hi bc gl gc : Nat) (vo : Value) (N : Nat) (ls : List Int) (br : Nat) (a : Option Addr) (len cap p : Nat) (zs : List Int) (B : Nat) (w wr : World) (n : Nat) : Prop where
  code : CodeAt lo hi wr bc gl gc vo N ls
  rd : wr.heap[br]? = some (.cells #[.slice a len cap, .int .i64 ((p + n : Nat) : Int)] 54 (0, 0))
  tx : Text B wr a len zs
  kept : Kept (fun k => k = br) w wr
  no : ∀ m, m ≤ n → ¬ Hit ls (bz zs p) m
  le : n ≤ N
  av : p + n ≤ len * 8

theorem no_zero (ls : List Int) (b : Nat → Nat) : ∀ m, m ≤ 0 → ¬ Hit ls b m := fun m hm h => by
  have := hit_pos h; omega

theorem bz_at (zs : List Int) (p n : Nat) : bz zs (p + n) 0 = bz zs p n := by unfold bz; rfl

set_option maxHeartbeats 2000000 in
set_option maxRecDepth 100000 in
theorem next_any (lo hi bc gl gc : Nat) (vo : Value) (N : Nat) (ls : List Int) (br : Nat) (a : Option Addr) (len cap p : Nat) (zs : List Int) (B : Nat) (w : World) (hc : CodeAt lo hi w bc gl gc vo N ls) (hg : Good ls) (h3 : ls.length ≤ 320)
    (hr : w.heap[br]? = some (.cells #[.slice a len cap, .int .i64 (p : Int)] 54 (0, 0))) (ht : Text B w a len zs) (hl : len * 8 ≤ 9223372036854775000) (hp : p ≤ len * 8) (hbr : br < lo ∨ hi ≤ br) (hBr : B ≤ br) :
    Calls Tryd.prog 66 #[.pointer (some ⟨bc, 0, none⟩), .pointer (some ⟨br, 0, none⟩)] w fun e w' => ∃ s n err, NextIs ls (bz zs p) (len * 8 - p) N s n err ∧ e = .returned (.tuple #[.int .i64 (s : Int), .int .i64 err]) ∧ (∃ q : Nat, w'.heap[br]? = some (.cells #[.slice a len cap, .int .i64 (q : Int)] 54 (0, 0)) ∧ q ≤ len * 8 ∧ (err = 0 → q = p + n)) ∧ Kept (fun k => k = br) w w' := by
  have HS : Hid (Nx lo hi bc gl gc vo N ls br a len cap p zs B w w 0) := ⟨hc, hr, ht, Kept.refl _ _, no_zero ls _, by omega, by omega⟩
  have HG : Hid (Good ls) := hg
  have HLo : Hid (Longest ls N) := hc.long
  have hN := hc.long.le
  have HBR : Hid (∀ b, lo ≤ b → b < hi → ¬ b = br) := fun b h1 h2 e => by omega
  clear hc hr ht hg
  go_enter Tryd.func66, Tryd.ntmps66
  go_wp2
  go_loopw [6, 7, 8, 9] (fun s6 s7 s8 s9 wr => ∃ n : Nat, s9 = .int .i64 ((n : Int) + 1) ∧ s6 = .int .i64 (vl (bz zs p) n : Int) ∧ s7 = .int .i64 (fc ls (n + 1) : Int) ∧ s8 = .int .i64 (sh ls n : Int) ∧ Nx lo hi bc gl gc vo N ls br a len cap p zs B w wr n) (fun _ _ _ s9 _ => 16 - (intOf s9).toNat)
  case atStart => exact ⟨0, rfl, rfl, rfl, rfl, HS.out⟩
  case round =>
    obtain ⟨n, rfl, rfl, rfl, rfl, hn⟩ := hrel
    clear HS
    have c19 := cells_of hn.code.block 19
    rw [codeA_19] at c19
    have hle := hn.le
    have hav := hn.av
    have HN : Hid _ := hn
    by_cases hlt : n < N
    · have hv := vl_lt (bz zs p) (bz_le zs p) n
      have hp15 : 2 ^ n ≤ 2 ^ 15 := Nat.pow_le_pow_right (by decide) (by omega)
      have hp16 : 2 ^ (n + 1) ≤ 2 ^ 15 := Nat.pow_le_pow_right (by decide) (by omega)
      by_cases hmore : p + n + 1 ≤ len * 8
      · have hup := up_le ls HG.out.le (n + 1) (by omega)
        have hsl := sh_le ls h3 n (by omega)
        have hct := ct_le ls (n + 1)
        have hb1 := bz_le zs p n
        have HV : Hid (vl (bz zs p) (n + 1) = 2 * vl (bz zs p) n + bz zs p n) := rfl
        have HNB : Hid (fc ls (n + 1) ≤ vl (bz zs p) (n + 1)) := not_below ls (bz zs p) (n + 1) (fun k hk => hn.no k (by omega))
        have hj := code_join (vl (bz zs p) n) (bz zs p n) (by omega) hb1
        have HBits : Hid (Calls Tryd.prog 31 #[.pointer (some ⟨br, 0, none⟩), .int .i64 1] wr fun e w' => e = .returned (.tuple #[.int .i64 (bz zs p n : Int), .bool true]) ∧ w'.heap[br]? = some (.cells #[.slice a len cap, .int .i64 ((p + n + 1 : Nat) : Int)] 54 (0, 0)) ∧ Kept (fun k => k = br) wr w') := by
          have := bits1_yes B br a len cap (p + n) zs wr hn.rd hn.tx hl (by omega)
          rw [bz_at] at this
          exact this
        have HF : Hid (fc ls (n + 1 + 1) = 2 * (fc ls (n + 1) + ct ls (n + 1))) := rfl
        have HSH : Hid (sh ls (n + 1) = sh ls n + ct ls (n + 1)) := rfl
        rw [← HV.out] at hj
        generalize vl (bz zs p) n = V0 at hj hv
        generalize bz zs p n = X at hj hb1 HBits
        have hvb : vl (bz zs p) (n + 1) ≤ 32768 := by have := vl_lt (bz zs p) (bz_le zs p) (n + 1); omega
        have hlt' : (n : Int) + 1 ≤ N := by omega
        have hV0 : V0 ≤ 32768 := by omega
        have hfc : fc ls (n + 1) ≤ 32768 := by omega
        have hsl' : sh ls n ≤ 4800 := by omega
        have hct' : ct ls (n + 1) ≤ 320 := by omega
        clear hv hp15 hp16 hup hsl hct hn HV
        by_cases hhit : vl (bz zs p) (n + 1) < fc ls (n + 1) + ct ls (n + 1)
        · obtain ⟨s, hs, hsl, hcd⟩ := hit_sym (ls := ls) (b := bz zs p) (n := n + 1) ⟨HNB.out, hhit⟩
          have hrk : rk ls s = vl (bz zs p) (n + 1) - fc ls (n + 1) := by
            have : cd ls s = fc ls (ln ls s).toNat + rk ls s := rfl
            rw [hsl, Int.toNat_natCast] at this
            omega
          have hod := od_at ls n s hs hsl 15 (by omega)
          have HR : Hid (NextIs ls (bz zs p) (len * 8 - p) N s (n + 1) 0) := .inl ⟨rfl, by omega, hs, by omega, hsl, hcd⟩
          obtain ⟨ao, co, hvo, hform⟩ := HN.out.code.ord.form
          have hol : sh ls n + rk ls s < ((od ls 15).map (fun (x : Nat) => (x : Int))).length := by
            rw [List.length_map]
            rcases Nat.lt_or_ge (sh ls n + rk ls s) (od ls 15).length with h' | h'
            · exact h'
            · rw [List.getElem?_eq_none h'] at hod; simp at hod
          obtain ⟨g, hg1, hg2, hg3, rfl, hcell⟩ := hform (by omega)
          have hci := hcell _ hol
          have hgv : ((od ls 15).map (fun (x : Nat) => (x : Int))).getD (sh ls n + rk ls s) 0 = (s : Int) := by
            simp [List.getD, hod]
          rw [hgv, hrk] at hci
          have hgne : g ≠ br := HBR.out g hg2 (HN.out.code.ordlt g hg1)
          have HCI : Hid (wr.cell? ⟨g, sh ls n + (vl (bz zs p) (n + 1) - fc ls (n + 1)), none⟩ = some (.int .i64 (s : Int))) := hci
          rw [hrk] at hol
          generalize ((od ls 15).map (fun (x : Nat) => (x : Int))).length = OL at hvo hol
          have hbcn := HBR.out bc HN.out.code.inb.1 HN.out.code.inb.2
          have hnb := HNB.out
          subst hvo
          clear hrk hod hsl hcd hform hcell hci hgv hg1
          generalize hVe : vl (bz zs p) (n + 1) = V at hj hvb hhit hnb hol HCI HNB
          generalize fc ls (n + 1) = F at hfc hhit hnb hol HCI HNB HF ⊢
          generalize sh ls n = S at hsl' hol HCI HSH ⊢
          have HVe : Hid (vl (bz zs p) (n + 1) = V) := hVe
          obtain ⟨D, hD⟩ : ∃ D, D = V - F := ⟨_, rfl⟩
          have hDi : (S : Int) + V - F = ((S + D : Nat) : Int) := by omega
          rw [← hD] at HCI hol
          have hVF : (V : Int) - F < (ct ls (n + 1) : Int) := by omega
          have hsd : ((S + D : Nat) : Int) < (OL : Int) := by omega
          clear hVe hD hhit HSH HF HNB
          go_wp2_with (go_at_call 31; refine HBits.out.mono ?_; rintro e w1 ⟨rfl, hb2, hk2⟩; have kb := hk2.heap HN.out.code.block hbcn; have d16 := cells_of kb 16; rw [codeA_16] at d16; have dn := cells_of kb (n + 1); rw [codeA_low _ _ _ _ _ (by omega) (by omega)] at dn; have dg := (hk2.cell (p := ⟨g, S + D, none⟩) hg3 hgne).trans HCI.out; have HB2 : Hid (w1.heap[br]? = some (.cells #[.slice a len cap, .int .i64 ((p + n + 1 : Nat) : Int)] 54 (0, 0))) := hb2; have HK2 : Hid (Kept (fun k => k = br) wr w1) := hk2; clear hb2 hk2 kb)
          go_ret2
          exact ⟨s, n + 1, 0, HR.out, rfl, ⟨p + n + 1, HB2.out, by omega, fun _ => by omega⟩, HN.out.kept.trans HK2.out (fun _ _ h => h)⟩
        · have hbcn := HBR.out bc HN.out.code.inb.1 HN.out.code.inb.2
          have hVF : ¬ (vl (bz zs p) (n + 1) : Int) - (fc ls (n + 1) : Int) < (ct ls (n + 1) : Int) := by omega
          have HNO : Hid (∀ m, m ≤ n + 1 → ¬ Hit ls (bz zs p) m) := fun m hm => by
            by_cases e : m = n + 1
            · subst e; intro hh; exact hhit hh.2
            · exact HN.out.no m (by omega)
          clear hhit HNB
          have HVe : Hid (∃ V, V = vl (bz zs p) (n + 1)) := ⟨_, rfl⟩
          go_wp2_with (go_at_call 31; refine HBits.out.mono ?_; rintro e w1 ⟨rfl, hb2, hk2⟩; have kb := hk2.heap HN.out.code.block hbcn; have dn := cells_of kb (n + 1); rw [codeA_low _ _ _ _ _ (by omega) (by omega)] at dn; have HB2 : Hid (w1.heap[br]? = some (.cells #[.slice a len cap, .int .i64 ((p + n + 1 : Nat) : Int)] 54 (0, 0))) := hb2; have HK2 : Hid (Kept (fun k => k = br) wr w1) := hk2; clear hb2 hk2 kb)
          go_roundw
          case rel =>
            refine ⟨n + 1, by go_num, rfl, by rw [HF.out]; go_num, by rw [HSH.out]; go_num, ⟨HN.out.code.kept HK2.out HBR.out, HB2.out, HN.out.tx.kept HK2.out (fun b hb e => by omega), HN.out.kept.trans HK2.out (fun _ _ h => h), HNO.out, by omega, by omega⟩⟩
          case measure => simp [intOf]; omega
      · have HBits : Hid (Calls Tryd.prog 31 #[.pointer (some ⟨br, 0, none⟩), .int .i64 1] wr fun e w' => e = .returned (.tuple #[.int .i64 0, .bool false]) ∧ ∃ k, w' = wr.drewN k) :=
          bits_no br a len cap (p + n) 1 wr hn.rd hl hn.av (.inr (.inr (by omega)))
        have HR : Hid (NextIs ls (bz zs p) (len * 8 - p) N 0 0 42) := .inr ⟨rfl, rfl, fun m hm => hn.no m (by omega), .inl ⟨by omega, rfl⟩⟩
        have hlt' : (n : Int) + 1 ≤ N := by omega
        clear hv hp15 hp16 hn
        go_wp2_with (go_at_call 31; refine HBits.out.mono ?_; rintro e w1 ⟨rfl, q, rfl⟩)
        go_ret2
        exact ⟨0, 0, 42, HR.out, rfl, ⟨p + n, HN.out.rd, hav, fun h => by simp at h⟩, HN.out.kept.drewN q⟩
    · obtain rfl : n = N := by omega
      have HR : Hid (NextIs ls (bz zs p) (len * 8 - p) n 0 0 43) := by
        refine .inr ⟨rfl, rfl, fun m hm => ?_, .inr ⟨by omega, rfl⟩⟩
        by_cases e : m ≤ n
        · exact hn.no m e
        · intro hh
          have := HLo.out.zero m (by omega)
          unfold Hit at hh; omega
      clear hn
      go_wp2
      go_ret2
      exact ⟨0, 0, 43, HR.out, rfl, ⟨p + n, HN.out.rd, hav, fun h => by simp at h⟩, HN.out.kept⟩
end Go.Proofs.YtibolmgijaploaaDoor
