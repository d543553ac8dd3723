/- Several texts, laid together: HNext, PState. -/
import Derived.Test.YtibolmgijaploaaDoorG08ISpec
import Derived.Test.YtibolmgijaploaaDoorG11ReadBits
import Derived.Test.YtibolmgijaploaaDoorG07RefBytes
import Derived.Handy
/- huff's Next: contract. -/
namespace Go.Proofs.YtibolmgijaploaaDoor
set_option maxRecDepth 100000
open Go Go.RowKit

/-- The bits of bytes from p on. -/
def bz (zs : List Int) (p i : Nat) : Nat := (bitAt zs (p + i)).toNat
theorem bz_le (zs : List Int) (p i : Nat) : bz zs p i ≤ 1 := by have := bitAt_bd zs (p + i); unfold bz; omega
theorem bz_int (zs : List Int) (p i : Nat) : (bz zs p i : Int) = bitAt zs (p + i) := by have := bitAt_bd zs (p + i); unfold bz; omega

theorem code_join (v x : Nat) (hv : v ≤ 1000000) (hx : x ≤ 1) : bits .or .i64 ((v : Int) * 2) (x : Int) = ((2 * v + x : Nat) : Int) := by
  have := or_add_low (x : Int) (v : Int) 1 (by omega) (by omega) (by omega) (by omega) (by omega)
  simp only [Int.pow_one] at this
  rw [this]; push_cast; omega

theorem bits1_yes (B br : Nat) (a : Option Addr) (len cap p : Nat) (zs : List Int) (w : World) (hb : w.heap[br]? = some (.cells #[.slice a len cap, .int .i64 (p : Int)] 54 (0, 0)))
    (ht : Text B w a len zs) (hl : len * 8 ≤ 9223372036854775000) (hp : p + 1 ≤ len * 8) :
    Calls Tryd.prog 31 #[.pointer (some ⟨br, 0, none⟩), .int .i64 1] w fun e w' => e = .returned (.tuple #[.int .i64 (bz zs p 0 : Int), .bool true]) ∧ w'.heap[br]? = some (.cells #[.slice a len cap, .int .i64 ((p + 1 : Nat) : Int)] 54 (0, 0)) ∧ Kept (fun k => k = br) w w' := by
  have h := bits_yes B br a len cap p 1 zs w hb ht hl (by omega) hp
  have e : bitsVal zs p 1 = (bz zs p 0 : Int) := by rw [bz_int]; simp [bitsVal]
  rw [e] at h
  exact h

/-- What stands while a code is read: n bits are taken. -/
structure Nx (lo hi bc gl gc : Nat) (vo : Value) (N : Nat) (ls : List Int) (br : Nat) (a : Option Addr) (len cap p : Nat) (zs : List Int) (B : Nat) (w wr : World) (n : Nat) : Prop where
  code : CodeAt lo hi wr bc gl gc vo N ls
  rd : wr.heap[br]? = some (.cells #[.slice a len cap, .int .i64 ((p + n : Nat) : Int)] 54 (0, 0))
  tx : Text B wr a len zs
  kept : Kept (fun k => k = br) w wr
  no : ∀ m, m ≤ n → ¬ Hit ls (bz zs p) m
  le : n ≤ N
  av : p + n ≤ len * 8

theorem no_zero (ls : List Int) (b : Nat → Nat) : ∀ m, m ≤ 0 → ¬ Hit ls b m := fun m hm h => by
  have := hit_pos h; omega

theorem bz_at (zs : List Int) (p n : Nat) : bz zs (p + n) 0 = bz zs p n := by unfold bz; rfl

set_option maxHeartbeats 2000000 in
set_option maxRecDepth 100000 in
theorem next_any (lo hi bc gl gc : Nat) (vo : Value) (N : Nat) (ls : List Int) (br : Nat) (a : Option Addr) (len cap p : Nat) (zs : List Int) (B : Nat) (w : World) (hc : CodeAt lo hi w bc gl gc vo N ls) (hg : Good ls) (h3 : ls.length ≤ 320)
    (hr : w.heap[br]? = some (.cells #[.slice a len cap, .int .i64 (p : Int)] 54 (0, 0))) (ht : Text B w a len zs) (hl : len * 8 ≤ 9223372036854775000) (hp : p ≤ len * 8) (hbr : br < lo ∨ hi ≤ br) (hBr : B ≤ br) :
    Calls Tryd.prog 66 #[.pointer (some ⟨bc, 0, none⟩), .pointer (some ⟨br, 0, none⟩)] w fun e w' => ∃ s n err, NextIs ls (bz zs p) (len * 8 - p) N s n err ∧ e = .returned (.tuple #[.int .i64 (s : Int), .int .i64 err]) ∧ (∃ q : Nat, w'.heap[br]? = some (.cells #[.slice a len cap, .int .i64 (q : Int)] 54 (0, 0)) ∧ q ≤ len * 8 ∧ (err = 0 → q = p + n)) ∧ Kept (fun k => k = br) w w' := by
  have HS : Hid (Nx lo hi bc gl gc vo N ls br a len cap p zs B w w 0) := ⟨hc, hr, ht, Kept.refl _ _, no_zero ls _, by omega, by omega⟩
  have HG : Hid (Good ls) := hg
  have HLo : Hid (Longest ls N) := hc.long
  have hN := hc.long.le
  have HBR : Hid (∀ b, lo ≤ b → b < hi → ¬ b = br) := fun b h1 h2 e => by omega
  clear hc hr ht hg
  go_enter Tryd.func66, Tryd.ntmps66
  go_wp2
  go_loopw [6, 7, 8, 9] (fun s6 s7 s8 s9 wr => ∃ n : Nat, s9 = .int .i64 ((n : Int) + 1) ∧ s6 = .int .i64 (vl (bz zs p) n : Int) ∧ s7 = .int .i64 (fc ls (n + 1) : Int) ∧ s8 = .int .i64 (sh ls n : Int) ∧ Nx lo hi bc gl gc vo N ls br a len cap p zs B w wr n) (fun _ _ _ s9 _ => 16 - (intOf s9).toNat)
  case atStart => exact ⟨0, rfl, rfl, rfl, rfl, HS.out⟩
  case round =>
    obtain ⟨n, rfl, rfl, rfl, rfl, hn⟩ := hrel
    clear HS
    have c19 := cells_of hn.code.block 19
    rw [codeA_19] at c19
    have hle := hn.le
    have hav := hn.av
    have HN : Hid _ := hn
    by_cases hlt : n < N
    · have hv := vl_lt (bz zs p) (bz_le zs p) n
      have hp15 : 2 ^ n ≤ 2 ^ 15 := Nat.pow_le_pow_right (by decide) (by omega)
      have hp16 : 2 ^ (n + 1) ≤ 2 ^ 15 := Nat.pow_le_pow_right (by decide) (by omega)
      by_cases hmore : p + n + 1 ≤ len * 8
      · have hup := up_le ls HG.out.le (n + 1) (by omega)
        have hsl := sh_le ls h3 n (by omega)
        have hct := ct_le ls (n + 1)
        have hb1 := bz_le zs p n
        have HV : Hid (vl (bz zs p) (n + 1) = 2 * vl (bz zs p) n + bz zs p n) := rfl
        have HNB : Hid (fc ls (n + 1) ≤ vl (bz zs p) (n + 1)) := not_below ls (bz zs p) (n + 1) (fun k hk => hn.no k (by omega))
        have hj := code_join (vl (bz zs p) n) (bz zs p n) (by omega) hb1
        have HBits : Hid (Calls Tryd.prog 31 #[.pointer (some ⟨br, 0, none⟩), .int .i64 1] wr fun e w' => e = .returned (.tuple #[.int .i64 (bz zs p n : Int), .bool true]) ∧ w'.heap[br]? = some (.cells #[.slice a len cap, .int .i64 ((p + n + 1 : Nat) : Int)] 54 (0, 0)) ∧ Kept (fun k => k = br) wr w') := by
          have := bits1_yes B br a len cap (p + n) zs wr hn.rd hn.tx hl (by omega)
          rw [bz_at] at this
          exact this
        have HF : Hid (fc ls (n + 1 + 1) = 2 * (fc ls (n + 1) + ct ls (n + 1))) := rfl
        have HSH : Hid (sh ls (n + 1) = sh ls n + ct ls (n + 1)) := rfl
        rw [← HV.out] at hj
        generalize vl (bz zs p) n = V0 at hj hv
        generalize bz zs p n = X at hj hb1 HBits
        have hvb : vl (bz zs p) (n + 1) ≤ 32768 := by have := vl_lt (bz zs p) (bz_le zs p) (n + 1); omega
        have hlt' : (n : Int) + 1 ≤ N := by omega
        have hV0 : V0 ≤ 32768 := by omega
        have hfc : fc ls (n + 1) ≤ 32768 := by omega
        have hsl' : sh ls n ≤ 4800 := by omega
        have hct' : ct ls (n + 1) ≤ 320 := by omega
        clear hv hp15 hp16 hup hsl hct hn HV
        by_cases hhit : vl (bz zs p) (n + 1) < fc ls (n + 1) + ct ls (n + 1)
        · obtain ⟨s, hs, hsl, hcd⟩ := hit_sym (ls := ls) (b := bz zs p) (n := n + 1) ⟨HNB.out, hhit⟩
          have hrk : rk ls s = vl (bz zs p) (n + 1) - fc ls (n + 1) := by
            have : cd ls s = fc ls (ln ls s).toNat + rk ls s := rfl
            rw [hsl, Int.toNat_natCast] at this
            omega
          have hod := od_at ls n s hs hsl 15 (by omega)
          have HR : Hid (NextIs ls (bz zs p) (len * 8 - p) N s (n + 1) 0) := .inl ⟨rfl, by omega, hs, by omega, hsl, hcd⟩
          obtain ⟨ao, co, hvo, hform⟩ := HN.out.code.ord.form
          have hol : sh ls n + rk ls s < ((od ls 15).map (fun (x : Nat) => (x : Int))).length := by
            rw [List.length_map]
            rcases Nat.lt_or_ge (sh ls n + rk ls s) (od ls 15).length with h' | h'
            · exact h'
            · rw [List.getElem?_eq_none h'] at hod; simp at hod
          obtain ⟨g, hg1, hg2, hg3, rfl, hcell⟩ := hform (by omega)
          have hci := hcell _ hol
          have hgv : ((od ls 15).map (fun (x : Nat) => (x : Int))).getD (sh ls n + rk ls s) 0 = (s : Int) := by
            simp [List.getD, hod]
          rw [hgv, hrk] at hci
          have hgne : g ≠ br := HBR.out g hg2 (HN.out.code.ordlt g hg1)
          have HCI : Hid (wr.cell? ⟨g, sh ls n + (vl (bz zs p) (n + 1) - fc ls (n + 1)), none⟩ = some (.int .i64 (s : Int))) := hci
          rw [hrk] at hol
          generalize ((od ls 15).map (fun (x : Nat) => (x : Int))).length = OL at hvo hol
          have hbcn := HBR.out bc HN.out.code.inb.1 HN.out.code.inb.2
          have hnb := HNB.out
          subst hvo
          clear hrk hod hsl hcd hform hcell hci hgv hg1
          generalize hVe : vl (bz zs p) (n + 1) = V at hj hvb hhit hnb hol HCI HNB
          generalize fc ls (n + 1) = F at hfc hhit hnb hol HCI HNB HF ⊢
          generalize sh ls n = S at hsl' hol HCI HSH ⊢
          have HVe : Hid (vl (bz zs p) (n + 1) = V) := hVe
          obtain ⟨D, hD⟩ : ∃ D, D = V - F := ⟨_, rfl⟩
          have hDi : (S : Int) + V - F = ((S + D : Nat) : Int) := by omega
          rw [← hD] at HCI hol
          have hVF : (V : Int) - F < (ct ls (n + 1) : Int) := by omega
          have hsd : ((S + D : Nat) : Int) < (OL : Int) := by omega
          clear hVe hD hhit HSH HF HNB
          go_wp2_with (go_at_call 31; refine HBits.out.mono ?_; rintro e w1 ⟨rfl, hb2, hk2⟩; have kb := hk2.heap HN.out.code.block hbcn; have d16 := cells_of kb 16; rw [codeA_16] at d16; have dn := cells_of kb (n + 1); rw [codeA_low _ _ _ _ _ (by omega) (by omega)] at dn; have dg := (hk2.cell (p := ⟨g, S + D, none⟩) hg3 hgne).trans HCI.out; have HB2 : Hid (w1.heap[br]? = some (.cells #[.slice a len cap, .int .i64 ((p + n + 1 : Nat) : Int)] 54 (0, 0))) := hb2; have HK2 : Hid (Kept (fun k => k = br) wr w1) := hk2; clear hb2 hk2 kb)
          go_ret2
          exact ⟨s, n + 1, 0, HR.out, rfl, ⟨p + n + 1, HB2.out, by omega, fun _ => by omega⟩, HN.out.kept.trans HK2.out (fun _ _ h => h)⟩
        · have hbcn := HBR.out bc HN.out.code.inb.1 HN.out.code.inb.2
          have hVF : ¬ (vl (bz zs p) (n + 1) : Int) - (fc ls (n + 1) : Int) < (ct ls (n + 1) : Int) := by omega
          have HNO : Hid (∀ m, m ≤ n + 1 → ¬ Hit ls (bz zs p) m) := fun m hm => by
            by_cases e : m = n + 1
            · subst e; intro hh; exact hhit hh.2
            · exact HN.out.no m (by omega)
          clear hhit HNB
          have HVe : Hid (∃ V, V = vl (bz zs p) (n + 1)) := ⟨_, rfl⟩
          go_wp2_with (go_at_call 31; refine HBits.out.mono ?_; rintro e w1 ⟨rfl, hb2, hk2⟩; have kb := hk2.heap HN.out.code.block hbcn; have dn := cells_of kb (n + 1); rw [codeA_low _ _ _ _ _ (by omega) (by omega)] at dn; have HB2 : Hid (w1.heap[br]? = some (.cells #[.slice a len cap, .int .i64 ((p + n + 1 : Nat) : Int)] 54 (0, 0))) := hb2; have HK2 : Hid (Kept (fun k => k = br) wr w1) := hk2; clear hb2 hk2 kb)
          go_roundw
          case rel =>
            refine ⟨n + 1, by go_num, rfl, by rw [HF.out]; go_num, by rw [HSH.out]; go_num, ⟨HN.out.code.kept HK2.out HBR.out, HB2.out, HN.out.tx.kept HK2.out (fun b hb e => by omega), HN.out.kept.trans HK2.out (fun _ _ h => h), HNO.out, by omega, by omega⟩⟩
          case measure => simp [intOf]; omega
      · have HBits : Hid (Calls Tryd.prog 31 #[.pointer (some ⟨br, 0, none⟩), .int .i64 1] wr fun e w' => e = .returned (.tuple #[.int .i64 0, .bool false]) ∧ ∃ k, w' = wr.drewN k) :=
          bits_no br a len cap (p + n) 1 wr hn.rd hl hn.av (.inr (.inr (by omega)))
        have HR : Hid (NextIs ls (bz zs p) (len * 8 - p) N 0 0 42) := .inr ⟨rfl, rfl, fun m hm => hn.no m (by omega), .inl ⟨by omega, rfl⟩⟩
        have hlt' : (n : Int) + 1 ≤ N := by omega
        clear hv hp15 hp16 hn
        go_wp2_with (go_at_call 31; refine HBits.out.mono ?_; rintro e w1 ⟨rfl, q, rfl⟩)
        go_ret2
        exact ⟨0, 0, 42, HR.out, rfl, ⟨p + n, HN.out.rd, hav, fun h => by simp at h⟩, HN.out.kept.drewN q⟩
    · obtain rfl : n = N := by omega
      have HR : Hid (NextIs ls (bz zs p) (len * 8 - p) n 0 0 43) := by
        refine .inr ⟨rfl, rfl, fun m hm => ?_, .inr ⟨by omega, rfl⟩⟩
        by_cases e : m ≤ n
        · exact hn.no m e
        · intro hh
          have := HLo.out.zero m (by omega)
          unfold Hit at hh; omega
      clear hn
      go_wp2
      go_ret2
      exact ⟨0, 0, 43, HR.out, rfl, ⟨p + n, HN.out.rd, hav, fun h => by simp at h⟩, HN.out.kept⟩
end Go.Proofs.YtibolmgijaploaaDoor

/- The program's stream as it lies in memory, and what its methods answer. -/
namespace Go.Proofs.YtibolmgijaploaaDoor
set_option maxRecDepth 100000
open Go Go.RowKit

theorem hide {p : Prop} (h : p) : Hid p := h
/-- A stream's cells; a reader's. -/
def fA (br : Nat) (o : Option Addr) (ol oc : Nat) (m : Int) (fc : Value) : Array Value := #[.pointer (some ⟨br, 0, none⟩), .slice o ol oc, .int .i64 m, fc]
def rA (a : Option Addr) (len cap p : Nat) : Array Value := #[.slice a len cap, .int .i64 (p : Int)]
theorem bz_ib (zs : List Int) (p : Nat) : bz zs p = fun i => ib zs (p + i) := rfl
theorem bits_num (zs : List Int) (p n : Nat) : bitsVal zs p n = (iNum (ib zs) p n : Int) := by
  induction n with
  | zero => rfl
  | succ n ih =>
    have h := bitAt_bd zs (p + n)
    have e : (ib zs (p + n) : Int) = bitAt zs (p + n) := by
      show ((bitAt zs (p + n)).toNat : Int) = _
      omega
    rw [bitsVal, iNum, ih, ← e]
    push_cast
    rfl

/-- The stream lies at bs, its reader at br, at place p; it has told out; what it owns lies from B on, the text ahead of B. -/
structure SS (B bs br : Nat) (a : Option Addr) (len cap : Nat) (zs : List Int) (m : Nat) (w : World) (p : Nat) (o : Option Addr) (oc : Nat) (fc : Value) (out : List Int) : Prop where
  s0 : w.heap[bs]? = some (.cells (fA br o out.length oc m fc) 39 (0, 0))
  rd : w.heap[br]? = some (.cells (rA a len cap p) 54 (0, 0))
  tx : Text B w a len zs
  owns : OwnsB w B (.slice o out.length oc) out
  inb : B ≤ bs ∧ B ≤ br
  pl : p ≤ len * 8

section
variable {B bs br : Nat} {a : Option Addr} {len cap : Nat} {zs : List Int} {m : Nat} {w w' : World} {p : Nat} {o : Option Addr} {oc : Nat} {fc : Value} {out : List Int}
theorem SS.c0 (h : SS B bs br a len cap zs m w p o oc fc out) : w.cell? ⟨bs, 0, none⟩ = some (.pointer (some ⟨br, 0, none⟩)) := by rw [cells_of h.s0]; rfl
theorem SS.c1 (h : SS B bs br a len cap zs m w p o oc fc out) : w.cell? ⟨bs, 1, none⟩ = some (.slice o out.length oc) := by rw [cells_of h.s0]; rfl
theorem SS.c2 (h : SS B bs br a len cap zs m w p o oc fc out) : w.cell? ⟨bs, 2, none⟩ = some (.int .i64 m) := by rw [cells_of h.s0]; rfl
theorem SS.c3 (h : SS B bs br a len cap zs m w p o oc fc out) : w.cell? ⟨bs, 3, none⟩ = some fc := by rw [cells_of h.s0]; rfl
theorem SS.ne (h : SS B bs br a len cap zs m w p o oc fc out) : bs ≠ br := fun e => by
  have h1 := h.s0; rw [e, h.rd] at h1; simp at h1
theorem SS.ns (h : SS B bs br a len cap zs m w p o oc fc out) : (Value.slice o out.length oc).ownBlock ≠ some bs := ownsRow_apart h.owns h.s0 (by decide)
theorem SS.nr (h : SS B bs br a len cap zs m w p o oc fc out) : (Value.slice o out.length oc).ownBlock ≠ some br := ownsRow_apart h.owns h.rd (by decide)
/-- The reader moved on, nothing else was written. -/
theorem SS.move (h : SS B bs br a len cap zs m w p o oc fc out) (k : Kept (fun b => b = br) w w') {q : Nat} (hr : w'.heap[br]? = some (.cells (rA a len cap q) 54 (0, 0))) (hq : q ≤ len * 8) : SS B bs br a len cap zs m w' q o oc fc out :=
  ⟨k.heap h.s0 h.ne, hr, h.tx.kept k (fun b hb e => by have := h.inb; omega), ownsRow_kept h.owns k (fun g hg e => h.nr (by rw [hg, e])), h.inb, hq⟩
/-- Nothing elder was written. -/
theorem SS.stay (h : SS B bs br a len cap zs m w p o oc fc out) (k : Below w.heap.size w w') : SS B bs br a len cap zs m w' p o oc fc out := by
  have hb := lt_of_block h.s0
  have hr := lt_of_block h.rd
  exact ⟨(k.block _ hb).trans h.s0, (k.block _ hr).trans h.rd, h.tx.kept (Kept.of_below k) (fun b hb' e => by have := h.inb; omega), ownsRow_kept h.owns (Kept.of_below k) (fun g hg e => by have := (ownsRow_lt h.owns hg).2; omega), h.inb, h.pl⟩

/-- What a call may write that hands the stream on: the stream, its reader, and the row of what was told. -/
def Mv (bs br : Nat) (ov : Value) (b : Nat) : Prop := b = bs ∨ b = br ∨ ov.ownBlock = some b
theorem Mv.rd {bs br : Nat} {ov : Value} {w w' : World} (k : Kept (fun b => b = br) w w') : Kept (Mv bs br ov) w w' := k.mono fun _ _ e => .inr (.inl e)
theorem Mv.below {bs br : Nat} {ov : Value} {w w' : World} (k : Below w.heap.size w w') : Kept (Mv bs br ov) w w' := (Kept.of_below k).mono fun i hi e => by omega

/-- A number, or an error: what a call answers that only reads on. -/
def NOk (br : Nat) (a : Option Addr) (len cap : Nat) (w : World) (r : Except Int (Nat × Nat)) (x : Ending) (w' : World) : Prop :=
  Kept (fun b => b = br) w w' ∧ ((∃ q v, r = .ok (q, v) ∧ x = .returned (.tuple #[.int .i64 (v : Int), .int .i64 0]) ∧ w'.heap[br]? = some (.cells (rA a len cap q) 54 (0, 0)) ∧ q ≤ len * 8) ∨ (∃ e, 60 ≤ e ∧ e ≤ 65 ∧ r = .error e ∧ x = .returned (.tuple #[.int .i64 0, .int .i64 e])))
def NGot (br : Nat) (a : Option Addr) (len cap : Nat) (w : World) (q v : Nat) (x : Ending) (w' : World) : Prop :=
  x = .returned (.tuple #[.int .i64 (v : Int), .int .i64 0]) ∧ Kept (fun b => b = br) w w' ∧ w'.heap[br]? = some (.cells (rA a len cap q) 54 (0, 0)) ∧ q ≤ len * 8
def NBad (br : Nat) (w : World) (e : Int) (x : Ending) (w' : World) : Prop := x = .returned (.tuple #[.int .i64 0, .int .i64 e]) ∧ Kept (fun b => b = br) w w' ∧ 60 ≤ e ∧ e ≤ 65
theorem NOk.got {r : Except Int (Nat × Nat)} {x : Ending} {q v : Nat} (hr : r = .ok (q, v)) (h : NOk br a len cap w r x w') : NGot br a len cap w q v x w' := by
  subst hr
  obtain ⟨k, ⟨q', v', e, rfl, h1, h2⟩ | ⟨e, _, _, h', _⟩⟩ := h
  · cases e; exact ⟨rfl, k, h1, h2⟩
  · cases h'
theorem NOk.bad {r : Except Int (Nat × Nat)} {x : Ending} {e : Int} (hr : r = .error e) (h : NOk br a len cap w r x w') : NBad br w e x w' := by
  subst hr
  obtain ⟨k, ⟨q', v', e, rfl, h1, h2⟩ | ⟨e, h1, h2, h', rfl⟩⟩ := h
  · cases e
  · cases h'; exact ⟨rfl, k, h1, h2⟩
theorem NGot.ok {r : Except Int (Nat × Nat)} {x : Ending} {q v : Nat} (hr : r = .ok (q, v)) (h : NGot br a len cap w q v x w') : NOk br a len cap w r x w' := ⟨h.2.1, .inl ⟨q, v, hr, h.1, h.2.2.1, h.2.2.2⟩⟩
theorem NBad.ok {r : Except Int (Nat × Nat)} {x : Ending} {e : Int} (hr : r = .error e) (h : NBad br w e x w') : NOk br a len cap w r x w' := ⟨h.2.1, .inr ⟨e, h.2.2.1, h.2.2.2, hr, h.1⟩⟩

/-- What a call answers that tells bytes. -/
def DOk (B bs br : Nat) (a : Option Addr) (len cap : Nat) (zs : List Int) (m : Nat) (fc : Value) (w : World) (ov : Value) (r : Except Int (Nat × List Int)) (x : Ending) (w' : World) : Prop :=
  Kept (Mv bs br ov) w w' ∧ ((∃ q out o oc, r = .ok (q, out) ∧ x = .returned (.int .i64 0) ∧ SS B bs br a len cap zs m w' q o oc fc out ∧ (∀ g, (Value.slice o out.length oc).ownBlock = some g → g < w.heap.size → ov.ownBlock = some g)) ∨ (∃ e, 60 ≤ e ∧ e ≤ 65 ∧ r = .error e ∧ x = .returned (.int .i64 e)))
def DGot (B bs br : Nat) (a : Option Addr) (len cap : Nat) (zs : List Int) (m : Nat) (fc : Value) (w : World) (ov : Value) (q : Nat) (out : List Int) (x : Ending) (w' : World) : Prop :=
  x = .returned (.int .i64 0) ∧ Kept (Mv bs br ov) w w' ∧ ∃ o oc, SS B bs br a len cap zs m w' q o oc fc out ∧ (∀ g, (Value.slice o out.length oc).ownBlock = some g → g < w.heap.size → ov.ownBlock = some g)
def DBad (bs br : Nat) (w : World) (ov : Value) (e : Int) (x : Ending) (w' : World) : Prop := x = .returned (.int .i64 e) ∧ Kept (Mv bs br ov) w w' ∧ 60 ≤ e ∧ e ≤ 65
theorem DOk.got {r : Except Int (Nat × List Int)} {x : Ending} {ov : Value} {q : Nat} (hr : r = .ok (q, out)) (h : DOk B bs br a len cap zs m fc w ov r x w') : DGot B bs br a len cap zs m fc w ov q out x w' := by
  subst hr
  obtain ⟨k, ⟨q', v', o, oc, e, rfl, h1, h2⟩ | ⟨e, _, _, h', _⟩⟩ := h
  · cases e; exact ⟨rfl, k, o, oc, h1, h2⟩
  · cases h'
theorem DOk.bad {r : Except Int (Nat × List Int)} {x : Ending} {ov : Value} {e : Int} (hr : r = .error e) (h : DOk B bs br a len cap zs m fc w ov r x w') : DBad bs br w ov e x w' := by
  subst hr
  obtain ⟨k, ⟨q', v', o, oc, e, rfl, h1, h2⟩ | ⟨e, h1, h2, h', rfl⟩⟩ := h
  · cases e
  · cases h'; exact ⟨rfl, k, h1, h2⟩
theorem DGot.ok {r : Except Int (Nat × List Int)} {x : Ending} {ov : Value} {q : Nat} (hr : r = .ok (q, out)) (h : DGot B bs br a len cap zs m fc w ov q out x w') : DOk B bs br a len cap zs m fc w ov r x w' := by
  obtain ⟨h1, h2, o, oc, h3, h4⟩ := h
  exact ⟨h2, .inl ⟨q, out, o, oc, hr, h1, h3, h4⟩⟩
theorem DBad.ok {r : Except Int (Nat × List Int)} {x : Ending} {ov : Value} {e : Int} (hr : r = .error e) (h : DBad bs br w ov e x w') : DOk B bs br a len cap zs m fc w ov r x w' := ⟨h.2.1, .inr ⟨e, h.2.2.1, h.2.2.2, hr, h.1⟩⟩
end

/-- A call's world wx, begun in w where the stream had told ov: what was told since may lie in ov's row or in a new one. -/
structure SW (B bs br : Nat) (a : Option Addr) (len cap : Nat) (zs : List Int) (m : Nat) (fc : Value) (w : World) (ov : Value) (wx : World) (p : Nat) (o : Option Addr) (oc : Nat) (out : List Int) : Prop where
  ss : SS B bs br a len cap zs m wx p o oc fc out
  kept : Kept (Mv bs br ov) w wx
  old : ∀ g, (Value.slice o out.length oc).ownBlock = some g → g < w.heap.size → ov.ownBlock = some g
section
variable {B bs br : Nat} {a : Option Addr} {len cap : Nat} {zs : List Int} {m : Nat} {fc ov : Value} {w wx wy : World} {p : Nat} {o : Option Addr} {oc : Nat} {out : List Int}
theorem SW.new (h : SS B bs br a len cap zs m w p o oc fc out) : SW B bs br a len cap zs m fc w (.slice o out.length oc) w p o oc out := ⟨h, Kept.refl _ _, fun _ h _ => h⟩
theorem SW.move (h : SW B bs br a len cap zs m fc w ov wx p o oc out) {q : Nat} (k : Kept (fun b => b = br) wx wy) (hr : wy.heap[br]? = some (.cells (rA a len cap q) 54 (0, 0))) (hq : q ≤ len * 8) : SW B bs br a len cap zs m fc w ov wy q o oc out :=
  ⟨h.ss.move k hr hq, h.kept.trans k (fun _ _ e => .inr (.inl e)), h.old⟩
theorem SW.stay (h : SW B bs br a len cap zs m fc w ov wx p o oc out) (k : Below wx.heap.size wx wy) : SW B bs br a len cap zs m fc w ov wy p o oc out :=
  ⟨h.ss.stay k, h.kept.trans (Kept.of_below k) (fun i hi e => by have := h.kept.size; omega), h.old⟩
/-- Another such call in between. -/
theorem SW.on {p' : Nat} {o' : Option Addr} {oc' : Nat} {out' : List Int} (h : SW B bs br a len cap zs m fc w ov wx p o oc out) (k : SW B bs br a len cap zs m fc wx (.slice o out.length oc) wy p' o' oc' out') : SW B bs br a len cap zs m fc w ov wy p' o' oc' out' := by
  have hz := h.kept.size
  refine ⟨k.ss, h.kept.trans k.kept (fun i hi e => ?_), fun g hg hlt => ?_⟩
  · rcases e with e | e | e
    · exact .inl e
    · exact .inr (.inl e)
    · exact .inr (.inr (h.old i e hi))
  · exact h.old g (k.old g hg (by omega)) hlt
theorem SW.bad (h : SW B bs br a len cap zs m fc w ov wx p o oc out) (k : Kept (Mv bs br (.slice o out.length oc)) wx wy) : Kept (Mv bs br ov) w wy :=
  h.kept.trans k (fun i hi e => by
    rcases e with e | e | e
    · exact .inl e
    · exact .inr (.inl e)
    · exact .inr (.inr (h.old i e hi)))
theorem SW.got (h : SW B bs br a len cap zs m fc w ov wx p o oc out) : DGot B bs br a len cap zs m fc w ov p out (.returned (.int .i64 0)) wx := ⟨rfl, h.kept, o, oc, h.ss, h.old⟩
theorem DGot.sw {q : Nat} {x : Ending} (h : DGot B bs br a len cap zs m fc w ov q out x wx) : ∃ o oc, SW B bs br a len cap zs m fc w ov wx q o oc out := by
  obtain ⟨_, h2, o, oc, h3, h4⟩ := h
  exact ⟨o, oc, h3, h2, h4⟩
/-- What is told is put in its place. -/
theorem SW.put {w4 : World} {o4 : Option Addr} {c4 : Nat} {out4 : List Int} (h : SW B bs br a len cap zs m fc w ov wx p o oc out) (hown : OwnsB w4 B (.slice o4 out4.length c4) out4) (hk : Kept (fun b => (Value.slice o out.length oc).ownBlock = some b) wx w4)
    (hat : ∀ g, (Value.slice o4 out4.length c4).ownBlock = some g → g < wx.heap.size → (Value.slice o out.length oc).ownBlock = some g) : SW B bs br a len cap zs m fc w ov (w4.setCell ⟨bs, 1, none⟩ (.slice o4 out4.length c4)) p o4 c4 out4 := by
  have q0 := hk.heap h.ss.s0 h.ss.ns
  have q1 := hk.heap h.ss.rd h.ss.nr
  have hz := h.kept.size
  have hz2 := hk.size
  have hlt := lt_of_block h.ss.s0
  have hset : Kept (fun b => b = bs) w4 (w4.setCell ⟨bs, 1, none⟩ (.slice o4 out4.length c4)) := Kept.setCell (M := fun b => b = bs) (Kept.refl _ w4) (fun _ => rfl) _
  have hne : (Value.slice o4 out4.length c4).ownBlock ≠ some bs := fun e => h.ss.ns (hat bs e hlt)
  refine ⟨⟨?_, ?_, ?_, ?_, h.ss.inb, h.ss.pl⟩, ?_, ?_⟩
  · rw [set_of q0 1]; rfl
  · rw [set_other (fun e => h.ss.ne e.symm)]; exact q1
  · refine (h.ss.tx.kept hk (fun b hb e => ?_)).kept hset (fun b hb e => ?_)
    · have := (ownsRow_lt h.ss.owns e).1; omega
    · have := h.ss.inb; omega
  · exact ownsRow_kept hown hset (fun g hg e => hne (by rw [hg, e]))
  · refine Kept.setCell (h.kept.trans hk fun i hi e => .inr (.inr (h.old i e hi))) (fun _ => .inl rfl) _
  · intro g hg hlt'
    exact h.old g (hat g hg (by omega)) hlt'
/-- A byte is told. -/
theorem SW.push {w4 : World} {g c4 : Nat} {x : Int} {ob : Obj} (h : SW B bs br a len cap zs m fc w ov wx p o oc out)
    (hown : w4.ownsRow B 5 1 (.slice (some ⟨g, 0, none⟩) (out.length + 1) c4) (out.length + 1) (out.map (Value.int .u8) ++ [.int .u8 x])) (hgrow : (wx.alloc ob).grownBy w4 (Value.slice o out.length oc).ownBlock)
    (hat : (Value.slice o out.length oc).ownBlock = some g ∨ g = wx.heap.size + 1) : SW B bs br a len cap zs m fc w ov (w4.setCell ⟨bs, 1, none⟩ (.slice (some ⟨g, 0, none⟩) (out.length + 1) c4)) p (some ⟨g, 0, none⟩) c4 (out ++ [x]) := by
  have hl : (out ++ [x]).length = out.length + 1 := by simp
  have hk := Kept.of_grown hgrow
  have hk2 : Kept (fun b => (Value.slice o out.length oc).ownBlock = some b) wx w4 := (Kept.trans (M' := fun b => some b = (Value.slice o out.length oc).ownBlock) (b := wx.alloc ob) (Kept.alloc _ (Kept.refl _ wx) _) hk (fun _ _ h => h)).mono (fun _ _ e => e.symm)
  have := h.put (o4 := some ⟨g, 0, none⟩) (c4 := c4) (out4 := out ++ [x]) (by unfold OwnsB; rw [hl]; simpa using hown) hk2 (fun g' hg' hlt => by
    simp [Value.ownBlock] at hg'
    subst hg'
    rcases hat with hat | hat
    · exact hat
    · omega)
  rw [hl] at this
  exact this
theorem SW.after {w4 : World} {ob : Obj} (h : SW B bs br a len cap zs m fc w ov wx p o oc out) (hgrow : (wx.alloc ob).grownBy w4 (Value.slice o out.length oc).ownBlock) : w4.heap[bs]? = some (.cells (fA br o out.length oc m fc) 39 (0, 0)) := by
  have hk := Kept.of_grown hgrow
  have hk2 : Kept (fun b => some b = (Value.slice o out.length oc).ownBlock) wx w4 := Kept.trans (M' := fun b => some b = (Value.slice o out.length oc).ownBlock) (b := wx.alloc ob) (Kept.alloc _ (Kept.refl _ wx) _) hk (fun _ _ h => h)
  exact hk2.heap h.ss.s0 (fun e => h.ss.ns e.symm)
end

/-- The codes of a block's data, in blocks from lo up to hi. -/
structure Cds (lo hi : Nat) (w : World) (bk : Nat) (bc gl gc : Nat) (vo : Value) (N : Nat) (bc' gl' gc' : Nat) (vo' : Value) (N' : Nat) (S D : List Int) : Prop where
  block : w.heap[bk]? = some (.cells #[.pointer (some ⟨bc, 0, none⟩), .pointer (some ⟨bc', 0, none⟩)] 91 (0, 0))
  sym : CodeAt lo hi w bc gl gc vo N S
  back : CodeAt lo hi w bc' gl' gc' vo' N' D
  inb : lo ≤ bk ∧ bk < hi
theorem Cds.kept {lo hi : Nat} {w w' : World} {bk bc gl gc : Nat} {vo : Value} {N bc' gl' gc' : Nat} {vo' : Value} {N' : Nat} {S D : List Int} {M : Nat → Prop} (h : Cds lo hi w bk bc gl gc vo N bc' gl' gc' vo' N' S D) (k : Kept M w w') (hn : ∀ b, lo ≤ b → b < hi → ¬ M b) : Cds lo hi w' bk bc gl gc vo N bc' gl' gc' vo' N' S D :=
  ⟨k.heap h.block (hn _ h.inb.1 h.inb.2), h.sym.kept k hn, h.back.kept k hn, h.inb⟩
/-- The stream's blocks are none of those from lo up to hi. -/
def Aw (lo hi bs br : Nat) (ov : Value) : Prop := ∀ b, lo ≤ b → b < hi → ¬ Mv bs br ov b
end Go.Proofs.YtibolmgijaploaaDoor
