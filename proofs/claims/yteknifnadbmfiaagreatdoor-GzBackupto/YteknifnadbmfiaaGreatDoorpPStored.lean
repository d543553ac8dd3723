/- The stream's storedBlock: contract. -/
import Derived.Test.YteknifnadbmfiaaGreatDoorpAg06PRun
import Derived.Test.YteknifnadbmfiaaGreatDoorpAg04ISpec
import Derived.Maps.AppendAt
namespace Go.Proofs.YteknifnadbmfiaaGreatDoor
set_option maxRecDepth 100000
open Go Go.RowKit

theorem xor_low (n : Nat) (h : n < 65536) : bits .xor .i64 (n : Int) 65535 = ((65535 - n : Nat) : Int) := by
 have ha : (BitVec.ofInt 64 (n : Int)).toNat = n := ofInt_nat n (by omega)
 have hb : (BitVec.ofInt 64 (65535 : Int)).toNat = 65535 := ofInt_nat 65535 (by decide)
 show IntKind.i64.wrap (((BitVec.ofInt 64 (n : Int) ^^^ BitVec.ofInt 64 (65535 : Int)).toNat : Nat) : Int) = _
 rw [BitVec.toNat_xor, ha, hb]
 have e : n ^^^ 65535 = 65535 - n := by
  have h1 := congrArg BitVec.toNat (BitVec.xor_allOnes (x := BitVec.ofNat 16 n))
  rw [BitVec.toNat_xor, BitVec.toNat_not, BitVec.toNat_allOnes, BitVec.toNat_ofNat, Nat.mod_eq_of_lt h] at h1
  simpa using h1
 rw [e, wrap_i64_small _ (by omega)]

theorem iNum_at (zs : List Int) (i : Nat) (h : 0 <= zs.getD i 0 /\ zs.getD i 0 <= 255) : (iNum (ib zs) (8 * i) 8 : Int) = zs.getD i 0 := by
 rw [<- bits_num, bitsVal_byte zs (8 * i) 8 (by omega), show 8 * i / 8 = i by omega, show 8 * i % 8 = 0 by omega]
 simp only [Int.pow_zero, Int.ediv_one]
 omega
theorem iBytes_take (zs : List Int) (k n : Nat) (h : ∀ i, 0 <= zs.getD i 0 /\ zs.getD i 0 <= 255) (hl : k + n <= zs.length) : iBytes (ib zs) (8 * k) n = (zs.drop k).take n := by
 unfold iBytes
 apply List.ext_getElem
 ·simp; omega
 ·intro i h1 h2
  simp only [List.length_map, List.length_range] at h1
  simp only [List.getElem_map, List.getElem_range, List.getElem_take, List.getElem_drop]
  rw [show 8 * k + 8 * i = 8 * (k + i) by omega, iNum_at zs (k + i) (h _)]
  simp [List.getD, show k + i < zs.length by omega]

theorem src_ofP {w : World} {base g n : Nat} {D : List Int} (h : OwnsB w base (.slice (some ⟨g, 0, none⟩) n n) D) (hn : D.length = n) : ∀ j u, (D.map (Value.int .u8))[j]? = some u -> w.cell? ((⟨g, 0, none⟩ : Addr).add j) = some u := fun j u hu => by
 subst hn
 have hj : j < D.length := by
  rcases Nat.lt_or_ge j D.length with h' | h'
  ·exact h'
  ·rw [List.getElem?_eq_none (by simpa using h')] at hu; simp at hu
 have e : ((⟨g, 0, none⟩ : Addr).add j) = ⟨g, j, none⟩ := by unfold Addr.add; split <;> simp_all
 rw [e, World.ownsRow.cellAt h j (by omega), hu]
section
variable {B bs br : Nat} {a : Option Addr} {len cap : Nat} {zs : List Int} {m : Nat} {fc ov : Value} {w wx : World} {p : Nat} {o : Option Addr} {oc : Nat} {out : List Int}
theorem SW.after0 {w4 : World} (h : SW B bs br a len cap zs m fc w ov wx p o oc out) (hgrow : wx.grownBy w4 (Value.slice o out.length oc).ownBlock) : w4.heap[bs]? = some (.cells (fA br o out.length oc m fc) 120 (0, 0)) :=
 (Kept.of_grown hgrow).heap h.ss.s0 (fun e => h.ss.ns e.symm)
theorem SW.onto {w4 : World} {o4 : Option Addr} {c4 n : Nat} {D : List Int} (h : SW B bs br a len cap zs m fc w ov wx p o oc out) (hD : D.length = n) (hown : w4.ownsRow B 5 1 (.slice o4 (out.length + n) c4) (out.length + n) (out.map (Value.int .u8) ++ D.map (Value.int .u8))) (hgrow : wx.grownBy w4 (Value.slice o out.length oc).ownBlock)
  (hat : (Value.slice o4 (out.length + n) c4).ownBlock = (Value.slice o out.length oc).ownBlock \/ (Value.slice o4 (out.length + n) c4).ownBlock = some wx.heap.size) : SW B bs br a len cap zs m fc w ov (w4.setCell ⟨bs, 1, none⟩ (.slice o4 (out.length + n) c4)) p o4 c4 (out ++ D) := by
 have hl : (out ++ D).length = out.length + n := by simp [hD]
 have := h.put (o4 := o4) (c4 := c4) (out4 := out ++ D) (by unfold OwnsB; rw [hl]; simpa using hown) ((Kept.of_grown hgrow).mono (fun _ _ e => e.symm)) (fun g hg hlt => by
  rw [hl] at hg
  rcases hat with hat | hat
  ·rw [<- hat]; exact hg
  ·rw [hat] at hg; simp at hg; omega)
 rw [hl] at this
 exact this
end

section
variable {B bs br : Nat} {a : Option Addr} {len cap : Nat} {zs : List Int} {m : Nat} {w : World} {p : Nat} {o : Option Addr} {oc : Nat} {fc : Value} {out : List Int}
theorem SS.drew (h : SS B bs br a len cap zs m w p o oc fc out) (k : Nat) : SS B bs br a len cap zs m (w.drewN k) p o oc fc out := ⟨h.s0, h.rd, h.tx, h.owns, h.inb, h.pl⟩
theorem SW.drew {w0 : World} {ov : Value} (h : SW B bs br a len cap zs m fc w0 ov w p o oc out) (k : Nat) : SW B bs br a len cap zs m fc w0 ov (w.drewN k) p o oc out := ⟨h.ss.drew k, h.kept.drewN k, h.old⟩
set_option maxHeartbeats 4000000 in
theorem stored_c (h : SS B bs br a len cap zs m w p o oc fc out) (hl : len <= 140737488351232) (hcap : len <= cap) (hm : m <= 10000000) (ho : out.length <= m) :
  Calls Tryz.prog 77 #[.pointer (some ⟨bs, 0, none⟩)] w (DOk B bs br a len cap zs m fc w (.slice o out.length oc) (iSto (ib zs) (len * 8) m p out)) := by
 obtain ⟨j0, hj0, hj1, hj2, hj3⟩ := info_parts Tryz.info5
 obtain ⟨R, hR⟩ : ∃ R, R = iSto (ib zs) (len * 8) m p out := ⟨_, rfl⟩
 rw [<- hR]
 have hm8 : m <= 100000000 := by omega
 have hl8 : len * 8 <= 9223372036854775000 := by omega
 have hpl := h.pl
 have hP : 8 * ((p + 7) / 8) <= len * 8 := by omega
 have hlen := h.tx.1
 have HZ := hide h.tx.2.1
 have W0 := hide (SW.new h)
 have c0 := h.c0
 have HA := hide (ralign_any br a len cap p w h.rd (by omega))
 obtain ⟨P, hPe⟩ : ∃ P, P = 8 * ((p + 7) / 8) := ⟨_, rfl⟩
 have hP8 : P % 8 = 0 := by omega
 rw [<- hPe] at HA hP
 unfold iSto at hR
 rw [show (p + 7) / 8 * 8 = P by omega] at hR
 have hC1 := fun w' (s : SS B bs br a len cap zs m w' P o oc fc out) => number_c s hl8 16 16 rfl (by decide)
 clear h
 rcases h1 : iTk (ib zs) (len * 8) P 16 with e | ⟨q1, n⟩
 ·rw [h1] at hC1
  have HC1 := fun w' s => hide ((hC1 w' s).mono fun _ _ => NOk.bad rfl)
  rw [iThen_of_err h1] at hR
  have HR := hide hR
  clear hC1 h1 hR hPe
  go_enter Tryz.func77, Tryz.ntmps77
  go_wp2_with (first
   | (go_at_call 99; refine HA.out.mono ?_; rintro x w1 ⟨rfl, r1, k1⟩; have W1 := hide (W0.out.move k1 r1 hP); have c1 := W1.out.ss.c0; clear k1 r1 HA)
   | (go_at_call 76; refine (HC1 w1 W1.out.ss).out.mono ?_; rintro x w2 ⟨rfl, k2, e1, e2⟩; have K2 := hide (W1.out.bad (Mv.rd k2)); clear k2 HC1))
  go_ret
  exact DBad.ok HR.out ⟨rfl, K2.out, e1, e2⟩
 have hq1 := (iTk_got h1).1
 have hn16 := iTk_lt (ib_le zs) h1
 rw [h1] at hC1
 have HC1 := fun w' s => hide ((hC1 w' s).mono fun _ _ => NOk.got rfl)
 rw [iThen_of_ok h1] at hR
 have hC2 := fun w' (s : SS B bs br a len cap zs m w' q1 o oc fc out) => number_c s hl8 16 16 rfl (by decide)
 clear hC1 h1 hPe
 rcases h2 : iTk (ib zs) (len * 8) q1 16 with e | ⟨q2, n2⟩
 ·rw [h2] at hC2
  have HC2 := fun w' s => hide ((hC2 w' s).mono fun _ _ => NOk.bad rfl)
  rw [iThen_of_err h2] at hR
  have HR := hide hR
  clear hC2 h2 hR
  go_enter Tryz.func77, Tryz.ntmps77
  go_wp2_with (first
   | (go_at_call 99; refine HA.out.mono ?_; rintro x w1 ⟨rfl, r1, k1⟩; have W1 := hide (W0.out.move k1 r1 hP); have c1 := W1.out.ss.c0; clear k1 r1 HA)
   | (go_at_call 76; refine (HC1 w1 W1.out.ss).out.mono ?_; rintro x w2 ⟨rfl, k2, r2, l2⟩; have W2 := hide (W1.out.move k2 r2 l2); have c2 := W2.out.ss.c0; clear k2 r2 HC1)
   | (go_at_call 76; refine (HC2 w2 W2.out.ss).out.mono ?_; rintro x w3 ⟨rfl, k3, e1, e2⟩; have K3 := hide (W2.out.bad (Mv.rd k3)); clear k3 HC2))
  go_ret
  exact DBad.ok HR.out ⟨rfl, K3.out, e1, e2⟩
 have hq2 := (iTk_got h2).1
 have hq2l := (iTk_got h2).2.1
 have hn26 := iTk_lt (ib_le zs) h2
 rw [h2] at hC2
 have HC2 := fun w' s => hide ((hC2 w' s).mono fun _ _ => NOk.got rfl)
 rw [iThen_of_ok h2] at hR
 clear hC2 h2
 have hx := xor_low n hn16
 by_cases hs : n + n2 = 65535
 case neg =>
  rw [if_pos hs] at hR
  have HR := hide hR
  have hs' : ¬ (n2 : Int) = ((65535 - n : Nat) : Int) := by omega
  clear hR hs
  go_enter Tryz.func77, Tryz.ntmps77
  go_wp2_with (first
   | (go_at_call 99; refine HA.out.mono ?_; rintro x w1 ⟨rfl, r1, k1⟩; have W1 := hide (W0.out.move k1 r1 hP); have c1 := W1.out.ss.c0; clear k1 r1 HA)
   | (go_at_call 76; refine (HC1 w1 W1.out.ss).out.mono ?_; rintro x w2 ⟨rfl, k2, r2, l2⟩; have W2 := hide (W1.out.move k2 r2 l2); have c2 := W2.out.ss.c0; clear k2 r2 HC1)
   | (go_at_call 76; refine (HC2 w2 W2.out.ss).out.mono ?_; rintro x w3 ⟨rfl, k3, r3, l3⟩; have W3 := hide (W2.out.move k3 r3 l3); have c3 := W3.out.ss.c0; have d3 := W3.out.ss.c1; clear k3 r3 HC2))
  go_ret
  exact DBad.ok HR.out ⟨rfl, W3.out.kept, by decide, by decide⟩
 rw [if_neg (by omega)] at hR
 have hs' : (n2 : Int) = ((65535 - n : Nat) : Int) := by omega
 by_cases hov : m < out.length + n
 case pos =>
  rw [if_pos hov] at hR
  have HR := hide hR
  clear hR hs
  go_enter Tryz.func77, Tryz.ntmps77
  go_wp2_with (first
   | (go_at_call 99; refine HA.out.mono ?_; rintro x w1 ⟨rfl, r1, k1⟩; have W1 := hide (W0.out.move k1 r1 hP); have c1 := W1.out.ss.c0; clear k1 r1 HA)
   | (go_at_call 76; refine (HC1 w1 W1.out.ss).out.mono ?_; rintro x w2 ⟨rfl, k2, r2, l2⟩; have W2 := hide (W1.out.move k2 r2 l2); have c2 := W2.out.ss.c0; clear k2 r2 HC1)
   | (go_at_call 76; refine (HC2 w2 W2.out.ss).out.mono ?_; rintro x w3 ⟨rfl, k3, r3, l3⟩; have W3 := hide (W2.out.move k3 r3 l3); have c3 := W3.out.ss.c0; have d3 := W3.out.ss.c1; clear k3 r3 HC2)
   | (go_at_call 100; refine (room_no W3.out.ss hm8 ho n hov).mono ?_; rintro x w4 ⟨rfl, kk, rfl⟩))
  go_ret
  exact DBad.ok HR.out ⟨rfl, (W3.out.drew kk).kept, by decide, by decide⟩
 rw [if_neg hov] at hR
 replace hov : out.length + n <= m := by omega
 have hrd : (q2 + 7) / 8 * 8 = q2 := by omega
 obtain ⟨K, hK⟩ : ∃ K, K = (q2 + 7) / 8 := ⟨_, rfl⟩
 have hq2K : q2 = 8 * K := by omega
 by_cases hen : len * 8 < q2 + 8 * n
 case pos =>
  rw [if_pos hen] at hR
  have HR := hide hR
  have HB := fun w' (s : SS B bs br a len cap zs m w' q2 o oc fc out) => hide (rbytes_no br a len cap q2 (n : Int) w' s.rd hl8 s.pl (.inr (by omega)))
  clear hR hs hK
  go_enter Tryz.func77, Tryz.ntmps77
  go_wp2_with (first
   | (go_at_call 99; refine HA.out.mono ?_; rintro x w1 ⟨rfl, r1, k1⟩; have W1 := hide (W0.out.move k1 r1 hP); have c1 := W1.out.ss.c0; clear k1 r1 HA)
   | (go_at_call 76; refine (HC1 w1 W1.out.ss).out.mono ?_; rintro x w2 ⟨rfl, k2, r2, l2⟩; have W2 := hide (W1.out.move k2 r2 l2); have c2 := W2.out.ss.c0; clear k2 r2 HC1)
   | (go_at_call 76; refine (HC2 w2 W2.out.ss).out.mono ?_; rintro x w3 ⟨rfl, k3, r3, l3⟩; have W3 := hide (W2.out.move k3 r3 l3); have c3 := W3.out.ss.c0; have d3 := W3.out.ss.c1; clear k3 r3 HC2)
   | (go_at_call 100; refine (room_yes W3.out.ss hm8 n hov).mono ?_; rintro x w4 ⟨rfl, kk, rfl⟩; have W4 := hide (W3.out.drew kk); have c4 := W4.out.ss.c0)
   | (go_at_call 101; refine (HB _ W4.out.ss).out.mono ?_; rintro x w5 ⟨rfl, rfl⟩))
  go_ret
  exact DBad.ok HR.out ⟨rfl, W4.out.kept, by decide, by decide⟩
 rw [if_neg hen] at hR
 have hkn : K + n <= zs.length := by omega
 rw [hq2K, iBytes_take zs K n HZ.out hkn, <- hq2K] at hR
 have HR := hide hR
 have HB := fun w' (s : SS B bs br a len cap zs m w' q2 o oc fc out) => rbytes_yes B br a len cap q2 n (n : Int) rfl zs w' s.rd s.tx hcap hl s.pl (by omega)
 rw [<- hK] at HB
 obtain ⟨D, hD⟩ : ∃ D, D = (zs.drop K).take n := ⟨_, rfl⟩
 have hDl : D.length = n := by rw [hD]; simp; omega
 rw [<- hD] at HB HR
 have hq5 : 8 * (K + n) <= len * 8 := by omega
 rw [show q2 + 8 * n = 8 * (K + n) by omega] at HR
 clear hR hs hK hD hrd
 go_enter Tryz.func77, Tryz.ntmps77
 go_wp2_with (first
   | (go_at_call 99; refine HA.out.mono ?_; rintro x w1 ⟨rfl, r1, k1⟩; have W1 := hide (W0.out.move k1 r1 hP); have c1 := W1.out.ss.c0; clear k1 r1 HA)
   | (go_at_call 76; refine (HC1 w1 W1.out.ss).out.mono ?_; rintro x w2 ⟨rfl, k2, r2, l2⟩; have W2 := hide (W1.out.move k2 r2 l2); have c2 := W2.out.ss.c0; clear k2 r2 HC1)
   | (go_at_call 76; refine (HC2 w2 W2.out.ss).out.mono ?_; rintro x w3 ⟨rfl, k3, r3, l3⟩; have W3 := hide (W2.out.move k3 r3 l3); have c3 := W3.out.ss.c0; have d3 := W3.out.ss.c1; clear k3 r3 HC2)
   | (go_at_call 100; refine (room_yes W3.out.ss hm8 n hov).mono ?_; rintro x w4 ⟨rfl, kk, rfl⟩; have W4 := hide (W3.out.drew kk); have c4 := W4.out.ss.c0)
   | (go_at_call 101; refine (HB _ W4.out.ss).mono ?_; rintro x w5 ⟨rfl, o5, r5, k5⟩; have W5 := hide (W4.out.move k5 r5 hq5); have c5 := W5.out.ss.c1; have g5 := free_of W5.out.ss.s0 1; have O5 := hide o5; have z5 := lt_of_block W5.out.ss.s0; clear o5 r5 k5)
   | (at_builtin; refine wpList_append_own_at _ rfl _ _ 24 rfl B 5 j0 (.int .u8 0) 1 1 Tryz.underlying24 hj0 hj1 hj2 hj3 rfl (by decide) (.slice o out.length oc) out.length (out.map (Value.int .u8)) rfl W5.out.ss.owns ⟨w3.heap.size, 0, none⟩ n n (D.map (Value.int .u8)) rfl (by simp [hDl]) (src_ofP O5.out hDl) (bytes_one D) (by unfold maxLen; omega) (by omega) (by have := W5.out.ss.inb; omega) ?_; intro v6 w6 ow6 gr6 _ at6; obtain ⟨o6, c6, rfl⟩ := own_form ow6; have W6 := hide (W5.out.onto hDl ow6 gr6 at6); have f6 := W5.out.after0 gr6; have g6 := free_of f6 1; have d6 := cells_of f6 1; simp [fA] at d6; have z6 := lt_of_block f6; clear ow6 gr6 at6 f6))
 go_ret
 exact DGot.ok HR.out W6.out.got
end
end Go.Proofs.YteknifnadbmfiaaGreatDoor
