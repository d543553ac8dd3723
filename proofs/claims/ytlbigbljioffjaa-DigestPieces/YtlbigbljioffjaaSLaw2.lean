/- The law on pieces: walked. -/
import Derived.Test.YtlbigbljioffjaaSOpen
import Derived.Test.YtlbigbljioffjaaSEq
namespace Go.Proofs.Ytlbigbljioffjaa.S
set_option maxRecDepth 100000
open Go Go.RowKit

/-- The bytes of the first pieces, one behind the other. -/
def allB (rs : List (Option Addr × Nat × List Nat)) : List Nat := (rs.map fun r => r.2.2).flatten
theorem allB_push (rs : List (Option Addr × Nat × List Nat)) (k : Nat) (r : Option Addr × Nat × List Nat) (h : rs[k]? = some r) : allB (rs.take (k + 1)) = allB (rs.take k) ++ r.2.2 := by
  unfold allB
  rw [List.take_add_one, h]
  simp
/-- What stands in memory while pieces are written. -/
structure PW (w w1 wx : World) (bh : Nat) (v : Value) (xs : List Nat) : Prop where
  hash : HashAt wx bh xs
  own : OwnsB wx w1.heap.size v xs
  by_ : By xs
  bel : Below w.heap.size w wx
  size : w1.heap.size ≤ wx.heap.size
theorem PW.stay {w w1 wx wy : World} {bh : Nat} {v : Value} {xs : List Nat} (h : PW w w1 wx bh v xs) (hk : Below wx.heap.size wx wy) : PW w w1 wy bh v xs :=
  ⟨h.hash.below hk h.hash.lt, h.own.stay hk, h.by_, h.bel.trans (hk.mono h.bel.size), Nat.le_trans h.size hk.size⟩
theorem PW.wrote {w w1 wx wy : World} {bh : Nat} {v : Value} {xs : List Nat} (h : PW w w1 wx bh v xs) (hb : w.heap.size ≤ bh) (h1 : bh < w1.heap.size) (hk : Kept (fun k => k = bh) wx wy) : OwnsB wy w1.heap.size v xs ∧ Below w.heap.size w wy ∧ w1.heap.size ≤ wy.heap.size :=
  ⟨ownsRow_kept h.own hk (fun g hg e => by have := (ownsRow_lt h.own hg).1; omega), h.bel.trans (hk.below h.bel.size (fun i hi e => by omega)), Nat.le_trans h.size hk.size⟩
theorem PW.grew {w w1 wy wz : World} {bh : Nat} {v v' : Value} {xs zs : List Nat} (hb : w.heap.size ≤ bh) (h1 : bh < w1.heap.size) (hh : HashAt wy bh zs) (ho : OwnsB wy w1.heap.size v xs) (hbel : Below w.heap.size w wy) (hs : w1.heap.size ≤ wy.heap.size) (hg : wy.grownBy wz v.ownBlock) (ho' : OwnsB wz w1.heap.size v' zs) (hz : By zs) : PW w w1 wz bh v' zs :=
  ⟨hh.kept (Kept.of_grown hg) (fun e => by have := (ownsRow_lt ho e.symm).1; omega), ho', hz, hbel.trans ((Kept.of_grown hg).below hbel.size (fun i hi e => by have := (ownsRow_lt ho e.symm).1; omega)), Nat.le_trans hs hg.size⟩
theorem PW.sums {w w1 wx : World} {bh : Nat} {v : Value} {xs : List Nat} (h : PW w w1 wx bh v xs) (hl : xs.length ≤ 140737488351232) :
    Calls Try.prog 12 #[.pointer (some ⟨bh, 0, none⟩)] wx fun e w' => e = .returned (.agg (oA (sum xs) 20)) ∧ PW w w1 w' bh v xs :=
  (hsum_c bh xs wx h.hash (by omega)).mono fun e w' ⟨he, hb⟩ => ⟨he, h.stay hb⟩
theorem PW.refs {w w1 wx : World} {bh : Nat} {v : Value} {xs : List Nat} (h : PW w w1 wx bh v xs) (hl : xs.length ≤ 140737488351232) :
    Calls Try.prog 9 #[v] wx fun e w' => e = .returned (.agg (oA (sum xs) 20)) ∧ PW w w1 w' bh v xs := by
  obtain ⟨a, c, rfl, _, _, hn⟩ := h.own.form
  exact (rsum_c a c xs wx h.by_ h.own.text hn hl).mono fun e w' ⟨he, hb⟩ => ⟨he, h.stay hb⟩
theorem PW.alive {w w1 wx : World} {bh : Nat} {v : Value} {xs : List Nat} (h : PW w w1 wx bh v xs) :
    Calls Try.prog 7 #[] wx fun e w' => e = .returned (.bool true) ∧ PW w w1 w' bh v xs :=
  (alive_c wx).mono fun _ _ ⟨he, hb⟩ => ⟨he, h.stay hb⟩

set_option maxHeartbeats 4000000 in
theorem pieces_walk (a : Option Addr) (cap : Nat) (rs : List (Option Addr × Nat × List Nat)) (w : World) (h : RowsIn w a rs) :
    Calls Try.prog 4 #[.slice a rs.length cap] w (Yes w) := by
  have HRI := hide h
  clear h
  obtain ⟨n, hn⟩ : ∃ n, n = rs.length := ⟨_, rfl⟩
  have HN := hide hn
  rw [← hn]
  clear hn
  by_cases h60 : 60 < n
  · have h60' : (60 : Int) < (n : Int) := by omega
    go_enter Try.func4, Try.ntmps4
    go_wp2_with (first
      | (go_at_call 10; refine (new_c _).mono ?_; rintro e w1 ⟨bh, rfl, h1, h2, h3⟩; have B1 := hide h3; clear h1 h2 h3)
      | (go_at_call 7; refine (alive_c _).mono ?_; rintro e w2 ⟨rfl, b2⟩; have B2 := hide (B1.out.trans (b2.mono B1.out.size)); clear b2))
    go_ret
    exact ⟨rfl, B2.out⟩
  · have h60' : ¬ (60 : Int) < (n : Int) := by omega
    go_enter Try.func4, Try.ntmps4
    go_wp2_with (go_at_call 10; refine (new_c _).mono ?_; rintro e w1 ⟨bh, rfl, h1, h2, h3⟩; have HP0 := hide (⟨h2, OwnsB.nil _ _, fun x hx => by simp at hx, h3, Nat.le_refl _⟩ : PW w w1 w1 bh (.slice none 0 0) []); have hb1 := h2.lt; have hb0 := h1; clear h1 h2 h3)
    go_loopg [4, 22] n (fun gk v4 v22 wx => ∃ k : Nat, k + gk = n ∧ v22 = .int .i64 k ∧ Hid ((allB (rs.take k)).length ≤ 2000 * k) ∧ Hid (PW w w1 wx bh v4 (allB (rs.take k))))
    case atStart => exact ⟨0, by omega, rfl, Nat.le_refl _, HP0⟩
    case round =>
      obtain ⟨k, hkg, rfl, HLN, HP⟩ := hrel
      clear HP0
      have hxl : (allB (rs.take k)).length ≤ 140737488351232 := by have := HLN.out; omega
      have heq := fun W => eq20 (sum (allB (rs.take k))) W
      cases gk with
      | zero =>
        obtain rfl : k = n := by omega
        have hge : ¬ (k : Int) < (k : Int) := by omega
        obtain ⟨xs, hxs⟩ : ∃ xs, xs = allB (rs.take k) := ⟨_, rfl⟩
        rw [← hxs] at HP hxl heq
        clear hxs HLN
        have HAL := fun W (q : PW w w1 W bh u4 xs) => hide q.alive
        have HSU := fun W (q : PW w w1 W bh u4 xs) => hide (q.sums hxl)
        have HRE := fun W (q : PW w w1 W bh u4 xs) => hide (q.refs hxl)
        generalize oA (sum xs) 20 = oc at HSU HRE heq
        go_wp2_with (first
          | (go_at_call 7; refine (HAL _ HP.out).out.mono ?_; rintro e w2 ⟨rfl, p2⟩; have P2 := hide p2; clear p2)
          | (go_at_call 12; refine (HSU _ P2.out).out.mono ?_; rintro e w3 ⟨rfl, p3⟩; have P3 := hide p3; clear p3)
          | (go_at_call 9; refine (HRE _ P3.out).out.mono ?_; rintro e w4 ⟨rfl, p4⟩; have P4 := hide p4; clear p4))
        go_ret
        exact ⟨rfl, P4.out.bel⟩
      | succ g1 =>
        have hlt : (k : Int) < (n : Int) := by omega
        have hkr : k < rs.length := by have := HN.out; omega
        obtain ⟨b, off, hbw, rfl, hrow⟩ := HRI.out.resolve_left (by omega)
        obtain ⟨hc, hbi⟩ := hrow k rs[k] (List.getElem?_eq_getElem hkr)
        have HPU := hide (allB_push rs k rs[k] (List.getElem?_eq_getElem hkr))
        obtain ⟨⟨ar, cr, ys⟩, hr⟩ : ∃ r, r = rs[k] := ⟨_, rfl⟩
        rw [← hr] at hc hbi HPU
        simp only at hc hbi HPU
        have HBI := hide hbi
        have hck := (HP.out.bel.cell (p := ⟨b, off + k, none⟩) hbw).trans hc
        clear hr hc hbi hrow hkr
        obtain ⟨m, hm⟩ : ∃ m, m = ys.length := ⟨_, rfl⟩
        have HM := hide hm
        rw [← hm] at hck
        clear hm
        have i0 : (0 : Int) ≤ (k : Int) := by omega
        by_cases h2 : 2000 < m
        · have h2' : (2000 : Int) < (m : Int) := by omega
          go_wp2_with (go_at_call 7; refine HP.out.alive.mono ?_; rintro e w2 ⟨rfl, p2⟩)
          go_ret
          exact ⟨rfl, p2.bel⟩
        · have h2' : ¬ (2000 : Int) < (m : Int) := by omega
          obtain ⟨xs, hxs⟩ : ∃ xs, xs = allB (rs.take k) := ⟨_, rfl⟩
          rw [← hxs] at HP HPU HLN hxl
          clear hxs heq
          have hzl : (xs ++ ys).length ≤ 140737488351232 := by have := HLN.out; rw [List.length_append, ← HM.out]; omega
          have hzl2 : Hid ((allB (rs.take (k + 1))).length ≤ 2000 * (k + 1)) := by
            have := HLN.out
            have := HM.out
            show _ ≤ _
            rw [HPU.out, List.length_append]; omega
          have hzb : By (xs ++ ys) := HP.out.by_.append HBI.out.by_
          have HZB := hide hzb
          have hcap : m ≤ cr := by rw [HM.out]; exact HBI.out.cap_
          have HWR : Hid (Calls Try.prog 11 #[.pointer (some ⟨bh, 0, none⟩), .slice ar m cr] wr fun e w' => e = .returned (.tuple #[]) ∧ HashAt w' bh (xs ++ ys) ∧ Kept (fun k => k = bh) wr w') := by
            rw [HM.out]
            refine write_c bh ar cr xs ys wr HP.out.hash HBI.out.by_ ?_ HBI.out.cap_ HBI.out.most (by have := HM.out; omega)
            rcases HBI.out.text with h | ⟨b2, o2, e, hb2, hs2⟩
            · exact .inl h
            · exact .inr ⟨b2, o2, e, Nat.lt_of_lt_of_le hb2 HP.out.bel.size, by omega, hs2.below HP.out.bel hb2⟩
          have heq := fun W => eq20 (sum (xs ++ ys)) W
          have HSU := fun W v (q : PW w w1 W bh v (xs ++ ys)) => hide (q.sums hzl)
          have HRE := fun W v (q : PW w w1 W bh v (xs ++ ys)) => hide (q.refs hzl)
          generalize oA (sum (xs ++ ys)) 20 = oc at HSU HRE heq
          have hbnd : xs.length + m ≤ 140737488355328 := by omega
          have HNI := hide (show ar = none → m = 0 ∧ cr = 0 by rw [HM.out]; exact HBI.out.nil)
          clear hzb
          go_upto_region 11 with (go_at_call 11; refine HWR.out.mono ?_; rintro e w2 ⟨rfl, h2, k2⟩; have H2 := hide h2; have Q2 := hide (HP.out.wrote hb0 hb1 k2); clear h2 k2)
          go_wp2_with (first
            | (refine wpList_appB _ rfl (.tmp 33) (.tmp 34) rfl w1.heap.size u4 xs (by rfl) Q2.out.1 ar m cr (by rfl) ys (xs ++ ys) rfl HM.out.symm (HBI.out.text.below Q2.out.2.1) HNI.out hbnd Q2.out.2.2 ?_; intro v5 w3 h3 k3; have P3 := hide (PW.grew hb0 hb1 H2.out Q2.out.1 Q2.out.2.1 Q2.out.2.2 k3 h3 HZB.out); clear h3 k3)
            | (go_at_call 12; refine (HSU _ _ P3.out).out.mono ?_; rintro e w4 ⟨rfl, p4⟩; have P4 := hide p4; clear p4)
            | (go_at_call 9; refine (HRE _ _ P4.out).out.mono ?_; rintro e w5 ⟨rfl, p5⟩; have P5 := hide p5; clear p5))
          go_roundg g1
          case measure => omega
          case rel => exact ⟨k + 1, by omega, by go_num, hzl2, by rw [HPU.out]; exact P5⟩
end Go.Proofs.Ytlbigbljioffjaa.S
