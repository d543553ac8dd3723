/- The law on places side by side: walked. -/
import Derived.Test.YtofcpnehnpopaaaMNear
import Derived.Test.YtofcpnehnpopaaaMFinds0
namespace Go.Proofs.Ytofcpnehnpopaaa
set_option maxRecDepth 100000
open Go Go.RowKit

theorem Try.info4 : (Try.prog.info? 4).map (fun i => (i.zero, i.size, i.bytes)) = some (some (.bool false), 1, 1) := by kernel_rfl
/-- A slice value that owns truths. -/
def OwnsO (w : World) (base : Nat) (v : Value) (D : List Bool) : Prop := w.ownsRow base 4 1 v D.length (D.map Value.bool)
theorem OwnsO.stay {w w' : World} {base : Nat} {v : Value} {L : List Bool} (h : OwnsO w base v L) (k : Below w.heap.size w w') : OwnsO w' base v L := ownsRow_kept h (Kept.of_below k) (fun g hg e => by have := (ownsRow_lt h hg).2; omega)
theorem OwnsO.form {w : World} {base : Nat} {v : Value} {L : List Bool} (h : OwnsO w base v L) : ∃ a cap, v = .slice a L.length cap := by
  rcases h.2 with ⟨rfl, h2⟩ | ⟨g, cap, cur, rfl, _⟩
  · exact ⟨none, 0, by rw [h2]⟩
  · exact ⟨_, _, rfl⟩
theorem OwnsO.at_ {w : World} {base : Nat} {a : Option Addr} {cap : Nat} {L : List Bool} (h : OwnsO w base (.slice a L.length cap) L) : L.length = 0 ∨ ∃ g, a = some ⟨g, 0, none⟩ ∧ g < w.heap.size ∧ ∀ j, j < L.length → w.cell? ⟨g, j, none⟩ = some (.bool (al L j)) := by
  rcases h.2 with ⟨_, h2⟩ | ⟨g, cap', cur, hv, hg, hh, hr⟩
  · exact .inl h2
  · simp at hv
    refine .inr ⟨g, hv.1, lt_of_block hh, fun j hj => ?_⟩
    rw [hv.1] at h
    rw [World.ownsRow.cellAt h j (by omega)]
    simp [al, List.getD, hj]
theorem one_bool (w : World) (x : Bool) (n : Nat) (h : w.heap.size = n) : ∀ j u, ([.bool x] : List Value)[j]? = some u → (w.alloc (.cells #[.bool x] 4)).cell? ((⟨n, 0, none⟩ : Addr).add j) = some u := by
  subst h; exact World.news_of_block (heap_new w (.cells #[.bool x] 4))
theorem wpList_pushO {ops : Array Oper} {rest : List Oper} {o : Oper} {act : Act} {Q : Exit → Act → World → Prop} (w : World) (hgd : o.guard = none) (s x : Operand)
    (ho : o.op = .call { callee := .builtin .append, args := #[s, x], argTypes := #[33, 33] })
    (base : Nat) (v : Value) (X : List Bool) (hs : act.eval s = v) (hown : OwnsO w base v X) (t : Bool) (ad : Nat) (hx : act.eval x = .slice (some ⟨ad, 0, none⟩) 1 1)
    (hc : ∀ j u, ([.bool t] : List Value)[j]? = some u → w.cell? ((⟨ad, 0, none⟩ : Addr).add j) = some u) (hb : X.length ≤ 1000000000) (hbase : base ≤ w.heap.size)
    (h : ∀ a' cap' w', OwnsO w' base (.slice a' (X.length + 1) cap') (X ++ [t]) → w.grownBy w' v.ownBlock → wpList Try.prog ops Q rest (act.put o.dst (.slice a' (X.length + 1) cap')) w') : wpList Try.prog ops Q (o :: rest) act w := by
  obtain ⟨i, hi, hz, hsz, hby⟩ := info_parts Try.info4
  refine wpList_append_own w hgd s x 33 ho base 4 i _ 1 1 Try.underlying33 hi hz hsz hby rfl (by decide) v X.length (X.map Value.bool) hs hown ⟨ad, 0, none⟩ 1 1 [.bool t] hx rfl hc (by intro u hu; simp at hu; subst hu; rfl) (by unfold maxLen; omega) (by omega) hbase ?_
  intro v' w' h1 h2 _
  have h3 : OwnsO w' base v' (X ++ [t]) := by
    unfold OwnsO
    rw [List.length_append, List.length_singleton, List.map_append, List.map_singleton]
    exact h1
  obtain ⟨a', cap', rfl⟩ := h3.form
  rw [List.length_append, List.length_singleton] at h3 ⊢
  exact h a' cap' w' h3 h2
def OSt (w wx : World) (v : Value) (out : List Bool) : Prop := OwnsO wx w.heap.size v out ∧ Below w.heap.size w wx
theorem OSt.alloc {w wx : World} {v : Value} {out : List Bool} (h : OSt w wx v out) (o : Obj) : OSt w (wx.alloc o) v out :=
  ⟨h.1.stay ((Below.refl _ wx).alloc (Nat.le_refl _) _), h.2.alloc h.2.size _⟩
theorem OSt.push {w wx wy : World} {v v' : Value} {out out' : List Bool} (h : OSt w wx v out) (ho : OwnsO wy w.heap.size v' out') (hg : wx.grownBy wy v.ownBlock) : OSt w wy v' out' :=
  ⟨ho, h.2.grown hg h.2.size (fun _ e => (ownsRow_lt h.1 e).1)⟩

set_option maxHeartbeats 8000000 in
theorem alones_c (a : Option Addr) (cap : Nat) (xs : List Tk) (w : World) (h : Toks w a xs) (hl : xs.length ≤ 1000000) (hr : Rt xs) :
    Calls Try.prog 15 #[.slice a xs.length cap] w fun e w' => ∃ o oc, e = .returned (.slice o (alo xs).length oc) ∧ OSt w w' (.slice o (alo xs).length oc) (alo xs) := by
  have HT := hide h
  have HRT := hide hr
  clear hr h
  go_enter Try.func15, Try.ntmps15
  go_wp2_with fail
  go_loopg [3, 4, 5] xs.length (fun gk v3 v4 v5 wx => ∃ (i : Nat) (o : Option Addr) (oc : Nat), i + gk = xs.length ∧ v3 = .slice o (alo (xs.take i)).length oc ∧ v4 = .int .i64 i ∧ Hid (OSt w wx (.slice o (alo (xs.take i)).length oc) (alo (xs.take i))))
  case atStart => exact ⟨0, none, 0, by omega, rfl, rfl, World.ownsRow_nil _ _ _ _, Below.refl _ _⟩
  case round =>
    obtain ⟨i, o, oc, hig, rfl, rfl, HS⟩ := hrel
    cases gk with
    | zero =>
      obtain rfl : i = xs.length := by omega
      rw [List.take_length] at HS ⊢
      go_wp2_with fail
      go_ret
      exact ⟨o, oc, rfl, HS.out⟩
    | succ g1 =>
      have hlt : (i : Int) < (xs.length : Int) := by omega
      obtain ⟨t, ht⟩ : ∃ t, tk xs i = t := ⟨_, rfl⟩
      have HTK := hide ht
      have hok := (HRT.out i (by omega)).tl
      have hsum := RtTo.sum (i := i) (fun j hj => HRT.out j (by omega)) (by omega)
      have hlen := alo_to (i := i) (fun j hj => HRT.out j (by omega)) (by omega)
      rw [← hlen] at hsum
      have HN : Hid (alo (xs.take (i + 1)) = alo (xs.take i) ++ List.replicate (tl t).toNat (decide (t.2.1 = 0))) := by rw [tk_take_snoc (by omega), alo_snoc, ht]; exact rfl
      rw [ht] at hok
      obtain ⟨Bb, L, K⟩ := t
      simp only at HN
      obtain ⟨n, hn⟩ : ∃ n : Nat, tl (Bb, L, K) = (n : Int) := ⟨(tl (Bb, L, K)).toNat, by omega⟩
      have HNN := hide hn
      rw [hn] at hok HN
      rw [Int.toNat_natCast] at HN
      obtain ⟨out, hout⟩ : ∃ out, alo (xs.take i) = out := ⟨_, rfl⟩
      rw [hout] at hsum HN HS ⊢
      have hol : out.length ≤ 258000000 := by omega
      have hsz := HS.out.2.size
      obtain ⟨β, hβ⟩ : ∃ β, decide (L = 0) = β := ⟨_, rfl⟩
      have hβ2 : (L == 0) = β := by rw [← hβ]; rfl
      rw [hβ] at HN
      clear hlen hout ht hsum hn
      go_wp2_with fail
      go_loopg [3, 5] n (fun g2 v3 v5 wx => ∃ (j : Nat) (o : Option Addr) (oc : Nat), j + g2 = n ∧ v3 = .slice o (out.length + j) oc ∧ v5 = .int .i64 j ∧ Hid (OSt w wx (.slice o (out.length + j) oc) (out ++ List.replicate j β)))
      case atStart => exact ⟨0, o, oc, by omega, rfl, rfl, hide (by simpa using HS.out)⟩
      case round =>
        obtain ⟨j, o, oc, hjg, rfl, rfl, HJ⟩ := hrel
        obtain ⟨b, off, rfl, hbl', d0, d1, d2⟩ := HT.out.three HJ.out.2 (i := i) (by omega)
        rw [HTK.out] at d0 d1 d2
        simp only at d0 d1 d2
        have hszw := HJ.out.2.size
        clear HS
        cases gk with
        | zero =>
          obtain rfl : j = n := by omega
          go_wp2_with (go_at_call 26; refine (qLong_c Bb L K _).mono ?_; rw [HNN.out]; rintro e w8 ⟨rfl, rfl⟩)
          go_roundg g1
          case measure => omega
          case rel => exact ⟨i + 1, o, oc, by omega, by rw [HN.out]; simp, by go_num, by rw [HN.out, List.length_append, List.length_replicate]; exact HJ.out.alloc _⟩
        | succ g3 =>
          have hltn : (j : Int) < (n : Int) := by omega
          have hJl : (out ++ List.replicate j β).length = out.length + j := by simp
          have HJL := hide hJl
          clear hJl
          go_wp2_with (first
            | (go_at_call 26; refine (qLong_c Bb L K _).mono ?_; rw [HNN.out]; rintro e w8 ⟨rfl, rfl⟩)
            | (at_builtin; refine wpList_pushO _ rfl _ _ rfl w.heap.size _ (out ++ List.replicate j β) rfl ((HJ.out.alloc (tO (Bb, L, K))).alloc (.cells #[.bool β] 4)).1 β _ rfl (one_bool _ _ _ (by simp)) (by rw [HJL.out]; omega) (by simp; omega) ?_; rw [HJL.out]; intro o7 c7 w7 h7 g7; have HP := hide (((HJ.out.alloc (tO (Bb, L, K))).alloc (.cells #[.bool β] 4)).push h7 g7); clear h7 g7))
          go_roundg g3
          case measure => omega
          case rel =>
            refine ⟨j + 1, o7, c7, by omega, by rw [Nat.add_assoc], by go_num, ?_⟩
            have := HP.out
            rw [List.append_assoc, ← List.replicate_succ', Nat.add_assoc] at this
            exact this
end Go.Proofs.Ytofcpnehnpopaaa
