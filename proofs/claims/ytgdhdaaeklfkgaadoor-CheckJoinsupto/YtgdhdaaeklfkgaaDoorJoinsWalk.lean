/- PROVED: the walk of the law CheckJoins, for texts of at most 1048576 bytes each. -/
import Derived.Test.YtgdhdaaeklfkgaaDoorLaidTab
import Derived.Laws.AppendOwnNone
import Derived.Deep.DeepCutAuto
import Derived.Deep.DeepFit
namespace Go.Proofs.YtgdhdaaeklfkgaaDoor
open Go Go.RowKit

/-- The sum of two texts comes of both sums. -/
theorem mr_join {xs ys : List Nat} (hx : ∀ x ∈ xs, x < 256) (hy : ∀ x ∈ ys, x < 256) : mr 0 (xs ++ ys) = jn (mr 0 xs) (mr 0 ys) ys.length := by
  rw [mr_append xs ys hx]
  have hA := mr_lt 0 xs
  generalize mr 0 xs = A at hA
  unfold jn mr
  have h0 : tn 0 = 4294967295 := rfl
  have hg : go (tn A) ys = stN (8 * ys.length) A ^^^ go (tn 0) ys := by
    rw [go_ms, go_ms, tn_xor hA, Nat.xor_assoc, stN_xor, h0]
  rw [tn_xor (go_lt ys (tn_lt A) hy), tn_xor (go_lt ys (tn_lt 0) hy), hg, Nat.xor_assoc]

def asB (X : List Nat) : List Value := X.map fun x => Value.int .u8 ((x : Nat) : Int)
theorem asB_app (X Y : List Nat) : asB X ++ asB Y = asB (X ++ Y) := by simp [asB]
theorem asB_one (X : List Nat) : ∀ u ∈ asB X, u.oneCell' = true := by
  intro u hu
  obtain ⟨x, _, rfl⟩ := List.mem_map.1 hu
  rfl
theorem own_empty (w : World) : (w.alloc (.cells #[] 5)).ownsRow w.heap.size 5 1 (.slice (some ⟨w.heap.size, 0, none⟩) 0 0) 0 (asB []) :=
  ⟨rfl, Or.inr ⟨w.heap.size, 0, #[], rfl, Nat.le_refl _, heap_new _ _, Nat.le_refl _, by unfold maxLen; omega, rfl, rfl⟩⟩
theorem ownsRow_lt {w : World} {base : Nat} {e : TypeId} {size : Nat} {v : Value} {n : Nat} {xs : List Value} (h : w.ownsRow base e size v n xs) {g : Nat} (hg : v.ownBlock = some g) : base ≤ g := by
  obtain ⟨h1, h2⟩ := h
  rcases h2 with ⟨rfl, _⟩ | ⟨g', cap, cur, rfl, hb, hh, r⟩
  · simp [Value.ownBlock] at hg
  · simp [Value.ownBlock] at hg
    subst hg
    exact hb
theorem bytes_of_owns {w : World} {B : Nat} {v : Value} {X : List Nat} (h : w.ownsRow B 5 1 v X.length (asB X)) : BytesAt w v X := by
  obtain ⟨h1, h2⟩ := h
  rcases h2 with ⟨rfl, h2⟩ | ⟨g, cap, cur, rfl, hg, hh, hn, hm, hs, ht⟩
  · exact Or.inl ⟨List.eq_nil_of_length_eq_zero h2, _, _, rfl⟩
  · refine Or.inr ⟨g, 0, cap, rfl, fun i hi => ?_⟩
    rw [Nat.zero_add, cells_of hh]
    have := congrArg (fun l : List Value => l[i]?) ht
    simp only [Nat.mul_one] at this
    rw [List.getElem?_take_of_lt hi, Array.getElem?_toList] at this
    rw [this]
    simp [asB, List.getD, hi]

theorem wpList_append_bytes {ops : Array Oper} {rest : List Oper} {o : Oper} {a : Act} {Q : Exit → Act → World → Prop} (w : World) (hgd : o.guard = none) (s x : Operand)
    (ho : o.op = .call { callee := .builtin .append, args := #[s, x], argTypes := #[22, 22] })
    (base : Nat) (v : Value) (n : Nat) (X : List Nat) (hs : a.eval s = v) (hown : w.ownsRow base 5 1 v n (asB X)) (ao : Option Addr) (m c : Nat) (hx : a.eval x = .slice ao m c) (Y : List Nat) (hb : BytesAt w (.slice ao m c) Y) (hm : Y.length = m)
    (hnone : ao = none → m = 0 ∧ c = 0) (hbound : n + m ≤ 140737488355328) (hbase : base ≤ w.heap.size)
    (h : ∀ v' w', w'.ownsRow base 5 1 v' (n + m) (asB (X ++ Y)) → w.grownBy w' v.ownBlock → wpList Tryd.prog ops Q rest (a.put o.dst v') w') : wpList Tryd.prog ops Q (o :: rest) a w := by
  obtain ⟨i5, hi5, hz5, hs5, hb5⟩ := info5
  cases ao with
  | none =>
    obtain ⟨rfl, rfl⟩ := hnone rfl
    have hY := List.eq_nil_of_length_eq_zero hm
    subst hY
    refine wpList_append_own_none hgd s x 22 ho base 5 i5 1 Tryd.underlying22 hi5 v n (asB X) hs hown hx ?_
    exact h v w (by simpa using hown) ⟨rfl, rfl, rfl, Nat.le_refl _, fun _ _ _ => rfl⟩
  | some ad =>
    refine wpList_append_own w hgd s x 22 ho base 5 i5 (.int .u8 0) 1 1 Tryd.underlying22 hi5 hz5 hs5 hb5 rfl (by decide) v n (asB X) hs hown ad m c (asB Y) hx (by simp [asB]; exact hm) ?_ (asB_one Y) (by unfold maxLen; omega) (by omega) hbase ?_
    · intro j u hj
      have hlt : j < Y.length := by
        rcases Nat.lt_or_ge j Y.length with h' | h'
        · exact h'
        · rw [List.getElem?_eq_none (by simpa [asB] using h')] at hj; simp at hj
      obtain ⟨b, o', hao, _, hc⟩ := bytes_addr hb hm (by omega)
      obtain rfl := Option.some.inj hao
      have hadd : (⟨b, o', none⟩ : Addr).add j = ⟨b, o' + j, none⟩ := by unfold Addr.add; split <;> simp_all
      rw [hadd, hc j (by omega), ← hj]
      simp [asB, List.getD, hlt]
    · intro v' w' h1 h2 _
      rw [asB_app] at h1
      exact h v' w' h1 h2

set_option maxHeartbeats 1000000 in
set_option maxRecDepth 100000 in
theorem joins_walk (aa ab : Option Addr) (la lb ca cb : Nat) (xa xb : List Nat) (w : World) (ha : BytesAt w (.slice aa la ca) xa) (hb : BytesAt w (.slice ab lb cb) xb) (ea : xa.length = la) (eb : xb.length = lb) (ma : ∀ x ∈ xa, x < 256) (mb : ∀ x ∈ xb, x < 256)
    (na : la ≤ 1048576) (nb : lb ≤ 1048576) (za : aa = none → la = 0 ∧ ca = 0) (zb : ab = none → lb = 0 ∧ cb = 0) (hT : DeB w) :
    Calls Tryd.prog 3 #[.slice aa la ca, .slice ab lb cb] w fun e w' => e = .returned (.bool true) ∧ Below w.heap.size w w' := by
  have hz := zeroA
  obtain ⟨A, hA⟩ : ∃ A, A = mr 0 xa := ⟨_, rfl⟩
  obtain ⟨B, hB⟩ : ∃ B, B = mr 0 xb := ⟨_, rfl⟩
  obtain ⟨S, hS⟩ : ∃ S, S = mr 0 (xa ++ xb) := ⟨_, rfl⟩
  have mab : ∀ x ∈ xa ++ xb, x < 256 := fun x hx => by
    rcases List.mem_append.1 hx with h | h
    · exact ma x h
    · exact mb x h
  have hAl : A < 4294967296 := by rw [hA]; exact mr_lt _ _
  have hBl : B < 4294967296 := by rw [hB]; exact mr_lt _ _
  have CA : Hid (∀ bl W, TabIn W bl → Ok W (.slice aa la ca) xa → Calls Tryd.prog 6 #[.pointer (some ⟨bl, 0, none⟩), .slice aa la ca] W fun e w' => e = .returned (.int .u32 (A : Int)) ∧ w' = W) := fun bl W q1 q2 => by rw [hA]; exact sum_ok bl _ xa W q1 q2
  have CB : Hid (∀ bl W, TabIn W bl → Ok W (.slice ab lb cb) xb → Calls Tryd.prog 6 #[.pointer (some ⟨bl, 0, none⟩), .slice ab lb cb] W fun e w' => e = .returned (.int .u32 (B : Int)) ∧ w' = W) := fun bl W q1 q2 => by rw [hB]; exact sum_ok bl _ xb W q1 q2
  have CS : Hid (∀ v bl W, TabIn W bl → Ok W v (xa ++ xb) → Calls Tryd.prog 6 #[.pointer (some ⟨bl, 0, none⟩), v] W fun e w' => e = .returned (.int .u32 (S : Int)) ∧ w' = W) := fun v bl W q1 q2 => by rw [hS]; exact sum_ok bl _ _ W q1 q2
  have CM : Hid (∀ bl W, TabIn W bl → Ok W (.slice ab lb cb) xb → Calls Tryd.prog 8 #[.pointer (some ⟨bl, 0, none⟩), .int .u32 (A : Int), .slice ab lb cb] W fun e w' => e = .returned (.int .u32 (S : Int)) ∧ w' = W) := fun bl W q1 q2 => by
    rw [hS, mr_append xa xb ma, ← hA]; exact more_c bl A hAl _ xb W q1 q2.1 q2.2.1 q2.2.2
  have CJ : Hid (∀ W, DeB W → Calls Tryd.prog 9 #[.int .u32 (A : Int), .int .u32 (B : Int), .int .i64 (lb : Int)] W fun e w' => e = .returned (.int .u32 (S : Int)) ∧ Below W.heap.size W w') := fun W q => by
    have hj := join_c A B hAl hBl (lb : Int) (by omega) W q
    rw [Int.toNat_natCast, ← eb, hA, hB, ← mr_join ma mb, ← hA, ← hB, ← hS, eb] at hj
    exact hj
  have OA : Hid (Ok w (.slice aa la ca) xa) := ⟨ha, ma, by omega⟩
  have OB : Hid (Ok w (.slice ab lb cb) xb) := ⟨hb, mb, by omega⟩
  have MAB : Hid (∀ x ∈ xa ++ xb, x < 256) := mab
  have EA : Hid (xa.length = la) := ea
  have EB : Hid (xb.length = lb) := eb
  have ZA : Hid (aa = none → la = 0 ∧ ca = 0) := za
  have ZB : Hid (ab = none → lb = 0 ∧ cb = 0) := zb
  have HT : Hid (DeB w) := hT
  clear ha hb ea eb ma mb mab za zb hT hA hB hS hAl hBl
  go_enter Tryd.func3, Tryd.ntmps3
  go_upto_region 2 with (first
    | (go_at_call 5; refine (make_b _).mono ?_; rintro e w1 ⟨rfl, b1⟩; have B1 : Hid (Below w.heap.size w w1) := b1; clear b1)
    | (refine wpList_store_row rfl 25 (.tmp 5) (.tmp 7) rfl _ (tabA 256) (by rfl) (by rfl) (tabA 0) 25 (heap_new _ _) infoT (by rw [tabA_size, tabA_size]) (tabA_one _) _ (World.setRow_alloc_new _ _ _ _) ?_))
  obtain ⟨R, hR⟩ : ∃ R, R = w1.heap.size := ⟨_, rfl⟩
  obtain ⟨V, hV⟩ : ∃ V, V = w1.alloc (.cells (tabA 256) 25) := ⟨_, rfl⟩
  have T1 : Hid (TabIn V R) := by rw [hV, hR]; exact tab_new w1 25
  have HS : Hid (R < V.heap.size) := by rw [hV, hR]; simp [Hid]
  have BV : Hid (Below w.heap.size w V) := by rw [hV]; exact B1.out.alloc B1.out.size _
  rw [← hV, ← hR]
  clear hV hz hR B1
  generalize tabA 256 = TA
  have UA : Hid (BytesAt (V.alloc (.cells #[] 5)) (.slice aa la ca) xa) := bytes_keep (BV.out.alloc BV.out.size _) OA.out.1 (Nat.le_refl _)
  go_wp2_with (first
    | (at_builtin; refine wpList_append_bytes _ rfl (.tmp 8) (.tmp 9) rfl V.heap.size _ 0 [] rfl (own_empty V) aa la ca rfl xa UA.out EA.out ZA.out (by omega) (by simp) ?_; intro v1 w3 ow1 gr1; have B3 : Hid (Below V.heap.size V w3) := ((Below.refl _ V).alloc (Nat.le_refl _) _).grown gr1 (by simp) (fun k hk => ownsRow_lt (own_empty V) hk); have O1 : Hid (w3.ownsRow V.heap.size 5 1 v1 (0 + la) (asB ([] ++ xa))) := ow1; have UB : Hid (BytesAt w3 (.slice ab lb cb) xb) := bytes_keep (BV.out.trans (B3.out.mono BV.out.size)) OB.out.1 (Nat.le_refl _); clear ow1 gr1)
    | (at_builtin; refine wpList_append_bytes _ rfl (.tmp 10) (.tmp 11) rfl V.heap.size _ (0 + la) ([] ++ xa) rfl O1.out ab lb cb rfl xb UB.out EB.out ZB.out (by omega) B3.out.size ?_; intro v2 w4 ow2 gr2; have B4 : Hid (Below V.heap.size V w4) := B3.out.grown gr2 B3.out.size (fun k hk => ownsRow_lt O1.out hk); have O2 : Hid (Ok w4 v2 (xa ++ xb)) := ⟨bytes_of_owns (by rw [show (xa ++ xb).length = 0 + la + lb from (by rw [List.length_append, EA.out, EB.out]; omega)]; exact ow2), MAB.out, by rw [List.length_append, EA.out, EB.out]; omega⟩; have T4 : Hid (TabIn w4 R) := tab_below B4.out HS.out T1.out; clear ow2 gr2)
    | (go_at_call 6; go_fit (CS.out _ _ _ T4.out O2.out); rintro e w5 ⟨rfl, hw5⟩; obtain rfl : w4 = w5 := hw5.symm; have DONE : True := trivial; clear O2)
    | (go_at_call 7; refine (alive_c _).mono ?_; rintro e w6 ⟨rfl, b6⟩; have B6 : Hid (Below w4.heap.size w4 w6) := b6; have T6 : Hid (TabIn w6 R) := tab_below B6.out (Nat.lt_of_lt_of_le HS.out B4.out.size) T4.out; have W6 : Hid (Below w.heap.size w w6) := (BV.out.trans (B4.out.mono BV.out.size)).trans (B6.out.mono (Nat.le_trans BV.out.size B4.out.size)); have A6 : Hid (Ok w6 (.slice aa la ca) xa) := ⟨bytes_keep W6.out OA.out.1 (Nat.le_refl _), OA.out.2⟩; have E6 : Hid (Ok w6 (.slice ab lb cb) xb) := ⟨bytes_keep W6.out OB.out.1 (Nat.le_refl _), OB.out.2⟩; have D6 : Hid (DeB w6) := deB_keep W6.out HT.out; clear b6)
    | (go_at_call 6; first
      | (go_fit (CA.out _ _ T6.out A6.out); rintro e w7 ⟨rfl, hw7⟩; obtain rfl : w6 = w7 := hw7.symm)
      | (go_fit (CB.out _ _ T6.out E6.out); rintro e w7 ⟨rfl, hw7⟩; obtain rfl : w6 = w7 := hw7.symm))
    | (go_at_call 8; refine (CM.out _ _ T6.out E6.out).mono ?_; rintro e w7 ⟨rfl, hw7⟩; obtain rfl : w6 = w7 := hw7.symm)
    | (go_at_call 9; refine (CJ.out _ D6.out).mono ?_; rintro e w8 ⟨rfl, b8⟩; have B8 : Hid (Below w.heap.size w w8) := W6.out.trans (b8.mono W6.out.size); clear b8))
  go_ret
  exact ⟨rfl, B8.out⟩
end Go.Proofs.YtgdhdaaeklfkgaaDoor
