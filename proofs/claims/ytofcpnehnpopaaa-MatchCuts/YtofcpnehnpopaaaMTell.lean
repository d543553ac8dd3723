/- What tokens tell: the program's Tell and the reference's. -/
import Derived.Test.YtofcpnehnpopaaaMRight
import Derived.Laws.BytesArg
namespace Go.Proofs.Ytofcpnehnpopaaa
set_option maxRecDepth 100000
open Go Go.RowKit

theorem Try.info5 : (Try.prog.info? 5).map (fun i => (i.zero, i.size, i.bytes)) = some (some (.int .u8 0), 1, 1) := by kernel_rfl
/-- A slice value that owns bytes. -/
def OwnsB (w : World) (base : Nat) (v : Value) (D : List Int) : Prop := w.ownsRow base 5 1 v D.length (D.map (Value.int .u8))
theorem OwnsB.nil (w : World) (base : Nat) : OwnsB w base (.slice none 0 0) [] := World.ownsRow_nil _ _ _ _
theorem OwnsB.kept {M : Nat → Prop} {w w' : World} {base : Nat} {v : Value} {L : List Int} (h : OwnsB w base v L) (k : Kept M w w') (hn : ∀ g, v.ownBlock = some g → ¬ M g) : OwnsB w' base v L := ownsRow_kept h k hn
theorem OwnsB.stay {w w' : World} {base : Nat} {v : Value} {L : List Int} (h : OwnsB w base v L) (k : Below w.heap.size w w') : OwnsB w' base v L := h.kept (Kept.of_below k) (fun g hg e => by have := (ownsRow_lt h hg).2; omega)
theorem OwnsB.form {w : World} {base : Nat} {v : Value} {L : List Int} (h : OwnsB w base v L) : ∃ a cap, v = .slice a L.length cap := by
  rcases h.2 with ⟨rfl, h2⟩ | ⟨g, cap, cur, rfl, _⟩
  · exact ⟨none, 0, by rw [h2]⟩
  · exact ⟨_, _, rfl⟩
theorem OwnsB.at_ {w : World} {base : Nat} {a : Option Addr} {cap : Nat} {L : List Int} (h : OwnsB w base (.slice a L.length cap) L) {j : Nat} (hj : j < L.length) : ∃ g, a = some ⟨g, 0, none⟩ ∧ g < w.heap.size ∧ w.cell? ⟨g, j, none⟩ = some (.int .u8 (ln L j)) := by
  rcases h.2 with ⟨_, h2⟩ | ⟨g, cap', cur, hv, hg, hh, hr⟩
  · omega
  · simp at hv
    refine ⟨g, hv.1, lt_of_block hh, ?_⟩
    rw [hv.1] at h
    rw [World.ownsRow.cellAt h j (by omega)]
    simp [ln, List.getD, hj]
theorem one_byte (w : World) (x : Int) (n : Nat) (h : w.heap.size = n) : ∀ j u, ([.int .u8 x] : List Value)[j]? = some u → (w.alloc (.cells #[.int .u8 x] 5)).cell? ((⟨n, 0, none⟩ : Addr).add j) = some u := by
  subst h; exact World.news_of_block (heap_new w (.cells #[.int .u8 x] 5))
/-- A byte appended to a row of one's own. -/
theorem wpList_pushB {ops : Array Oper} {rest : List Oper} {o : Oper} {act : Act} {Q : Exit → Act → World → Prop} (w : World) (hgd : o.guard = none) (s x : Operand)
    (ho : o.op = .call { callee := .builtin .append, args := #[s, x], argTypes := #[24, 24] })
    (base : Nat) (v : Value) (X : List Int) (hs : act.eval s = v) (hown : OwnsB w base v X) (t : Int) (ad : Nat) (hx : act.eval x = .slice (some ⟨ad, 0, none⟩) 1 1)
    (hc : ∀ j u, ([.int .u8 t] : List Value)[j]? = some u → w.cell? ((⟨ad, 0, none⟩ : Addr).add j) = some u) (hb : X.length ≤ 1000000000) (hbase : base ≤ w.heap.size)
    (h : ∀ a' cap' w', OwnsB w' base (.slice a' (X.length + 1) cap') (X ++ [t]) → w.grownBy w' v.ownBlock → wpList Try.prog ops Q rest (act.put o.dst (.slice a' (X.length + 1) cap')) w') : wpList Try.prog ops Q (o :: rest) act w := by
  obtain ⟨i, hi, hz, hsz, hby⟩ := info_parts Try.info5
  refine wpList_append_own w hgd s x 24 ho base 5 i _ 1 1 Try.underlying24 hi hz hsz hby rfl (by decide) v X.length (X.map (Value.int .u8)) hs hown ⟨ad, 0, none⟩ 1 1 [.int .u8 t] hx rfl hc (by intro u hu; simp at hu; subst hu; rfl) (by unfold maxLen; omega) (by omega) hbase ?_
  intro v' w' h1 h2 _
  have h3 : OwnsB w' base v' (X ++ [t]) := by
    unfold OwnsB
    rw [List.length_append, List.length_singleton, List.map_append, List.map_singleton]
    exact h1
  obtain ⟨a', cap', rfl⟩ := h3.form
  rw [List.length_append, List.length_singleton] at h3 ⊢
  exact h a' cap' w' h3 h2
/-- Room for bytes. -/
theorem made_room (n : Nat) (hn : n ≤ 1000000000) (W : World) :
    (Instr.makeSlice 24 (.int .i64 0) (.int .i64 (n : Int))).run Try.prog W = .ok (.slice (some ⟨W.heap.size, 0, none⟩) 0 n) (W.alloc (.cells (List.replicate n (.int .u8 0)).toArray 5)) := by
  obtain ⟨i, hi, hz, hs, hb⟩ := info_parts Try.info5
  have := run_make (P := Try.prog) W 24 5 i (.int .u8 0) Try.underlying24 hi hz .i64 .i64 0 n (by omega) (by omega) (by rw [hb]; omega) (by omega)
  rw [this, hs]
  have e2 : madeCells (Value.int .u8 0).cells n = (List.replicate n (.int .u8 0)).toArray := by
    have := toList_madeCells_one (Value.int .u8 0) n
    rw [← Array.toList_inj]
    simpa [Value.cells] using this
  rw [Int.toNat_natCast, Nat.mul_one, e2]
  rfl
theorem own_room (n : Nat) (hn : n ≤ 1000000000) (W : World) {base : Nat} (hb : base ≤ W.heap.size) : OwnsB (W.alloc (.cells (List.replicate n (.int .u8 0)).toArray 5)) base (.slice (some ⟨W.heap.size, 0, none⟩) 0 n) [] :=
  ⟨rfl, .inr ⟨W.heap.size, n, _, rfl, hb, heap_new W _, Nat.zero_le _, by unfold maxLen; omega, by simp, rfl⟩⟩

/-- What Tell answers of tokens that may be. -/
def TellGot (xs : List Tk) (w : World) (v : Value) (w' : World) : Prop := OwnsB w' w.heap.size v (tel xs) ∧ Below w.heap.size w w'
theorem cpy_succ (out : List Int) (d n : Nat) : cpy out d (n + 1) = cpy out d n ++ [ln (cpy out d n) ((cpy out d n).length - d)] := rfl

/-- On its way through the tokens, in a world that has grown. -/
def TSt (w wx : World) (v : Value) (out : List Int) : Prop := OwnsB wx w.heap.size v out ∧ Below w.heap.size w wx
theorem TSt.alloc {w wx : World} {v : Value} {out : List Int} (h : TSt w wx v out) (o : Obj) : TSt w (wx.alloc o) v out :=
  ⟨h.1.stay ((Below.refl _ wx).alloc (Nat.le_refl _) _), h.2.alloc h.2.size _⟩
theorem TSt.push {w wx wy : World} {v v' : Value} {out out' : List Int} (h : TSt w wx v out) (ho : OwnsB wy w.heap.size v' out') (hg : wx.grownBy wy v.ownBlock) : TSt w wy v' out' :=
  ⟨ho, h.2.grown hg h.2.size (fun _ e => (ownsRow_lt h.1 e).1)⟩
theorem TSt.tok {w wx wy : World} {v : Value} {out : List Int} (h : TSt w wx v out) (hg : wx.grownBy wy v.ownBlock) {tb : Nat} {t : Tk} (hb : wx.heap[tb]? = some (tO t)) : wy.heap[tb]? = some (tO t) :=
  (Kept.of_grown hg).heap hb (fun e => ownsRow_apart h.1 hb (by decide) e.symm)
theorem tok_cells' {w7 : World} {tb : Nat} {b l k : Int} (hb : w7.heap[tb]? = some (tO (b, l, k))) : w7.cell? ⟨tb, 0, none⟩ = some (.int .u8 b) ∧ w7.cell? ⟨tb, 1, none⟩ = some (.int .i64 l) ∧ w7.cell? ⟨tb, 2, none⟩ = some (.int .i64 k) ∧ tb < w7.heap.size :=
  ⟨by rw [cells_of hb]; rfl, by rw [cells_of hb]; rfl, by rw [cells_of hb]; rfl, lt_of_block hb⟩

set_option maxHeartbeats 4000000 in
theorem tell_no (a : Option Addr) (cap : Nat) (xs : List Tk) (w : World) (h : Toks w a xs) (hl : xs.length ≤ 1000000) (hr : ¬ Rt xs) :
    Calls Try.prog 10 #[.slice a xs.length cap] w fun e w' => e = .returned (.tuple #[.slice none 0 0, .bool false]) ∧ Below w.heap.size w w' := by
  have HR := hide (right_no a cap xs w h (by omega) hr)
  clear hr h
  go_enter Try.func10, Try.ntmps10
  go_wp2_with (go_at_call 12; refine HR.out.mono ?_; rintro e w1 ⟨rfl, hb⟩)
  go_ret2
  exact ⟨rfl, hb⟩

set_option maxHeartbeats 8000000 in
theorem tell_yes (a : Option Addr) (cap : Nat) (xs : List Tk) (w : World) (h : Toks w a xs) (hl : xs.length ≤ 1000000) (hr : Rt xs) :
    Calls Try.prog 10 #[.slice a xs.length cap] w fun e w' => ∃ o oc, e = .returned (.tuple #[.slice o (tel xs).length oc, .bool true]) ∧ TSt w w' (.slice o (tel xs).length oc) (tel xs) := by
  have HR := hide (right_yes a cap xs w h (by omega) hr)
  have HT := hide h
  have HRT := hide hr
  clear hr h
  go_enter Try.func10, Try.ntmps10
  go_wp2_with (go_at_call 12; refine HR.out.mono ?_; rintro e w1 ⟨rfl, hb⟩; have HB1 := hide hb; clear hb HR)
  go_loopg [4, 6, 15] xs.length (fun gk v4 v6 v15 wx => ∃ (i : Nat) (S : Int), i + gk = xs.length ∧ v4 = .int .i64 S ∧ v15 = .int .i64 i ∧ 0 ≤ S ∧ S ≤ 258 * i ∧ Hid (S = sm (xs.take i) ∧ Below w.heap.size w wx))
  case atStart => exact ⟨0, 0, by omega, rfl, rfl, by omega, by omega, by simp [sm], HB1.out⟩
  case round =>
    clear HB1
    obtain ⟨i, S, hig, rfl, rfl, hS0, hS1, HI⟩ := hrel
    cases gk with
    | succ g1 =>
      have hlt : (i : Int) < (xs.length : Int) := by omega
      obtain ⟨b, off, rfl, hbl, c0, c1, c2⟩ := HT.out.three HI.out.2 (i := i) (by omega)
      obtain ⟨t, ht⟩ : ∃ t, tk xs i = t := ⟨_, rfl⟩
      have htl := (HRT.out i (by omega)).tl
      have HN : Hid (S + tl t = sm (xs.take (i + 1))) := by rw [tk_take_snoc (by omega), sm_snoc, ← HI.out.1, ht]; exact rfl
      rw [ht] at c0 c1 c2 htl
      obtain ⟨Bb, L, K⟩ := t
      simp only at c0 c1 c2
      have HB : Hid (Below w.heap.size w wr) := HI.out.2
      have hsz := HB.out.size
      generalize htt : tl (Bb, L, K) = T at htl HN
      have HTT := hide htt
      clear HI htt ht
      go_wp2_with (go_at_call 20; refine (told_c Bb L K _).mono ?_; rw [HTT.out]; rintro e w2 ⟨rfl, rfl⟩)
      go_roundg g1
      case measure => omega
      case rel => exact ⟨i + 1, S + T, by omega, rfl, by go_num, by omega, by omega, HN.out, (HB.out.alloc (by omega) _).alloc (by simp; omega) _⟩
    | zero =>
      obtain ⟨M, rfl⟩ : ∃ M : Nat, S = M := ⟨S.toNat, by omega⟩
      have hge : ¬ (i : Int) < (xs.length : Int) := by omega
      have hmk := made_room M (by omega)
      have HO : Hid (TSt w (wr.alloc (.cells (List.replicate M (.int .u8 0)).toArray 5)) (.slice (some ⟨wr.heap.size, 0, none⟩) 0 M) []) := ⟨own_room M (by omega) wr HI.out.2.size, HI.out.2.alloc HI.out.2.size _⟩
      clear HI
      go_wp2_with fail
      go_loopg [7, 9, 28] xs.length (fun gk v7 v9 v28 wx => ∃ (i : Nat) (o : Option Addr) (oc : Nat), i + gk = xs.length ∧ v7 = .slice o (tel (xs.take i)).length oc ∧ v28 = .int .i64 i ∧ Hid (TSt w wx (.slice o (tel (xs.take i)).length oc) (tel (xs.take i))))
      case atStart => exact ⟨0, some ⟨wr.heap.size, 0, none⟩, M, by omega, rfl, rfl, HO.out⟩
      case round =>
        clear HO hge
        obtain ⟨W0, hW0⟩ : ∃ W, W = wr := ⟨wr, rfl⟩
        clear hW0 W0
        obtain ⟨i, o, oc, hig, rfl, rfl, HS⟩ := hrel
        cases gk with
        | zero =>
          obtain rfl : i = xs.length := by omega
          rw [List.take_length] at HS ⊢
          go_wp2_with fail
          go_ret2
          exact ⟨o, oc, rfl, HS.out⟩
        | succ g1 =>
          have hlt : (i : Int) < (xs.length : Int) := by omega
          obtain ⟨b, off, rfl, hbl, c0, c1, c2⟩ := HT.out.three HS.out.2 (i := i) (by omega)
          obtain ⟨t, ht⟩ : ∃ t, tk xs i = t := ⟨_, rfl⟩
          have hok := HRT.out i (by omega)
          have hsum := RtTo.sum (i := i) (fun j hj => HRT.out j (by omega)) (by omega)
          have hlen := tel_to (i := i) (fun j hj => HRT.out j (by omega)) (by omega)
          rw [← hlen] at hsum hok
          have HN : Hid (tel (xs.take (i + 1)) = tel1 (tel (xs.take i)) t) := by rw [tk_take_snoc (by omega), tel_snoc, ht]; exact rfl
          rw [ht] at c0 c1 c2 hok
          obtain ⟨Bb, L, K⟩ := t
          simp only at c0 c1 c2
          obtain ⟨out, hout⟩ : ∃ out, tel (xs.take i) = out := ⟨_, rfl⟩
          rw [hout] at hsum hok HN HS ⊢
          have hol : out.length ≤ 258000000 := by omega
          have hsz := HS.out.2.size
          clear hlen hout ht hsum
          by_cases hL0 : L = 0
          case pos =>
            subst hL0
            have HN1 : Hid (tel (xs.take (i + 1)) = out ++ [Bb]) := hide (by rw [HN.out]; simp [tel1])
            clear HN hok
            go_wp2_with (at_builtin; refine wpList_pushB _ rfl _ _ rfl w.heap.size _ out rfl ((HS.out.alloc (tO (Bb, 0, K))).alloc (.cells #[.int .u8 Bb] 5)).1 Bb _ rfl (one_byte _ _ _ (by simp)) (by omega) (by simp; omega) ?_; intro o7 c7 w7 h7 g7; have HP := hide (((HS.out.alloc (tO (Bb, 0, K))).alloc (.cells #[.int .u8 Bb] 5)).push h7 g7); clear h7 g7)
            go_roundg g1
            case measure => omega
            case rel => exact ⟨i + 1, o7, c7, by omega, by rw [HN1.out, List.length_append, List.length_singleton], by go_num, by rw [HN1.out, List.length_append, List.length_singleton]; exact HP.out⟩
          obtain ⟨q0, q1, q2, q3, q4, q5⟩ : Bb = 0 ∧ 3 ≤ L ∧ L ≤ 258 ∧ 1 ≤ K ∧ K ≤ 32768 ∧ K ≤ (out.length : Int) := by
            rcases hok with h' | h'
            · exact absurd h'.1 hL0
            · exact h'
          subst q0
          obtain ⟨n, rfl⟩ : ∃ n : Nat, L = n := ⟨L.toNat, by omega⟩
          obtain ⟨d, rfl⟩ : ∃ d : Nat, K = d := ⟨K.toNat, by omega⟩
          have HN1 : Hid (tel (xs.take (i + 1)) = cpy out d n) := by
            rw [HN.out]
            unfold tel1
            rw [if_neg (by simp only; omega)]
            exact rfl
          have HTB : Hid ((wr.alloc (tO (0, (n : Int), (d : Int)))).heap[wr.heap.size]? = some (tO (0, (n : Int), (d : Int)))) := heap_new wr _
          have HS1 := hide (HS.out.alloc (tO (0, (n : Int), (d : Int))))
          have hn0 : ((n : Int) == 0) = false := by simpa using hL0
          clear HN hok HS
          go_upto_region 15 with fail
          obtain ⟨tb, htb⟩ : ∃ tb, wr.heap.size = tb := ⟨_, rfl⟩
          rw [htb] at HTB hsz ⊢
          obtain ⟨W1, hW1⟩ : ∃ W1, wr.alloc (tO (0, (n : Int), (d : Int))) = W1 := ⟨_, rfl⟩
          rw [hW1] at HTB HS1
          change Code.wp _ _ _ _ (wr.alloc (tO (0, (n : Int), (d : Int))))
          rw [hW1]
          obtain ⟨n0, n1, n2, n3⟩ := tok_cells' HTB.out
          clear htb hW1 c0 c1 c2 hbl n0 n2
          go_wp2_with fail
          clear n1 n3
          go_loopg [7, 42] n (fun g2 v7 v42 wx => ∃ (j : Nat) (o : Option Addr) (oc : Nat), j + g2 = n ∧ v7 = .slice o (cpy out d j).length oc ∧ v42 = .int .i64 j ∧ Hid (TSt w wx (.slice o (cpy out d j).length oc) (cpy out d j) ∧ wx.heap[tb]? = some (tO (0, (n : Int), (d : Int)))))
          case atStart => exact ⟨0, o, oc, by omega, rfl, rfl, HS1.out, HTB.out⟩
          case round =>
            obtain ⟨j, o, oc, hjg, rfl, rfl, HJ⟩ := hrel
            clear HS1 HTB
            cases gk with
            | zero =>
              obtain rfl : j = n := by omega
              have hge : ¬ (j : Int) < (j : Int) := by omega
              go_wp2_with fail
              go_roundg g1
              case measure => omega
              case rel => exact ⟨i + 1, o, oc, by omega, by rw [HN1.out], by go_num, by rw [HN1.out]; exact HJ.out.1⟩
            | succ g3 =>
              have hltn : (j : Int) < (n : Int) := by omega
              obtain ⟨F, hF⟩ : ∃ F, cpy out d j = F := ⟨_, rfl⟩
              have hFl : F.length = out.length + j := by rw [← hF, cpy_length]
              have hFl1 : F.length ≤ 259000000 := by omega
              have HFS : Hid (cpy out d (j + 1) = F ++ [ln F (F.length - d)]) := by rw [cpy_succ, hF]; exact rfl
              rw [hF] at HJ ⊢
              obtain ⟨k, hk⟩ : ∃ k, F.length - d = k := ⟨_, rfl⟩
              rw [hk] at HFS
              have hki : (F.length : Int) - (d : Int) = (k : Int) := by omega
              have hkl : (k : Int) < (F.length : Int) := by omega
              obtain ⟨gb, rfl, hgl, hcg⟩ := HJ.out.1.1.at_ (j := k) (by omega)
              obtain ⟨n0, n1, n2, n3⟩ := tok_cells' HJ.out.2
              have hsz2 := HJ.out.1.2.size
              generalize ln F k = X at hcg HFS
              clear hF hk hFl n0 n1
              go_wp2_with (at_builtin; refine wpList_pushB _ rfl _ _ rfl w.heap.size _ F rfl (HJ.out.1.alloc (.cells #[.int .u8 X] 5)).1 X _ rfl (one_byte _ _ _ (by simp)) (by omega) (by simp; omega) ?_; intro o7 c7 w7 h7 g7; have HP := hide ((HJ.out.1.alloc (.cells #[.int .u8 X] 5)).push h7 g7); have HTK := hide ((HJ.out.1.alloc (.cells #[.int .u8 X] 5)).tok g7 (heap_old HJ.out.2)); clear h7 g7)
              go_roundg g3
              case measure => omega
              case rel => exact ⟨j + 1, o7, c7, by omega, by rw [HFS.out, List.length_append, List.length_singleton], by go_num, by rw [HFS.out, List.length_append, List.length_singleton]; exact HP.out, HTK.out⟩
end Go.Proofs.Ytofcpnehnpopaaa
