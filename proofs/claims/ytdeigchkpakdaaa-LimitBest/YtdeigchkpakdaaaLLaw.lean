/- The laws' helpers: how many occur, how much room lengths take; the reference's Fits. -/
import Derived.Test.YtdeigchkpakdaaaLAlive
namespace Go.Proofs.Ytdeigchkpakdaaa
open Go Go.RowKit

theorem occur_c (lo hi : Nat) (a : Option Addr) (cap : Nat) (ls : List Int) (w : World) (hI : Ints lo hi w a ls) (hl : ls.length ≤ 320) :
    Calls Try.prog 12 #[.slice a ls.length cap] w fun e w' => e = .returned (.int .i64 (nocc ls : Int)) ∧ w' = w := by
  have HI := hide hI
  clear hI
  unfold nocc
  go_enter Try.func12, Try.ntmps12
  go_wp2_with fail
  go_loopg [3, 8] ls.length (fun gk v3 v8 wx => ∃ i : Nat, i + gk = ls.length ∧ v8 = .int .i64 i ∧ v3 = .int .i64 ((occ ls i).length : Int) ∧ w = wx)
  case atStart => exact ⟨0, by omega, rfl, rfl, rfl⟩
  case round =>
    obtain ⟨i, hig, rfl, rfl, rfl⟩ := hrel
    have hol := occ_length ls i
    cases gk with
    | zero =>
      obtain rfl : i = ls.length := by omega
      go_wp2_with fail
      go_ret
      exact ⟨rfl, rfl⟩
    | succ g1 =>
      obtain ⟨b, off, _, _, hb, rfl, hcell⟩ := HI.out.resolve_left (by omega)
      have hlt : (i : Int) < (ls.length : Int) := by omega
      have hc := hcell i (by omega)
      have hsp : 0 < ln ls i → (occ ls (i + 1)).length = (occ ls i).length + 1 := fun h => by rw [occ_succ_pos h]; simp
      have hsz : ¬ 0 < ln ls i → (occ ls (i + 1)).length = (occ ls i).length := fun h => by rw [occ_succ_zero h]
      have HSP := hide hsp
      have HSZ := hide hsz
      clear hcell hsp hsz
      generalize ln ls i = X at hc HSP HSZ
      generalize (occ ls i).length = C at hol HSP HSZ ⊢
      by_cases hX : 0 < X
      · have e := hide (HSP.out hX)
        go_wp2_with fail
        go_roundg g1
        case measure => omega
        case rel => exact ⟨i + 1, by omega, by go_num, by rw [e.out]; go_num, rfl⟩
      · have e := hide (HSZ.out hX)
        go_wp2_with fail
        go_roundg g1
        case measure => omega
        case rel => exact ⟨i + 1, by omega, by go_num, by rw [e.out], rfl⟩

/-- The room that lengths take, as the law reckons it. -/
def RoomSays (ls F : List Int) (L : Nat) (w : World) (e : Ending) (w' : World) : Prop := ∃ R : Int, e = .returned (.int .i64 R) ∧ w' = w ∧ ((R = -1 ∧ ¬ Valid ls F L ls.length) ∨ (Valid ls F L ls.length ∧ R = (krf L (zOf ls F (occ ls ls.length)) : Nat)))
theorem krf_bd {ls F : List Int} {L n : Nat} (hL : L ≤ 15) : krf L (zOf ls F (occ ls n)) ≤ 32768 * n := by
  induction n with
  | zero => simp [occ, zOf, krf]
  | succ n ih =>
    by_cases h : 0 < ln ls n
    · rw [occ_succ_pos h, zOf_snoc, krf_snoc]
      have : 2 ^ (L - ((ln ls n).toNat, (ln F n).toNat).2) ≤ 2 ^ 15 := Nat.pow_le_pow_right (by decide) (by omega)
      have e : (2 : Nat) ^ 15 = 32768 := by decide
      rw [e] at this
      generalize krf L (zOf ls F (occ ls n)) = C at ih ⊢
      generalize 2 ^ (L - ((ln ls n).toNat, (ln F n).toNat).2) = P at this ⊢
      omega
    · rw [occ_succ_zero h]
      generalize krf L (zOf ls F (occ ls n)) = C at ih ⊢
      omega

set_option maxHeartbeats 1000000 in
set_option maxRecDepth 100000 in
theorem room_c (lo hi lo' hi' : Nat) (a b : Option Addr) (cap cap' : Nat) (ls F : List Int) (L : Nat) (w : World) (hA : Ints lo hi w a ls) (hB : Ints lo' hi' w b F) (hF : F.length = ls.length) (hal : AlwTo ls ls.length) (hl : ls.length ≤ 320) (hL : L ≤ 15) :
    Calls Try.prog 13 #[.slice a ls.length cap, .slice b ls.length cap', .int .i64 L] w (RoomSays ls F L w) := by
  have HA := hide hA
  have HB := hide hB
  have HAL := hide hal
  have HF := hide hF
  clear hA hB hal hF
  go_enter Try.func13, Try.ntmps13
  go_wp2_with fail
  go_loopg [7, 12] ls.length (fun gk v7 v12 wx => ∃ i : Nat, i + gk = ls.length ∧ v12 = .int .i64 i ∧ v7 = .int .i64 ((krf L (zOf ls F (occ ls i)) : Nat) : Int) ∧ Hid (Valid ls F L i) ∧ w = wx)
  case atStart => exact ⟨0, by omega, rfl, rfl, fun i hi => by omega, rfl⟩
  case round =>
    obtain ⟨i, hig, rfl, rfl, HV, rfl⟩ := hrel
    cases gk with
    | zero =>
      obtain rfl : i = ls.length := by omega
      go_wp2_with fail
      go_ret
      exact ⟨_, rfl, rfl, .inr ⟨HV.out, rfl⟩⟩
    | succ g1 =>
      obtain ⟨ba, oa, _, _, hba, rfl, hca⟩ := HA.out.resolve_left (by omega)
      obtain ⟨bb, ob, _, _, hbb, rfl, hcb⟩ := HB.out.resolve_left (by rw [HF.out]; omega)
      have ca := hca i (by omega)
      have cb := hcb i (by rw [HF.out]; omega)
      have hlt2 : (i : Int) < (ls.length : Int) := by omega
      have hXp := (HAL.out i (by omega)).1
      have hkb := krf_bd (ls := ls) (F := F) (n := i) hL
      have hks : 0 < ln ls i → krf L (zOf ls F (occ ls (i + 1))) = krf L (zOf ls F (occ ls i)) + 2 ^ (L - (ln F i).toNat) := fun h => by rw [occ_succ_pos h, zOf_snoc, krf_snoc]
      have hkz : ¬ 0 < ln ls i → krf L (zOf ls F (occ ls (i + 1))) = krf L (zOf ls F (occ ls i)) := fun h => by rw [occ_succ_zero h]
      have hvs : ((ln ls i = 0 ∧ ln F i = 0) ∨ (0 < ln ls i ∧ 1 ≤ ln F i ∧ ln F i ≤ L)) → Valid ls F L (i + 1) := fun h j hj => by
        by_cases e : j = i
        · rw [e]; exact h
        · exact HV.out j (by omega)
      have hvn : Valid ls F L ls.length → ((ln ls i = 0 ∧ ln F i = 0) ∨ (0 < ln ls i ∧ 1 ≤ ln F i ∧ ln F i ≤ L)) := fun h => h i (by omega)
      have HKS := hide hks
      have HKZ := hide hkz
      have HVS := hide hvs
      have HVN := hide hvn
      have hKb : krf L (zOf ls F (occ ls i)) ≤ 10485760 := Nat.le_trans hkb (Nat.mul_le_mul_left 32768 (show i ≤ 320 by omega))
      clear hca hcb hks hkz hvs hvn hkb
      generalize ln ls i = X at ca hXp HKS HKZ HVS HVN
      generalize ln F i = Y at cb HKS HKZ HVS HVN
      generalize krf L (zOf ls F (occ ls i)) = K at hKb HKS HKZ ⊢
      by_cases hX : X = 0
      · by_cases hY : Y = 0
        · have e := hide (HKZ.out (by omega))
          have v := hide (HVS.out (.inl ⟨hX, hY⟩))
          clear HKS HKZ HVS HVN
          subst hX
          subst hY
          go_wp2_with fail
          go_roundg g1
          case measure => omega
          case rel => exact ⟨i + 1, by omega, by go_num, by rw [e.out], v.out, rfl⟩
        · have n := hide (show Valid ls F L ls.length → False from fun h => by have := HVN.out h; omega)
          clear HKS HKZ HVS HVN
          subst hX
          have hYb : (Y == 0) = false := by simp [hY]
          go_wp2_with fail
          go_ret
          exact ⟨_, rfl, rfl, .inl ⟨rfl, n.out⟩⟩
      · have hXb : (X == 0) = false := by simp [hX]
        by_cases hY1 : Y < 1
        · have n := hide (show Valid ls F L ls.length → False from fun h => by have := HVN.out h; omega)
          clear HKS HKZ HVS HVN
          go_wp2_with fail
          go_ret
          exact ⟨_, rfl, rfl, .inl ⟨rfl, n.out⟩⟩
        · by_cases hYL : (L : Int) < Y
          · have n := hide (show Valid ls F L ls.length → False from fun h => by have := HVN.out h; omega)
            clear HKS HKZ HVS HVN
            go_wp2_with fail
            go_ret
            exact ⟨_, rfl, rfl, .inl ⟨rfl, n.out⟩⟩
          · obtain ⟨y, rfl⟩ : ∃ y : Nat, Y = y := ⟨Y.toNat, by omega⟩
            obtain ⟨D, hD⟩ : ∃ D : Nat, (L : Int) - (y : Int) = (D : Int) := ⟨L - y, by omega⟩
            have e := HKS.out (by omega)
            rw [show L - (y : Int).toNat = D by omega] at e
            have E := hide e
            have v := hide (HVS.out (.inr ⟨by omega, by omega, by omega⟩))
            have hD15 : D ≤ 15 := by omega
            have hwp := wrap_pow (show D ≤ 62 by omega)
            have hpb : (2 : Int) ^ D ≤ 32768 := by
              have h1 : (2 : Nat) ^ D ≤ 2 ^ 15 := Nat.pow_le_pow_right (by decide) hD15
              have h2 : ((2 ^ D : Nat) : Int) ≤ ((2 ^ 15 : Nat) : Int) := by exact_mod_cast h1
              simpa using h2
            have hpp := pow_pos' D
            clear HKS HKZ HVS HVN e
            go_wp2_with fail
            go_roundg g1
            case measure => omega
            case rel => exact ⟨i + 1, by omega, by go_num, by rw [E.out]; exact congrArg (Value.int .i64) (by simp), v.out, rfl⟩
#print axioms room_c

set_option maxHeartbeats 1000000 in
set_option maxRecDepth 100000 in
theorem fits_c (lo hi : Nat) (a : Option Addr) (cap : Nat) (ls : List Int) (most : Int) (w : World) (hI : Ints lo hi w a ls) :
    Calls Try.prog 10 #[.slice a ls.length cap, .int .i64 most] w (TellsB (FitsP ls most) w) := by
  have HI := hide hI
  clear hI
  by_cases h0 : ls.length ≤ 320 ∧ 1 ≤ most ∧ most ≤ 15
  · obtain ⟨h1, h2, h3⟩ := h0
    obtain ⟨L, rfl⟩ : ∃ L : Nat, most = L := ⟨most.toNat, by omega⟩
    have b1 : ¬ (320 : Int) < (ls.length : Int) := by omega
    have b2 : ¬ (L : Int) < 1 := by omega
    have b3 : ¬ (15 : Int) < (L : Int) := by omega
    go_enter Try.func10, Try.ntmps10
    go_wp2_with fail
    go_loopg [5, 6] ls.length (fun gk v5 v6 wx => ∃ i : Nat, i + gk = ls.length ∧ v6 = .int .i64 i ∧ v5 = .int .i64 ((occ ls i).length : Int) ∧ Hid (AlwTo ls i) ∧ w = wx)
    case atStart => exact ⟨0, by omega, rfl, rfl, fun i hi => by omega, rfl⟩
    case round =>
      obtain ⟨i, hig, rfl, rfl, HA, rfl⟩ := hrel
      have hol := occ_length ls i
      cases gk with
      | zero =>
        obtain rfl : i = ls.length := by omega
        have HNO : Hid ((occ ls ls.length).length = nocc ls) := rfl
        rw [show (occ ls ls.length).length = nocc ls from rfl] at hol ⊢
        go_wp2_with fail
        go_loopg [7, 8] L (fun gk v7 v8 wx => ∃ k : Nat, k + gk = L ∧ v8 = .int .i64 k ∧ v7 = .int .i64 ((2 : Int) ^ k) ∧ w = wx)
        case atStart => exact ⟨0, by omega, rfl, rfl, rfl⟩
        case round =>
          obtain ⟨k, hkg, rfl, rfl, rfl⟩ := hrel
          have hpb := pow_le_62 (show k ≤ 62 by omega)
          have hpp := pow_pos' k
          cases gk with
          | zero =>
            obtain rfl : k = L := by omega
            have HP : Hid ((nocc ls : Int) ≤ 2 ^ k ↔ nocc ls ≤ 2 ^ ((k : Nat) : Int).toNat) := by
              show _ ↔ _
              have e : ((2 ^ k : Nat) : Int) = (2 : Int) ^ k := by simp
              rw [← e, Int.toNat_natCast]
              omega
            by_cases hle : (nocc ls : Int) ≤ 2 ^ k
            · go_wp2_with fail
              go_ret
              have hd : decide ((nocc ls : Int) ≤ 2 ^ k) = true := decide_eq_true hle
              first
                | exact TellsB.yes ⟨⟨h1, h2, h3, HA.out⟩, HP.out.1 hle⟩
                | (simp only [hd]; exact TellsB.yes ⟨⟨h1, h2, h3, HA.out⟩, HP.out.1 hle⟩)
            · have hlt : (2 : Int) ^ k < (nocc ls : Int) := by omega
              have HLT := hide hlt
              go_wp2_with fail
              go_ret
              have hd : decide ((nocc ls : Int) ≤ 2 ^ k) = false := decide_eq_false (by have := HLT.out; omega)
              first
                | exact TellsB.no (fun h => by have := HP.out.2 h.2; have := HLT.out; omega)
                | (simp only [hd]; exact TellsB.no (fun h => by have := HP.out.2 h.2; have := HLT.out; omega))
          | succ g2 =>
            have hlt : (k : Int) < (L : Int) := by omega
            have hps : (2 : Int) ^ (k + 1) = 2 * 2 ^ k := by rw [Int.pow_succ]; omega
            have HPS := hide hps
            have hpb2 : (2 : Int) ^ k ≤ 32768 := by
              have q1 : (2 : Nat) ^ k ≤ 2 ^ 15 := Nat.pow_le_pow_right (by decide) (by omega)
              have q2 : ((2 ^ k : Nat) : Int) ≤ ((2 ^ 15 : Nat) : Int) := by exact_mod_cast q1
              simpa using q2
            clear hps
            generalize (2 : Int) ^ k = P at hpb hpp HPS hpb2 ⊢
            go_wp2_with fail
            go_roundg g2
            case measure => omega
            case rel => exact ⟨k + 1, by omega, by go_num, by rw [HPS.out], rfl⟩
      | succ g =>
        obtain ⟨b, off, _, _, hb, rfl, hcell⟩ := HI.out.resolve_left (by omega)
        have hlt : (i : Int) < (ls.length : Int) := by omega
        have hc := hcell i (by omega)
        have hsp : 0 < ln ls i → (occ ls (i + 1)).length = (occ ls i).length + 1 := fun h => by rw [occ_succ_pos h]; simp
        have hsz : ¬ 0 < ln ls i → (occ ls (i + 1)).length = (occ ls i).length := fun h => by rw [occ_succ_zero h]
        have HSP := hide hsp
        have HSZ := hide hsz
        have hav : (0 ≤ ln ls i ∧ ln ls i ≤ 1073741824) → AlwTo ls (i + 1) := fun h j hj => by
          by_cases e : j = i
          · rw [e]; exact h
          · exact HA.out j (by omega)
        have hno : FitsP ls L → (0 ≤ ln ls i ∧ ln ls i ≤ 1073741824) := fun h => h.1.2.2.2 i (by omega)
        have HAV := hide hav
        have HNO := hide hno
        clear hcell hsp hsz hav hno
        generalize ln ls i = X at hc HSP HSZ HAV HNO
        generalize (occ ls i).length = C at hol HSP HSZ ⊢
        by_cases hn : X < 0
        · have n := hide (show FitsP ls L → False from fun h => by have := HNO.out h; omega)
          clear HAV HNO HSP HSZ
          go_wp2_with fail
          go_ret
          exact TellsB.no n.out
        · by_cases hm : 1073741824 < X
          · have n := hide (show FitsP ls L → False from fun h => by have := HNO.out h; omega)
            clear HAV HNO HSP HSZ
            go_wp2_with fail
            go_ret
            exact TellsB.no n.out
          · have av := hide (HAV.out (by omega))
            by_cases hX : 0 < X
            · have e := hide (HSP.out hX)
              clear HAV HNO HSP HSZ
              go_wp2_with fail
              go_roundg g
              case measure => omega
              case rel => exact ⟨i + 1, by omega, by go_num, by rw [e.out]; go_num, av.out, rfl⟩
            · have e := hide (HSZ.out hX)
              clear HAV HNO HSP HSZ
              go_wp2_with fail
              go_roundg g
              case measure => omega
              case rel => exact ⟨i + 1, by omega, by go_num, by rw [e.out], av.out, rfl⟩
  · have HNO : Hid (FitsP ls most → False) := fun h => absurd ⟨h.1.1, h.1.2.1, h.1.2.2.1⟩ h0
    by_cases b1 : (320 : Int) < (ls.length : Int)
    · go_enter Try.func10, Try.ntmps10
      go_wp2_with fail
      go_ret
      exact TellsB.no HNO.out
    · by_cases b2 : most < 1
      · go_enter Try.func10, Try.ntmps10
        go_wp2_with fail
        go_ret
        exact TellsB.no HNO.out
      · have b3 : (15 : Int) < most := by omega
        go_enter Try.func10, Try.ntmps10
        go_wp2_with fail
        go_ret
        exact TellsB.no HNO.out
#print axioms fits_c
end Go.Proofs.Ytdeigchkpakdaaa
