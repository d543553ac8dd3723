/- The block that the laws' probe encrypts, reckoned. No Go text in sight. -/
import Derived.Test.YtapmmcegdhhinaaDoorCNew
namespace Go.Proofs.YtapmmcegdhhinaaDoor.K
set_option maxRecDepth 100000

def akey : List Nat := List.range 16
def af (i : Nat) : Nat := 17 * i
def aW : List (List Nat) := [[0, 1, 2, 3], [4, 5, 6, 7], [8, 9, 10, 11], [12, 13, 14, 15], [214, 170, 116, 253], [210, 175, 114, 250], [218, 166, 120, 241], [214, 171, 118, 254], [182, 146, 207, 11], [100, 61, 189, 241], [190, 155, 197, 0], [104, 48, 179, 254], [182, 255, 116, 78], [210, 194, 201, 191], [108, 89, 12, 191], [4, 105, 191, 65], [71, 247, 247, 188], [149, 53, 62, 3], [249, 108, 50, 188], [253, 5, 141, 253], [60, 170, 163, 232], [169, 159, 157, 235], [80, 243, 175, 87], [173, 246, 34, 170], [94, 57, 15, 125], [247, 166, 146, 150], [167, 85, 61, 193], [10, 163, 31, 107], [20, 249, 112, 26], [227, 95, 226, 140], [68, 10, 223, 77], [78, 169, 192, 38], [71, 67, 135, 53], [164, 28, 101, 185], [224, 22, 186, 244], [174, 191, 122, 210], [84, 153, 50, 209], [240, 133, 87, 104], [16, 147, 237, 156], [190, 44, 151, 78], [19, 17, 29, 127], [227, 148, 74, 23], [243, 7, 167, 139], [77, 43, 48, 197]]
def aE : List (List Nat) := [[0, 16, 32, 48, 64, 80, 96, 112, 128, 144, 160, 176, 192, 208, 224, 240], [137, 216, 16, 232, 133, 90, 206, 104, 45, 24, 67, 216, 203, 18, 143, 228], [73, 21, 89, 143, 85, 229, 215, 160, 218, 202, 148, 250, 31, 10, 99, 247], [250, 99, 106, 40, 37, 179, 57, 201, 64, 102, 138, 49, 87, 36, 77, 23], [36, 114, 64, 35, 105, 102, 179, 250, 110, 210, 117, 50, 136, 66, 91, 108], [200, 22, 119, 188, 155, 122, 201, 59, 37, 2, 121, 146, 176, 38, 25, 150], [198, 47, 225, 9, 247, 94, 237, 195, 204, 121, 57, 93, 132, 249, 207, 93], [209, 135, 108, 15, 121, 196, 48, 10, 180, 85, 148, 173, 214, 111, 244, 31], [253, 227, 186, 210, 5, 229, 208, 215, 53, 71, 150, 78, 241, 254, 55, 241], [189, 110, 124, 61, 242, 181, 119, 158, 11, 97, 33, 110, 139, 16, 182, 137], [105, 196, 224, 216, 106, 123, 4, 48, 216, 205, 183, 128, 112, 180, 197, 90]]
theorem aW_is : kws akey 4 44 = aW := by kernel_rfl
theorem akey_by : By akey := fun x hx => by have := List.mem_range.1 hx; omega
theorem af_by : By16 af := fun i hi => by unfold af; omega
theorem aK_is {r i : Nat} (hr : r ≤ 10) (hi : i < 16) : kK akey 4 r i = (aW.getD (4 * r + i / 4) []).getD (i % 4) 0 := by
  unfold kK kby
  rw [← aW_is, kws_at akey 4 44 (show 4 * r + i / 4 < 44 by omega), show (16 * r + i) / 4 = 4 * r + i / 4 by omega, show (16 * r + i) % 4 = i % 4 by omega]
  rfl
def ae (r i : Nat) : Nat := (aE.getD r []).getD i 0
def subT (f : Nat → Nat) (j : Nat) : Nat := tBX.getD (f (sg j)) 0
theorem ae_all : all 11 (fun r => all 16 fun i => Nat.ble (ae r i) 255) = true := by kernel_rfl
theorem ae_by {r : Nat} (hr : r < 11) : By16 (ae r) := fun i hi => by have := Nat.le_of_ble_eq_true (all_of (all_of ae_all hr) hi); omega
theorem ae_first : all 16 (fun i => Nat.beq (af i ^^^ (aW.getD (i / 4) []).getD (i % 4) 0) (ae 0 i)) = true := by kernel_rfl
theorem ae_step : all 10 (fun r => all 16 fun i => Nat.beq ((if r + 1 < 10 then mix (subT (ae r)) i else subT (ae r) i) ^^^ (aW.getD (4 * (r + 1) + i / 4) []).getD (i % 4) 0) (ae (r + 1) i)) = true := by kernel_rfl
theorem sub_T {f e : Nat → Nat} (h : E16 f e) (he : By16 e) : sub f = subT e := by
  funext j
  unfold sub subT
  rw [h _ (sg_lt j)]
  exact (bx_is (he _ (sg_lt j))).1
theorem ae_is (r : Nat) (hr : r ≤ 10) : E16 (enc (kK akey 4) 10 af r) (ae r) := by
  induction r with
  | zero =>
    intro i hi
    show af i ^^^ kK akey 4 0 i = _
    rw [aK_is (by omega) hi, Nat.mul_zero, Nat.zero_add]
    exact Nat.eq_of_beq_eq_true (all_of ae_first hi)
  | succ r ih =>
    intro i hi
    have h := sub_T (ih (by omega)) (ae_by (show r < 11 by omega))
    show (if r + 1 < 10 then mix (sub (enc (kK akey 4) 10 af r)) i else sub (enc (kK akey 4) 10 af r) i) ^^^ kK akey 4 (r + 1) i = _
    rw [h, aK_is hr hi]
    exact Nat.eq_of_beq_eq_true (all_of (all_of ae_step (show r < 10 by omega)) hi)
theorem ae_0 : enc (kK akey 4) 10 af 10 0 = 105 := ae_is 10 (by omega) 0 (by omega)
theorem ae_15 : enc (kK akey 4) 10 af 10 15 = 90 := ae_is 10 (by omega) 15 (by omega)
theorem at_87 : tm 87 131 = 193 := by kernel_rfl
theorem ab_83 : bx 83 = 237 := by kernel_rfl
end Go.Proofs.YtapmmcegdhhinaaDoor.K
