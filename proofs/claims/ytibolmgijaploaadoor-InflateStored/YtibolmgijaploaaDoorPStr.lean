/- Texts as bytes; bytes of a text appended to a row of one's own. -/
import Derived.Test.YtibolmgijaploaaDoorPApp
import Derived.Lib.AppendStr
namespace Go.Proofs.YtibolmgijaploaaDoor
set_option maxRecDepth 100000
open Go Go.RowKit

def sB (s : ByteArray) : List Int := s.data.toList.map fun b => (b.toNat : Int)
theorem sB_length (s : ByteArray) : (sB s).length = s.size := by unfold sB; rw [List.length_map, Array.length_toList]; rfl
theorem sB_mem (s : ByteArray) : ∀ x ∈ sB s, 0 ≤ x ∧ x ≤ 255 := fun x hx => by
  obtain ⟨b, _, rfl⟩ := List.mem_map.1 hx
  have := b.toNat_lt
  omega
theorem sB_cells (s : ByteArray) : Lib.strCells s = (sB s).map (Value.int .u8) := by simp [Lib.strCells, sB]
theorem nums_sB (s : ByteArray) : strOfNums (sB s) = s := by
  apply ByteArray.ext
  rw [← Array.toList_inj]
  show (List.map (fun n : Int => UInt8.ofNat n.toNat) (s.data.toList.map fun b => (b.toNat : Int))) = s.data.toList
  rw [List.map_map]
  conv => rhs; rw [← List.map_id s.data.toList]
  refine List.map_congr_left fun b _ => ?_
  simp
theorem nums_app (L M : List Int) : strOfNums (L ++ M) = strOfNums L ++ strOfNums M := by
  apply ByteArray.ext
  rw [← Array.toList_inj]
  simp [strOfNums, ByteArray.data_append]
theorem wpList_append_text {ops : Array Oper} {rest : List Oper} {o : Oper} {act : Act} {Q : Exit → Act → World → Prop} (w : World) (hgd : o.guard = none) (s x : Operand)
    (ho : o.op = .call { callee := .builtin .append, args := #[s, x], argTypes := #[22, 9] })
    (base : Nat) (v : Value) (X : List Int) (hs : act.eval s = v) (hown : OwnsB w base v X) (t : ByteArray) (hx : act.eval x = .string t) (hbound : X.length + t.size ≤ 140737488355328) (hbase : base ≤ w.heap.size)
    (h : ∀ v' w', OwnsB w' base v' (X ++ sB t) → w.grownBy w' v.ownBlock → wpList Tryd.prog ops Q rest (act.put o.dst v') w') : wpList Tryd.prog ops Q (o :: rest) act w := by
  obtain ⟨i5, hi5, hz5, hs5, hb5⟩ := info_parts Tryd.info5
  refine Lib.wpList_append_own_string w hgd s x 22 9 ho base 5 i5 Tryd.underlying22 Tryd.underlying9 hi5 hz5 hs5 hb5 v X.length (X.map (Value.int .u8)) hs hown t hx (by unfold maxLen; omega) hbound hbase ?_
  intro v' w' h1 h2 _
  refine h v' w' ?_ h2
  unfold OwnsB
  rw [List.length_append, sB_length, List.map_append, ← sB_cells]
  exact h1
theorem xor8 : ∀ x : Fin 256, bits .xor .u8 IntKind.u8.max ((x.val : Nat) : Int) = ((255 - x.val : Nat) : Int) := by decide +kernel
/-- A stored block's head, as it is built. -/
def hd5 (l : Int) (n : Nat) : List Int := [l, (n : Int) % 256, (n : Int) / 256, bits .xor .u8 IntKind.u8.max ((n : Int) % 256), bits .xor .u8 IntKind.u8.max ((n : Int) / 256)]
theorem hd5_eq (l n : Nat) (h : n ≤ 65535) : hd5 (l : Int) n = iHead l n := by
  have e1 := xor8 ⟨n % 256, by omega⟩
  have e2 := xor8 ⟨n / 256, by omega⟩
  simp only at e1 e2
  unfold hd5 iHead
  rw [show (n : Int) % 256 = ((n % 256 : Nat) : Int) by omega, show (n : Int) / 256 = ((n / 256 : Nat) : Int) by omega, e1, e2]
/-- Five bytes in a block of their own. -/
theorem own_five (w : World) (a b c d e : Int) : OwnsB (w.alloc (.cells #[.int .u8 a, .int .u8 b, .int .u8 c, .int .u8 d, .int .u8 e] 5)) w.heap.size (.slice (some ⟨w.heap.size, 0, none⟩) 5 5) [a, b, c, d, e] :=
  ⟨rfl, .inr ⟨w.heap.size, 5, _, rfl, Nat.le_refl _, heap_new w _, Nat.le_refl _, by unfold maxLen; omega, rfl, rfl⟩⟩
/-- A head that is built, in memory. -/
def hdC (l : Int) (n : Nat) : Array Value := #[.int .u8 l, .int .u8 ((n : Int) % 256), .int .u8 ((n : Int) / 256), .int .u8 (bits .xor .u8 IntKind.u8.max ((n : Int) % 256)), .int .u8 (bits .xor .u8 IntKind.u8.max ((n : Int) / 256))]
theorem own_hd (w : World) (l : Int) (n : Nat) : OwnsB (w.alloc (.cells (hdC l n) 5)) w.heap.size (.slice (some ⟨w.heap.size, 0, none⟩) 5 5) (hd5 l n) := own_five w _ _ _ _ _
theorem below_hd {w w2 : World} {l : Int} {n : Nat} (gr : (w.alloc (.cells (hdC l n) 5)).grownBy w2 (Value.slice (some ⟨w.heap.size, 0, none⟩) 5 5).ownBlock) : Below w.heap.size w w2 :=
  ((Below.refl _ w).alloc (Nat.le_refl _) _).grown gr (by simp) (fun k hk => (ownsRow_lt (own_hd w l n) hk).1)
end Go.Proofs.YtibolmgijaploaaDoor
