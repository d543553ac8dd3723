/- Of a block that stands alone: what it is read as. -/
import Derived.Test.YtlakgbckopjelaaGreatDoorDFew
import Derived.Test.YtlakgbckopjelaaGreatDoorG46DQSto
namespace Go.Proofs.YtlakgbckopjelaaGreatDoor
set_option maxRecDepth 100000
open Go Go.RowKit

/-- What a block tells: its bytes, read by the reference. -/
theorem tells_block {W : World} {kk g c : Nat} {base base2 : Nat} {o : Option Addr} {oc : Nat} {S D H : List Int} {ts : List M.Tk} (hbk : BkOk kk ts S D) (hH : HdIs kk S D H) (hr : M.Rt ts) (h8 : M.Bt ts) (hl : ts.length ≤ 600) (hX : (dataL (blB kk true H S D ts)).length ≤ 100000)
    (h1 : OwnsB W base (.slice (some ⟨g, 0, none⟩) (dataL (blB kk true H S D ts)).length c) (dataL (blB kk true H S D ts))) (h2 : OwnsB W base2 (.slice o (M.tel ts).length oc) (M.tel ts)) :
    Calls Tryz.prog 11 #[.slice (some ⟨g, 0, none⟩) (dataL (blB kk true H S D ts)).length c, .slice o (M.tel ts).length oc] W fun e w' => e = .returned (.bool true) ∧ Below W.heap.size W w' := by
  have hs := hr.sum
  have ht := M.tel_length hr
  exact tells_yes W (some ⟨g, 0, none⟩) c oc _ _ o (own_text h1 (fun i => dataL_bytes _ (bin_bl hH) i)) (own_text h2 (getD_bytes h8.mem)) hX (by omega) (ans_block hbk hH hr h8 _ (Nat.le_refl _))
theorem TkIn.of {w : World} {a : Option Addr} {ct : Nat} {ts : List M.Tk} (h : M.TIn w a ct ts) (hb : ∀ b off, a = some ⟨b, off, none⟩ → b < w.heap.size) (hr : M.Rt ts) (hl : ts.length ≤ 600) : TkIn w a ts := ⟨h.toks, hb, TOk.of hr h.bt, by omega⟩
end Go.Proofs.YtlakgbckopjelaaGreatDoor
