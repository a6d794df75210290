import Derived.Test.YtkhmhffphmkefaaPlain
import Derived.Test.YtkhmhffphmkefaaTlvC
import Derived.Outline
import Derived.RegionTactic
import Derived.ChangeAlike
import Derived.BigRegion
import Derived.BigQuiet
import Derived.Deep.QuietTactic
import Derived.Deep.RegionWith
import Derived.Deep.RegionLaw
import Derived.Deep.AppendLies
import Derived.Deep.Draws
import Derived.Lib.Hide
import Derived.Deep.LoopGhost
import Derived.Deep.RegionHeld3
import Derived.StillTactics
import Derived.OwnWalk
namespace Go.Proofs.Ytkhmhffphmkefaa
open Go.RowKit
/-- A law's struct argument, boxed. -/
def Fb (w : World) (g : Nat) (c : UInt8) (m : Nat) (l : List UInt8) : Prop := w.heap[g]? = some (.cells #[.int .u8 c.toNat, .int .u64 m, .string ⟨l.toArray⟩] 24 (0, 0))
theorem Fb.c0 {w : World} {g m : Nat} {c : UInt8} {l : List UInt8} (h : Fb w g c m l) : w.cell? ⟨g, 0, none⟩ = some (.int .u8 c.toNat) := by
  unfold World.cell?; unfold Fb at h; simp only [h]; rfl
theorem Fb.c1 {w : World} {g m : Nat} {c : UInt8} {l : List UInt8} (h : Fb w g c m l) : w.cell? ⟨g, 1, none⟩ = some (.int .u64 m) := by
  unfold World.cell?; unfold Fb at h; simp only [h]; rfl
theorem Fb.c2 {w : World} {g m : Nat} {c : UInt8} {l : List UInt8} (h : Fb w g c m l) : w.cell? ⟨g, 2, none⟩ = some (.string ⟨l.toArray⟩) := by
  unfold World.cell?; unfold Fb at h; simp only [h]; rfl
theorem Fb.lt {w : World} {g m : Nat} {c : UInt8} {l : List UInt8} (h : Fb w g c m l) : g < w.heap.size := by
  rcases Nat.lt_or_ge g w.heap.size with hlt | hge
  · exact hlt
  · unfold Fb at h; rw [Array.getElem?_eq_none hge] at h; cases h
theorem Fb.below {w w' : World} {g m : Nat} {c : UInt8} {l : List UInt8} (h : Fb w g c m l) (hf : Below w.heap.size w w') : Fb w' g c m l := (hf.block g h.lt).trans h
theorem Fb.fr {ex : List Nat} {w w' : World} {g m : Nat} {c : UInt8} {l : List UInt8} (h : Fb w g c m l) (hf : Fr ex w w') (hn : g ∉ ex) : Fb w' g c m l := (hf.block g h.lt hn).trans h
theorem Fb.new (w : World) (c : UInt8) (m : Nat) (l : List UInt8) : Fb (w.alloc (.cells #[.int .u8 c.toNat, .int .u64 m, .string ⟨l.toArray⟩] 24)) w.heap.size c m l := heap_alloc_new w _
theorem below_undrew {w w' : World} (h : Below w.drew.heap.size w.drew w') : Below w.heap.size w w' := ⟨h.os, h.tape, h.output, h.size, h.block⟩
end Go.Proofs.Ytkhmhffphmkefaa
