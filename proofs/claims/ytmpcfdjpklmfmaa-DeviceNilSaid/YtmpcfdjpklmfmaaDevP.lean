/- The program's device keeps to all that the laws ask of it. -/
import Derived.Test.YtmpcfdjpklmfmaaRows
import Derived.WalkKit
import Derived.Below
import Derived.ProofKit
import Derived.OpenShut
import Derived.ShutString
import Derived.ChangeOld
import Derived.Outline
import Derived.RegionTactic
import Derived.ChangeAlike
import Derived.BigRegion
import Derived.BigQuiet
import Derived.Deep.QuietTactic
import Derived.Deep.RegionWith
import Derived.Deep.RegionLaw
import Derived.Deep.RegionHeld3
import Derived.Deep.AppendLies
import Derived.Deep.Draws
import Derived.StillTailTactics
import Derived.Lib.Hide
import Derived.Lib.SmallJoins
import Derived.Handy
import Derived.WalkSpells
import Derived.WalkLawsBesides
import Derived.Deep.LoopGhost
import Derived.Deep.DeepCutAuto
import Derived.Deep.CutBlock
import Derived.Deep.CutRange
import Derived.Deep.OwnRows
import Derived.Laws.CopyOwn
import Derived.Test.YtmpcfdjpklmfmaaDevPH
namespace Go.Proofs.Ytmpcfdjpklmfmaa
open Go.RowKit
set_option linter.unusedSimpArgs false
set_option linter.unusedVariables false
set_option linter.unnecessarySimpa false
theorem mv_of {bm bl p bm' bl' : Nat} {uw uw' : Value} {w w' : World} (hf : Fr (p :: bm :: bl :: blk uw) w w') (h1 : bm' = bm) (h2 : bl' = bl) (h3 : ∀ c ∈ blk uw', c ∈ blk uw ∨ w.heap.size ≤ c) : Mv (p :: bm :: bl :: blk uw) w (p :: bm' :: bl' :: blk uw') w' := by
  subst h1 h2
  refine ⟨hf, fun b hb => ?_⟩
  simp only [List.mem_cons] at hb ⊢
  rcases hb with e | e | e | e
  · exact .inl (.inl e)
  · exact .inl (.inr (.inl e))
  · exact .inl (.inr (.inr (.inl e)))
  · exact (h3 b e).imp (fun q => .inr (.inr (.inr q))) id
/-- The program's device keeps to all that is asked. -/
theorem iface : Iface PD where
  keep := pdKeep
  lt := pdLt
  new0 := pNewNo_any
  new := pNew_any
  read := by
    rintro ex p d k w ⟨bm, bl, uw, l, rfl, h⟩ hd ho
    exact pRead_any k w h hd ho
  write := by
    rintro ex p d k s w ⟨bm, bl, uw, l, rfl, h⟩ hd ho hs
    refine (pWrite_any k s w h hd hs).mono ?_
    rintro e w' ⟨rfl, uw2, l2, h2, f2, g2⟩
    exact ⟨rfl, _, h2.pd, mv_of f2 rfl rfl g2⟩
  flush := by
    rintro ex p d w ⟨bm, bl, uw, l, rfl, h⟩ hd ho
    refine (pFlush_any w h hd ho).mono ?_
    rintro e w' ⟨rfl, uw2, l2, h2, f2, g2⟩
    exact ⟨rfl, _, h2.pd, mv_of f2 rfl rfl g2⟩
  arm := by
    rintro ex p d n w ⟨bm, bl, uw, l, rfl, h⟩
    refine (pArm_any n w h).mono ?_
    rintro e w' ⟨rfl, h2, f2⟩
    exact ⟨rfl, _, h2.pd, mv_of (f2.more (by simp)) rfl rfl (fun c hc => .inl hc)⟩
  crash := by
    rintro ex p d a kn kc keep torn cut w ⟨bm, bl, uw, l, rfl, h⟩ hd ho hpos hb hkc hkm hoff
    refine (pCrash_any a kn kc keep torn cut w h hd ho hpos hb hkc hkm hoff).mono ?_
    rintro e w' ⟨rfl, h2, f2⟩
    exact ⟨rfl, _, h2.pd, mv_of f2 rfl rfl (fun c hc => by simp [blk, Value.ownBlock] at hc)⟩
  on := by
    rintro ex p d w ⟨bm, bl, uw, l, rfl, h⟩
    exact pOn_any (h.row.c 4 rfl)
  steps := by
    rintro ex p d w ⟨bm, bl, uw, l, rfl, h⟩
    exact pSteps_any (h.row.c 7 rfl)
  sectors := by
    rintro ex p d w ⟨bm, bl, uw, l, rfl, h⟩
    exact pSectors_any (h.row.c 0 rfl)
  waiting := by
    rintro ex p d w ⟨bm, bl, uw, l, rfl, h⟩ hd
    exact pWaiting_any w h hd
  safe := by
    rintro ex p d k w ⟨bm, bl, uw, l, rfl, h⟩ hd ho
    exact pSafe_any k w h hd ho
end Go.Proofs.Ytmpcfdjpklmfmaa
