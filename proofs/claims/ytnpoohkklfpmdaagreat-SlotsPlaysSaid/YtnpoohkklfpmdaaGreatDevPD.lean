/- The program's device: what is kept, what waits. -/
import Derived.Test.YtnpoohkklfpmdaaGreatRows
import Derived.WalkKit
import Derived.Below
import Derived.ProofKit
import Derived.OpenShut
import Derived.ShutString
import Derived.ChangeOld
import Derived.Outline
import Derived.RegionTactic
import Derived.ChangeAlike
import Derived.BigRegion
import Derived.BigQuiet
import Derived.Deep.QuietTactic
import Derived.Deep.RegionWith
import Derived.Deep.RegionLaw
import Derived.Deep.RegionHeld3
import Derived.Deep.AppendLies
import Derived.Deep.Draws
import Derived.StillTailTactics
import Derived.Lib.Hide
import Derived.Lib.SmallJoins
import Derived.Handy
import Derived.WalkSpells
import Derived.WalkLawsBesides
import Derived.Deep.LoopGhost
import Derived.Deep.DeepCutAuto
import Derived.Deep.CutBlock
import Derived.Deep.CutRange
import Derived.Deep.OwnRows
import Derived.Laws.CopyOwn
import Derived.Test.YtnpoohkklfpmdaaGreatDevPC
import Derived.Test.YtnpoohkklfpmdaaGreatClone
namespace Go.Proofs.YtnpoohkklfpmdaaGreat
open Go.RowKit
set_option maxRecDepth 100000
set_option linter.unusedSimpArgs false
set_option linter.unusedVariables false
set_option linter.unnecessarySimpa false
set_option maxHeartbeats 1000000 in
theorem pNoMore_any {bm bl l p : Nat} {uw : Value} {d : Dv} (w : World) (h : PDs w bm bl uw l p d) : Calls Tryz.prog 34 #[.pointer (some ⟨p, 0, none⟩)] w fun e w' => e = .returned (.tuple #[]) ∧ PDs w' bm bl (.slice none 0 0) l p { d with waits := [] } ∧ Fr [p, bl] w w' := by
  have c2 := h.row.c 2 rfl
  have f2 := h.row.f 2
  have hr := h.row.set 2 (.slice none 0 0)
  have c3 := hr.c 3 rfl
  obtain ⟨f, hf, hf'⟩ := h.sm
  obtain ⟨g, hg, hg'⟩ := h.lm
  have hg2 := hg.set ⟨p, 2, none⟩ (.slice none 0 0)
  have hf2 := hf.set ⟨p, 2, none⟩ (.slice none 0 0)
  have f0 : Fr [p, bl] w (w.setCell ⟨p, 2, none⟩ (.slice none 0 0)) := (Fr.refl _ _).setCell (.inl (by simp)) _
  go_enter Tryz.func34, Tryz.ntmps34
  go_wp2_with (refine wpList_clear _ rfl (.tmp 8) 61 rfl 3 3 Tryz.underlying61 bl g rfl hg2 ?_; intro w2 hm2 ht2)
  go_end0
  have f1 := mapTurned_fr ht2
  have r2 := hr.fr f1 (by have := h.lp; simp; omega)
  exact ⟨rfl, ⟨r2, World.ownsRow_nil _ _ _ _, ⟨f, hf2.fr f1 (by have := h.ne; simpa using this), hf'⟩, ⟨_, hm2, ls_new _⟩, h.ne, h.lf⟩, f0.trans (f1.more (by simp))⟩
theorem wait_end {bm bl l p j cp gg cap : Nat} {A : Option Addr} {d : Dv} {s : List UInt8} {f g : Tell} {w w2 w3 w4 : World}
    (h : PDs w bm bl (.slice A d.waits.length cp) l p d) (hf' : Sf d.safe f) (hm2 : Mp Tryz.prog 3 w2 bl g) (hf2 : Mp Tryz.prog 3 w2 bm f) (ls2 : Ls (d.waits ++ [(j, s)]) d.safe.length g) (fr2 : Fr [bl] w w2) (g3 : Below w2.heap.size w2 w3)
    (hown4 : w4.ownsRow 0 74 2 (.slice (some ⟨gg, 0, none⟩) (d.waits.length + 1) cap) (d.waits.length + 1) (wrs d.waits ++ [.int .i64 (j : Nat), .string ⟨s.toArray⟩]))
    (hgrow : (w3.alloc (.cells #[.int .i64 (j : Nat), .string ⟨s.toArray⟩] 74)).grownBy w4 (Value.slice A d.waits.length cp).ownBlock)
    (hat : (Value.slice A d.waits.length cp).ownBlock = some gg ∨ gg = w3.heap.size + 1) (r4 : Rw w4 p (pcs bm bl (.slice A d.waits.length cp) l d) 63) :
    PDs (w4.setCell ⟨p, 2, none⟩ (.slice (some ⟨gg, 0, none⟩) (d.waits.length + 1) cap)) bm bl (.slice (some ⟨gg, 0, none⟩) (d.waits.length + 1) cap) l p { d with waits := d.waits ++ [(j, s)] } ∧
      Fr (p :: bl :: blk (.slice A d.waits.length cp)) w (w4.setCell ⟨p, 2, none⟩ (.slice (some ⟨gg, 0, none⟩) (d.waits.length + 1) cap)) ∧
      ∀ b ∈ blk (.slice (some ⟨gg, 0, none⟩) (d.waits.length + 1) cap), b ∈ blk (.slice A d.waits.length cp) ∨ w.heap.size ≤ b := by
  have hs : w.heap.size ≤ w3.heap.size := Nat.le_trans fr2.size g3.size
  have gr : Fr (blk (.slice A d.waits.length cp)) (w3.alloc (.cells #[.int .i64 (j : Nat), .string ⟨s.toArray⟩] 74)) w4 := Fr.grownRow hgrow
  have ga : Fr (p :: bl :: blk (.slice A d.waits.length cp)) w w4 := ((fr2.more (by simp)).trans (Fr.of_below g3)).alloc _ |>.trans (gr.more (fun k hk => by simp [hk]))
  have offg := own_off hown4 r4 (by decide)
  refine ⟨⟨r4.set 2 _, ?_, ⟨f, ?_, hf'⟩, ⟨g, ?_, ls2⟩, h.ne, h.lf⟩, ga.setCell (.inl (by simp)) _, fun b hb => ?_⟩
  · rw [wrs_snoc] at hown4
    simp only [List.length_append, List.length_cons, List.length_nil]
    exact ownsRow_setCell_other (a := ⟨p, 2, none⟩) hown4 offg _
  · exact (((hf2.below g3).alloc _).fr gr (fun hm => h.mw (mem_blk.1 hm))).set _ _
  · exact (((hm2.below g3).alloc _).fr gr (fun hm => h.lw (mem_blk.1 hm))).set _ _
  · rw [mem_blk] at hb
    simp only [Value.ownBlock, Option.some.injEq] at hb
    subst hb
    rcases hat with hat | hat
    · exact .inl (mem_blk.2 hat)
    · right; omega
set_option maxHeartbeats 2000000 in
theorem pWait_any {bm bl l p : Nat} {uw : Value} {d : Dv} (j : Nat) (s : List UInt8) (w : World) (h : PDs w bm bl uw l p d) (hn4 : d.waits.length < 1048576) (hs4 : d.safe.length ≤ 4096) (hj : j < d.safe.length) (hs : s.length = 64) :
    Calls Tryz.prog 86 #[.pointer (some ⟨p, 0, none⟩), .int .i64 (j : Nat), .string ⟨s.toArray⟩] w fun e w' => e = .returned (.tuple #[]) ∧ ∃ uw', PDs w' bm bl uw' l p { d with waits := d.waits ++ [(j, s)] } ∧ Fr (p :: bl :: blk uw) w w' ∧ ∀ b ∈ blk uw', b ∈ blk uw ∨ w.heap.size ≤ b := by
  obtain ⟨A, cp, rfl⟩ := own_form h.wts
  have h0 : PDs w.drew bm bl (.slice A d.waits.length cp) l p d := h.keep (fun _ _ => rfl)
  obtain ⟨f, hf, hf'⟩ := h.sm
  obtain ⟨g, hg, hg'⟩ := h.lm
  have hg0 : Mp Tryz.prog 3 w.drew bl g := hg
  have c3 := h.row.c 3 rfl
  have c2 := h.row.c 2 rfl
  obtain ⟨i0, hi, hz0, hz1, hz2⟩ := info_parts infoW
  go_enter Tryz.func86, Tryz.ntmps86
  go_wp2_with fail
  go_still_tail 10, (by kernel_rfl)
  change wpList _ _ _ _ _ w.drew
  go_wp2_with (at_mapUpdate; refine wpList_store _ rfl (.tmp 9) (.tmp 10) (.tmp 15) 61 rfl 3 3 keyI Tryz.underlying61 bl g rfl hg0 ((List.range d.safe.length).map (fun k : Nat => ikey k)) (by simp [maxLen]; omega) (sup_mem hg'.sup) _ (.int .i64 (d.waits.length : Nat)) (ikey j) rfl rfl (keyAt j (by omega)) ?_; intro w2 hm2 ht2)
  have t2 := mapTurned_fr ht2
  have ls2 := hg'.put hj s
  have r2 : Rw w2 p _ _ := h0.row.fr t2 (by have := h.lp; simp; omega)
  have own2 : w2.ownsRow 0 74 2 (.slice A d.waits.length cp) d.waits.length (wrs d.waits) := own_frame h0.wts t2 (fun k hk e => h.lw (by rw [hk, List.mem_singleton.1 e]))
  have hf2 : Mp Tryz.prog 3 w2 bm f := (show Mp Tryz.prog 3 w.drew bm f from hf).fr t2 (by have := h.ne; simpa using this)
  have fr2 : Fr [bl] w w2 := ⟨t2.os, t2.tape, t2.output, t2.size, t2.block⟩
  have c22 := r2.c 2 rfl
  have offp := h.off
  have offm := h.mw
  have offl := h.lw
  have hmp := h.mp
  have hlp := h.lp
  have hne := h.ne
  have H := Lib.hid h
  have LT := Lib.hid r2.lt
  have HM2 := Lib.hid hm2
  have HF2 := Lib.hid hf2
  have LS2 := Lib.hid ls2
  have FR2 := Lib.hid fr2
  clear ht2 t2 hm2 hf2 ls2 hg hg' hf h h0 c3 c2 hg0 fr2
  go_wp2
  go_region_law
    (first
      | (go_simp; go_at_call 47; refine (clone_any s _ (by omega)).mono ?_; rintro e w3 ⟨rfl, g3'⟩; have g3 := below_undrew g3'; have r3 := r2.below g3; have c32 := r3.c 2 rfl; have own3 := own_below own2 g3; have s3 := g3.size; have lp3 := r3.lt)
      | (refine step_append_lies _ (by rfl) _ _ _ (by rfl) 0 74 i0 _ 2 24 Tryz.underlying46 hi hz0 hz1 hz2 rfl (by decide) (.slice A d.waits.length cp) d.waits.length (wrs d.waits) (by rfl) (own3.alloc _) ⟨w3.heap.size, 0, none⟩ 1 1 [.int .i64 (j : Nat), .string ⟨s.toArray⟩] (by rfl) (by rfl) (World.news_of_block (cs := #[.int .i64 (j : Nat), .string ⟨s.toArray⟩]) (t := 74) (fr := (0, 0)) (heap_alloc_new w3 _)) (by simp [Value.oneCell']) (by decide) (by unfold maxLen; omega) (by omega) (Nat.zero_le _) (w3.heap.size + 1) (by simp) ?_; intro gg cap w4 hown4 hgrow hat hlt4; have r4 := (r3.alloc (.cells #[.int .i64 (j : Nat), .string ⟨s.toArray⟩] 74)).keep (hgrow.block p (by simp; omega) (fun e => offp e.symm)); have c42 := r4.c 2 rfl; have f42 := r4.f 2))
  all_goals
    go_end0
    exact ⟨rfl, _, wait_end H.out hf' HM2.out HF2.out LS2.out FR2.out g3 hown4 hgrow hat r4⟩
end Go.Proofs.YtnpoohkklfpmdaaGreat
