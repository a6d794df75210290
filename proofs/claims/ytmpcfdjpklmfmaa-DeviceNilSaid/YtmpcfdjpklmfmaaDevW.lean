/- The document's device: New. -/
import Derived.Test.YtmpcfdjpklmfmaaRows
import Derived.WalkKit
import Derived.Below
import Derived.ProofKit
import Derived.OpenShut
import Derived.ShutString
import Derived.ChangeOld
import Derived.Outline
import Derived.RegionTactic
import Derived.ChangeAlike
import Derived.BigRegion
import Derived.BigQuiet
import Derived.Deep.QuietTactic
import Derived.Deep.RegionWith
import Derived.Deep.RegionLaw
import Derived.Deep.RegionHeld3
import Derived.Deep.AppendLies
import Derived.Deep.Draws
import Derived.StillTailTactics
import Derived.Lib.Hide
import Derived.Lib.SmallJoins
import Derived.Handy
import Derived.WalkSpells
import Derived.WalkLawsBesides
import Derived.Deep.LoopGhost
import Derived.Deep.DeepCutAuto
import Derived.Deep.CutBlock
import Derived.Deep.CutRange
import Derived.Deep.OwnRows
import Derived.Laws.CopyOwn
import Derived.Test.YtmpcfdjpklmfmaaDevV
namespace Go.Proofs.Ytmpcfdjpklmfmaa
open Go.RowKit
set_option linter.unusedSimpArgs false
set_option linter.unusedVariables false
set_option linter.unnecessarySimpa false
theorem info8d : (Try.prog.info? 5).map (fun i => (i.zero, i.size, i.bytes)) = some (some (.int .u8 0), 1, 1) := by kernel_rfl
theorem madeRep (n : Nat) : madeCells #[Value.int .u8 0] n = (bcells (List.replicate n 0)).toArray := by
  apply Array.toList_inj.1
  rw [toList_madeCells_one]
  simp [bcells]
/-- 'string(b)' of a row of bytes. -/
theorem strRow {P : Program} (w : World) (src dst e : TypeId) (b n c : Nat) (l : List UInt8) (t : TypeId) (fr : Nat × Nat)
    (hs : P.underlying src = some (.slice e)) (he : P.underlying e = some (.int .u8)) (hd : P.underlying dst = some .string)
    (hb : w.heap[b]? = some (.cells (bcells l).toArray t fr)) (hn : n = l.length) :
    (convert src dst (.slice (some ⟨b, 0, none⟩) n c)).run P w = .ok (.string ⟨l.toArray⟩) w :=
  run_b2s_tail (j := 0) (z := .int .u8 0) w src dst e b n c l t fr hs he hd (by simpa using hb) hn
/-- A device being made. -/
structure Mk6 (W w : World) (u : Value) (p t : Nat) : Prop where
  row : Rw w p [u, .slice none 0 0, .bool true, .bool false, .int .i64 0, .int .i64 0] 44
  safe : w.ownsRow W.heap.size 9 1 u t (svs (List.replicate t zsec))
  bel : Below W.heap.size W w
  le : W.heap.size ≤ p
theorem svs_rep (t : Nat) : svs (List.replicate t zsec) ++ [.string ⟨zsec.toArray⟩] = svs (List.replicate (t + 1) zsec) := by rw [svs_snoc, List.replicate_succ']
theorem own_down {w : World} {base base' size n : Nat} {e : TypeId} {v : Value} {xs : List Value} (h : w.ownsRow base e size v n xs) (hb : base' ≤ base) : w.ownsRow base' e size v n xs := by
  refine ⟨h.1, ?_⟩
  rcases h.2 with h2 | ⟨g, cap, cur, hv, hg, r⟩
  · exact Or.inl h2
  · exact Or.inr ⟨g, cap, cur, hv, by omega, r⟩
theorem refNewNo_any (z : Int) (w : World) (hz : z < 1 ∨ 4096 < z) :
    Calls Try.prog 11 #[.int .i64 z] w fun e w' => e = .returned (.pointer none) ∧ w = w' := by
  by_cases h1 : z < 1
  · have d0 : decide (z < 1) = true := decide_eq_true h1
    go_enter Try.func11, Try.ntmps11
    go_wp2
    go_ret
    exact ⟨rfl, rfl⟩
  · have d0 : decide (z < 1) = false := decide_eq_false h1
    have d1 : decide (4096 < z) = true := decide_eq_true (by omega)
    go_enter Try.func11, Try.ntmps11
    go_wp2
    go_ret
    exact ⟨rfl, rfl⟩
set_option maxHeartbeats 2000000 in
theorem refNew_any (n : Nat) (w : World) (h1 : 1 ≤ n) (h2 : n ≤ 4096) :
    Calls Try.prog 11 #[.int .i64 (n : Nat)] w fun e w' => (∃ p us, e = .returned (.pointer (some ⟨p, 0, none⟩)) ∧ R6 w' us (.slice none 0 0) p (newD n) ∧ w.heap.size ≤ p ∧ ∀ b ∈ blk us, w.heap.size ≤ b) ∧ Below w.heap.size w w' := by
  have d0 : decide ((n : Int) < 1) = false := decide_eq_false (by omega)
  have d1 : decide (4096 < (n : Int)) = false := decide_eq_false (by omega)
  obtain ⟨i0, hi, hz0, hz1, hz2⟩ := info_parts infoStr
  go_enter Try.func11, Try.ntmps11
  go_upto_region 4 with (fail)
  generalize hwa : World.alloc _ _ = wa
  have m0 : Mk6 w wa (.slice none 0 0) w.heap.size 0 := ⟨by rw [← hwa]; exact Rw.new w _ _, World.ownsRow_nil _ _ _ _, by rw [← hwa]; exact (Below.refl _ _).alloc (Nat.le_refl _) _, Nat.le_refl _⟩
  obtain ⟨p, hp⟩ : ∃ p, p = w.heap.size := ⟨_, rfl⟩
  rw [← hp] at m0
  rw [← hp]
  clear hwa hp
  go_wp2
  go_loopw [4] (fun i wr => ∃ (t : Nat) (u : Value), t ≤ n ∧ i = .int .i64 t ∧ Mk6 w wr u p t) (fun i _ => n - (intOf i).toNat)
  case atStart => exact ⟨0, _, by omega, rfl, m0⟩
  case round =>
    obtain ⟨t, u, ht, rfl, hM⟩ := hrel
    have c0 := hM.row.c 0 rfl
    by_cases hlt : t < n
    · have tl : (t : Int) < n := by omega
      have hmk : ∀ w : World, (Instr.makeSlice 48 (.int .i64 64) (.int .i64 64)).run Try.prog w = .ok (.slice (some ⟨w.heap.size, 0, none⟩) 64 64) (w.alloc (.cells (madeCells #[Value.int .u8 0] 64) 5)) := fun w => run_make_row' (P := Try.prog) 48 5 (.int .u8 0) 1 Try.underlying48 info8d rfl .i64 .i64 64 (by omega) (by omega) w
      have hcv := strRow ((wr.alloc (.cells (madeCells #[Value.int .u8 0] 64) 5)).drew) 48 9 5 wr.heap.size 64 64 zsec 5 (0, 0) Try.underlying48 Try.underlying5 Try.underlying9 (by rw [madeRep]; exact heap_alloc_new wr _) rfl
      obtain ⟨O, hO⟩ : ∃ O, O = Obj.cells (madeCells #[Value.int .u8 0] 64) 5 := ⟨_, rfl⟩
      rw [← hO] at hcv
      simp only [← hO] at hmk
      obtain ⟨zs, hzs⟩ : ∃ zs, zs = zsec := ⟨_, rfl⟩
      rw [← hzs] at hcv
      have hown := hM.safe
      have ho1 := own_off hM.safe hM.row (by decide)
      have hrow := hM.row
      have hlt1 := hrow.lt
      have hx := Lib.hid (show svs (List.replicate t zsec) ++ [.string ⟨zs.toArray⟩] = svs (List.replicate (t + 1) zsec) from by rw [hzs]; exact svs_rep t)
      have HM := Lib.hid hM
      clear hO hzs hM d0 d1 h1
      go_wp2
      go_region_law (refine step_append_lies _ (by rfl) _ _ _ (by rfl) w.heap.size 9 i0 _ 1 16 Try.underlying42 hi hz0 hz1 hz2 rfl (by omega) u t (svs (List.replicate t zsec)) (by rfl) ((hown.alloc O).alloc _) ⟨wr.heap.size + 1, 0, none⟩ 1 1 [.string ⟨zs.toArray⟩] (by rfl) (by rfl) (World.news_of_block (cs := #[.string ⟨zs.toArray⟩]) (t := 9) (fr := (0, 0)) (heap_new_at (by simp))) (by simp [Value.oneCell']) (by omega) (by unfold maxLen; omega) (by omega) (by simp; have := HM.out.bel.size; omega) (wr.heap.size + 2) (by simp) ?_; intro gg cap w4 hown4 hgrow hat hlt4; have r4 : Rw w4 p _ _ := ((hrow.alloc O).alloc _).keep (hgrow.block p (by simp; omega) (fun e => ho1 e.symm)); have c4 := r4.c 0 rfl; have f4 := r4.f 0)
      all_goals
        go_wp2
        go_roundw
        case rel =>
          have hM := HM.out
          have ba : Below w.heap.size wr ((wr.alloc O).alloc (.cells #[.string ⟨zs.toArray⟩] 9)).drew := (((Below.refl _ _).alloc hM.bel.size _).alloc (by have := hM.bel.size; simp; omega) _).drew
          have b4 : Below w.heap.size w w4 := (hM.bel.trans ba).grown hgrow (by have := hM.bel.size; simp; omega) (own_block_ge hown)
          exact ⟨t + 1, _, by omega, by go_num, r4.set 0 _, by rw [← hx.out]; exact ownsRow_setCell_other (a := ⟨p, 0, none⟩) hown4 (own_off hown4 r4 (by decide)) _, b4.setCell hM.le _, hM.le⟩
        case measure => simp [intOf]; omega
    · have tl : ¬ ((t : Int) < n) := by omega
      obtain rfl : t = n := by omega
      have HM := Lib.hid hM
      clear hM
      go_wp2
      go_ret
      have hM := HM.out
      refine ⟨⟨p, rfl, u, ⟨hM.row, ?_, World.ownsRow_nil _ _ _ _⟩, hM.le, fun b hb => own_block_ge hM.safe b (mem_blk.1 hb)⟩, hM.bel⟩
      simp only [newD, List.length_replicate]
      exact own_down hM.safe (Nat.zero_le _)
end Go.Proofs.Ytmpcfdjpklmfmaa
