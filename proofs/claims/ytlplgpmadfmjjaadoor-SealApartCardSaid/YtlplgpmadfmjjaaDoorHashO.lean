import Derived.Test.YtlplgpmadfmjjaaDoorRows
import Derived.WalkKit
import Derived.Below
import Derived.ProofKit
import Derived.OpenShut
import Derived.ShutString
import Derived.ChangeOld
import Derived.Outline
import Derived.RegionTactic
import Derived.ChangeAlike
import Derived.BigRegion
import Derived.BigQuiet
import Derived.Deep.QuietTactic
import Derived.Deep.RegionWith
import Derived.Deep.RegionLaw
import Derived.Deep.RegionHeld3
import Derived.Deep.AppendLies
import Derived.Deep.Draws
import Derived.StillTailTactics
import Derived.Lib.Hide
import Derived.Lib.SmallJoins
import Derived.Handy
import Derived.Stop.BytesEq
import Derived.WalkSpells
import Derived.WalkLawsBesides
import Derived.Deep.LoopGhost
import Derived.Deep.DeepCutAuto
import Derived.Laws.CopyOwn
import Derived.Test.YtlplgpmadfmjjaaDoorHashN
namespace Go.Proofs.YtlplgpmadfmjjaaDoor
open Go.RowKit
set_option linter.unusedSimpArgs false
set_option linter.unusedVariables false
theorem info5p : (Tryd.prog.info? 5).map (fun i => (i.zero, i.size, i.bytes)) = some (some (.int .u8 0), 1, 1) := by kernel_rfl
theorem bcells_take_succ (x : List UInt8) (k : Nat) (h : k < x.length) : bcells (x.take k) ++ [.int .u8 (x.getD k 0).toNat] = bcells (x.take (k + 1)) := by
  have e : (x.take (k + 1)) = x.take k ++ [x.getD k 0] := by
    rw [List.take_add_one, List.getElem?_eq_getElem h]; simp [h]
  rw [e]
  simp [bcells]
set_option maxHeartbeats 1000000 in
theorem refText_any (x : List UInt8) (w : World) (hx : x.length = 32) :
    Calls Tryd.prog 17 #[aggB x] w fun e w' => e = .returned (.string ⟨x.toArray⟩) ∧ Below w.heap.size w w' := by
  obtain ⟨i0, hi, hz0, hz1, hz2⟩ := info_parts info5p
  have HX := Lib.hid hx
  clear hx
  go_enter Tryd.func17, Tryd.ntmps17
  go_wp2
  have hw1 : w.heap.size + 1 = (w.alloc (.cells (bcells x).toArray 23)).heap.size := by simp
  have HW1 := Lib.hid hw1
  clear hw1
  go_loopw [3, 4] (fun v i wr => ∃ k : Nat, k ≤ 32 ∧ i = .int .i64 k ∧ wr.ownsRow (w.heap.size + 1) 5 1 v k (bcells (x.take k)) ∧ Below (w.heap.size + 1) (w.alloc (.cells (bcells x).toArray 23)) wr) (fun _ i _ => 32 - (intOf i).toNat)
  case atStart => exact ⟨0, by omega, rfl, World.ownsRow_nil _ _ _ _, Below.refl _ _⟩
  case round =>
    obtain ⟨k, hk, rfl, hown, hbel⟩ := hrel
    obtain ⟨A, cp, rfl⟩ := own_form hown
    have hws : w.heap.size + 1 ≤ wr.heap.size := by have := hbel.size; rw [← HW1.out] at this; exact this
    have hbw : Below w.heap.size w wr := ((Below.refl _ _).alloc (Nat.le_refl _) _).trans (hbel.mono (by omega))
    by_cases hlt : k < 32
    · have c0 : wr.cell? ⟨w.heap.size, k, none⟩ = some (.int .u8 (x.getD k 0).toNat) := cell_row ((hbel.block _ (by omega)).trans (heap_alloc_new w _)) (bcells_get (by rw [HX.out]; exact hlt))
      have kk : (k : Int) < 32 := by omega
      have hs := Lib.hid (bcells_take_succ x k (by rw [HX.out]; exact hlt))
      generalize x.getD k 0 = z at c0 hs
      go_wp2_with (at_builtin; refine wpList_append_own _ rfl _ _ 45 rfl (w.heap.size + 1) 5 i0 (.int .u8 0) 1 1 Tryd.underlying45 hi hz0 hz1 hz2 rfl (by decide) _ _ _ rfl (hown.alloc _) ⟨wr.heap.size, 0, none⟩ 1 1 [.int .u8 z.toNat] rfl rfl ?c1 ?c2 ?c3 ?c4 ?c5 ?_)
      case c1 =>
        intro j u hj
        match j with
        | 0 => simp at hj; subst hj; exact cell_of_row _ _ _ _ _ _ (heap_alloc_new wr _)
        | j + 1 => simp at hj
      case c2 => intro u hu; simp at hu; subst hu; rfl
      case c3 => unfold maxLen; omega
      case c4 => omega
      case c5 => simp; omega
      intro v' w2 hown3 hgrow _
      have hb2 : Below (w.heap.size + 1) (w.alloc (.cells (bcells x).toArray 23)) w2 := (hbel.alloc hws _).grown hgrow (by simp; omega) (own_block_ge hown)
      rw [hs.out] at hown3
      clear hown hgrow hbel hbw c0
      go_wp2
      go_roundw
      case rel => exact ⟨k + 1, by omega, by go_num, hown3, hb2⟩
      case measure => simp [intOf]; omega
    · obtain rfl : k = 32 := by omega
      have hconv := run_b2s_own (P := Tryd.prog) wr 45 9 5 _ (x.take 32) (w.heap.size + 1) 32 Tryd.underlying45 Tryd.underlying5 Tryd.underlying9 hown
      rw [show x.take 32 = x from List.take_of_length_le (by rw [HX.out]; exact Nat.le_refl _)] at hconv
      clear hown
      go_wp2
      go_ret
      exact ⟨rfl, hbw⟩
theorem results_cell_tmp {P : Program} {fn : Func} {p q : Tmp} {ty : TypeId} (h : fn.results = #[.cell p ty, .tmp q]) (tmps : Array Value) (w : World) (g : Nat) (t : TypeId) (cs : Array Value) (fr : Nat × Nat) (d : TypeDesc) (v : Value)
    (hp : tmps.getD p undef = .pointer (some ⟨g, 0, none⟩)) (hq : tmps.getD q undef = v) (hg : w.heap[g]? = some (.cells cs t fr))
    (hu : P.underlying ty = some d) (hd : (match d with | .struct _ | .array _ _ => true | _ => false) = true) (hi : (P.info? ty).map (·.size) = some cs.size) :
    (results fn tmps).run P w = .ok (.tuple #[.agg cs, v]) w := by
  have hp' : tmps[p]?.getD undef = .pointer (some ⟨g, 0, none⟩) := by simpa using hp
  have hq' : tmps[q]?.getD undef = v := by simpa using hq
  simp [results, h, hp', hq', asAddr, run_loadVar_row w g t ty cs fr d hg hu hd hi]
end Go.Proofs.YtlplgpmadfmjjaaDoor
