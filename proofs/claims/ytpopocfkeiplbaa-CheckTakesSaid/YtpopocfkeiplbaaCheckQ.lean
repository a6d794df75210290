/- The laws of stage 5: what they lean on. -/
import Derived.Test.YtpopocfkeiplbaaRows
import Derived.WalkKit
import Derived.Below
import Derived.ProofKit
import Derived.OpenShut
import Derived.ShutString
import Derived.ChangeOld
import Derived.Outline
import Derived.RegionTactic
import Derived.ChangeAlike
import Derived.BigRegion
import Derived.BigQuiet
import Derived.Deep.QuietTactic
import Derived.Deep.RegionWith
import Derived.Deep.RegionLaw
import Derived.Deep.RegionHeld3
import Derived.Deep.AppendLies
import Derived.Deep.Draws
import Derived.StillTailTactics
import Derived.Lib.Hide
import Derived.Lib.SmallJoins
import Derived.Handy
import Derived.WalkSpells
import Derived.WalkLawsBesides
import Derived.Deep.LoopGhost
import Derived.Deep.DeepCutAuto
import Derived.Laws.CopyOwn
import Derived.Deep.OwnRows
import Derived.Test.YtpopocfkeiplbaaCheckP
import Derived.Test.YtpopocfkeiplbaaKit
namespace Go.Proofs.Ytpopocfkeiplbaa
open Go.RowKit
set_option linter.unusedSimpArgs false
set_option linter.unusedVariables false
set_option linter.unnecessarySimpa false
theorem putP_ok {l : List UInt8} (h : l.length ≤ 1048576) : putP l = (recd l, 0) := if_pos h
theorem allF5_len : ∀ (f : Nat) (s : List UInt8), (allF5 f s).1.length ≤ f ∧ (allF5 f s).2 ≤ s.length := by
  intro f
  induction f with
  | zero => intro s; simp [allF5]
  | succ f ih =>
    intro s
    rcases takP_cases s with ⟨b, h1, _, _, h8, hn⟩ | h1
    · have := ih (s.drop (recd b).length)
      simp only [allF5, h1, if_true, List.length_cons]
      rw [List.length_drop] at this
      omega
    · simp [allF5, h1]
theorem allP_len (s : List UInt8) : (allP s).1.length ≤ s.length + 1 := (allF5_len _ s).1
theorem info8c : (Try.prog.info? 5).map (fun i => (i.zero, i.size, i.bytes)) = some (some (.int .u8 0), 1, 1) := by kernel_rfl
theorem made_rep (n : Nat) : madeCells #[Value.int .u8 0] n = (bcells (List.replicate n 0)).toArray := by
  apply Array.toList_inj.1
  apply List.ext_getElem?
  intro j
  simp only [madeCells, Array.toList_map, Array.toList_range, List.getElem?_map]
  by_cases h : j < n
  · simp [bcells, h, Nat.mod_one]
  · rw [List.getElem?_eq_none (by simp; omega)]
    simp [bcells]; omega
/-- 'string(b)' of a row of bytes. -/
theorem b2s_row {P : Program} (w : World) (src dst e : TypeId) (b n c : Nat) (l : List UInt8) (t : TypeId) (fr : Nat × Nat)
    (hs : P.underlying src = some (.slice e)) (he : P.underlying e = some (.int .u8)) (hd : P.underlying dst = some .string)
    (hb : w.heap[b]? = some (.cells (bcells l).toArray t fr)) (hn : n = l.length) :
    (convert src dst (.slice (some ⟨b, 0, none⟩) n c)).run P w = .ok (.string ⟨l.toArray⟩) w :=
  run_b2s_tail (j := 0) (z := .int .u8 0) w src dst e b n c l t fr hs he hd (by simpa using hb) hn
section
attribute [local go_sem] idx_list ext_list app_list
set_option maxHeartbeats 1000000 in
theorem awake5_any (w : World) : Calls Try.prog 9 #[] w fun e w' => e = .returned (.bool true) ∧ Below w.heap.size w w' := by
  have h1 := Lib.hid (putP_ok (l := [120]) (by decide))
  obtain ⟨R, hR⟩ : ∃ R, R = recd [120] := ⟨_, rfl⟩
  have hRl : (5 : Int) < R.length := by rw [hR]; have := (recd_len [120]).1; simp at this; omega
  have HR := Lib.hid hR
  clear hR
  have e1 := Lib.hid (show sumN [] = 1 from by decide)
  have e2 := Lib.hid (show sumN [87, 105, 107, 105, 112, 101, 100, 105, 97] = 300286872 from by decide)
  go_enter Try.func9, Try.ntmps9
  go_wp2_with fail
  refine (cPut_any [120] _ (by decide)).mono ?_
  rw [h1.out, ← HR.out]
  rintro e w1 ⟨rfl, g1⟩
  go_wp2_with fail
  refine (cSum_any [] _ (by decide)).mono ?_
  rw [e1.out]
  rintro e w2 ⟨rfl, g2⟩
  go_wp2_with fail
  refine (cSum_any [87, 105, 107, 105, 112, 101, 100, 105, 97] _ (by decide)).mono ?_
  rw [e2.out]
  rintro e w3 ⟨rfl, g3⟩
  have d : decide ((5 : Int) < R.length) = true := decide_eq_true hRl
  have d2 : decide (5 < R.length) = true := decide_eq_true (by omega)
  have b := (g1.trans (g2.mono g1.size)).trans (g3.mono (Nat.le_trans g1.size g2.size))
  go_wp2
  go_ret
  exact ⟨rfl, b⟩
theorem short5_any (l : List UInt8) (n : Int) (w : World) (h0 : 0 ≤ n) :
    Calls Try.prog 10 #[.string ⟨l.toArray⟩, .int .i64 n] w fun e w' => e = .returned (.string ⟨(l.take n.toNat).toArray⟩) ∧ w = w' := by
  by_cases h : n < (l.length : Int)
  · go_enter Try.func10, Try.ntmps10
    go_wp2
    go_ret
    exact ⟨rfl, rfl⟩
  · have e := List.take_of_length_le (show l.length ≤ n.toNat by omega)
    have He := Lib.hid e
    have d : decide (n < (l.length : Int)) = false := decide_eq_false h
    clear e
    go_enter Try.func10, Try.ntmps10
    go_wp2
    go_ret
    exact ⟨by rw [He.out]; rfl, rfl⟩
end
end Go.Proofs.Ytpopocfkeiplbaa
