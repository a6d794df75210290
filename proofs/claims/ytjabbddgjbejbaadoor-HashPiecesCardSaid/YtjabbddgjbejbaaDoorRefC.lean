import Derived.Test.YtjabbddgjbejbaaDoorRows
import Derived.WalkKit
import Derived.Below
import Derived.ProofKit
import Derived.OpenShut
import Derived.ShutString
import Derived.ChangeOld
import Derived.Outline
import Derived.RegionTactic
import Derived.ChangeAlike
import Derived.BigRegion
import Derived.BigQuiet
import Derived.Deep.QuietTactic
import Derived.Deep.RegionWith
import Derived.Deep.RegionLaw
import Derived.Deep.RegionHeld3
import Derived.Deep.AppendLies
import Derived.Deep.Draws
import Derived.StillTailTactics
import Derived.Lib.Hide
import Derived.Lib.SmallJoins
import Derived.Handy
import Derived.Stop.BytesEq
import Derived.WalkSpells
import Derived.WalkLawsBesides
import Derived.Deep.LoopGhost
import Derived.Deep.DeepCutAuto
import Derived.Laws.CopyOwn
import Derived.Test.YtjabbddgjbejbaaDoorRefB
namespace Go.Proofs.YtjabbddgjbejbaaDoor
open Go.RowKit
set_option linter.unusedSimpArgs false
set_option linter.unusedVariables false
set_option linter.unnecessarySimpa false
set_option maxHeartbeats 2000000 in
set_option maxRecDepth 100000 in
theorem greater_any (va vb : Value) (a b : List Nat) (w : World) (ha : NumAt w va a) (hb : NumAt w vb b) (da : Dig a) (db : Dig b) (la : a.length ≤ 41) (lb : b.length ≤ 41) :
    Calls Tryd.prog 31 #[va, vb] w fun e w' => e = .returned (.bool (decide (val b < val a))) ∧ w' = w := by
  obtain ⟨ba, ca, rfl, hba, hca⟩ := ha
  obtain ⟨bb, cb, rfl, hbb, hcb⟩ := hb
  obtain ⟨n, hn⟩ : ∃ n, n = a.length := ⟨_, rfl⟩
  obtain ⟨m, hm⟩ : ∃ m, m = b.length := ⟨_, rfl⟩
  rw [← hn] at la hca
  rw [← hm] at lb hcb
  rw [← hn, ← hm]
  have HN := Lib.hid hn
  have HM := Lib.hid hm
  have HCA := Lib.hid hca
  have HCB := Lib.hid hcb
  have la' : (n : Int) ≤ 41 := by omega
  have lb' : (m : Int) ≤ 41 := by omega
  clear hn hm hca hcb
  go_enter Tryd.func31, Tryd.ntmps31
  go_wp2
  go_loop [5] (fun u => ∃ i : Nat, i ≤ 41 ∧ u = .int .i64 ((i : Int) - 1) ∧ Hid (val (a.drop i) = val (b.drop i))) (fun u => (intOf u + 1).toNat)
  case atStart => exact ⟨41, by omega, rfl, Lib.hid (by rw [List.drop_of_length_le (by rw [← HN.out]; omega), List.drop_of_length_le (by rw [← HM.out]; omega)])⟩
  case round =>
    obtain ⟨i, hi, rfl, hv⟩ := hrel
    by_cases h0 : i = 0
    · subst h0
      have hv0 : ¬ (val b < val a) := by have := hv.out; simp at this; omega
      have HV := Lib.hid (show decide (val b < val a) = false from by simpa using hv0)
      clear hv hv0
      go_wp2
      go_ret
      exact ⟨by rw [HV.out]; rfl, rfl⟩
    · obtain ⟨j, rfl⟩ : ∃ j, i = j + 1 := ⟨i - 1, by omega⟩
      have ej : ((j + 1 : Nat) : Int) - 1 = (j : Int) := by omega
      rw [ej]
      clear ej h0
      have hj : j ≤ 40 := by omega
      have fin : ∀ (x y : Nat), a.getD j 0 = x → b.getD j 0 = y → x ≠ y → decide (val b < val a) = decide (y < x) := fun x y hx hy hne => by
        rcases Nat.lt_or_gt_of_ne hne with h | h
        · have := val_less a b j da db hv.out (by omega)
          have e1 : ¬ val b < val a := by omega
          have e2 : ¬ y < x := by omega
          simp [e1, e2]
        · have := val_less b a j db da hv.out.symm (by omega)
          simp [this, h]
      have sam : ∀ (x : Nat), a.getD j 0 = x → b.getD j 0 = x → val (a.drop j) = val (b.drop j) := fun x hx hy => val_same a b j hv.out (by omega)
      have FIN := Lib.hid fin
      have SAM := Lib.hid sam
      clear fin sam hv
      by_cases hja : j < n
      · have c0 := HCA.out j hja
        have k0 : (j : Int) < n := by omega
        by_cases hjb : j < m
        · have c1 := HCB.out j hjb
          have k1 : (j : Int) < m := by omega
          generalize hx : a.getD j 0 = x at c0 FIN SAM
          generalize hy : b.getD j 0 = y at c1 FIN SAM
          by_cases hne : x = y
          · have q1 : ((x : Int) != (y : Int)) = false := by (first | (simp; done) | (simp; omega))
            have HV := Lib.hid (SAM.out x rfl hne.symm)
            clear FIN SAM hx hy hne
            go_wp2
            go_round
            case rel => exact ⟨j, by omega, rfl, HV⟩
            case measure => simp [intOf] <;> omega
          · have q1 : ((x : Int) != (y : Int)) = true := by (first | (simp; done) | (simp; omega))
            have HV := Lib.hid (FIN.out x y rfl rfl hne)
            by_cases hgt : y < x
            · have q2 : (y : Int) < (x : Int) := by omega
              have HG := Lib.hid (show decide (val b < val a) = true from by rw [HV.out]; simpa using hgt)
              clear FIN SAM hx hy hne HV hgt
              go_wp2
              go_ret
              exact ⟨by rw [HG.out]; simp <;> omega, rfl⟩
            · have q2 : ¬ ((y : Int) < (x : Int)) := by omega
              have HG := Lib.hid (show decide (val b < val a) = false from by rw [HV.out]; simpa using hgt)
              clear FIN SAM hx hy hne HV hgt
              go_wp2
              go_ret
              exact ⟨by rw [HG.out]; simp <;> omega, rfl⟩
        · have k1 : (m : Int) ≤ j := by omega
          have hy : b.getD j 0 = 0 := by rw [List.getD_eq_getElem?_getD, List.getElem?_eq_none (by rw [← HM.out]; omega)]; rfl
          generalize hx : a.getD j 0 = x at c0 FIN SAM
          by_cases hne : x = 0
          · have q1 : ((x : Int) != (0 : Int)) = false := by (first | (simp; done) | (simp; omega))
            have HV := Lib.hid (SAM.out x rfl (hy.trans hne.symm))
            clear FIN SAM hx hy hne
            go_wp2
            go_round
            case rel => exact ⟨j, by omega, rfl, HV⟩
            case measure => simp [intOf] <;> omega
          · have q1 : ((x : Int) != (0 : Int)) = true := by (first | (simp; done) | (simp; omega))
            have HV := Lib.hid (FIN.out x 0 rfl hy hne)
            by_cases hgt : 0 < x
            · have q2 : (0 : Int) < (x : Int) := by omega
              have HG := Lib.hid (show decide (val b < val a) = true from by rw [HV.out]; simpa using hgt)
              clear FIN SAM hx hy hne HV hgt
              go_wp2
              go_ret
              exact ⟨by rw [HG.out]; simp <;> omega, rfl⟩
            · have q2 : ¬ ((0 : Int) < (x : Int)) := by omega
              have HG := Lib.hid (show decide (val b < val a) = false from by rw [HV.out]; simpa using hgt)
              clear FIN SAM hx hy hne HV hgt
              go_wp2
              go_ret
              exact ⟨by rw [HG.out]; simp <;> omega, rfl⟩
      · have k0 : (n : Int) ≤ j := by omega
        have hx : a.getD j 0 = 0 := by rw [List.getD_eq_getElem?_getD, List.getElem?_eq_none (by rw [← HN.out]; omega)]; rfl
        by_cases hjb : j < m
        · have c1 := HCB.out j hjb
          have k1 : (j : Int) < m := by omega
          generalize hy : b.getD j 0 = y at c1 FIN SAM
          by_cases hne : 0 = y
          · have q1 : ((0 : Int) != (y : Int)) = false := by (first | (simp; done) | (simp; omega))
            have HV := Lib.hid (SAM.out 0 hx hne.symm)
            clear FIN SAM hx hy hne
            go_wp2
            go_round
            case rel => exact ⟨j, by omega, rfl, HV⟩
            case measure => simp [intOf] <;> omega
          · have q1 : ((0 : Int) != (y : Int)) = true := by (first | (simp; done) | (simp; omega))
            have HV := Lib.hid (FIN.out 0 y hx rfl hne)
            by_cases hgt : y < 0
            · have q2 : (y : Int) < (0 : Int) := by omega
              have HG := Lib.hid (show decide (val b < val a) = true from by rw [HV.out]; simpa using hgt)
              clear FIN SAM hx hy hne HV hgt
              go_wp2
              go_ret
              exact ⟨by rw [HG.out]; simp <;> omega, rfl⟩
            · have q2 : ¬ ((y : Int) < (0 : Int)) := by omega
              have HG := Lib.hid (show decide (val b < val a) = false from by rw [HV.out]; simpa using hgt)
              clear FIN SAM hx hy hne HV hgt
              go_wp2
              go_ret
              exact ⟨by rw [HG.out]; simp <;> omega, rfl⟩
        · have k1 : (m : Int) ≤ j := by omega
          have hy : b.getD j 0 = 0 := by rw [List.getD_eq_getElem?_getD, List.getElem?_eq_none (by rw [← HM.out]; omega)]; rfl
          have HV := Lib.hid (SAM.out 0 hx hy)
          clear FIN SAM hx hy
          go_wp2
          go_round
          case rel => exact ⟨j, by omega, rfl, HV⟩
          case measure => simp [intOf] <;> omega
end Go.Proofs.YtjabbddgjbejbaaDoor
