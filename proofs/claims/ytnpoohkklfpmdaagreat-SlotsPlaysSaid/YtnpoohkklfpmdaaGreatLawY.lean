import Derived.Test.YtnpoohkklfpmdaaGreatRows
import Derived.Test.YtnpoohkklfpmdaaGreatLawZ
import Derived.Test.YtnpoohkklfpmdaaGreatTlvK
import Derived.ProofKit
import Derived.OpenShut
import Derived.ShutString
import Derived.ChangeOld
import Derived.Outline
import Derived.RegionTactic
import Derived.ChangeAlike
import Derived.BigRegion
import Derived.BigQuiet
import Derived.Deep.QuietTactic
import Derived.Deep.RegionWith
import Derived.Deep.RegionLaw
import Derived.Deep.AppendLies
import Derived.Deep.Draws
import Derived.Lib.Hide
import Derived.Lib.SmallJoins
import Derived.Handy
import Derived.Deep.LoopGhost
import Derived.Deep.RegionHeld3
import Derived.StillTactics
import Derived.OwnWalk
namespace Go.Proofs.YtnpoohkklfpmdaaGreat
open Go.RowKit
section
attribute [local go_sem] ext_list
theorem short_any (l : List UInt8) (n : Int) (w : World) (h0 : 0 ≤ n) :
    Calls Tryz.prog 14 #[.string ⟨l.toArray⟩, .int .i64 n] w fun e w' => e = .returned (.string ⟨(l.take n.toNat).toArray⟩) ∧ w = w' := by
  by_cases h : n < (l.length : Int)
  · go_enter Tryz.func14, Tryz.ntmps14
    go_wp2
    go_ret
    exact ⟨rfl, rfl⟩
  · have hd : decide (n < (l.length : Int)) = false := by simp; omega
    have e : l.take n.toNat = l := List.take_of_length_le (by omega)
    have He := Lib.hid e
    clear e h
    go_enter Tryz.func14, Tryz.ntmps14
    go_wp2
    go_ret
    exact ⟨by rw [He.out]; rfl, rfl⟩
end
def fewL (ls : List (List UInt8)) : List (List UInt8) := (ls.take 8).map (·.take 30)
theorem fewL_snoc (ls : List (List UInt8)) (k : Nat) (l : List UInt8) (h : ls[k]? = some l) : (ls.take (k + 1)).map (·.take 30) = (ls.take k).map (·.take 30) ++ [l.take 30] := by
  rw [List.take_add_one, h]; simp
section
attribute [local go_sem] ext_list
end
set_option maxHeartbeats 400000 in
theorem Same_any (a b : Option Addr) (n m c d : Nat) (ls ms : List (List UInt8)) (w : World) (h1 : StrsAt w w.heap.size a n ls) (h2 : StrsAt w w.heap.size b m ms) (hn : (n : Int) ≤ 140737488351232) :
    Calls Tryz.prog 13 #[.slice a n c, .slice b m d] w fun e w' => e = .returned (.bool (decide (ls = ms))) ∧ Below w.heap.size w w' := by
  by_cases hnm : n = m
  · subst hnm
    go_enter Tryz.func13, Tryz.ntmps13
    go_wp2
    go_loopw [5] (fun i wr => ∃ k : Nat, k ≤ n ∧ i = .int .i64 k ∧ ls.take k = ms.take k ∧ Below w.heap.size w wr) (fun i _ => n - (intOf i).toNat)
    case atStart => exact ⟨0, Nat.zero_le _, rfl, rfl, Below.refl _ _⟩
    case round =>
      obtain ⟨k, hk, rfl, heq, hbel⟩ := hrel
      have Heq := Lib.hid heq
      clear heq
      by_cases hlt : k < n
      · obtain ⟨b1, o1, rfl, hb1, hc1⟩ := h1.2 (by omega)
        obtain ⟨b2, o2, rfl, hb2, hc2⟩ := h2.2 (by omega)
        have hkl : k < ls.length := by rw [h1.1]; exact hlt
        have hkm : k < ms.length := by rw [h2.1]; exact hlt
        have g1 := hc1 k _ (List.getElem?_eq_getElem hkl)
        have g2 := hc2 k _ (List.getElem?_eq_getElem hkm)
        have f1 : wr.cell? ⟨b1, o1 + k, none⟩ = some (.string ⟨ls[k].toArray⟩) := (hbel.cell (p := ⟨b1, o1 + k, none⟩) hb1).trans g1
        have f2 : wr.cell? ⟨b2, o2 + k, none⟩ = some (.string ⟨ms[k].toArray⟩) := (hbel.cell (p := ⟨b2, o2 + k, none⟩) hb2).trans g2
        have Hl : Hid (ls[k]? = some ls[k]) := Lib.hid (List.getElem?_eq_getElem hkl)
        have Hm : Hid (ms[k]? = some ms[k]) := Lib.hid (List.getElem?_eq_getElem hkm)
        generalize ls[k] = l at *
        generalize ms[k] = m at *
        clear hc1 hc2 g1 g2
        have hi0 : (0 : Int) ≤ (k : Int) := by omega
        have hi1 : (k : Int) < (n : Int) := by omega
        by_cases he : l = m
        · have hd : (l != m) = false := by simp [he]
          have hd2 : (l == m) = true := by simp [he]
          have He := Lib.hid he
          clear he
          go_wp2_with fail
          go_quiet (fail)
          go_wp2
          go_roundw
          case rel => exact ⟨k + 1, by omega, by go_num, by rw [List.take_add_one, List.take_add_one, Heq.out, Hl.out, Hm.out, He.out], below_drewN hbel _⟩
          case measure => simp [intOf]; omega
        · have hd : (l != m) = true := by simp [he]
          have hd2 : (l == m) = false := by simp [he]
          have e : decide (ls = ms) = false := by
            rw [decide_eq_false_iff_not]; rintro rfl
            have := Hl.out.symm.trans Hm.out
            exact he (by injection this)
          have He := Lib.hid e
          clear he e
          go_wp2_with fail
          go_quiet (fail)
          go_wp2
          go_ret
          exact ⟨by rw [He.out]; rfl, below_drewN hbel _⟩
      · have e : decide (ls = ms) = true := by
          rw [decide_eq_true_iff]
          have := Heq.out
          rwa [List.take_of_length_le (by rw [h1.1]; omega), List.take_of_length_le (by rw [h2.1]; omega)] at this
        have He := Lib.hid e
        clear e
        go_wp2
        go_ret
        exact ⟨by rw [He.out]; rfl, hbel⟩
  · have e : decide (ls = ms) = false := by
      rw [decide_eq_false_iff_not]; rintro rfl
      exact hnm (h1.1.symm.trans h2.1)
    have He := Lib.hid e
    have hd : ((n : Int) == (m : Int)) = false := by simp; omega
    have hd2 : ((n : Int) != (m : Int)) = true := by simp; omega
    clear e
    go_enter Tryz.func13, Tryz.ntmps13
    go_wp2
    go_ret
    exact ⟨by rw [He.out]; rfl, Below.refl _ _⟩
end Go.Proofs.YtnpoohkklfpmdaaGreat
