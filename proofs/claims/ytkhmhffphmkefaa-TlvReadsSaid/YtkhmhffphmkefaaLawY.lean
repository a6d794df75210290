import Derived.Test.YtkhmhffphmkefaaRows
import Derived.Test.YtkhmhffphmkefaaLawZ
import Derived.Test.YtkhmhffphmkefaaTlvK
import Derived.ProofKit
import Derived.OpenShut
import Derived.ShutString
import Derived.ChangeOld
import Derived.Outline
import Derived.RegionTactic
import Derived.ChangeAlike
import Derived.BigRegion
import Derived.BigQuiet
import Derived.Deep.QuietTactic
import Derived.Deep.RegionWith
import Derived.Deep.RegionLaw
import Derived.Deep.AppendLies
import Derived.Deep.Draws
import Derived.Lib.Hide
import Derived.Lib.SmallJoins
import Derived.Handy
import Derived.Deep.LoopGhost
import Derived.Deep.RegionHeld3
import Derived.StillTactics
import Derived.OwnWalk
namespace Go.Proofs.Ytkhmhffphmkefaa
open Go.RowKit
section
attribute [local go_sem] ext_list
theorem short_any (l : List UInt8) (n : Int) (w : World) (h0 : 0 ≤ n) :
    Calls Try.prog 12 #[.string ⟨l.toArray⟩, .int .i64 n] w fun e w' => e = .returned (.string ⟨(l.take n.toNat).toArray⟩) ∧ w = w' := by
  by_cases h : n < (l.length : Int)
  · go_enter Try.func12, Try.ntmps12
    go_wp2
    go_ret
    exact ⟨rfl, rfl⟩
  · have hd : decide (n < (l.length : Int)) = false := by simp; omega
    have e : l.take n.toNat = l := List.take_of_length_le (by omega)
    have He := Lib.hid e
    clear e h
    go_enter Try.func12, Try.ntmps12
    go_wp2
    go_ret
    exact ⟨by rw [He.out]; rfl, rfl⟩
end
def fewL (ls : List (List UInt8)) : List (List UInt8) := (ls.take 8).map (·.take 30)
theorem fewL_snoc (ls : List (List UInt8)) (k : Nat) (l : List UInt8) (h : ls[k]? = some l) : (ls.take (k + 1)).map (·.take 30) = (ls.take k).map (·.take 30) ++ [l.take 30] := by
  rw [List.take_add_one, h]; simp
set_option maxHeartbeats 400000 in
theorem few_any (a : Option Addr) (n cap : Nat) (ls : List (List UInt8)) (w : World) (hr : StrsAt w w.heap.size a n ls) :
    Calls Try.prog 13 #[.slice a n cap] w fun e w' => IsStrs (fewL ls) e w' ∧ Below w.heap.size w w' := by
  obtain ⟨i0, hi, hz0, hz1, hz2⟩ := info_parts info9
  go_enter Try.func13, Try.ntmps13
  go_wp2
  go_loopw [3, 4] (fun v i wr => ∃ k : Nat, k ≤ n ∧ k ≤ 8 ∧ i = .int .i64 k ∧ wr.ownsRow w.heap.size 9 1 v k (strs ((ls.take k).map (·.take 30))) ∧ Below w.heap.size w wr) (fun _ i _ => 8 - (intOf i).toNat)
  case atStart => exact ⟨0, Nat.zero_le _, Nat.zero_le _, rfl, World.ownsRow_nil _ _ _ _, Below.refl _ _⟩
  case round =>
    obtain ⟨k, hk, hk8, rfl, hown, hbel⟩ := hrel
    obtain ⟨A, cp, rfl⟩ := own_form hown
    by_cases hlt : k < n
    · by_cases h8 : k < 8
      · obtain ⟨b, off, rfl, hb, hcell⟩ := hr.2 (by omega)
        have hkl : k < ls.length := by rw [hr.1]; exact hlt
        have hget := List.getElem?_eq_getElem hkl
        have hcw := hcell k _ hget
        have hc : wr.cell? ⟨b, off + k, none⟩ = some (.string ⟨ls[k].toArray⟩) := (hbel.cell (p := ⟨b, off + k, none⟩) hb).trans hcw
        have hstep := fewL_snoc ls k _ hget
        obtain ⟨l, hl⟩ : ∃ l, l = ls[k] := ⟨_, rfl⟩
        rw [← hl] at hc hstep
        have Hs := Lib.hid hstep
        clear hstep hcw hcell hget hl
        have hsz := hbel.size
        go_wp2_with (first | (go_at_call 12; refine (short_any l 30 _ (by omega)).mono ?_; rintro e w' ⟨rfl, rfl⟩) | (at_builtin; refine wpList_append_lies _ rfl _ _ 25 rfl w.heap.size 9 i0 _ 1 16 Try.underlying25 hi hz0 hz1 hz2 rfl (by omega) (.slice A k cp) k _ rfl (hown.alloc _) ⟨wr.heap.size, 0, none⟩ 1 1 [.string ⟨(l.take 30).toArray⟩] rfl rfl (World.news_of_block (cs := #[.string ⟨(l.take 30).toArray⟩]) (t := 9) (fr := (0, 0)) (heap_alloc_new wr _)) (by simp [Value.oneCell']) (by omega) (by unfold maxLen; omega) (by omega) (by simp; omega) (wr.heap.size + 1) (by simp) ?_; intro gg cap2 w3 hown3 hgrow hat hlt3))
        have hbel2 : Below w.heap.size w w3 := (hbel.alloc hsz _).grown hgrow (by simp; omega) (own_block_ge hown)
        rw [← strs_snoc, ← Hs.out] at hown3
        go_roundw
        case rel => exact ⟨k + 1, by omega, by omega, by go_num, hown3, hbel2⟩
        case measure => simp [intOf]; omega
      · obtain rfl : k = 8 := by omega
        have e : fewL ls = (ls.take 8).map (·.take 30) := rfl
        have hl : ((ls.take 8).map (·.take 30)).length = 8 := by simp [hr.1]; omega
        have hs := strsAt_own (cp := cp) (A := A) (by rw [hl]; exact hown)
        have hcp := own_cap hown
        rw [hl] at hs
        have Hs := Lib.hid hs
        clear e hl hown hs
        go_wp2
        go_ret
        exact ⟨⟨_, _, _, rfl, hcp, Hs.out⟩, hbel⟩
    · obtain rfl : k = n := by omega
      have e : fewL ls = (ls.take k).map (·.take 30) := by
        unfold fewL
        rw [List.take_of_length_le (by rw [hr.1]; omega), List.take_of_length_le (by rw [hr.1]; omega)]
      have hl : ((ls.take k).map (·.take 30)).length = k := by simp [hr.1]
      have hs := strsAt_own (cp := cp) (A := A) (by rw [hl]; exact hown)
      have hcp := own_cap hown
      rw [hl] at hs
      have Hs := Lib.hid hs
      have He := Lib.hid e
      clear e hl hown hs
      go_wp2
      go_ret
      exact ⟨⟨_, _, _, rfl, hcp, by rw [He.out]; exact Hs.out⟩, hbel⟩
section
attribute [local go_sem] ext_list
theorem begins_any (s t : List UInt8) (w : World) :
    Calls Try.prog 39 #[.string ⟨s.toArray⟩, .string ⟨t.toArray⟩] w fun e w' => e = .returned (.bool (decide (t <+: s))) ∧ w = w' := by
  by_cases h : t.length ≤ s.length
  · have hd : decide ((t.length : Int) ≤ (s.length : Int)) = true := by simp; omega
    have e : decide (t <+: s) = (s.take t.length == t) := by
      rw [Bool.eq_iff_iff, decide_eq_true_iff, beq_iff_eq, List.prefix_iff_eq_take]; exact eq_comm
    have He := Lib.hid e
    clear e
    go_enter Try.func39, Try.ntmps39
    go_wp2
    go_ret
    exact ⟨by rw [He.out]; rfl, rfl⟩
  · have hd : decide ((t.length : Int) ≤ (s.length : Int)) = false := by simp; omega
    have e : decide (t <+: s) = false := by
      rw [decide_eq_false_iff_not]; intro hp; exact h hp.length_le
    have He := Lib.hid e
    clear e
    go_enter Try.func39, Try.ntmps39
    go_wp2
    go_ret
    exact ⟨by rw [He.out]; rfl, rfl⟩
end
theorem below_drewN {B : Nat} {a w : World} (h : Below B a w) (n : Nat) : Below B a (w.drewN n) := ⟨h.os, h.tape, h.output, h.size, h.block⟩
set_option maxHeartbeats 400000 in
theorem Same_any (a b : Option Addr) (n m c d : Nat) (ls ms : List (List UInt8)) (w : World) (h1 : StrsAt w w.heap.size a n ls) (h2 : StrsAt w w.heap.size b m ms) (hn : (n : Int) ≤ 140737488351232) :
    Calls Try.prog 31 #[.slice a n c, .slice b m d] w fun e w' => e = .returned (.bool (decide (ls = ms))) ∧ Below w.heap.size w w' := by
  by_cases hnm : n = m
  · subst hnm
    go_enter Try.func31, Try.ntmps31
    go_wp2
    go_loopw [5] (fun i wr => ∃ k : Nat, k ≤ n ∧ i = .int .i64 k ∧ ls.take k = ms.take k ∧ Below w.heap.size w wr) (fun i _ => n - (intOf i).toNat)
    case atStart => exact ⟨0, Nat.zero_le _, rfl, rfl, Below.refl _ _⟩
    case round =>
      obtain ⟨k, hk, rfl, heq, hbel⟩ := hrel
      have Heq := Lib.hid heq
      clear heq
      by_cases hlt : k < n
      · obtain ⟨b1, o1, rfl, hb1, hc1⟩ := h1.2 (by omega)
        obtain ⟨b2, o2, rfl, hb2, hc2⟩ := h2.2 (by omega)
        have hkl : k < ls.length := by rw [h1.1]; exact hlt
        have hkm : k < ms.length := by rw [h2.1]; exact hlt
        have g1 := hc1 k _ (List.getElem?_eq_getElem hkl)
        have g2 := hc2 k _ (List.getElem?_eq_getElem hkm)
        have f1 : wr.cell? ⟨b1, o1 + k, none⟩ = some (.string ⟨ls[k].toArray⟩) := (hbel.cell (p := ⟨b1, o1 + k, none⟩) hb1).trans g1
        have f2 : wr.cell? ⟨b2, o2 + k, none⟩ = some (.string ⟨ms[k].toArray⟩) := (hbel.cell (p := ⟨b2, o2 + k, none⟩) hb2).trans g2
        have Hl : Hid (ls[k]? = some ls[k]) := Lib.hid (List.getElem?_eq_getElem hkl)
        have Hm : Hid (ms[k]? = some ms[k]) := Lib.hid (List.getElem?_eq_getElem hkm)
        generalize ls[k] = l at *
        generalize ms[k] = m at *
        clear hc1 hc2 g1 g2
        have hi0 : (0 : Int) ≤ (k : Int) := by omega
        have hi1 : (k : Int) < (n : Int) := by omega
        by_cases he : l = m
        · have hd : (l != m) = false := by simp [he]
          have hd2 : (l == m) = true := by simp [he]
          have He := Lib.hid he
          clear he
          go_wp2_with fail
          go_quiet (fail)
          go_wp2
          go_roundw
          case rel => exact ⟨k + 1, by omega, by go_num, by rw [List.take_add_one, List.take_add_one, Heq.out, Hl.out, Hm.out, He.out], below_drewN hbel _⟩
          case measure => simp [intOf]; omega
        · have hd : (l != m) = true := by simp [he]
          have hd2 : (l == m) = false := by simp [he]
          have e : decide (ls = ms) = false := by
            rw [decide_eq_false_iff_not]; rintro rfl
            have := Hl.out.symm.trans Hm.out
            exact he (by injection this)
          have He := Lib.hid e
          clear he e
          go_wp2_with fail
          go_quiet (fail)
          go_wp2
          go_ret
          exact ⟨by rw [He.out]; rfl, below_drewN hbel _⟩
      · have e : decide (ls = ms) = true := by
          rw [decide_eq_true_iff]
          have := Heq.out
          rwa [List.take_of_length_le (by rw [h1.1]; omega), List.take_of_length_le (by rw [h2.1]; omega)] at this
        have He := Lib.hid e
        clear e
        go_wp2
        go_ret
        exact ⟨by rw [He.out]; rfl, hbel⟩
  · have e : decide (ls = ms) = false := by
      rw [decide_eq_false_iff_not]; rintro rfl
      exact hnm (h1.1.symm.trans h2.1)
    have He := Lib.hid e
    have hd : ((n : Int) == (m : Int)) = false := by simp; omega
    have hd2 : ((n : Int) != (m : Int)) = true := by simp; omega
    clear e
    go_enter Try.func31, Try.ntmps31
    go_wp2
    go_ret
    exact ⟨by rw [He.out]; rfl, Below.refl _ _⟩
end Go.Proofs.Ytkhmhffphmkefaa
