/- The document's device: Read. -/
import Derived.Test.YtmpcfdjpklmfmaaRows
import Derived.WalkKit
import Derived.Below
import Derived.ProofKit
import Derived.OpenShut
import Derived.ShutString
import Derived.ChangeOld
import Derived.Outline
import Derived.RegionTactic
import Derived.ChangeAlike
import Derived.BigRegion
import Derived.BigQuiet
import Derived.Deep.QuietTactic
import Derived.Deep.RegionWith
import Derived.Deep.RegionLaw
import Derived.Deep.RegionHeld3
import Derived.Deep.AppendLies
import Derived.Deep.Draws
import Derived.StillTailTactics
import Derived.Lib.Hide
import Derived.Lib.SmallJoins
import Derived.Handy
import Derived.WalkSpells
import Derived.WalkLawsBesides
import Derived.Deep.LoopGhost
import Derived.Deep.DeepCutAuto
import Derived.Deep.CutBlock
import Derived.Deep.CutRange
import Derived.Test.YtmpcfdjpklmfmaaDevS
namespace Go.Proofs.Ytmpcfdjpklmfmaa
open Go.RowKit
set_option linter.unusedSimpArgs false
set_option linter.unusedVariables false
set_option linter.unnecessarySimpa false
theorem lastW_all (ws : List (Nat × List UInt8)) (k : Nat) (s : List UInt8) : lastW (ws.take ws.length) k s = lastW ws k s := by rw [List.take_length]
set_option maxHeartbeats 2000000 in
theorem refRead_any (us uw : Value) (p : Nat) (d : Dv) (k : Int) (w : World) (h : R6 w us uw p d) (hd : d.Few) :
    Calls Try.prog 15 #[.pointer (some ⟨p, 0, none⟩), .int .i64 k] w fun e w' => e = .returned (.tuple #[.string ⟨(readD d k).1.toArray⟩, .int .i64 (readD d k).2]) ∧ w' = w := by
  have c0 := h.row.c 0 (v := us) rfl
  have c1 := h.row.c 1 (v := uw) rfl
  have c2 := h.row.c 2 (v := .bool d.on) rfl
  cases ho : d.on with
  | false =>
    have e : readD d k = ([], 14) := by unfold readD; rw [ho]; rfl
    rw [e]
    rw [ho] at c2
    clear e
    go_enter Try.func15, Try.ntmps15
    go_wp2
    go_ret2
    exact ⟨rfl, rfl⟩
  | true =>
    rw [ho] at c2
    have hn2 := hd.safe
    have hw2 := hd.waits
    by_cases hk : d.has k = true
    · obtain ⟨k0, k1⟩ := Dv.has_lt hk
      obtain ⟨S, hS⟩ : ∃ S, S = lastW d.waits k.toNat (d.safe.getD k.toNat []) := ⟨_, rfl⟩
      have e : readD d k = (S, 0) := by unfold readD; rw [ho, if_pos rfl, if_pos hk, hS]
      rw [e]
      obtain ⟨g, cap, rfl, hcap, _, _, cs, _⟩ := own_cell h.safe (svs_at d.safe k.toNat k1)
      obtain ⟨s0, hs0⟩ : ∃ s0, s0 = d.safe.getD k.toNat [] := ⟨_, rfl⟩
      rw [← hs0] at cs hS
      obtain ⟨n, hn⟩ : ∃ n, n = d.safe.length := ⟨_, rfl⟩
      rw [← hn] at c0 hn2 hcap k1
      have kn : ((k.toNat : Nat) : Int) = k := by omega
      obtain ⟨j, hj⟩ : ∃ j, j = k.toNat := ⟨_, rfl⟩
      rw [← hj] at cs hS k1 kn
      subst kn
      have d0 : decide ((j : Int) < 0) = false := decide_eq_false (by omega)
      have d1 : decide ((n : Int) ≤ j) = false := decide_eq_false (by omega)
      have d2 : (j : Int) < n := by omega
      obtain ⟨A2, cp, rfl⟩ := own_form h.waits
      obtain ⟨m, hm⟩ : ∃ m, m = d.waits.length := ⟨_, rfl⟩
      have hw := h.waits
      rw [← hm] at c1 hw hw2
      obtain ⟨ws, hws⟩ : ∃ ws, ws = d.waits := ⟨_, rfl⟩
      rw [← hws] at hw hS hm
      have HS := Lib.hid hS
      have HM := Lib.hid hm
      clear e hk hs0 hn hj hS hm hws
      go_enter Try.func15, Try.ntmps15
      go_wp2
      go_loop [6, 7] (fun s i => ∃ t : Nat, t ≤ m ∧ i = .int .i64 t ∧ s = .string ⟨(lastW (ws.take t) j s0).toArray⟩) (fun _ i => m - (intOf i).toNat)
      case atStart => exact ⟨0, by omega, rfl, rfl⟩
      case round =>
        obtain ⟨t, ht, rfl, rfl⟩ := hrel
        by_cases hlt : t < m
        · have tl : (t : Int) < m := by omega
          have hmm := HM.out
          obtain ⟨y, hy⟩ : ∃ y, ws[t]? = some y := ⟨ws[t]'(by omega), List.getElem?_eq_getElem _⟩
          obtain ⟨a1, a2⟩ := wrs_at ws t y hy
          obtain ⟨g2, cap2, e2, hc2, _, _, ca, _⟩ := own_cell hw a1
          obtain ⟨g3, cap3, e3, hc3, _, _, cb, _⟩ := own_cell hw a2
          rw [e2] at e3
          obtain ⟨rfl, rfl⟩ : g2 = g3 ∧ cap2 = cap3 := by simpa using e3
          simp only [Value.slice.injEq] at e2
          obtain ⟨rfl, _, rfl⟩ := e2
          have hl := Lib.hid (lastW_take ws j t s0 y hy)
          obtain ⟨yi, ys⟩ := y
          clear e3 a1 a2 hmm
          simp only at ca cb hl
          by_cases hq : yi = j
          · have d3 : ((yi : Int) == (j : Int)) = true := by simp [hq]
            have hl2 := Lib.hid (hl.out.trans (if_pos hq))
            clear hl
            subst hq
            go_wp2
            go_round
            case rel => exact ⟨t + 1, by omega, by go_num, by rw [hl2.out]⟩
            case measure => simp [intOf]; omega
          · have d3 : ((yi : Int) == (j : Int)) = false := by simp; omega
            have hl2 := Lib.hid (hl.out.trans (if_neg hq))
            have hq2 : ¬ ((yi : Int) = (j : Int)) := by omega
            clear hl
            go_wp2
            go_round
            case rel => exact ⟨t + 1, by omega, by go_num, by rw [hl2.out]⟩
            case measure => simp [intOf]; omega
        · have tl : ¬ ((t : Int) < m) := by omega
          have e : ws.take t = ws := List.take_of_length_le (by have := HM.out; omega)
          have hs2 := HS.out
          rw [e]
          rw [← hs2]
          clear e hs2
          go_wp2
          go_ret2
          exact ⟨rfl, rfl⟩
    · have e : readD d k = ([], 1) := by unfold readD; rw [ho, if_pos rfl, if_neg hk]
      rw [e]
      obtain ⟨A, c, rfl⟩ := own_form h.safe
      by_cases h0 : k < 0
      · have d0 : decide (k < 0) = true := decide_eq_true h0
        clear e
        go_enter Try.func15, Try.ntmps15
        go_wp2
        go_ret2
        exact ⟨rfl, rfl⟩
      · have d0 : decide (k < 0) = false := decide_eq_false h0
        have h1 : (d.safe.length : Int) ≤ k := by
          rcases Int.lt_or_le k d.safe.length with h | h
          · exact absurd (by simp [Dv.has]; omega) hk
          · exact h
        have d1 : decide ((d.safe.length : Int) ≤ k) = true := decide_eq_true h1
        clear e
        go_enter Try.func15, Try.ntmps15
        go_wp2
        go_ret2
        exact ⟨rfl, rfl⟩
end Go.Proofs.Ytmpcfdjpklmfmaa
