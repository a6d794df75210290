/- The walk of DeviceEdges, over whatever keeps to Iface. -/
import Derived.Test.YtmpcfdjpklmfmaaRows
import Derived.WalkKit
import Derived.Below
import Derived.ProofKit
import Derived.OpenShut
import Derived.ShutString
import Derived.ChangeOld
import Derived.Outline
import Derived.RegionTactic
import Derived.ChangeAlike
import Derived.BigRegion
import Derived.BigQuiet
import Derived.Deep.QuietTactic
import Derived.Deep.RegionWith
import Derived.Deep.RegionLaw
import Derived.Deep.RegionHeld3
import Derived.Deep.AppendLies
import Derived.Deep.Draws
import Derived.StillTailTactics
import Derived.Lib.Hide
import Derived.Lib.SmallJoins
import Derived.Handy
import Derived.WalkSpells
import Derived.WalkLawsBesides
import Derived.Deep.LoopGhost
import Derived.Deep.DeepCutAuto
import Derived.Deep.CutBlock
import Derived.Deep.CutRange
import Derived.Deep.OwnRows
import Derived.Laws.CopyOwn
import Derived.Great.BuildSlice
import Derived.Test.YtmpcfdjpklmfmaaDevJ
import Derived.Test.YtmpcfdjpklmfmaaDevK
import Derived.Test.YtmpcfdjpklmfmaaBitsLow
namespace Go.Proofs.Ytmpcfdjpklmfmaa.deviceEdges
open Go.RowKit
set_option linter.unusedSimpArgs false
set_option linter.unusedVariables false
set_option linter.unnecessarySimpa false
theorem safeD_len {d : Dv} (h : d.Ok) {k : Int} (hk : d.has k = true) : (safeD d k).length = 64 := by
  have hl := Dv.has_lt hk
  unfold safeD
  rw [if_pos hk, List.getD_eq_getElem?_getD, List.getElem?_eq_getElem hl.2]
  exact h.safe _ (List.getElem_mem _)
theorem safeD_no {d : Dv} {k : Int} (hk : d.has k = false) : safeD d k = [] := by unfold safeD; rw [hk]; rfl
theorem write_no {d : Dv} (h : d.on = true) {k : Int} {s : List UInt8} (hk : d.has k = false ∨ s.length ≠ 64) : writeD d k s = (d, 1) := by
  unfold writeD
  rw [if_pos h, if_neg (by simp only [Bool.and_eq_true, decide_eq_true_eq]; rintro ⟨a, b⟩; rcases hk with q | q; · rw [a] at q; cases q
                           · exact q b)]
theorem read_no {d : Dv} (h : d.on = true) {k : Int} (hk : d.has k = false) : readD d k = ([], 1) := by
  unfold readD; rw [if_pos h, if_neg (by rw [hk]; decide)]
theorem read_yes {d : Dv} (h : d.on = true) {k : Int} (hk : d.has k = true) : (readD d k).2 = 0 := by
  unfold readD; rw [if_pos h, if_pos hk]
theorem write_waits {d : Dv} {n l s m : Nat} {ar : Bool} (h : Going d n ar l s m) (hl : ar = true → 0 < l) (k : Nat) (x : List UInt8) (hk : k < n) (hx : x.length = 64) : (writeD d k x).1.waits = d.waits ++ [(k, x)] := by
  rw [(h.write hl k x hk hx).1]
section
attribute [local go_sem] idx_list ext_list app_list
variable {PD : World → List Nat → Nat → Dv → Prop} (I : Iface PD)
include I
set_option maxHeartbeats 8000000 in
set_option maxRecDepth 100000 in
theorem walk (z at' : Int) (l : List UInt8) (W : World) (z0 : -9223372036854775808 ≤ z) (z1 : z < 9223372036854775808) (a0 : -9223372036854775808 ≤ at') (a1 : at' < 9223372036854775808) (hl : l.length ≤ maxLen) : Calls Try.prog 8 #[.int .i64 z, .int .i64 at', .string ⟨l.toArray⟩] W fun e w' => e = .returned (.bool true) ∧ Below W.heap.size W w' := by
  obtain ⟨m, hm⟩ : ∃ m : Nat, z % 16 = (m : Int) := ⟨(z % 16).toNat, by omega⟩
  have m16 : m < 16 := by omega
  have hand : bits .and .i64 z 15 = (m : Int) := by rw [and15, hm]
  obtain ⟨n, hn⟩ : ∃ n : Nat, n = m + 1 := ⟨_, rfl⟩
  have en : (1 : Int) + m = (n : Int) := by omega
  have n1 : 1 ≤ n := by omega
  have n16 : n ≤ 16 := by omega
  obtain ⟨s, hs⟩ : ∃ s, s = l.take 70 := ⟨_, rfl⟩
  have sl : (s.length : Int) ≤ 70 := by rw [hs]; have := List.length_take_le 70 l; omega
  have HS := Lib.hid hs
  clear hm z0 z1 a0 a1 hl hs hn m16
  go_enter Try.func8, Try.ntmps8
  go_wp2_with fail
  refine (awake6_any I W).mono ?_
  rintro e w1 ⟨rfl, g1⟩
  go_wp2_with fail
  try rw [en]
  refine (I.newH (L := []) n g1 n1 (by omega) (fun r hr => by cases hr)).mono ?_
  rintro e w2 ⟨p, rfl, h2⟩
  have q2 := newD_going n
  have hr2 : (newD n).waits = [] := rfl
  generalize newD n = d2 at *
  have s2 := q2.safe
  have f2 := q2.few (by omega) (by omega) (by omega) (by omega)
  clear hand en
  go_wp2_with fail
  refine (I.sectorsH h2).mono ?_
  rw [s2]
  rintro e w3 ⟨rfl, rfl⟩
  go_upto_if 32 with (fail)
  go_cut [2] (fun v w' => v = .string ⟨s.toArray⟩ ∧ w2 = w')
  case first =>
    have e := HS.out
    clear h2 q2 f2 s2 hr2
    by_cases h : 70 < l.length
    · have h1 : (70 : Int) < l.length := by omega
      have dd : decide ((70 : Int) < l.length) = true := by simpa using h1
      clear e
      go_wp2_with fail
      go_meet
      case rel => exact ⟨by rw [HS.out], rfl⟩
    · have h1 : (l.length : Int) ≤ 70 := by omega
      have dd : decide ((70 : Int) < l.length) = false := by simpa using h1
      have e2 : s = l := by rw [e]; exact List.take_of_length_le (by omega)
      have E2 := Lib.hid e2
      clear e e2
      go_wp2_with fail
      go_meet
      case rel => exact ⟨by rw [E2.out], rfl⟩
  case rest =>
    obtain ⟨rfl, rfl⟩ := hcut
    clear HS
    by_cases hin : 0 ≤ at' ∧ at' < n
    · obtain ⟨k, rfl⟩ : ∃ k : Nat, at' = (k : Int) := ⟨at'.toNat, by omega⟩
      have kn : k < n := by omega
      have knI : (k : Int) < n := by omega
      have d0 : decide ((0 : Int) ≤ (k : Int)) = true := decide_eq_true (by omega)
      have d1 : decide ((k : Int) < n) = true := decide_eq_true knI
      have d2' : decide (k < n) = true := decide_eq_true kn
      have hh := has_nat d2 (by rw [s2]; exact kn)
      obtain ⟨X, hX⟩ : ∃ X, readD d2 k = (X, 0) := ⟨_, Prod.ext rfl (read_yes q2.on hh)⟩
      have RD := Lib.hid hX
      by_cases h64 : s.length = 64
      · have s64 : (s.length : Int) = 64 := by omega
        obtain ⟨e5, q5⟩ := q2.write (fun h => by cases h) k s kn h64
        have w5' := write_waits q2 (fun h => by cases h) k s kn h64
        obtain ⟨d5, hd5⟩ : ∃ d5, writeD d2 k s = (d5, 0) := ⟨_, Prod.ext rfl (by rw [e5])⟩
        rw [hd5] at q5 w5'
        have f5 := q5.few (by simp) (by omega) (by omega) (by omega)
        obtain ⟨e7, q7⟩ := q5.write (fun h => by cases h) k (sec 120) kn (sec_len _)
        have w7' := write_waits q5 (fun h => by cases h) k (sec 120) kn (sec_len _)
        obtain ⟨d7, hd7⟩ : ∃ d7, writeD d5 k (sec 120) = (d7, 0) := ⟨_, Prod.ext rfl (by rw [e7])⟩
        simp only at hd7 q7 w7'
        rw [hd7] at q7 w7'
        have f7 := q7.few (by simp) (by omega) (by omega) (by omega)
        have st : d7.steps = 2 := q7.steps
        have wt : d7.waits.length = 2 := by
          simp only at w7' w5'
          rw [w7', w5', hr2]; rfl
        have hh7 := has_nat d7 (by rw [q7.safe]; exact kn)
        have sf : ((safeD d7 k).length : Int) = 64 := by rw [safeD_len q7.ok hh7]; rfl
        have WR := Lib.hid hd5
        have WX := Lib.hid hd7
        simp only at q5 f5
        clear hX hd5 hd7 e5 e7 w5' w7' hr2 h64
        go_wp2_with fail
        refine (I.readH ((k : Int)) h2 f2 q2.ok).mono ?_
        rw [RD.out]
        rintro e w4 ⟨rfl, h4⟩
        go_wp2_with fail
        refine (I.writeH ((k : Int)) s h4 f2 q2.ok (by omega)).mono ?_
        rw [WR.out]
        rintro e w5 ⟨rfl, h5⟩
        go_wp2_with fail
        refine (sector_any 120 w5).mono ?_
        rintro e w6 ⟨rfl, g6⟩
        have h6 := h5.below I g6
        go_wp2_with fail
        refine (I.writeH ((k : Int)) (sec 120) h6 f5 q5.ok (by rw [sec_len]; decide)).mono ?_
        rw [WX.out]
        rintro e w7 ⟨rfl, h7⟩
        clear h2 h4 h5 h6
        go_wp2_with fail
        refine (I.stepsH h7).mono ?_
        rw [st]
        rintro e w8 ⟨rfl, rfl⟩
        go_wp2_with fail
        refine (I.waitingH h7 f7).mono ?_
        rw [wt]
        rintro e w8 ⟨aw, cw, rfl, hcw, h8⟩
        go_wp2_with fail
        refine (I.safeH ((k : Int)) h8 f7 q7.ok).mono ?_
        obtain ⟨y, hy⟩ : ∃ y, y = safeD d7 ((k : Int)) := ⟨_, rfl⟩
        rw [← hy] at sf ⊢
        clear hy
        rintro e w9 ⟨rfl, h9⟩
        have hb := h9.bel
        clear h7 h8 h9
        go_wp2
        go_ret
        exact ⟨rfl, hb⟩
      · have s64 : ¬ ((s.length : Int) = 64) := by omega
        have s64b : ((s.length : Int) == 64) = false := by simp; omega
        have hd5 := write_no (k := (k : Int)) q2.on (.inr h64)
        obtain ⟨d5, hd5e⟩ : ∃ d5, d5 = d2 := ⟨_, rfl⟩
        have q5 := q2
        have f5 := f2
        rw [← hd5e] at q5 f5
        obtain ⟨e7, q7⟩ := q5.write (fun h => by cases h) k (sec 120) kn (sec_len _)
        have w7' := write_waits q5 (fun h => by cases h) k (sec 120) kn (sec_len _)
        obtain ⟨d7, hd7⟩ : ∃ d7, writeD d5 k (sec 120) = (d7, 0) := ⟨_, Prod.ext rfl (by rw [e7])⟩
        rw [hd7] at q7 w7'
        have f7 := q7.few (by simp) (by omega) (by omega) (by omega)
        have st : d7.steps = 1 := q7.steps
        have wt : d7.waits.length = 1 := by
          simp only at w7'
          rw [w7', hd5e, hr2]; rfl
        have hh7 := has_nat d7 (by rw [q7.safe]; exact kn)
        have sf : ((safeD d7 k).length : Int) = 64 := by rw [safeD_len q7.ok hh7]; rfl
        subst hd5e
        have WR := Lib.hid hd5
        have WX := Lib.hid hd7
        clear hX hd5 hd7 e7 w7' hr2 h64
        go_wp2_with fail
        refine (I.readH ((k : Int)) h2 f2 q2.ok).mono ?_
        rw [RD.out]
        rintro e w4 ⟨rfl, h4⟩
        go_wp2_with fail
        refine (I.writeH ((k : Int)) s h4 f2 q2.ok (by omega)).mono ?_
        rw [WR.out]
        rintro e w5 ⟨rfl, h5⟩
        go_wp2_with fail
        refine (sector_any 120 w5).mono ?_
        rintro e w6 ⟨rfl, g6⟩
        have h6 := h5.below I g6
        go_wp2_with fail
        refine (I.writeH ((k : Int)) (sec 120) h6 f5 q5.ok (by rw [sec_len]; decide)).mono ?_
        rw [WX.out]
        rintro e w7 ⟨rfl, h7⟩
        clear h2 h4 h5 h6
        go_wp2_with fail
        refine (I.stepsH h7).mono ?_
        rw [st]
        rintro e w8 ⟨rfl, rfl⟩
        go_wp2_with fail
        refine (I.waitingH h7 f7).mono ?_
        rw [wt]
        rintro e w8 ⟨aw, cw, rfl, hcw, h8⟩
        go_wp2_with fail
        refine (I.safeH ((k : Int)) h8 f7 q7.ok).mono ?_
        obtain ⟨y, hy⟩ : ∃ y, y = safeD d7 ((k : Int)) := ⟨_, rfl⟩
        rw [← hy] at sf ⊢
        clear hy
        rintro e w9 ⟨rfl, h9⟩
        have hb := h9.bel
        clear h7 h8 h9
        go_wp2
        go_ret
        exact ⟨rfl, hb⟩
    · have hh : d2.has at' = false := by
        simp only [Dv.has, s2]
        rcases Int.lt_or_le at' 0 with q | q
        · simp; omega
        · simp; omega
      have RD := Lib.hid (read_no q2.on hh)
      have WR := Lib.hid (write_no (s := s) q2.on (.inl hh))
      have WX := Lib.hid (write_no (s := sec 120) q2.on (.inl hh))
      obtain ⟨d7, hd7⟩ : ∃ d7, d7 = d2 := ⟨_, rfl⟩
      have st : d2.steps = 0 := q2.steps
      have wt : d2.waits.length = 0 := by rw [hr2]; rfl
      have sf : ((safeD d2 at').length : Int) = 0 := by rw [safeD_no hh]; rfl
      have f5 := f2
      have q5 := q2
      have f7 := f2
      have q7 := q2
      by_cases hneg : at' < 0
      · have d0 : decide ((0 : Int) ≤ at') = false := decide_eq_false (by omega)
        have d1 : ¬ (0 ≤ at') := by omega
        clear hr2 hh hd7
        go_wp2_with fail
        refine (I.readH (at') h2 f2 q2.ok).mono ?_
        rw [RD.out]
        rintro e w4 ⟨rfl, h4⟩
        go_wp2_with fail
        refine (I.writeH (at') s h4 f2 q2.ok (by omega)).mono ?_
        rw [WR.out]
        rintro e w5 ⟨rfl, h5⟩
        go_wp2_with fail
        refine (sector_any 120 w5).mono ?_
        rintro e w6 ⟨rfl, g6⟩
        have h6 := h5.below I g6
        go_wp2_with fail
        refine (I.writeH (at') (sec 120) h6 f5 q5.ok (by rw [sec_len]; decide)).mono ?_
        rw [WX.out]
        rintro e w7 ⟨rfl, h7⟩
        clear h2 h4 h5 h6
        go_wp2_with fail
        refine (I.stepsH h7).mono ?_
        rw [st]
        rintro e w8 ⟨rfl, rfl⟩
        go_wp2_with fail
        refine (I.waitingH h7 f7).mono ?_
        rw [wt]
        rintro e w8 ⟨aw, cw, rfl, hcw, h8⟩
        go_wp2_with fail
        refine (I.safeH (at') h8 f7 q7.ok).mono ?_
        obtain ⟨y, hy⟩ : ∃ y, y = safeD d2 (at') := ⟨_, rfl⟩
        rw [← hy] at sf ⊢
        clear hy
        rintro e w9 ⟨rfl, h9⟩
        have hb := h9.bel
        clear h7 h8 h9
        go_wp2
        go_ret
        exact ⟨rfl, hb⟩
      · have d0 : decide ((0 : Int) ≤ at') = true := decide_eq_true (by omega)
        have d1 : decide (at' < (n : Int)) = false := decide_eq_false (by omega)
        have d0' : 0 ≤ at' := by omega
        clear hr2 hh hd7
        go_wp2_with fail
        refine (I.readH (at') h2 f2 q2.ok).mono ?_
        rw [RD.out]
        rintro e w4 ⟨rfl, h4⟩
        go_wp2_with fail
        refine (I.writeH (at') s h4 f2 q2.ok (by omega)).mono ?_
        rw [WR.out]
        rintro e w5 ⟨rfl, h5⟩
        go_wp2_with fail
        refine (sector_any 120 w5).mono ?_
        rintro e w6 ⟨rfl, g6⟩
        have h6 := h5.below I g6
        go_wp2_with fail
        refine (I.writeH (at') (sec 120) h6 f5 q5.ok (by rw [sec_len]; decide)).mono ?_
        rw [WX.out]
        rintro e w7 ⟨rfl, h7⟩
        clear h2 h4 h5 h6
        go_wp2_with fail
        refine (I.stepsH h7).mono ?_
        rw [st]
        rintro e w8 ⟨rfl, rfl⟩
        go_wp2_with fail
        refine (I.waitingH h7 f7).mono ?_
        rw [wt]
        rintro e w8 ⟨aw, cw, rfl, hcw, h8⟩
        go_wp2_with fail
        refine (I.safeH (at') h8 f7 q7.ok).mono ?_
        obtain ⟨y, hy⟩ : ∃ y, y = safeD d2 (at') := ⟨_, rfl⟩
        rw [← hy] at sf ⊢
        clear hy
        rintro e w9 ⟨rfl, h9⟩
        have hb := h9.bel
        clear h7 h8 h9
        go_wp2
        go_ret
        exact ⟨rfl, hb⟩
end
end Go.Proofs.Ytmpcfdjpklmfmaa.deviceEdges
