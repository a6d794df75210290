/- The document's device: Arm, Write. -/
import Derived.Test.YtmpcfdjpklmfmaaRows
import Derived.WalkKit
import Derived.Below
import Derived.ProofKit
import Derived.OpenShut
import Derived.ShutString
import Derived.ChangeOld
import Derived.Outline
import Derived.RegionTactic
import Derived.ChangeAlike
import Derived.BigRegion
import Derived.BigQuiet
import Derived.Deep.QuietTactic
import Derived.Deep.RegionWith
import Derived.Deep.RegionLaw
import Derived.Deep.RegionHeld3
import Derived.Deep.AppendLies
import Derived.Deep.Draws
import Derived.StillTailTactics
import Derived.Lib.Hide
import Derived.Lib.SmallJoins
import Derived.Handy
import Derived.WalkSpells
import Derived.WalkLawsBesides
import Derived.Deep.LoopGhost
import Derived.Deep.DeepCutAuto
import Derived.Deep.CutBlock
import Derived.Deep.CutRange
import Derived.Test.YtmpcfdjpklmfmaaDevR
namespace Go.Proofs.Ytmpcfdjpklmfmaa
open Go.RowKit
set_option linter.unusedSimpArgs false
set_option linter.unusedVariables false
set_option linter.unnecessarySimpa false
theorem infoW : (Try.prog.info? 64).map (fun i => (i.zero, i.size, i.bytes)) = some (some (.agg #[.int .i64 0, .string ⟨#[]⟩]), 2, 24) := by kernel_rfl
theorem infoStr : (Try.prog.info? 9).map (fun i => (i.zero, i.size, i.bytes)) = some (some (.string ⟨#[]⟩), 1, 16) := by kernel_rfl
set_option maxHeartbeats 1000000 in
theorem refArm_any (us uw : Value) (p : Nat) (d : Dv) (n : Int) (w : World) (h : R6 w us uw p d) :
    Calls Try.prog 17 #[.pointer (some ⟨p, 0, none⟩), .int .i64 n] w fun e w' => e = .returned (.tuple #[]) ∧ R6 w' us uw p (armD d n) ∧ Fr [p] w w' := by
  obtain ⟨sf, ws, on, ar, l, s⟩ := d
  have c3 := h.row.c 3 (v := .bool ar) rfl
  have c4 := h.row.c 4 (v := .int .i64 (l : Nat)) rfl
  have f3 := h.row.f 3
  have f4 := h.row.f 4
  by_cases hn : n < 0
  · have hr := ((h.row.set 3 (.bool true)).set 4 (.int .i64 n)).set 4 (.int .i64 0)
    have e : armD ⟨sf, ws, on, ar, l, s⟩ n = ⟨sf, ws, on, true, 0, s⟩ := by unfold armD; simp; omega
    rw [e]
    clear e
    go_enter Try.func17, Try.ntmps17
    go_wp2
    go_end0
    have hf : Fr [p] w (((w.setCell ⟨p, 3, none⟩ (.bool true)).setCell ⟨p, 4, none⟩ (.int .i64 n)).setCell ⟨p, 4, none⟩ (.int .i64 0)) := (((Fr.refl _ _).setCell (.inl (by simp)) _).setCell (.inl (by simp)) _).setCell (.inl (by simp)) _
    exact ⟨rfl, h.turn hr hf rfl rfl, hf⟩
  · have hr := (h.row.set 3 (.bool true)).set 4 (.int .i64 n)
    have e : armD ⟨sf, ws, on, ar, l, s⟩ n = ⟨sf, ws, on, true, n.toNat, s⟩ := rfl
    have en : ((n.toNat : Nat) : Int) = n := by omega
    have EN := Lib.hid en
    rw [e]
    clear e en
    go_enter Try.func17, Try.ntmps17
    go_wp2
    go_end0
    have hf : Fr [p] w ((w.setCell ⟨p, 3, none⟩ (.bool true)).setCell ⟨p, 4, none⟩ (.int .i64 n)) := ((Fr.refl _ _).setCell (.inl (by simp)) _).setCell (.inl (by simp)) _
    exact ⟨rfl, h.turn (by rw [rcs, EN.out]; exact hr) hf rfl rfl, hf⟩
/-- As devices are while a script goes on. -/
structure Dv.Few (d : Dv) : Prop where
  left : d.left < 4611686018427387904
  steps : d.steps < 4611686018427387904
  waits : d.waits.length < 1048576
  safe : d.safe.length ≤ 4096
set_option maxHeartbeats 2000000 in
theorem refWrite_any (us uw : Value) (p : Nat) (d : Dv) (k : Int) (s : List UInt8) (w : World) (h : R6 w us uw p d) (hd : d.Few) (hs : (s.length : Int) ≤ 9223372036854775807) :
    Calls Try.prog 22 #[.pointer (some ⟨p, 0, none⟩), .int .i64 k, .string ⟨s.toArray⟩] w fun e w' => e = .returned (.int .i64 (writeD d k s).2) ∧ ∃ uw', R6 w' us uw' p (writeD d k s).1 ∧ Fr (p :: blk uw) w w' ∧ ∀ b ∈ blk uw', b ∈ blk uw ∨ w.heap.size ≤ b := by
  have c0 := h.row.c 0 (v := us) rfl
  have c2 := h.row.c 2 (v := .bool d.on) rfl
  cases ho : d.on with
  | false =>
    have e : writeD d k s = (d, 14) := by unfold writeD; rw [ho]; rfl
    rw [e]
    rw [ho] at c2
    clear e
    go_enter Try.func22, Try.ntmps22
    go_wp2
    go_ret
    exact ⟨rfl, uw, h, Fr.refl _ _, fun b hb => .inl hb⟩
  | true =>
    rw [ho] at c2
    obtain ⟨A, c, rfl⟩ := own_form h.safe
    obtain ⟨n, hn⟩ : ∃ n, n = d.safe.length := ⟨_, rfl⟩
    have hn2 := hd.safe
    by_cases hk : d.has k = true ∧ s.length = 64
    · obtain ⟨d', er, hst⟩ : ∃ d' er, stepD d = (d', er) := ⟨_, _, rfl⟩
      have e : writeD d k s = ({ d' with waits := d.waits ++ [(k.toNat, s)] }, er) := by unfold writeD; rw [ho, if_pos rfl, if_pos (by simp [hk]), hst]
      rw [e]
      obtain ⟨k0, k1⟩ := Dv.has_lt hk.1
      have d0 : decide (k < 0) = false := decide_eq_false (by omega)
      have kn : ((k.toNat : Nat) : Int) = k := by omega
      have d1 : decide ((d.safe.length : Int) ≤ k) = false := decide_eq_false (by omega)
      have hs64 : (s.length : Int) = 64 := by omega
      have HS := h
      have hin := h.waits
      obtain ⟨A2, cp, rfl⟩ := own_form hin
      obtain ⟨i0, hi, hz0, hz1, hz2⟩ := info_parts infoW
      have KN := Lib.hid kn
      clear e kn hn hn2 hs
      go_enter Try.func22, Try.ntmps22
      go_wp2_with fail
      refine (refStep_any _ _ p d w h hd.left hd.steps).mono ?_
      rw [hst]
      rintro e w1 ⟨rfl, h1, g1⟩
      have hws : d'.waits = d.waits := by have := stepD_waits d; rw [hst] at this; exact this
      have hsf : d'.safe = d.safe := by have := stepD_safe d; rw [hst] at this; exact this
      clear hst
      have own1 := h1.waits
      rw [hws] at own1
      obtain ⟨m, hm⟩ : ∃ m, m = d.waits.length := ⟨_, rfl⟩
      have hm2 : m < 1048576 := by rw [hm]; exact hd.waits
      have hw1 := h1.row
      have c1' := hw1.c 1 rfl
      have off2 := h1.off2
      have off3 := h1.off3
      have hsafe := h1.safe
      rw [hsf] at hsafe
      rw [← hm] at own1 c1' off2 off3
      have HM := Lib.hid hm
      clear hm
      have lt1 := hw1.lt
      go_wp2_with (at_builtin; refine wpList_append_lies _ rfl (.tmp 35) (.tmp 39) 40 rfl 0 64 i0 (.agg #[.int .i64 0, .string ⟨#[]⟩]) 2 24 Try.underlying40 hi hz0 hz1 hz2 rfl (by decide) (.slice A2 m cp) m (wrs d.waits) rfl (own1.alloc _) ⟨w1.heap.size, 0, none⟩ 1 1 [.int .i64 k, .string ⟨s.toArray⟩] rfl rfl (World.news_of_block (cs := #[.int .i64 k, .string ⟨s.toArray⟩]) (t := 64) (fr := (0, 0)) (heap_alloc_new w1 _)) (by simp [Value.oneCell']) (by decide) (by unfold maxLen; omega) (by omega) (Nat.zero_le _) _ rfl ?_; intro g cap w6 hown6 hgrow hat hlt; have r6 : Rw w6 p _ _ := (hw1.alloc _).keep (hgrow.block p (by simp; omega) (fun e => off2 e.symm)); have c1 := r6.c 1 rfl; have f1 := r6.f 1)
      go_ret
      obtain rfl := HM.out
      have hE : ∀ k, (Value.slice A2 d.waits.length cp).ownBlock = some k → k ∈ p :: blk (Value.slice A2 d.waits.length cp) := fun k hk => List.mem_cons_of_mem _ (mem_blk.2 hk)
      have ga : Fr (p :: blk (.slice A2 d.waits.length cp)) w w6 := ((g1.more (fun k hk => by rw [List.mem_singleton.1 hk]; exact List.mem_cons_self)).alloc _).trans ⟨hgrow.os, hgrow.tape, hgrow.output, hgrow.size, fun k hk hn => hgrow.block k hk fun e => hn (hE k e.symm)⟩
      have offg := own_off hown6 r6 (by decide)
      refine ⟨rfl, _, ⟨r6.set 1 _, ?_, ?_⟩, ga.setCell (.inl List.mem_cons_self) _, fun b hb => ?_⟩
      · simp only
        rw [hsf]
        refine ownsRow_setCell_other (a := ⟨p, 1, none⟩) ((hsafe.alloc _).kept hgrow (by
          rcases hb : (Value.slice A d.safe.length c).ownBlock with _ | k
          · exact .inl rfl
          · exact .inr fun e => off3 k hb e.symm)) h1.off1 _
      · simp only
        rw [← KN.out, wrs_snoc] at hown6
        rw [List.length_append]
        exact ownsRow_setCell_other (a := ⟨p, 1, none⟩) hown6 offg _
      · rw [mem_blk] at hb
        simp only [Value.ownBlock, Option.some.injEq] at hb
        subst hb
        rcases hat with hat | hat
        · exact .inl (mem_blk.2 hat)
        · right; rw [hat]; have := g1.size; simp; omega
    · have e : writeD d k s = (d, 1) := by
        unfold writeD; rw [ho, if_pos rfl, if_neg]
        simp only [Bool.and_eq_true, decide_eq_true_eq]; exact hk
      rw [e]
      by_cases h0 : k < 0
      · have d0 : decide (k < 0) = true := decide_eq_true h0
        clear e
        go_enter Try.func22, Try.ntmps22
        go_wp2
        go_ret
        exact ⟨rfl, uw, h, Fr.refl _ _, fun b hb => .inl hb⟩
      · have d0 : decide (k < 0) = false := decide_eq_false h0
        by_cases h1 : (d.safe.length : Int) ≤ k
        · have d1 : decide ((d.safe.length : Int) ≤ k) = true := decide_eq_true h1
          clear e
          go_enter Try.func22, Try.ntmps22
          go_wp2
          go_ret
          exact ⟨rfl, uw, h, Fr.refl _ _, fun b hb => .inl hb⟩
        · have d1 : decide ((d.safe.length : Int) ≤ k) = false := decide_eq_false h1
          have hs64 : ¬ ((s.length : Int) = 64) := fun hh => hk ⟨by simp [Dv.has]; omega, by omega⟩
          have d2 : ((s.length : Int) == 64) = false := by simp; omega
          clear e
          go_enter Try.func22, Try.ntmps22
          go_wp2
          go_ret
          exact ⟨rfl, uw, h, Fr.refl _ _, fun b hb => .inl hb⟩
end Go.Proofs.Ytmpcfdjpklmfmaa
