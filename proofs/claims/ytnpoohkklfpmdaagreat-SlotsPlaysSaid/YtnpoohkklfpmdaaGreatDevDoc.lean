/- DevR: The document's device: its steps, power, what it reads.
   DevS: The document's device: Arm, Write.
   DevT: The document's device: Read.
   DevU: The document's device: Flush.
   DevV: The document's device: Crash.
   DevW: The document's device: New.
   DevX: The document's device: are two rows of what waits the same?
   DevB: What a device of the program must keep to. -/
import Derived.Test.YtnpoohkklfpmdaaGreatRows
import Derived.WalkKit
import Derived.Below
import Derived.ProofKit
import Derived.OpenShut
import Derived.ShutString
import Derived.ChangeOld
import Derived.Outline
import Derived.RegionTactic
import Derived.ChangeAlike
import Derived.BigRegion
import Derived.BigQuiet
import Derived.Deep.QuietTactic
import Derived.Deep.RegionWith
import Derived.Deep.RegionLaw
import Derived.Deep.RegionHeld3
import Derived.Deep.AppendLies
import Derived.Deep.Draws
import Derived.StillTailTactics
import Derived.Lib.Hide
import Derived.Lib.SmallJoins
import Derived.Handy
import Derived.WalkSpells
import Derived.WalkLawsBesides
import Derived.Deep.LoopGhost
import Derived.Deep.DeepCutAuto
import Derived.Deep.CutBlock
import Derived.Deep.CutRange
import Derived.Deep.OwnRows
import Derived.Laws.CopyOwn
import Derived.Test.YtnpoohkklfpmdaaGreatDevA
import Derived.Test.YtnpoohkklfpmdaaGreatRw
/- DevR -/
namespace Go.Proofs.YtnpoohkklfpmdaaGreat
open Go.RowKit
set_option linter.unusedSimpArgs false
set_option linter.unusedVariables false
set_option linter.unnecessarySimpa false
def svs (ls : List (List UInt8)) : List Value := ls.map fun l => Value.string ⟨l.toArray⟩
theorem svs_len (ls : List (List UInt8)) : (svs ls).length = ls.length := by simp [svs]
theorem svs_at (ls : List (List UInt8)) (k : Nat) (h : k < ls.length) : (svs ls)[k]? = some (.string ⟨(ls.getD k []).toArray⟩) := by simp [svs, h]
theorem svs_set (ls : List (List UInt8)) (k : Nat) (s : List UInt8) : (svs ls).set k (.string ⟨s.toArray⟩) = svs (ls.set k s) := by simp [svs, List.map_set]
theorem svs_snoc (ls : List (List UInt8)) (s : List UInt8) : svs ls ++ [.string ⟨s.toArray⟩] = svs (ls ++ [s]) := by simp [svs]
/-- The cells of the document's device. -/
def rcs (us uw : Value) (d : Dv) : List Value := [us, uw, .bool d.on, .bool d.armed, .int .i64 (d.left : Nat), .int .i64 (d.steps : Nat)]
/-- The document's device at block p. -/
structure R6 (w : World) (us uw : Value) (p : Nat) (d : Dv) : Prop where
  row : Rw w p (rcs us uw d) 49
  safe : w.ownsRow 0 9 1 us d.safe.length (svs d.safe)
  waits : w.ownsRow 0 74 2 uw d.waits.length (wrs d.waits)
section
variable {w w' : World} {us uw : Value} {p : Nat} {d : Dv}
theorem R6.off1 (h : R6 w us uw p d) : us.ownBlock ≠ some p := own_off h.safe h.row (by decide)
theorem R6.off2 (h : R6 w us uw p d) : uw.ownBlock ≠ some p := own_off h.waits h.row (by decide)
theorem R6.off3 (h : R6 w us uw p d) : ∀ k, us.ownBlock = some k → uw.ownBlock ≠ some k := own_apart h.safe h.waits (by decide)
/-- The device's cells have turned, no other block. -/
theorem R6.turn (h : R6 w us uw p d) {d' : Dv} (hr : Rw w' p (rcs us uw d') 49) (hf : Fr [p] w w') (h1 : d'.safe = d.safe) (h2 : d'.waits = d.waits) : R6 w' us uw p d' :=
  ⟨hr, by rw [h1]; exact own_frame h.safe hf (fun k hk e => h.off1 (by rw [hk, List.mem_singleton.1 e])), by rw [h2]; exact own_frame h.waits hf (fun k hk e => h.off2 (by rw [hk, List.mem_singleton.1 e]))⟩
theorem R6.fr {ex : List Nat} (h : R6 w us uw p d) (hf : Fr ex w w') (hp : p ∉ ex) (h1 : ∀ k ∈ blk us, k ∉ ex) (h2 : ∀ k ∈ blk uw, k ∉ ex) : R6 w' us uw p d :=
  ⟨h.row.fr hf hp, own_frame h.safe hf (fun k hk => h1 k (mem_blk.2 hk)), own_frame h.waits hf (fun k hk => h2 k (mem_blk.2 hk))⟩
end
theorem cast_succ (n : Nat) : ((n + 1 : Nat) : Int) = (n : Int) + 1 := by simp
set_option maxHeartbeats 1000000 in

theorem refStep_any (us uw : Value) (p : Nat) (d : Dv) (w : World) (h : R6 w us uw p d) (hl : d.left < 4611686018427387904) (hs : d.steps < 4611686018427387904) :
    Calls Tryz.prog 58 #[.pointer (some ⟨p, 0, none⟩)] w fun e w' => e = .returned (.int .i64 (stepD d).2) ∧ R6 w' us uw p (stepD d).1 ∧ Fr [p] w w' := by
  obtain ⟨sf, ws, on, ar, l, s⟩ := d
  have c2 := h.row.c 2 (v := .bool on) rfl
  have c3 := h.row.c 3 (v := .bool ar) rfl
  have c4 := h.row.c 4 (v := .int .i64 (l : Nat)) rfl
  have c5 := h.row.c 5 (v := .int .i64 (s : Nat)) rfl
  have f2 := h.row.f 2
  have f4 := h.row.f 4
  have f5 := h.row.f 5
  have hlI : (l : Int) < 4611686018427387904 := by simp at hl; omega
  have hsI : (s : Int) < 4611686018427387904 := by simp at hs; omega
  clear hl hs
  cases ar with
  | false =>
    have hr := h.row.set 5 (.int .i64 ((s : Int) + 1))
    rw [show stepD ⟨sf, ws, on, false, l, s⟩ = (⟨sf, ws, on, false, l, s + 1⟩, 0) from rfl]
    go_enter Tryz.func58, Tryz.ntmps58
    go_wp2
    go_ret
    exact ⟨rfl, h.turn (by rw [rcs, cast_succ]; exact hr) ((Fr.refl _ _).setCell (.inl (by simp)) _) rfl rfl, (Fr.refl _ _).setCell (.inl (by simp)) _⟩
  | true =>
    rcases Nat.eq_zero_or_pos l with h0 | h0
    · subst h0
      have hr := h.row.set 2 (.bool false)
      rw [show stepD ⟨sf, ws, on, true, 0, s⟩ = (⟨sf, ws, false, true, 0, s⟩, 14) from rfl]
      go_enter Tryz.func58, Tryz.ntmps58
      go_wp2
      go_ret
      exact ⟨rfl, h.turn hr ((Fr.refl _ _).setCell (.inl (by simp)) _) rfl rfl, (Fr.refl _ _).setCell (.inl (by simp)) _⟩
    · rw [show stepD ⟨sf, ws, on, true, l, s⟩ = (⟨sf, ws, on, true, l - 1, s + 1⟩, 0) from by unfold stepD; simp; omega]
      obtain ⟨z, hz⟩ : ∃ z : Int, (l : Int) = z := ⟨_, rfl⟩
      rw [hz] at c4 hlI
      have hr := (h.row.set 4 (.int .i64 (z - 1))).set 5 (.int .i64 ((s : Int) + 1))
      have z0 : 0 < z := by omega
      have e4 : ((l - 1 : Nat) : Int) = z - 1 := by omega
      have E4 := Lib.hid e4
      have d0 : (z == 0) = false := by simp; omega
      clear h0 e4 hz
      go_enter Tryz.func58, Tryz.ntmps58
      go_wp2
      go_ret
      have hf : Fr [p] w ((w.setCell ⟨p, 4, none⟩ (.int .i64 (z - 1))).setCell ⟨p, 5, none⟩ (.int .i64 ((s : Int) + 1))) := ((Fr.refl _ _).setCell (.inl (by simp)) _).setCell (.inl (by simp)) _
      exact ⟨rfl, h.turn (by rw [rcs, cast_succ, E4.out]; exact hr) hf rfl rfl, hf⟩
end Go.Proofs.YtnpoohkklfpmdaaGreat
/- DevS -/
namespace Go.Proofs.YtnpoohkklfpmdaaGreat
open Go.RowKit
set_option linter.unusedSimpArgs false
set_option linter.unusedVariables false
set_option linter.unnecessarySimpa false
theorem infoW : (Tryz.prog.info? 74).map (fun i => (i.zero, i.size, i.bytes)) = some (some (.agg #[.int .i64 0, .string ⟨#[]⟩]), 2, 24) := by kernel_rfl
theorem infoStr : (Tryz.prog.info? 9).map (fun i => (i.zero, i.size, i.bytes)) = some (some (.string ⟨#[]⟩), 1, 16) := by kernel_rfl
set_option maxHeartbeats 1000000 in
theorem refArm_any (us uw : Value) (p : Nat) (d : Dv) (n : Int) (w : World) (h : R6 w us uw p d) :
    Calls Tryz.prog 10 #[.pointer (some ⟨p, 0, none⟩), .int .i64 n] w fun e w' => e = .returned (.tuple #[]) ∧ R6 w' us uw p (armD d n) ∧ Fr [p] w w' := by
  obtain ⟨sf, ws, on, ar, l, s⟩ := d
  have c3 := h.row.c 3 (v := .bool ar) rfl
  have c4 := h.row.c 4 (v := .int .i64 (l : Nat)) rfl
  have f3 := h.row.f 3
  have f4 := h.row.f 4
  by_cases hn : n < 0
  · have hr := ((h.row.set 3 (.bool true)).set 4 (.int .i64 n)).set 4 (.int .i64 0)
    have e : armD ⟨sf, ws, on, ar, l, s⟩ n = ⟨sf, ws, on, true, 0, s⟩ := by unfold armD; simp; omega
    rw [e]
    clear e
    go_enter Tryz.func10, Tryz.ntmps10
    go_wp2
    go_end0
    have hf : Fr [p] w (((w.setCell ⟨p, 3, none⟩ (.bool true)).setCell ⟨p, 4, none⟩ (.int .i64 n)).setCell ⟨p, 4, none⟩ (.int .i64 0)) := (((Fr.refl _ _).setCell (.inl (by simp)) _).setCell (.inl (by simp)) _).setCell (.inl (by simp)) _
    exact ⟨rfl, h.turn hr hf rfl rfl, hf⟩
  · have hr := (h.row.set 3 (.bool true)).set 4 (.int .i64 n)
    have e : armD ⟨sf, ws, on, ar, l, s⟩ n = ⟨sf, ws, on, true, n.toNat, s⟩ := rfl
    have en : ((n.toNat : Nat) : Int) = n := by omega
    have EN := Lib.hid en
    rw [e]
    clear e en
    go_enter Tryz.func10, Tryz.ntmps10
    go_wp2
    go_end0
    have hf : Fr [p] w ((w.setCell ⟨p, 3, none⟩ (.bool true)).setCell ⟨p, 4, none⟩ (.int .i64 n)) := ((Fr.refl _ _).setCell (.inl (by simp)) _).setCell (.inl (by simp)) _
    exact ⟨rfl, h.turn (by rw [rcs, EN.out]; exact hr) hf rfl rfl, hf⟩
/-- As devices are while a script goes on. -/
structure Dv.Few (d : Dv) : Prop where
  left : d.left < 4611686018427387904
  steps : d.steps < 4611686018427387904
  waits : d.waits.length < 1048576
  safe : d.safe.length ≤ 4096
set_option maxHeartbeats 2000000 in
theorem refWrite_any (us uw : Value) (p : Nat) (d : Dv) (k : Int) (s : List UInt8) (w : World) (h : R6 w us uw p d) (hd : d.Few) (hs : (s.length : Int) ≤ 9223372036854775807) :
    Calls Tryz.prog 38 #[.pointer (some ⟨p, 0, none⟩), .int .i64 k, .string ⟨s.toArray⟩] w fun e w' => e = .returned (.int .i64 (writeD d k s).2) ∧ ∃ uw', R6 w' us uw' p (writeD d k s).1 ∧ Fr (p :: blk uw) w w' ∧ ∀ b ∈ blk uw', b ∈ blk uw ∨ w.heap.size ≤ b := by
  have c0 := h.row.c 0 (v := us) rfl
  have c2 := h.row.c 2 (v := .bool d.on) rfl
  cases ho : d.on with
  | false =>
    have e : writeD d k s = (d, 14) := by unfold writeD; rw [ho]; rfl
    rw [e]
    rw [ho] at c2
    clear e
    go_enter Tryz.func38, Tryz.ntmps38
    go_wp2
    go_ret
    exact ⟨rfl, uw, h, Fr.refl _ _, fun b hb => .inl hb⟩
  | true =>
    rw [ho] at c2
    obtain ⟨A, c, rfl⟩ := own_form h.safe
    obtain ⟨n, hn⟩ : ∃ n, n = d.safe.length := ⟨_, rfl⟩
    have hn2 := hd.safe
    by_cases hk : d.has k = true ∧ s.length = 64
    · obtain ⟨d', er, hst⟩ : ∃ d' er, stepD d = (d', er) := ⟨_, _, rfl⟩
      have e : writeD d k s = ({ d' with waits := d.waits ++ [(k.toNat, s)] }, er) := by unfold writeD; rw [ho, if_pos rfl, if_pos (by simp [hk]), hst]
      rw [e]
      obtain ⟨k0, k1⟩ := Dv.has_lt hk.1
      have d0 : decide (k < 0) = false := decide_eq_false (by omega)
      have kn : ((k.toNat : Nat) : Int) = k := by omega
      have d1 : decide ((d.safe.length : Int) ≤ k) = false := decide_eq_false (by omega)
      have hs64 : (s.length : Int) = 64 := by omega
      have HS := h
      have hin := h.waits
      obtain ⟨A2, cp, rfl⟩ := own_form hin
      obtain ⟨i0, hi, hz0, hz1, hz2⟩ := info_parts infoW
      have KN := Lib.hid kn
      clear e kn hn hn2 hs
      go_enter Tryz.func38, Tryz.ntmps38
      go_wp2_with fail
      refine (refStep_any _ _ p d w h hd.left hd.steps).mono ?_
      rw [hst]
      rintro e w1 ⟨rfl, h1, g1⟩
      have hws : d'.waits = d.waits := by have := stepD_waits d; rw [hst] at this; exact this
      have hsf : d'.safe = d.safe := by have := stepD_safe d; rw [hst] at this; exact this
      clear hst
      have own1 := h1.waits
      rw [hws] at own1
      obtain ⟨m, hm⟩ : ∃ m, m = d.waits.length := ⟨_, rfl⟩
      have hm2 : m < 1048576 := by rw [hm]; exact hd.waits
      have hw1 := h1.row
      have c1' := hw1.c 1 rfl
      have off2 := h1.off2
      have off3 := h1.off3
      have hsafe := h1.safe
      rw [hsf] at hsafe
      rw [← hm] at own1 c1' off2 off3
      have HM := Lib.hid hm
      clear hm
      have lt1 := hw1.lt
      go_wp2_with (at_builtin; refine wpList_append_lies _ rfl (.tmp 35) (.tmp 39) 46 rfl 0 74 i0 (.agg #[.int .i64 0, .string ⟨#[]⟩]) 2 24 Tryz.underlying46 hi hz0 hz1 hz2 rfl (by decide) (.slice A2 m cp) m (wrs d.waits) rfl (own1.alloc _) ⟨w1.heap.size, 0, none⟩ 1 1 [.int .i64 k, .string ⟨s.toArray⟩] rfl rfl (World.news_of_block (cs := #[.int .i64 k, .string ⟨s.toArray⟩]) (t := 74) (fr := (0, 0)) (heap_alloc_new w1 _)) (by simp [Value.oneCell']) (by decide) (by unfold maxLen; omega) (by omega) (Nat.zero_le _) _ rfl ?_; intro g cap w6 hown6 hgrow hat hlt; have r6 : Rw w6 p _ _ := (hw1.alloc _).keep (hgrow.block p (by simp; omega) (fun e => off2 e.symm)); have c1 := r6.c 1 rfl; have f1 := r6.f 1)
      go_ret
      obtain rfl := HM.out
      have hE : ∀ k, (Value.slice A2 d.waits.length cp).ownBlock = some k → k ∈ p :: blk (Value.slice A2 d.waits.length cp) := fun k hk => List.mem_cons_of_mem _ (mem_blk.2 hk)
      have ga : Fr (p :: blk (.slice A2 d.waits.length cp)) w w6 := ((g1.more (fun k hk => by rw [List.mem_singleton.1 hk]; exact List.mem_cons_self)).alloc _).trans ⟨hgrow.os, hgrow.tape, hgrow.output, hgrow.size, fun k hk hn => hgrow.block k hk fun e => hn (hE k e.symm)⟩
      have offg := own_off hown6 r6 (by decide)
      refine ⟨rfl, _, ⟨r6.set 1 _, ?_, ?_⟩, ga.setCell (.inl List.mem_cons_self) _, fun b hb => ?_⟩
      · simp only
        rw [hsf]
        refine ownsRow_setCell_other (a := ⟨p, 1, none⟩) ((hsafe.alloc _).kept hgrow (by
          rcases hb : (Value.slice A d.safe.length c).ownBlock with _ | k
          · exact .inl rfl
          · exact .inr fun e => off3 k hb e.symm)) h1.off1 _
      · simp only
        rw [← KN.out, wrs_snoc] at hown6
        rw [List.length_append]
        exact ownsRow_setCell_other (a := ⟨p, 1, none⟩) hown6 offg _
      · rw [mem_blk] at hb
        simp only [Value.ownBlock, Option.some.injEq] at hb
        subst hb
        rcases hat with hat | hat
        · exact .inl (mem_blk.2 hat)
        · right; rw [hat]; have := g1.size; simp; omega
    · have e : writeD d k s = (d, 1) := by
        unfold writeD; rw [ho, if_pos rfl, if_neg]
        simp only [Bool.and_eq_true, decide_eq_true_eq]; exact hk
      rw [e]
      by_cases h0 : k < 0
      · have d0 : decide (k < 0) = true := decide_eq_true h0
        clear e
        go_enter Tryz.func38, Tryz.ntmps38
        go_wp2
        go_ret
        exact ⟨rfl, uw, h, Fr.refl _ _, fun b hb => .inl hb⟩
      · have d0 : decide (k < 0) = false := decide_eq_false h0
        by_cases h1 : (d.safe.length : Int) ≤ k
        · have d1 : decide ((d.safe.length : Int) ≤ k) = true := decide_eq_true h1
          clear e
          go_enter Tryz.func38, Tryz.ntmps38
          go_wp2
          go_ret
          exact ⟨rfl, uw, h, Fr.refl _ _, fun b hb => .inl hb⟩
        · have d1 : decide ((d.safe.length : Int) ≤ k) = false := decide_eq_false h1
          have hs64 : ¬ ((s.length : Int) = 64) := fun hh => hk ⟨by simp [Dv.has]; omega, by omega⟩
          have d2 : ((s.length : Int) == 64) = false := by simp; omega
          clear e
          go_enter Tryz.func38, Tryz.ntmps38
          go_wp2
          go_ret
          exact ⟨rfl, uw, h, Fr.refl _ _, fun b hb => .inl hb⟩
end Go.Proofs.YtnpoohkklfpmdaaGreat
/- DevT -/
namespace Go.Proofs.YtnpoohkklfpmdaaGreat
open Go.RowKit
set_option linter.unusedSimpArgs false
set_option linter.unusedVariables false
set_option linter.unnecessarySimpa false
theorem lastW_all (ws : List (Nat × List UInt8)) (k : Nat) (s : List UInt8) : lastW (ws.take ws.length) k s = lastW ws k s := by rw [List.take_length]
set_option maxHeartbeats 2000000 in
theorem refRead_any (us uw : Value) (p : Nat) (d : Dv) (k : Int) (w : World) (h : R6 w us uw p d) (hd : d.Few) :
    Calls Tryz.prog 30 #[.pointer (some ⟨p, 0, none⟩), .int .i64 k] w fun e w' => e = .returned (.tuple #[.string ⟨(readD d k).1.toArray⟩, .int .i64 (readD d k).2]) ∧ w' = w := by
  have c0 := h.row.c 0 (v := us) rfl
  have c1 := h.row.c 1 (v := uw) rfl
  have c2 := h.row.c 2 (v := .bool d.on) rfl
  cases ho : d.on with
  | false =>
    have e : readD d k = ([], 14) := by unfold readD; rw [ho]; rfl
    rw [e]
    rw [ho] at c2
    clear e
    go_enter Tryz.func30, Tryz.ntmps30
    go_wp2
    go_ret2
    exact ⟨rfl, rfl⟩
  | true =>
    rw [ho] at c2
    have hn2 := hd.safe
    have hw2 := hd.waits
    by_cases hk : d.has k = true
    · obtain ⟨k0, k1⟩ := Dv.has_lt hk
      obtain ⟨S, hS⟩ : ∃ S, S = lastW d.waits k.toNat (d.safe.getD k.toNat []) := ⟨_, rfl⟩
      have e : readD d k = (S, 0) := by unfold readD; rw [ho, if_pos rfl, if_pos hk, hS]
      rw [e]
      obtain ⟨g, cap, rfl, hcap, _, _, cs, _⟩ := own_cell h.safe (svs_at d.safe k.toNat k1)
      obtain ⟨s0, hs0⟩ : ∃ s0, s0 = d.safe.getD k.toNat [] := ⟨_, rfl⟩
      rw [← hs0] at cs hS
      obtain ⟨n, hn⟩ : ∃ n, n = d.safe.length := ⟨_, rfl⟩
      rw [← hn] at c0 hn2 hcap k1
      have kn : ((k.toNat : Nat) : Int) = k := by omega
      obtain ⟨j, hj⟩ : ∃ j, j = k.toNat := ⟨_, rfl⟩
      rw [← hj] at cs hS k1 kn
      subst kn
      have d0 : decide ((j : Int) < 0) = false := decide_eq_false (by omega)
      have d1 : decide ((n : Int) ≤ j) = false := decide_eq_false (by omega)
      have d2 : (j : Int) < n := by omega
      obtain ⟨A2, cp, rfl⟩ := own_form h.waits
      obtain ⟨m, hm⟩ : ∃ m, m = d.waits.length := ⟨_, rfl⟩
      have hw := h.waits
      rw [← hm] at c1 hw hw2
      obtain ⟨ws, hws⟩ : ∃ ws, ws = d.waits := ⟨_, rfl⟩
      rw [← hws] at hw hS hm
      have HS := Lib.hid hS
      have HM := Lib.hid hm
      clear e hk hs0 hn hj hS hm hws
      go_enter Tryz.func30, Tryz.ntmps30
      go_wp2
      go_loop [6, 7] (fun s i => ∃ t : Nat, t ≤ m ∧ i = .int .i64 t ∧ s = .string ⟨(lastW (ws.take t) j s0).toArray⟩) (fun _ i => m - (intOf i).toNat)
      case atStart => exact ⟨0, by omega, rfl, rfl⟩
      case round =>
        obtain ⟨t, ht, rfl, rfl⟩ := hrel
        by_cases hlt : t < m
        · have tl : (t : Int) < m := by omega
          have hmm := HM.out
          obtain ⟨y, hy⟩ : ∃ y, ws[t]? = some y := ⟨ws[t]'(by omega), List.getElem?_eq_getElem _⟩
          obtain ⟨a1, a2⟩ := wrs_at ws t y hy
          obtain ⟨g2, cap2, e2, hc2, _, _, ca, _⟩ := own_cell hw a1
          obtain ⟨g3, cap3, e3, hc3, _, _, cb, _⟩ := own_cell hw a2
          rw [e2] at e3
          obtain ⟨rfl, rfl⟩ : g2 = g3 ∧ cap2 = cap3 := by simpa using e3
          simp only [Value.slice.injEq] at e2
          obtain ⟨rfl, _, rfl⟩ := e2
          have hl := Lib.hid (lastW_take ws j t s0 y hy)
          obtain ⟨yi, ys⟩ := y
          clear e3 a1 a2 hmm
          simp only at ca cb hl
          by_cases hq : yi = j
          · have d3 : ((yi : Int) == (j : Int)) = true := by simp [hq]
            have hl2 := Lib.hid (hl.out.trans (if_pos hq))
            clear hl
            subst hq
            go_wp2
            go_round
            case rel => exact ⟨t + 1, by omega, by go_num, by rw [hl2.out]⟩
            case measure => simp [intOf]; omega
          · have d3 : ((yi : Int) == (j : Int)) = false := by simp; omega
            have hl2 := Lib.hid (hl.out.trans (if_neg hq))
            have hq2 : ¬ ((yi : Int) = (j : Int)) := by omega
            clear hl
            go_wp2
            go_round
            case rel => exact ⟨t + 1, by omega, by go_num, by rw [hl2.out]⟩
            case measure => simp [intOf]; omega
        · have tl : ¬ ((t : Int) < m) := by omega
          have e : ws.take t = ws := List.take_of_length_le (by have := HM.out; omega)
          have hs2 := HS.out
          rw [e]
          rw [← hs2]
          clear e hs2
          go_wp2
          go_ret2
          exact ⟨rfl, rfl⟩
    · have e : readD d k = ([], 1) := by unfold readD; rw [ho, if_pos rfl, if_neg hk]
      rw [e]
      obtain ⟨A, c, rfl⟩ := own_form h.safe
      by_cases h0 : k < 0
      · have d0 : decide (k < 0) = true := decide_eq_true h0
        clear e
        go_enter Tryz.func30, Tryz.ntmps30
        go_wp2
        go_ret2
        exact ⟨rfl, rfl⟩
      · have d0 : decide (k < 0) = false := decide_eq_false h0
        have h1 : (d.safe.length : Int) ≤ k := by
          rcases Int.lt_or_le k d.safe.length with h | h
          · exact absurd (by simp [Dv.has]; omega) hk
          · exact h
        have d1 : decide ((d.safe.length : Int) ≤ k) = true := decide_eq_true h1
        clear e
        go_enter Tryz.func30, Tryz.ntmps30
        go_wp2
        go_ret2
        exact ⟨rfl, rfl⟩
end Go.Proofs.YtnpoohkklfpmdaaGreat
/- DevU -/
namespace Go.Proofs.YtnpoohkklfpmdaaGreat
open Go.RowKit
set_option linter.unusedSimpArgs false
set_option linter.unusedVariables false
set_option linter.unnecessarySimpa false
theorem Fr.store {ex : List Nat} {a b : World} (h : Fr ex a b) {p : Addr} (hp : p.block ∈ ex) (u : Value) : Fr ex a (b.setCell p u) := h.setCell (.inl hp) u
/-- A device while its sectors are laid: its row, its sectors, what waits. -/
structure Lay (W w : World) (us uw : Value) (p : Nat) (d : Dv) (sf : List (List UInt8)) : Prop where
  row : Rw w p (rcs us uw d) 49
  safe : w.ownsRow 0 9 1 us d.safe.length (svs sf)
  waits : w.ownsRow 0 74 2 uw d.waits.length (wrs d.waits)
  fr : Fr (p :: blk us) W w
theorem Lay.drew {W w : World} {us uw : Value} {p : Nat} {d : Dv} {sf : List (List UInt8)} (h : Lay W w us uw p d sf) (n : Nat) : Lay W (w.drewN n) us uw p d sf := ⟨h.row, h.safe, h.waits, h.fr.drewN n⟩
theorem Lay.store {W w : World} {uw : Value} {p g cap : Nat} {d : Dv} {sf : List (List UInt8)} (h : Lay W w (.slice (some ⟨g, 0, none⟩) d.safe.length cap) uw p d sf) (k : Nat) (s : List UInt8) :
    Lay W (w.setCell ⟨g, k, none⟩ (.string ⟨s.toArray⟩)) (.slice (some ⟨g, 0, none⟩) d.safe.length cap) uw p d (sf.set k s) := by
  have o1 := own_off h.safe h.row (by decide)
  have o3 := own_apart h.safe h.waits (by decide) g rfl
  refine ⟨h.row.other (fun e => o1 (by rw [e]; rfl)) _, ?_, ownsRow_setCell_other h.waits o3 _, h.fr.store (p := ⟨g, k, none⟩) (List.mem_cons_of_mem _ (mem_blk.2 rfl)) _⟩
  rw [← svs_set]
  exact (h.safe.stored k _).1
set_option maxHeartbeats 2000000 in
theorem refFlush_any (us uw : Value) (p : Nat) (d : Dv) (w : World) (h : R6 w us uw p d) (hd : d.Few) (hk : d.Ok) :
    Calls Tryz.prog 39 #[.pointer (some ⟨p, 0, none⟩)] w fun e w' => e = .returned (.int .i64 (flushD d).2) ∧ ∃ uw', R6 w' us uw' p (flushD d).1 ∧ Fr (p :: blk us) w w' ∧ (uw' = uw ∨ blk uw' = []) := by
  have c2 := h.row.c 2 (v := .bool d.on) rfl
  cases ho : d.on with
  | false =>
    have e : flushD d = (d, 14) := by unfold flushD; rw [ho]; rfl
    rw [e]
    rw [ho] at c2
    clear e
    go_enter Tryz.func39, Tryz.ntmps39
    go_wp2
    go_ret
    exact ⟨rfl, uw, h, Fr.refl _ _, .inl rfl⟩
  | true =>
    rw [ho] at c2
    obtain ⟨d', er, hst⟩ : ∃ d' er, stepD d = (d', er) := ⟨_, _, rfl⟩
    have hws : d'.waits = d.waits := by have := stepD_waits d; rw [hst] at this; exact this
    have hsf : d'.safe = d.safe := by have := stepD_safe d; rw [hst] at this; exact this
    by_cases her : er = 0
    · have e : flushD d = ({ d' with safe := layW d'.safe d'.waits, waits := [] }, 0) := by unfold flushD; rw [ho, if_pos rfl, hst, hws, hsf]; simp [her]
      rw [e]
      subst her
      clear e
      go_enter Tryz.func39, Tryz.ntmps39
      go_wp2_with fail
      refine (refStep_any us uw p d w h hd.left hd.steps).mono ?_
      rw [hst]
      rintro e w1 ⟨rfl, h1, g1⟩
      have L1 : Lay w w1 us uw p d' d'.safe := ⟨h1.row, h1.safe, h1.waits, g1.more (fun k hk => by rw [List.mem_singleton.1 hk]; exact List.mem_cons_self)⟩
      have hkw : ∀ y ∈ d'.waits, y.1 < d'.safe.length := fun y hy => by rw [hws] at hy; rw [hsf]; exact (hk.waits y hy).1
      have hml : d'.waits.length < 1048576 := by rw [hws]; exact hd.waits
      clear hst c2 hws hsf h1 g1 hk hd h ho
      have HK := Lib.hid hkw
      obtain ⟨A2, cp, rfl⟩ := own_form L1.waits
      obtain ⟨m, hm⟩ : ∃ m, m = d'.waits.length := ⟨_, rfl⟩
      have HM := Lib.hid hm
      rw [← hm] at hml
      clear hkw
      go_wp2
      go_loopw [4] (fun i wr => ∃ t : Nat, t ≤ m ∧ i = .int .i64 t ∧ Lay w wr us (.slice A2 d'.waits.length cp) p d' (layW d'.safe (d'.waits.take t))) (fun i _ => m - (intOf i).toNat)
      case atStart => exact ⟨0, by omega, rfl, L1⟩
      case round =>
        obtain ⟨t, ht, rfl, hL⟩ := hrel
        have c1 := hL.row.c 1 rfl
        have c0 := hL.row.c 0 rfl
        rw [← hm] at c1
        by_cases hlt : t < m
        · have tl : (t : Int) < m := by omega
          obtain ⟨y, hy⟩ : ∃ y, d'.waits[t]? = some y := ⟨d'.waits[t]'(by omega), List.getElem?_eq_getElem _⟩
          obtain ⟨a1, a2⟩ := wrs_at d'.waits t y hy
          obtain ⟨g2, cap2, e2, hc2, _, _, ca, _⟩ := own_cell hL.waits a1
          obtain ⟨g3, cap3, e3, hc3, _, _, cb, _⟩ := own_cell hL.waits a2
          rw [e2] at e3
          obtain ⟨rfl, rfl⟩ : g2 = g3 ∧ cap2 = cap3 := by simpa using e3
          simp only [Value.slice.injEq] at e2
          obtain ⟨rfl, _, rfl⟩ := e2
          have hl := Lib.hid (layW_take d'.safe d'.waits t y hy)
          have hy2 := HK.out y (List.mem_of_getElem? hy)
          have hlen : (layW d'.safe (d'.waits.take t)).length = d'.safe.length := by rw [layW_len]
          obtain ⟨yi, ys⟩ := y
          simp only at ca cb hl hy2
          obtain ⟨gs, caps, e4, hcs, _, _, cc, fc⟩ := own_cell hL.safe (svs_at _ yi (by rw [hlen]; exact hy2))
          subst e4
          obtain ⟨n, hn⟩ : ∃ n, n = d'.safe.length := ⟨_, rfl⟩
          rw [← hn] at c0 hcs hy2
          have hyn : (yi : Int) < n := by omega
          have HN := Lib.hid hn
          clear e3 a1 a2 hlen hn
          go_wp2
          go_region
          all_goals
            go_wp2
            go_roundw
            case rel => exact ⟨t + 1, by omega, by go_num, by rw [hl.out]; exact (hL.store yi ys).drew _⟩
            case measure => simp [intOf]; omega
        · have tl : ¬ ((t : Int) < m) := by omega
          have f1 := hL.row.f 1
          have hmm := HM.out
          have e : d'.waits.take t = d'.waits := List.take_of_length_le (by omega)
          rw [e] at hL
          clear e hmm
          go_wp2
          go_ret
          have o1 := own_off hL.safe hL.row (by decide)
          refine ⟨rfl, .slice none 0 0, ⟨hL.row.set 1 _, ?_, World.ownsRow_nil _ _ _ _⟩, hL.fr.store (p := ⟨p, 1, none⟩) List.mem_cons_self _, .inr rfl⟩
          simp only [layW_len]
          exact ownsRow_setCell_other (a := ⟨p, 1, none⟩) hL.safe o1 _
    · have e : flushD d = (d', er) := by unfold flushD; rw [ho, if_pos rfl, hst]; simp [her]
      rw [e]
      have d0 : (er == 0) = false := by simpa using her
      clear e
      go_enter Tryz.func39, Tryz.ntmps39
      go_wp2_with fail
      refine (refStep_any us uw p d w h hd.left hd.steps).mono ?_
      rw [hst]
      rintro e w1 ⟨rfl, h1, g1⟩
      go_wp2
      go_ret
      exact ⟨rfl, uw, h1, g1.more (fun k hk => by rw [List.mem_singleton.1 hk]; exact List.mem_cons_self), .inl rfl⟩
end Go.Proofs.YtnpoohkklfpmdaaGreat
/- DevV -/
namespace Go.Proofs.YtnpoohkklfpmdaaGreat
open Go.RowKit
set_option linter.unusedSimpArgs false
set_option linter.unusedVariables false
set_option linter.unnecessarySimpa false
/-- A slice of truths, read in w. -/
def BoolsAt (w : World) (a : Option Addr) (n : Nat) (ls : List Bool) : Prop :=
  ls.length = n ∧ (0 < n → ∃ b off, a = some ⟨b, off, none⟩ ∧ b < w.heap.size ∧ ∀ k x, ls[k]? = some x → w.cell? ⟨b, off + k, none⟩ = some (.bool x))
theorem BoolsAt.fr {ex : List Nat} {w w' : World} {a : Option Addr} {n : Nat} {ls : List Bool} (h : BoolsAt w a n ls) (hf : Fr ex w w') (hn : ∀ b off, 0 < n → a = some ⟨b, off, none⟩ → b ∉ ex) : BoolsAt w' a n ls :=
  ⟨h.1, fun h0 => by
    obtain ⟨b, off, e, hlt, hc⟩ := h.2 h0
    exact ⟨b, off, e, Nat.lt_of_lt_of_le hlt hf.size, fun k x hk => (hf.cell (p := ⟨b, off + k, none⟩) hlt (hn b off h0 e)).trans (hc k x hk)⟩⟩
theorem Lay.below {W w w' : World} {us uw : Value} {p : Nat} {d : Dv} {sf : List (List UInt8)} (h : Lay W w us uw p d sf) (hb : Below w.heap.size w w') : Lay W w' us uw p d sf :=
  ⟨h.row.below hb, own_below h.safe hb, own_below h.waits hb, h.fr.then_below (hb.mono h.fr.size)⟩
theorem Lay.drew1 {W w : World} {us uw : Value} {p : Nat} {d : Dv} {sf : List (List UInt8)} (h : Lay W w us uw p d sf) : Lay W w.drew us uw p d sf := ⟨h.row, h.safe, h.waits, h.fr.drew⟩
set_option maxHeartbeats 2000000 in
theorem refCrash_any (us uw : Value) (p : Nat) (d : Dv) (a : Option Addr) (kn kc : Nat) (keep : List Bool) (torn cut : Int) (w : World) (h : R6 w us uw p d) (hd : d.Few) (hk : d.Ok) (hb : BoolsAt w a kn keep) (hkc : kn ≤ kc) (hkm : (kn : Int) ≤ 9223372036854775807) (hoff : ∀ b off, 0 < kn → a = some ⟨b, off, none⟩ → b ∉ p :: blk us) :
    Calls Tryz.prog 12 #[.pointer (some ⟨p, 0, none⟩), .slice a kn kc, .int .i64 torn, .int .i64 cut] w fun e w' => e = .returned (.tuple #[]) ∧ R6 w' us (.slice none 0 0) p (crashD d keep torn cut) ∧ Fr (p :: blk us) w w' := by
  obtain ⟨c, hc⟩ : ∃ c, c = cutD cut := ⟨_, rfl⟩
  have hc64 : c ≤ 64 := by rw [hc]; exact cutD_le cut
  have eC : crashD d keep torn cut = { d with safe := keepW keep torn c 0 d.waits d.safe, waits := [], on := true, armed := false } := by rw [hc]; rfl
  rw [eC]
  have L0 : Lay w w us uw p d d.safe := ⟨h.row, h.safe, h.waits, Fr.refl _ _⟩
  obtain ⟨A2, cp, rfl⟩ := own_form h.waits
  have hml := hd.waits
  have hsm := hd.safe
  have HK := Lib.hid hk
  obtain ⟨m, hm⟩ : ∃ m, m = d.waits.length := ⟨_, rfl⟩
  have HM := Lib.hid hm
  rw [← hm] at hml
  obtain ⟨c1, hc1⟩ : ∃ c1 : Int, c1 = if cut < 0 then 0 else cut := ⟨_, rfl⟩
  have hcc : (c : Int) = if 64 < c1 then 64 else c1 := by rw [hc, hc1]; unfold cutD; split <;> (try split) <;> (try split) <;> omega
  have HC1 := Lib.hid hc1
  have HCC := Lib.hid hcc
  clear eC hc hd hk h hc1 hcc
  go_enter Tryz.func12, Tryz.ntmps12
  refine wp_seq_k (fun K hK => ?_)
  go_cut [3] (fun v w' => v = .int .i64 c1 ∧ w = w')
  case first =>
    have e := HC1.out
    by_cases q : cut < 0
    · rw [if_pos q] at e
      subst e
      have dq : decide (cut < 0) = true := decide_eq_true q
      go_wp2_with fail
      go_meet
      case rel => exact ⟨rfl, rfl⟩
    · rw [if_neg q] at e
      have dq : decide (cut < 0) = false := decide_eq_false q
      have E := Lib.hid e
      clear e
      go_wp2_with fail
      go_meet
      case rel => exact ⟨by rw [E.out], rfl⟩
  case rest =>
    obtain ⟨rfl, rfl⟩ := hcut
    apply hK
    clear hK
    refine wp_seq_k (fun K hK => ?_)
    go_cut [3] (fun v w' => v = .int .i64 (c : Nat) ∧ w = w')
    case first =>
      have e := HCC.out
      by_cases q : 64 < c1
      · rw [if_pos q] at e
        have dq : decide (64 < c1) = true := decide_eq_true q
        go_wp2_with fail
        go_meet
        case rel => exact ⟨by rw [e], rfl⟩
      · rw [if_neg q] at e
        have dq : decide (64 < c1) = false := decide_eq_false q
        go_wp2_with fail
        go_meet
        case rel => exact ⟨by rw [e], rfl⟩
    case rest =>
      obtain ⟨rfl, rfl⟩ := hcut
      apply hK
      clear hK HC1 HCC
      go_wp2
      go_loopw [8, 9, 10] (fun i _ _ wr => ∃ t : Nat, t ≤ m ∧ i = .int .i64 t ∧ Lay w wr us (.slice A2 d.waits.length cp) p d (keepW keep torn c 0 (d.waits.take t) d.safe)) (fun i _ _ _ => m - (intOf i).toNat)
      case atStart => exact ⟨0, by omega, rfl, L0⟩
      case round =>
        obtain ⟨t, ht, rfl, hL⟩ := hrel
        have r1 := hL.row.c 1 rfl
        have r0 := hL.row.c 0 rfl
        rw [← hm] at r1
        by_cases hlt : t < m
        · have tl : (t : Int) < m := by omega
          obtain ⟨y, hy⟩ : ∃ y, d.waits[t]? = some y := ⟨d.waits[t]'(by omega), List.getElem?_eq_getElem _⟩
          have hl := Lib.hid (keepW_take keep torn c d.waits 0 t d.safe y hy)
          have hbt := hb.fr hL.fr hoff
          by_cases hkt : keep.getD t false = true
          · have hq : t < kn := by
              rcases Nat.lt_or_ge t kn with h | h
              · exact h
              · rw [List.getD_eq_getElem?_getD, List.getElem?_eq_none (by rw [hb.1]; exact h)] at hkt; simp at hkt
            have d3 : decide ((kn : Int) ≤ t) = false := decide_eq_false (by omega)
            obtain ⟨x, hx⟩ : ∃ x, keep[t]? = some x := ⟨keep[t]'(by rw [hb.1]; exact hq), List.getElem?_eq_getElem _⟩
            have hxt : x = true := by
              rw [List.getD_eq_getElem?_getD, hx] at hkt; simpa using hkt
            obtain ⟨bb, off, ea, _, hcb⟩ := hbt.2 (by omega)
            have cb := hcb t x hx
            rw [hxt] at cb
            subst ea
            have tk : (t : Int) < kn := by omega
            have hl2 : keepW keep torn c 0 (d.waits.take (t + 1)) d.safe = (keepW keep torn c 0 (d.waits.take t) d.safe).set y.1 (if (t : Int) = torn then y.2.take c ++ ((keepW keep torn c 0 (d.waits.take t) d.safe).getD y.1 []).drop c else y.2) := by
              rw [hl.out, keep1, Nat.zero_add, if_pos (by simpa using hkt)]
            have HL2 := Lib.hid hl2
            obtain ⟨sf, hsf⟩ : ∃ sf, sf = keepW keep torn c 0 (d.waits.take t) d.safe := ⟨_, rfl⟩
            have hsl : sf.length = d.safe.length ∧ ∀ z ∈ sf, z.length = 64 := by
              rw [hsf]
              exact keepW_all hc64 _ 0 _ (fun z hz => HK.out.waits z (List.mem_of_mem_take hz)) HK.out.safe
            rw [← hsf] at HL2 hL
            have hy2 := HK.out.waits y (List.mem_of_getElem? hy)
            obtain ⟨a1, a2⟩ := wrs_at d.waits t y hy
            obtain ⟨g2, cap2, e2, hc2, _, _, ca, _⟩ := own_cell hL.waits a1
            obtain ⟨g3, cap3, e3, hc3, _, _, cbb, _⟩ := own_cell hL.waits a2
            rw [e2] at e3
            obtain ⟨rfl, rfl⟩ : g2 = g3 ∧ cap2 = cap3 := by simpa using e3
            simp only [Value.slice.injEq] at e2
            obtain ⟨rfl, _, rfl⟩ := e2
            obtain ⟨gs, caps, e4, hcs, _, ltg, cc, fc⟩ := own_cell hL.safe (svs_at sf y.1 (by rw [hsl.1]; exact hy2.1))
            subst e4
            obtain ⟨yi, ys⟩ := y
            simp only at ca cbb HL2 hy2 cc fc
            obtain ⟨yn, yl⟩ := hy2
            have S64 := Lib.hid (show (sf.getD yi []).length = 64 from by
              have hlt : yi < sf.length := by rw [hsl.1]; exact yn
              rw [List.getD_eq_getElem?_getD, List.getElem?_eq_getElem hlt]; exact hsl.2 _ (List.getElem_mem _))
            obtain ⟨n, hn⟩ : ∃ n, n = d.safe.length := ⟨_, rfl⟩
            rw [← hn] at r0 hcs yn
            have hyn : (yi : Int) < n := by omega
            have HN := Lib.hid hn
            clear hl2 hcb hx hxt hkt hl hsf e3 a1 a2 hsl
            go_upto_region 9 with (fail)
            obtain ⟨w2, hw2⟩ : ∃ w2, w2 = wr.alloc (Obj.cells #[Value.int IntKind.i64 (yi : Nat), Value.string ⟨ys.toArray⟩] 74) := ⟨_, rfl⟩
            have bw2 : Below wr.heap.size wr w2 := by rw [hw2]; exact (Below.refl _ _).alloc (Nat.le_refl _) _
            have rq : Rw w2 wr.heap.size [Value.int IntKind.i64 (yi : Nat), Value.string ⟨ys.toArray⟩] 74 := by rw [hw2]; exact Rw.new wr _ _
            rw [← hw2]
            have hL2 := hL.below bw2
            have cc2 := (bw2.cell (p := ⟨gs, yi, none⟩) ltg).trans cc
            have fc2 : w2.frozen? ⟨gs, yi, none⟩ = false := (World.frozen?_of_block (bw2.block gs ltg)).trans fc
            have r02 := hL2.row.c 0 rfl
            rw [← hn] at r02
            have q0 := rq.c 0 rfl
            have q1 := rq.c 1 rfl
            generalize hqs : wr.heap.size = q at *
            obtain ⟨s0, hs0⟩ : ∃ s0, s0 = sf.getD yi [] := ⟨_, rfl⟩
            rw [← hs0] at S64 HL2 cc2
            have s64 := S64.out
            have s64I : (s0.length : Int) = 64 := by omega
            have ys64I : (ys.length : Int) = 64 := by omega
            have cI : (c : Int) ≤ 64 := by omega
            clear hw2 rq bw2 hL cc fc ca cbb r0 r1 cb hb hbt hqs hs0 S64 hn
            by_cases hto : (t : Int) = torn
            · subst hto
              have HL3 := Lib.hid (HL2.out.trans (by rw [if_pos rfl]))
              clear HL2 s64 yl
              go_wp2
              go_region
              rw [show (ByteArray.mk ys.toArray).extract 0 c ++ (ByteArray.mk s0.toArray).extract c s0.length = ⟨(ys.take c ++ s0.drop c).toArray⟩ from by rw [ext_list, ext_list, app_list]; simp]
              generalize ys.take c ++ s0.drop c = sx at *
              go_wp2
              go_region
              all_goals
                go_wp2
                go_roundw
                case rel => exact ⟨t + 1, by omega, by go_num, by rw [HL3.out]; exact (hL2.store yi sx).drew1.drew1⟩
                case measure => simp [intOf]; omega
            · have hto2 : ((t : Int) == torn) = false := by simpa using hto
              have HL3 := Lib.hid (HL2.out.trans (by rw [if_neg hto]))
              clear HL2
              go_wp2
              go_region
              all_goals
                go_wp2
                go_roundw
                case rel => exact ⟨t + 1, by omega, by go_num, by rw [HL3.out]; exact (hL2.store yi ys).drew _⟩
                case measure => simp [intOf]; omega
          · have hl2 : keepW keep torn c 0 (d.waits.take (t + 1)) d.safe = keepW keep torn c 0 (d.waits.take t) d.safe := by
              rw [hl.out, keep1, if_neg (by simpa using hkt)]
            have HL2 := Lib.hid hl2
            clear hl2
            by_cases hq : t < kn
            · have d3 : decide ((kn : Int) ≤ t) = false := decide_eq_false (by omega)
              obtain ⟨x, hx⟩ : ∃ x, keep[t]? = some x := ⟨keep[t]'(by rw [hb.1]; exact hq), List.getElem?_eq_getElem _⟩
              have hxf : x = false := by
                rw [List.getD_eq_getElem?_getD, hx] at hkt; simpa using hkt
              obtain ⟨bb, off, ea, _, hcb⟩ := hbt.2 (by omega)
              have cb := hcb t x hx
              rw [hxf] at cb
              subst ea
              have tk : (t : Int) < kn := by omega
              clear hcb hx hxf hkt hl
              go_wp2
              go_roundw
              case rel => exact ⟨t + 1, by omega, by go_num, by rw [HL2.out]; exact hL⟩
              case measure => simp [intOf]; omega
            · have d3 : decide ((kn : Int) ≤ t) = true := decide_eq_true (by omega)
              clear hkt hl
              go_wp2
              go_roundw
              case rel => exact ⟨t + 1, by omega, by go_num, by rw [HL2.out]; exact hL⟩
              case measure => simp [intOf]; omega
        · have tl : ¬ ((t : Int) < m) := by omega
          have f1 := hL.row.f 1
          have f2 := hL.row.f 2
          have f3 := hL.row.f 3
          have r2 := hL.row.c 2 rfl
          have r3 := hL.row.c 3 rfl
          have hmm := HM.out
          have e : d.waits.take t = d.waits := List.take_of_length_le (by omega)
          rw [e] at hL
          clear e hmm
          go_wp2
          go_end0
          have o1 := own_off hL.safe hL.row (by decide)
          have hf := ((hL.fr.store (p := ⟨p, 1, none⟩) List.mem_cons_self (.slice none 0 0)).store (p := ⟨p, 2, none⟩) List.mem_cons_self (.bool true)).store (p := ⟨p, 3, none⟩) List.mem_cons_self (.bool false)
          refine ⟨rfl, ⟨((hL.row.set 1 _).set 2 _).set 3 _, ?_, World.ownsRow_nil _ _ _ _⟩, hf⟩
          have hlen := (keepW_all (keep := keep) (torn := torn) hc64 d.waits 0 d.safe HK.out.waits HK.out.safe).1
          simp only [hlen]
          exact ownsRow_setCell_other (a := ⟨p, 3, none⟩) (ownsRow_setCell_other (a := ⟨p, 2, none⟩) (ownsRow_setCell_other (a := ⟨p, 1, none⟩) hL.safe o1 _) o1 _) o1 _
end Go.Proofs.YtnpoohkklfpmdaaGreat
/- DevW -/
namespace Go.Proofs.YtnpoohkklfpmdaaGreat
open Go.RowKit
set_option linter.unusedSimpArgs false
set_option linter.unusedVariables false
set_option linter.unnecessarySimpa false
theorem info8d : (Tryz.prog.info? 5).map (fun i => (i.zero, i.size, i.bytes)) = some (some (.int .u8 0), 1, 1) := by kernel_rfl
theorem madeRep (n : Nat) : madeCells #[Value.int .u8 0] n = (bcells (List.replicate n 0)).toArray := by
  apply Array.toList_inj.1
  rw [toList_madeCells_one]
  simp [bcells]
/-- 'string(b)' of a row of bytes. -/
theorem strRow {P : Program} (w : World) (src dst e : TypeId) (b n c : Nat) (l : List UInt8) (t : TypeId) (fr : Nat × Nat)
    (hs : P.underlying src = some (.slice e)) (he : P.underlying e = some (.int .u8)) (hd : P.underlying dst = some .string)
    (hb : w.heap[b]? = some (.cells (bcells l).toArray t fr)) (hn : n = l.length) :
    (convert src dst (.slice (some ⟨b, 0, none⟩) n c)).run P w = .ok (.string ⟨l.toArray⟩) w :=
  run_b2s_tail (j := 0) (z := .int .u8 0) w src dst e b n c l t fr hs he hd (by simpa using hb) hn
/-- A device being made. -/
structure Mk6 (W w : World) (u : Value) (p t : Nat) : Prop where
  row : Rw w p [u, .slice none 0 0, .bool true, .bool false, .int .i64 0, .int .i64 0] 49
  safe : w.ownsRow W.heap.size 9 1 u t (svs (List.replicate t zsec))
  bel : Below W.heap.size W w
  le : W.heap.size ≤ p
theorem svs_rep (t : Nat) : svs (List.replicate t zsec) ++ [.string ⟨zsec.toArray⟩] = svs (List.replicate (t + 1) zsec) := by rw [svs_snoc, List.replicate_succ']
theorem own_down {w : World} {base base' size n : Nat} {e : TypeId} {v : Value} {xs : List Value} (h : w.ownsRow base e size v n xs) (hb : base' ≤ base) : w.ownsRow base' e size v n xs := by
  refine ⟨h.1, ?_⟩
  rcases h.2 with h2 | ⟨g, cap, cur, hv, hg, r⟩
  · exact Or.inl h2
  · exact Or.inr ⟨g, cap, cur, hv, by omega, r⟩
theorem refNewNo_any (z : Int) (w : World) (hz : z < 1 ∨ 4096 < z) :
    Calls Tryz.prog 6 #[.int .i64 z] w fun e w' => e = .returned (.pointer none) ∧ w = w' := by
  by_cases h1 : z < 1
  · have d0 : decide (z < 1) = true := decide_eq_true h1
    go_enter Tryz.func6, Tryz.ntmps6
    go_wp2
    go_ret
    exact ⟨rfl, rfl⟩
  · have d0 : decide (z < 1) = false := decide_eq_false h1
    have d1 : decide (4096 < z) = true := decide_eq_true (by omega)
    go_enter Tryz.func6, Tryz.ntmps6
    go_wp2
    go_ret
    exact ⟨rfl, rfl⟩
set_option maxHeartbeats 2000000 in
theorem refNew_any (n : Nat) (w : World) (h1 : 1 ≤ n) (h2 : n ≤ 4096) :
    Calls Tryz.prog 6 #[.int .i64 (n : Nat)] w fun e w' => (∃ p us, e = .returned (.pointer (some ⟨p, 0, none⟩)) ∧ R6 w' us (.slice none 0 0) p (newD n) ∧ w.heap.size ≤ p ∧ ∀ b ∈ blk us, w.heap.size ≤ b) ∧ Below w.heap.size w w' := by
  have d0 : decide ((n : Int) < 1) = false := decide_eq_false (by omega)
  have d1 : decide (4096 < (n : Int)) = false := decide_eq_false (by omega)
  obtain ⟨i0, hi, hz0, hz1, hz2⟩ := info_parts infoStr
  go_enter Tryz.func6, Tryz.ntmps6
  go_upto_region 4 with (fail)
  generalize hwa : World.alloc _ _ = wa
  have m0 : Mk6 w wa (.slice none 0 0) w.heap.size 0 := ⟨by rw [← hwa]; exact Rw.new w _ _, World.ownsRow_nil _ _ _ _, by rw [← hwa]; exact (Below.refl _ _).alloc (Nat.le_refl _) _, Nat.le_refl _⟩
  obtain ⟨p, hp⟩ : ∃ p, p = w.heap.size := ⟨_, rfl⟩
  rw [← hp] at m0
  rw [← hp]
  clear hwa hp
  go_wp2
  go_loopw [4] (fun i wr => ∃ (t : Nat) (u : Value), t ≤ n ∧ i = .int .i64 t ∧ Mk6 w wr u p t) (fun i _ => n - (intOf i).toNat)
  case atStart => exact ⟨0, _, by omega, rfl, m0⟩
  case round =>
    obtain ⟨t, u, ht, rfl, hM⟩ := hrel
    have c0 := hM.row.c 0 rfl
    by_cases hlt : t < n
    · have tl : (t : Int) < n := by omega
      have hmk : ∀ w : World, (Instr.makeSlice 43 (.int .i64 64) (.int .i64 64)).run Tryz.prog w = .ok (.slice (some ⟨w.heap.size, 0, none⟩) 64 64) (w.alloc (.cells (madeCells #[Value.int .u8 0] 64) 5)) := fun w => run_make_row' (P := Tryz.prog) 43 5 (.int .u8 0) 1 Tryz.underlying43 info8d rfl .i64 .i64 64 (by omega) (by omega) w
      have hcv := strRow ((wr.alloc (.cells (madeCells #[Value.int .u8 0] 64) 5)).drew) 43 9 5 wr.heap.size 64 64 zsec 5 (0, 0) Tryz.underlying43 Tryz.underlying5 Tryz.underlying9 (by rw [madeRep]; exact heap_alloc_new wr _) rfl
      obtain ⟨O, hO⟩ : ∃ O, O = Obj.cells (madeCells #[Value.int .u8 0] 64) 5 := ⟨_, rfl⟩
      rw [← hO] at hcv
      simp only [← hO] at hmk
      obtain ⟨zs, hzs⟩ : ∃ zs, zs = zsec := ⟨_, rfl⟩
      rw [← hzs] at hcv
      have hown := hM.safe
      have ho1 := own_off hM.safe hM.row (by decide)
      have hrow := hM.row
      have hlt1 := hrow.lt
      have hx := Lib.hid (show svs (List.replicate t zsec) ++ [.string ⟨zs.toArray⟩] = svs (List.replicate (t + 1) zsec) from by rw [hzs]; exact svs_rep t)
      have HM := Lib.hid hM
      clear hO hzs hM d0 d1 h1
      go_wp2
      go_region_law (refine step_append_lies _ (by rfl) _ _ _ (by rfl) w.heap.size 9 i0 _ 1 16 Tryz.underlying29 hi hz0 hz1 hz2 rfl (by omega) u t (svs (List.replicate t zsec)) (by rfl) ((hown.alloc O).alloc _) ⟨wr.heap.size + 1, 0, none⟩ 1 1 [.string ⟨zs.toArray⟩] (by rfl) (by rfl) (World.news_of_block (cs := #[.string ⟨zs.toArray⟩]) (t := 9) (fr := (0, 0)) (heap_new_at (by simp))) (by simp [Value.oneCell']) (by omega) (by unfold maxLen; omega) (by omega) (by simp; have := HM.out.bel.size; omega) (wr.heap.size + 2) (by simp) ?_; intro gg cap w4 hown4 hgrow hat hlt4; have r4 : Rw w4 p _ _ := ((hrow.alloc O).alloc _).keep (hgrow.block p (by simp; omega) (fun e => ho1 e.symm)); have c4 := r4.c 0 rfl; have f4 := r4.f 0)
      all_goals
        go_wp2
        go_roundw
        case rel =>
          have hM := HM.out
          have ba : Below w.heap.size wr ((wr.alloc O).alloc (.cells #[.string ⟨zs.toArray⟩] 9)).drew := (((Below.refl _ _).alloc hM.bel.size _).alloc (by have := hM.bel.size; simp; omega) _).drew
          have b4 : Below w.heap.size w w4 := (hM.bel.trans ba).grown hgrow (by have := hM.bel.size; simp; omega) (own_block_ge hown)
          exact ⟨t + 1, _, by omega, by go_num, r4.set 0 _, by rw [← hx.out]; exact ownsRow_setCell_other (a := ⟨p, 0, none⟩) hown4 (own_off hown4 r4 (by decide)) _, b4.setCell hM.le _, hM.le⟩
        case measure => simp [intOf]; omega
    · have tl : ¬ ((t : Int) < n) := by omega
      obtain rfl : t = n := by omega
      have HM := Lib.hid hM
      clear hM
      go_wp2
      go_ret
      have hM := HM.out
      refine ⟨⟨p, rfl, u, ⟨hM.row, ?_, World.ownsRow_nil _ _ _ _⟩, hM.le, fun b hb => own_block_ge hM.safe b (mem_blk.1 hb)⟩, hM.bel⟩
      simp only [newD, List.length_replicate]
      exact own_down hM.safe (Nat.zero_le _)
end Go.Proofs.YtnpoohkklfpmdaaGreat
/- DevX -/
namespace Go.Proofs.YtnpoohkklfpmdaaGreat
open Go.RowKit
set_option linter.unusedSimpArgs false
set_option linter.unusedVariables false
set_option linter.unnecessarySimpa false
/-- What waits, in a slice: from block B on, or below it, wherever. -/
def WritAt (w : World) (a : Option Addr) (n : Nat) (ws : List (Nat × List UInt8)) : Prop :=
  ws.length = n ∧ (0 < n → ∃ b off, a = some ⟨b, off, none⟩ ∧ b < w.heap.size ∧ ∀ k y, ws[k]? = some y → w.cell? ⟨b, off + k * 2, none⟩ = some (.int .i64 (y.1 : Nat)) ∧ w.cell? ⟨b, off + k * 2 + 1, none⟩ = some (.string ⟨y.2.toArray⟩))
theorem WritAt.own {w : World} {base n cp : Nat} {A : Option Addr} {ws : List (Nat × List UInt8)} (hn : ws.length = n) (h : w.ownsRow base 74 2 (.slice A n cp) n (wrs ws)) : WritAt w A n ws := by
  refine ⟨hn, fun h0 => ?_⟩
  obtain ⟨g, cap, e, _, hlt⟩ := h.form h0
  simp only [Value.slice.injEq] at e
  obtain ⟨rfl, _, rfl⟩ := e
  refine ⟨g, 0, rfl, hlt, fun k y hy => ?_⟩
  obtain ⟨a1, a2⟩ := wrs_at ws k y hy
  obtain ⟨g1, c1, e1, _, _, _, h1, _⟩ := own_cell h a1
  obtain ⟨g2, c2, e2, _, _, _, h2, _⟩ := own_cell h a2
  simp only [Value.slice.injEq, Option.some.injEq, Addr.mk.injEq, and_true, true_and] at e1 e2
  rw [← e1.1] at h1
  rw [← e2.1] at h2
  rw [Nat.zero_add]
  exact ⟨h1, h2⟩
theorem WritAt.fr {ex : List Nat} {w w' : World} {a : Option Addr} {n : Nat} {ws : List (Nat × List UInt8)} (h : WritAt w a n ws) (hf : Fr ex w w') (hn : ∀ b off, a = some ⟨b, off, none⟩ → b ∉ ex) : WritAt w' a n ws :=
  ⟨h.1, fun h0 => by
    obtain ⟨b, off, e, hlt, hc⟩ := h.2 h0
    refine ⟨b, off, e, Nat.lt_of_lt_of_le hlt hf.size, fun k y hk => ?_⟩
    obtain ⟨h1, h2⟩ := hc k y hk
    exact ⟨(hf.cell (p := ⟨b, off + k * 2, none⟩) hlt (hn b off e)).trans h1, (hf.cell (p := ⟨b, off + k * 2 + 1, none⟩) hlt (hn b off e)).trans h2⟩⟩
theorem take_ne {α : Type} {xs ys : List α} {k : Nat} {x y : α} (h : xs.take k = ys.take k) (hx : xs[k]? = some x) (hy : ys[k]? = some y) (he : x = y) : xs.take (k + 1) = ys.take (k + 1) := by
  rw [List.take_add_one, List.take_add_one, h, hx, hy, he]
set_option maxHeartbeats 1000000 in
theorem refSame6_any (a b : Option Addr) (n cn m cm : Nat) (xs ys : List (Nat × List UInt8)) (w : World) (hx : WritAt w a n xs) (hy : WritAt w b m ys) (hnc : n ≤ cn) (hmc : m ≤ cm) (hn : n ≤ 1048576) :
    Calls Tryz.prog 17 #[.slice a n cn, .slice b m cm] w fun e w' => e = .returned (.bool (decide (xs = ys))) ∧ ∃ k, w' = w.drewN k := by
  by_cases hl : n = m
  · subst hl
    obtain ⟨r, hr⟩ : ∃ r, r = decide (xs = ys) := ⟨_, rfl⟩
    have HR := Lib.hid hr
    rw [← hr]
    have d0 : ((n : Int) == (n : Int)) = true := by simp
    have nI : (n : Int) ≤ 1048576 := by omega
    clear hr
    go_enter Tryz.func17, Tryz.ntmps17
    go_wp2
    go_loopw [5] (fun i wr => ∃ t : Nat, t ≤ n ∧ i = .int .i64 t ∧ xs.take t = ys.take t ∧ ∃ k, wr = w.drewN k) (fun i _ => n - (intOf i).toNat)
    case atStart => exact ⟨0, by omega, rfl, rfl, 0, rfl⟩
    case round =>
      obtain ⟨t, ht, rfl, htk, kk, rfl⟩ := hrel
      by_cases hlt : t < n
      · have tl : (t : Int) < n := by omega
        obtain ⟨x, ex⟩ : ∃ x, xs[t]? = some x := ⟨xs[t]'(by rw [hx.1]; exact hlt), List.getElem?_eq_getElem _⟩
        obtain ⟨y, ey⟩ : ∃ y, ys[t]? = some y := ⟨ys[t]'(by rw [hy.1]; exact hlt), List.getElem?_eq_getElem _⟩
        obtain ⟨b1, o1, rfl, _, hc1⟩ := hx.2 (by omega)
        obtain ⟨b2, o2, rfl, _, hc2⟩ := hy.2 (by omega)
        obtain ⟨p1, p2⟩ := hc1 t x ex
        obtain ⟨q1, q2⟩ := hc2 t y ey
        obtain ⟨x1, x2⟩ := x
        obtain ⟨y1, y2⟩ := y
        simp only at p1 p2 q1 q2
        by_cases hxy : (x1, x2) = (y1, y2)
        · obtain ⟨rfl, rfl⟩ := Prod.mk.inj hxy
          have hk2 := Lib.hid (take_ne htk ex ey rfl)
          clear ex ey hxy htk hc1 hc2
          go_wp2
          go_region
          all_goals
            go_wp2
            go_roundw
            case rel => exact ⟨t + 1, by omega, by go_num, hk2.out, kk + 1, rfl⟩
            case measure => simp [intOf]; omega
        · have hne : ¬ xs = ys := fun e => hxy (by rw [e, ey] at ex; exact (Option.some.inj ex).symm)
          have hrf : r = false := by rw [HR.out]; exact decide_eq_false hne
          subst hrf
          clear ex ey htk hc1 hc2 hne
          by_cases h1 : x1 = y1
          · subst h1
            have h2 : ¬ (x2 = y2) := fun e => hxy (by rw [e])
            have h3 : ¬ (ByteArray.mk x2.toArray = ByteArray.mk y2.toArray) := fun e => h2 (by simpa using e)
            clear hxy
            go_wp2
            go_region
            all_goals
              go_wp2
              go_ret
              exact ⟨rfl, kk + 1, rfl⟩
          · have h2 : ¬ ((x1 : Int) = y1) := by omega
            clear hxy h1
            go_wp2
            go_region
            all_goals
              go_wp2
              go_ret
              exact ⟨rfl, kk + 1, rfl⟩
      · have tl : ¬ ((t : Int) < n) := by omega
        have hrt : r = true := by
          rw [HR.out]
          refine decide_eq_true ?_
          have h1 : xs.take t = xs := List.take_of_length_le (by rw [hx.1]; omega)
          have h2 : ys.take t = ys := List.take_of_length_le (by rw [hy.1]; omega)
          rw [← h1, ← h2, htk]
        subst hrt
        clear htk
        go_wp2
        go_ret
        exact ⟨rfl, kk, rfl⟩
  · have hne : ¬ xs = ys := fun e => hl (by rw [← hx.1, ← hy.1, e])
    rw [show decide (xs = ys) = false from decide_eq_false hne]
    have d0 : ((n : Int) == (m : Int)) = false := by simp; omega
    have hl2 : ¬ ((n : Int) = (m : Int)) := by omega
    clear hne hl
    go_enter Tryz.func17, Tryz.ntmps17
    go_wp2
    go_ret
    exact ⟨rfl, 0, rfl⟩
end Go.Proofs.YtnpoohkklfpmdaaGreat
/- DevB -/
namespace Go.Proofs.YtnpoohkklfpmdaaGreat
open Go.RowKit
set_option linter.unusedSimpArgs false
set_option linter.unusedVariables false
set_option linter.unnecessarySimpa false
/-- From w to w' only the blocks ex have turned; what is the device's now was so, or is new. -/
def Mv (ex : List Nat) (w : World) (ex' : List Nat) (w' : World) : Prop := Fr ex w w' ∧ ∀ b ∈ ex', b ∈ ex ∨ w.heap.size ≤ b
/-- What the program's device must keep to (but for On and Steps). -/
structure Iface0 (PD : World → List Nat → Nat → Dv → Prop) : Prop where
  keep : ∀ {w w' : World} {ex : List Nat} {p : Nat} {d : Dv}, PD w ex p d → (∀ b ∈ ex, w'.heap[b]? = w.heap[b]?) → PD w' ex p d
  lt : ∀ {w : World} {ex : List Nat} {p : Nat} {d : Dv}, PD w ex p d → ∀ b ∈ ex, b < w.heap.size
  new0 : ∀ (z : Int) (w : World), (z < 1 ∨ 4096 < z) → Calls Tryz.prog 5 #[.int .i64 z] w fun e w' => e = .returned (.pointer none) ∧ Below w.heap.size w w'
  new : ∀ (n : Nat) (w : World), 1 ≤ n → n ≤ 4096 → Calls Tryz.prog 5 #[.int .i64 (n : Nat)] w fun e w' => (∃ p, e = .returned (.pointer (some ⟨p, 0, none⟩)) ∧ ∃ ex, PD w' ex p (newD n) ∧ ∀ b ∈ ex, w.heap.size ≤ b) ∧ Below w.heap.size w w'
  read : ∀ {ex : List Nat} {p : Nat} {d : Dv} (k : Int) (w : World), PD w ex p d → d.Few → d.Ok → Calls Tryz.prog 45 #[.pointer (some ⟨p, 0, none⟩), .int .i64 k] w fun e w' => e = .returned (.tuple #[.string ⟨(readD d k).1.toArray⟩, .int .i64 (readD d k).2]) ∧ Below w.heap.size w w'
  write : ∀ {ex : List Nat} {p : Nat} {d : Dv} (k : Int) (s : List UInt8) (w : World), PD w ex p d → d.Few → d.Ok → (s.length : Int) ≤ 9223372036854775807 → Calls Tryz.prog 74 #[.pointer (some ⟨p, 0, none⟩), .int .i64 k, .string ⟨s.toArray⟩] w fun e w' => e = .returned (.int .i64 (writeD d k s).2) ∧ ∃ ex', PD w' ex' p (writeD d k s).1 ∧ Mv ex w ex' w'
  flush : ∀ {ex : List Nat} {p : Nat} {d : Dv} (w : World), PD w ex p d → d.Few → d.Ok → Calls Tryz.prog 75 #[.pointer (some ⟨p, 0, none⟩)] w fun e w' => e = .returned (.int .i64 (flushD d).2) ∧ ∃ ex', PD w' ex' p (flushD d).1 ∧ Mv ex w ex' w'
  arm : ∀ {ex : List Nat} {p : Nat} {d : Dv} (n : Int) (w : World), PD w ex p d → Calls Tryz.prog 9 #[.pointer (some ⟨p, 0, none⟩), .int .i64 n] w fun e w' => e = .returned (.tuple #[]) ∧ ∃ ex', PD w' ex' p (armD d n) ∧ Mv ex w ex' w'
  crash : ∀ {ex : List Nat} {p : Nat} {d : Dv} (a : Option Addr) (kn kc : Nat) (keep : List Bool) (torn cut : Int) (w : World), PD w ex p d → d.Few → d.Ok → 0 < d.safe.length → BoolsAt w a kn keep → kn ≤ kc → (kn : Int) ≤ 9223372036854775807 → (∀ b off, 0 < kn → a = some ⟨b, off, none⟩ → b ∉ ex) →
    Calls Tryz.prog 11 #[.pointer (some ⟨p, 0, none⟩), .slice a kn kc, .int .i64 torn, .int .i64 cut] w fun e w' => e = .returned (.tuple #[]) ∧ ∃ ex', PD w' ex' p (crashD d keep torn cut) ∧ Mv ex w ex' w'
  sectors : ∀ {ex : List Nat} {p : Nat} {d : Dv} (w : World), PD w ex p d → Calls Tryz.prog 25 #[.pointer (some ⟨p, 0, none⟩)] w fun e w' => e = .returned (.int .i64 (d.safe.length : Nat)) ∧ w = w'
  waiting : ∀ {ex : List Nat} {p : Nat} {d : Dv} (w : World), PD w ex p d → d.Few → Calls Tryz.prog 18 #[.pointer (some ⟨p, 0, none⟩)] w fun e w' => (∃ a c, e = .returned (.slice a d.waits.length c) ∧ d.waits.length ≤ c ∧ WritAt w' a d.waits.length d.waits) ∧ Below w.heap.size w w'
  safe : ∀ {ex : List Nat} {p : Nat} {d : Dv} (k : Int) (w : World), PD w ex p d → d.Few → d.Ok → Calls Tryz.prog 62 #[.pointer (some ⟨p, 0, none⟩), .int .i64 k] w fun e w' => e = .returned (.string ⟨(safeD d k).toArray⟩) ∧ Below w.heap.size w w'
section
variable {PD : World → List Nat → Nat → Dv → Prop} (I : Iface0 PD) {w w' : World} {ex ex' : List Nat} {p : Nat} {d : Dv}
include I
theorem Iface0.below (h : PD w ex p d) (hb : Below w.heap.size w w') : PD w' ex p d := I.keep h fun b hm => hb.block b (I.lt h b hm)
end
theorem Mv.below {B : Nat} {w0 w w' : World} {ex ex' : List Nat} (h : Mv ex w ex' w') (hb : Below B w0 w) (hB : B ≤ w.heap.size) (hx : ∀ b ∈ ex, B ≤ b) : Below B w0 w' ∧ ∀ b ∈ ex', B ≤ b :=
  ⟨hb.trans (h.1.below hB hx), fun b hm => (h.2 b hm).elim (hx b) (fun hh => Nat.le_trans hB hh)⟩
/-- The blocks of the document's device. -/
def ft (us uw : Value) (q : Nat) : List Nat := q :: (blk us ++ blk uw)
section
variable {w w' : World} {q : Nat} {r : Dv} {us uw : Value}
theorem R6.lt (h : R6 w us uw q r) : ∀ b ∈ ft us uw q, b < w.heap.size := fun b hb => by
  rcases List.mem_cons.1 hb with e | e
  · rw [e]; exact h.row.lt
  · rcases List.mem_append.1 e with e | e
    · exact own_lt h.safe (mem_blk.1 e)
    · exact own_lt h.waits (mem_blk.1 e)
theorem R6.keep (h : R6 w us uw q r) (hb : ∀ b ∈ ft us uw q, w'.heap[b]? = w.heap[b]?) : R6 w' us uw q r :=
  ⟨h.row.keep (hb q List.mem_cons_self), own_keep h.safe (fun k hk => hb k (List.mem_cons_of_mem _ (List.mem_append_left _ (mem_blk.2 hk)))), own_keep h.waits (fun k hk => hb k (List.mem_cons_of_mem _ (List.mem_append_right _ (mem_blk.2 hk))))⟩
end
end Go.Proofs.YtnpoohkklfpmdaaGreat
