/- The document's device: its steps, power, what it reads. -/
import Derived.Test.YtmpcfdjpklmfmaaRows
import Derived.WalkKit
import Derived.Below
import Derived.ProofKit
import Derived.OpenShut
import Derived.ShutString
import Derived.ChangeOld
import Derived.Outline
import Derived.RegionTactic
import Derived.ChangeAlike
import Derived.BigRegion
import Derived.BigQuiet
import Derived.Deep.QuietTactic
import Derived.Deep.RegionWith
import Derived.Deep.RegionLaw
import Derived.Deep.RegionHeld3
import Derived.Deep.AppendLies
import Derived.Deep.Draws
import Derived.StillTailTactics
import Derived.Lib.Hide
import Derived.Lib.SmallJoins
import Derived.Handy
import Derived.WalkSpells
import Derived.WalkLawsBesides
import Derived.Deep.LoopGhost
import Derived.Deep.DeepCutAuto
import Derived.Deep.CutBlock
import Derived.Deep.CutRange
import Derived.Test.YtmpcfdjpklmfmaaDevA
import Derived.Test.YtmpcfdjpklmfmaaRw
namespace Go.Proofs.Ytmpcfdjpklmfmaa
open Go.RowKit
set_option linter.unusedSimpArgs false
set_option linter.unusedVariables false
set_option linter.unnecessarySimpa false
def svs (ls : List (List UInt8)) : List Value := ls.map fun l => Value.string ⟨l.toArray⟩
theorem svs_len (ls : List (List UInt8)) : (svs ls).length = ls.length := by simp [svs]
theorem svs_at (ls : List (List UInt8)) (k : Nat) (h : k < ls.length) : (svs ls)[k]? = some (.string ⟨(ls.getD k []).toArray⟩) := by simp [svs, h]
theorem svs_set (ls : List (List UInt8)) (k : Nat) (s : List UInt8) : (svs ls).set k (.string ⟨s.toArray⟩) = svs (ls.set k s) := by simp [svs, List.map_set]
theorem svs_snoc (ls : List (List UInt8)) (s : List UInt8) : svs ls ++ [.string ⟨s.toArray⟩] = svs (ls ++ [s]) := by simp [svs]
/-- The cells of the document's device. -/
def rcs (us uw : Value) (d : Dv) : List Value := [us, uw, .bool d.on, .bool d.armed, .int .i64 (d.left : Nat), .int .i64 (d.steps : Nat)]
/-- The document's device at block p. -/
structure R6 (w : World) (us uw : Value) (p : Nat) (d : Dv) : Prop where
  row : Rw w p (rcs us uw d) 44
  safe : w.ownsRow 0 9 1 us d.safe.length (svs d.safe)
  waits : w.ownsRow 0 64 2 uw d.waits.length (wrs d.waits)
section
variable {w w' : World} {us uw : Value} {p : Nat} {d : Dv}
theorem R6.off1 (h : R6 w us uw p d) : us.ownBlock ≠ some p := own_off h.safe h.row (by decide)
theorem R6.off2 (h : R6 w us uw p d) : uw.ownBlock ≠ some p := own_off h.waits h.row (by decide)
theorem R6.off3 (h : R6 w us uw p d) : ∀ k, us.ownBlock = some k → uw.ownBlock ≠ some k := own_apart h.safe h.waits (by decide)
/-- The device's cells have turned, no other block. -/
theorem R6.turn (h : R6 w us uw p d) {d' : Dv} (hr : Rw w' p (rcs us uw d') 44) (hf : Fr [p] w w') (h1 : d'.safe = d.safe) (h2 : d'.waits = d.waits) : R6 w' us uw p d' :=
  ⟨hr, by rw [h1]; exact own_frame h.safe hf (fun k hk e => h.off1 (by rw [hk, List.mem_singleton.1 e])), by rw [h2]; exact own_frame h.waits hf (fun k hk e => h.off2 (by rw [hk, List.mem_singleton.1 e]))⟩
theorem R6.fr {ex : List Nat} (h : R6 w us uw p d) (hf : Fr ex w w') (hp : p ∉ ex) (h1 : ∀ k ∈ blk us, k ∉ ex) (h2 : ∀ k ∈ blk uw, k ∉ ex) : R6 w' us uw p d :=
  ⟨h.row.fr hf hp, own_frame h.safe hf (fun k hk => h1 k (mem_blk.2 hk)), own_frame h.waits hf (fun k hk => h2 k (mem_blk.2 hk))⟩
end
theorem cast_succ (n : Nat) : ((n + 1 : Nat) : Int) = (n : Int) + 1 := by simp
set_option maxHeartbeats 1000000 in

theorem refStep_any (us uw : Value) (p : Nat) (d : Dv) (w : World) (h : R6 w us uw p d) (hl : d.left < 4611686018427387904) (hs : d.steps < 4611686018427387904) :
    Calls Try.prog 34 #[.pointer (some ⟨p, 0, none⟩)] w fun e w' => e = .returned (.int .i64 (stepD d).2) ∧ R6 w' us uw p (stepD d).1 ∧ Fr [p] w w' := by
  obtain ⟨sf, ws, on, ar, l, s⟩ := d
  have c2 := h.row.c 2 (v := .bool on) rfl
  have c3 := h.row.c 3 (v := .bool ar) rfl
  have c4 := h.row.c 4 (v := .int .i64 (l : Nat)) rfl
  have c5 := h.row.c 5 (v := .int .i64 (s : Nat)) rfl
  have f2 := h.row.f 2
  have f4 := h.row.f 4
  have f5 := h.row.f 5
  have hlI : (l : Int) < 4611686018427387904 := by simp at hl; omega
  have hsI : (s : Int) < 4611686018427387904 := by simp at hs; omega
  clear hl hs
  cases ar with
  | false =>
    have hr := h.row.set 5 (.int .i64 ((s : Int) + 1))
    rw [show stepD ⟨sf, ws, on, false, l, s⟩ = (⟨sf, ws, on, false, l, s + 1⟩, 0) from rfl]
    go_enter Try.func34, Try.ntmps34
    go_wp2
    go_ret
    exact ⟨rfl, h.turn (by rw [rcs, cast_succ]; exact hr) ((Fr.refl _ _).setCell (.inl (by simp)) _) rfl rfl, (Fr.refl _ _).setCell (.inl (by simp)) _⟩
  | true =>
    rcases Nat.eq_zero_or_pos l with h0 | h0
    · subst h0
      have hr := h.row.set 2 (.bool false)
      rw [show stepD ⟨sf, ws, on, true, 0, s⟩ = (⟨sf, ws, false, true, 0, s⟩, 14) from rfl]
      go_enter Try.func34, Try.ntmps34
      go_wp2
      go_ret
      exact ⟨rfl, h.turn hr ((Fr.refl _ _).setCell (.inl (by simp)) _) rfl rfl, (Fr.refl _ _).setCell (.inl (by simp)) _⟩
    · rw [show stepD ⟨sf, ws, on, true, l, s⟩ = (⟨sf, ws, on, true, l - 1, s + 1⟩, 0) from by unfold stepD; simp; omega]
      obtain ⟨z, hz⟩ : ∃ z : Int, (l : Int) = z := ⟨_, rfl⟩
      rw [hz] at c4 hlI
      have hr := (h.row.set 4 (.int .i64 (z - 1))).set 5 (.int .i64 ((s : Int) + 1))
      have z0 : 0 < z := by omega
      have e4 : ((l - 1 : Nat) : Int) = z - 1 := by omega
      have E4 := Lib.hid e4
      have d0 : (z == 0) = false := by simp; omega
      clear h0 e4 hz
      go_enter Try.func34, Try.ntmps34
      go_wp2
      go_ret
      have hf : Fr [p] w ((w.setCell ⟨p, 4, none⟩ (.int .i64 (z - 1))).setCell ⟨p, 5, none⟩ (.int .i64 ((s : Int) + 1))) := ((Fr.refl _ _).setCell (.inl (by simp)) _).setCell (.inl (by simp)) _
      exact ⟨rfl, h.turn (by rw [rcs, cast_succ, E4.out]; exact hr) hf rfl rfl, hf⟩
end Go.Proofs.Ytmpcfdjpklmfmaa
