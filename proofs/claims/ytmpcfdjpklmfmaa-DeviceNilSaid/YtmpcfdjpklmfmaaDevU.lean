/- The document's device: Flush. -/
import Derived.Test.YtmpcfdjpklmfmaaRows
import Derived.WalkKit
import Derived.Below
import Derived.ProofKit
import Derived.OpenShut
import Derived.ShutString
import Derived.ChangeOld
import Derived.Outline
import Derived.RegionTactic
import Derived.ChangeAlike
import Derived.BigRegion
import Derived.BigQuiet
import Derived.Deep.QuietTactic
import Derived.Deep.RegionWith
import Derived.Deep.RegionLaw
import Derived.Deep.RegionHeld3
import Derived.Deep.AppendLies
import Derived.Deep.Draws
import Derived.StillTailTactics
import Derived.Lib.Hide
import Derived.Lib.SmallJoins
import Derived.Handy
import Derived.WalkSpells
import Derived.WalkLawsBesides
import Derived.Deep.LoopGhost
import Derived.Deep.DeepCutAuto
import Derived.Deep.CutBlock
import Derived.Deep.CutRange
import Derived.Test.YtmpcfdjpklmfmaaDevT
namespace Go.Proofs.Ytmpcfdjpklmfmaa
open Go.RowKit
set_option linter.unusedSimpArgs false
set_option linter.unusedVariables false
set_option linter.unnecessarySimpa false
theorem Fr.store {ex : List Nat} {a b : World} (h : Fr ex a b) {p : Addr} (hp : p.block ∈ ex) (u : Value) : Fr ex a (b.setCell p u) := h.setCell (.inl hp) u
/-- A device while its sectors are laid: its row, its sectors, what waits. -/
structure Lay (W w : World) (us uw : Value) (p : Nat) (d : Dv) (sf : List (List UInt8)) : Prop where
  row : Rw w p (rcs us uw d) 44
  safe : w.ownsRow 0 9 1 us d.safe.length (svs sf)
  waits : w.ownsRow 0 64 2 uw d.waits.length (wrs d.waits)
  fr : Fr (p :: blk us) W w
theorem Lay.drew {W w : World} {us uw : Value} {p : Nat} {d : Dv} {sf : List (List UInt8)} (h : Lay W w us uw p d sf) (n : Nat) : Lay W (w.drewN n) us uw p d sf := ⟨h.row, h.safe, h.waits, h.fr.drewN n⟩
theorem Lay.store {W w : World} {uw : Value} {p g cap : Nat} {d : Dv} {sf : List (List UInt8)} (h : Lay W w (.slice (some ⟨g, 0, none⟩) d.safe.length cap) uw p d sf) (k : Nat) (s : List UInt8) :
    Lay W (w.setCell ⟨g, k, none⟩ (.string ⟨s.toArray⟩)) (.slice (some ⟨g, 0, none⟩) d.safe.length cap) uw p d (sf.set k s) := by
  have o1 := own_off h.safe h.row (by decide)
  have o3 := own_apart h.safe h.waits (by decide) g rfl
  refine ⟨h.row.other (fun e => o1 (by rw [e]; rfl)) _, ?_, ownsRow_setCell_other h.waits o3 _, h.fr.store (p := ⟨g, k, none⟩) (List.mem_cons_of_mem _ (mem_blk.2 rfl)) _⟩
  rw [← svs_set]
  exact (h.safe.stored k _).1
set_option maxHeartbeats 2000000 in
theorem refFlush_any (us uw : Value) (p : Nat) (d : Dv) (w : World) (h : R6 w us uw p d) (hd : d.Few) (hk : d.Ok) :
    Calls Try.prog 13 #[.pointer (some ⟨p, 0, none⟩)] w fun e w' => e = .returned (.int .i64 (flushD d).2) ∧ ∃ uw', R6 w' us uw' p (flushD d).1 ∧ Fr (p :: blk us) w w' ∧ (uw' = uw ∨ blk uw' = []) := by
  have c2 := h.row.c 2 (v := .bool d.on) rfl
  cases ho : d.on with
  | false =>
    have e : flushD d = (d, 14) := by unfold flushD; rw [ho]; rfl
    rw [e]
    rw [ho] at c2
    clear e
    go_enter Try.func13, Try.ntmps13
    go_wp2
    go_ret
    exact ⟨rfl, uw, h, Fr.refl _ _, .inl rfl⟩
  | true =>
    rw [ho] at c2
    obtain ⟨d', er, hst⟩ : ∃ d' er, stepD d = (d', er) := ⟨_, _, rfl⟩
    have hws : d'.waits = d.waits := by have := stepD_waits d; rw [hst] at this; exact this
    have hsf : d'.safe = d.safe := by have := stepD_safe d; rw [hst] at this; exact this
    by_cases her : er = 0
    · have e : flushD d = ({ d' with safe := layW d'.safe d'.waits, waits := [] }, 0) := by unfold flushD; rw [ho, if_pos rfl, hst, hws, hsf]; simp [her]
      rw [e]
      subst her
      clear e
      go_enter Try.func13, Try.ntmps13
      go_wp2_with fail
      refine (refStep_any us uw p d w h hd.left hd.steps).mono ?_
      rw [hst]
      rintro e w1 ⟨rfl, h1, g1⟩
      have L1 : Lay w w1 us uw p d' d'.safe := ⟨h1.row, h1.safe, h1.waits, g1.more (fun k hk => by rw [List.mem_singleton.1 hk]; exact List.mem_cons_self)⟩
      have hkw : ∀ y ∈ d'.waits, y.1 < d'.safe.length := fun y hy => by rw [hws] at hy; rw [hsf]; exact (hk.waits y hy).1
      have hml : d'.waits.length < 1048576 := by rw [hws]; exact hd.waits
      clear hst c2 hws hsf h1 g1 hk hd h ho
      have HK := Lib.hid hkw
      obtain ⟨A2, cp, rfl⟩ := own_form L1.waits
      obtain ⟨m, hm⟩ : ∃ m, m = d'.waits.length := ⟨_, rfl⟩
      have HM := Lib.hid hm
      rw [← hm] at hml
      clear hkw
      go_wp2
      go_loopw [4] (fun i wr => ∃ t : Nat, t ≤ m ∧ i = .int .i64 t ∧ Lay w wr us (.slice A2 d'.waits.length cp) p d' (layW d'.safe (d'.waits.take t))) (fun i _ => m - (intOf i).toNat)
      case atStart => exact ⟨0, by omega, rfl, L1⟩
      case round =>
        obtain ⟨t, ht, rfl, hL⟩ := hrel
        have c1 := hL.row.c 1 rfl
        have c0 := hL.row.c 0 rfl
        rw [← hm] at c1
        by_cases hlt : t < m
        · have tl : (t : Int) < m := by omega
          obtain ⟨y, hy⟩ : ∃ y, d'.waits[t]? = some y := ⟨d'.waits[t]'(by omega), List.getElem?_eq_getElem _⟩
          obtain ⟨a1, a2⟩ := wrs_at d'.waits t y hy
          obtain ⟨g2, cap2, e2, hc2, _, _, ca, _⟩ := own_cell hL.waits a1
          obtain ⟨g3, cap3, e3, hc3, _, _, cb, _⟩ := own_cell hL.waits a2
          rw [e2] at e3
          obtain ⟨rfl, rfl⟩ : g2 = g3 ∧ cap2 = cap3 := by simpa using e3
          simp only [Value.slice.injEq] at e2
          obtain ⟨rfl, _, rfl⟩ := e2
          have hl := Lib.hid (layW_take d'.safe d'.waits t y hy)
          have hy2 := HK.out y (List.mem_of_getElem? hy)
          have hlen : (layW d'.safe (d'.waits.take t)).length = d'.safe.length := by rw [layW_len]
          obtain ⟨yi, ys⟩ := y
          simp only at ca cb hl hy2
          obtain ⟨gs, caps, e4, hcs, _, _, cc, fc⟩ := own_cell hL.safe (svs_at _ yi (by rw [hlen]; exact hy2))
          subst e4
          obtain ⟨n, hn⟩ : ∃ n, n = d'.safe.length := ⟨_, rfl⟩
          rw [← hn] at c0 hcs hy2
          have hyn : (yi : Int) < n := by omega
          have HN := Lib.hid hn
          clear e3 a1 a2 hlen hn
          go_wp2
          go_region
          all_goals
            go_wp2
            go_roundw
            case rel => exact ⟨t + 1, by omega, by go_num, by rw [hl.out]; exact (hL.store yi ys).drew _⟩
            case measure => simp [intOf]; omega
        · have tl : ¬ ((t : Int) < m) := by omega
          have f1 := hL.row.f 1
          have hmm := HM.out
          have e : d'.waits.take t = d'.waits := List.take_of_length_le (by omega)
          rw [e] at hL
          clear e hmm
          go_wp2
          go_ret
          have o1 := own_off hL.safe hL.row (by decide)
          refine ⟨rfl, .slice none 0 0, ⟨hL.row.set 1 _, ?_, World.ownsRow_nil _ _ _ _⟩, hL.fr.store (p := ⟨p, 1, none⟩) List.mem_cons_self _, .inr rfl⟩
          simp only [layW_len]
          exact ownsRow_setCell_other (a := ⟨p, 1, none⟩) hL.safe o1 _
    · have e : flushD d = (d', er) := by unfold flushD; rw [ho, if_pos rfl, hst]; simp [her]
      rw [e]
      have d0 : (er == 0) = false := by simpa using her
      clear e
      go_enter Try.func13, Try.ntmps13
      go_wp2_with fail
      refine (refStep_any us uw p d w h hd.left hd.steps).mono ?_
      rw [hst]
      rintro e w1 ⟨rfl, h1, g1⟩
      go_wp2
      go_ret
      exact ⟨rfl, uw, h1, g1.more (fun k hk => by rw [List.mem_singleton.1 hk]; exact List.mem_cons_self), .inl rfl⟩
end Go.Proofs.Ytmpcfdjpklmfmaa
