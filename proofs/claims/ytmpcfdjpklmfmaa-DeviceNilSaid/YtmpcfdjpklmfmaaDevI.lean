/- What a device of the program must keep to; a sector of the laws. -/
import Derived.Test.YtmpcfdjpklmfmaaRows
import Derived.WalkKit
import Derived.Below
import Derived.ProofKit
import Derived.OpenShut
import Derived.ShutString
import Derived.ChangeOld
import Derived.Outline
import Derived.RegionTactic
import Derived.ChangeAlike
import Derived.BigRegion
import Derived.BigQuiet
import Derived.Deep.QuietTactic
import Derived.Deep.RegionWith
import Derived.Deep.RegionLaw
import Derived.Deep.RegionHeld3
import Derived.Deep.AppendLies
import Derived.Deep.Draws
import Derived.StillTailTactics
import Derived.Lib.Hide
import Derived.Lib.SmallJoins
import Derived.Handy
import Derived.WalkSpells
import Derived.WalkLawsBesides
import Derived.Deep.LoopGhost
import Derived.Deep.DeepCutAuto
import Derived.Deep.CutBlock
import Derived.Deep.CutRange
import Derived.Deep.OwnRows
import Derived.Laws.CopyOwn
import Derived.Test.YtmpcfdjpklmfmaaDevW
import Derived.Test.YtmpcfdjpklmfmaaDevX
namespace Go.Proofs.Ytmpcfdjpklmfmaa
open Go.RowKit
set_option linter.unusedSimpArgs false
set_option linter.unusedVariables false
set_option linter.unnecessarySimpa false
/-- From w to w' only the blocks ex have turned; what is the device's now was so, or is new. -/
def Mv (ex : List Nat) (w : World) (ex' : List Nat) (w' : World) : Prop := Fr ex w w' ∧ ∀ b ∈ ex', b ∈ ex ∨ w.heap.size ≤ b
/-- What the program's device must keep to. -/
structure Iface (PD : World → List Nat → Nat → Dv → Prop) : Prop where
  keep : ∀ {w w' : World} {ex : List Nat} {p : Nat} {d : Dv}, PD w ex p d → (∀ b ∈ ex, w'.heap[b]? = w.heap[b]?) → PD w' ex p d
  lt : ∀ {w : World} {ex : List Nat} {p : Nat} {d : Dv}, PD w ex p d → ∀ b ∈ ex, b < w.heap.size
  new0 : ∀ (z : Int) (w : World), (z < 1 ∨ 4096 < z) → Calls Try.prog 10 #[.int .i64 z] w fun e w' => e = .returned (.pointer none) ∧ Below w.heap.size w w'
  new : ∀ (n : Nat) (w : World), 1 ≤ n → n ≤ 4096 → Calls Try.prog 10 #[.int .i64 (n : Nat)] w fun e w' => (∃ p, e = .returned (.pointer (some ⟨p, 0, none⟩)) ∧ ∃ ex, PD w' ex p (newD n) ∧ ∀ b ∈ ex, w.heap.size ≤ b) ∧ Below w.heap.size w w'
  read : ∀ {ex : List Nat} {p : Nat} {d : Dv} (k : Int) (w : World), PD w ex p d → d.Few → d.Ok → Calls Try.prog 14 #[.pointer (some ⟨p, 0, none⟩), .int .i64 k] w fun e w' => e = .returned (.tuple #[.string ⟨(readD d k).1.toArray⟩, .int .i64 (readD d k).2]) ∧ Below w.heap.size w w'
  write : ∀ {ex : List Nat} {p : Nat} {d : Dv} (k : Int) (s : List UInt8) (w : World), PD w ex p d → d.Few → d.Ok → (s.length : Int) ≤ 9223372036854775807 → Calls Try.prog 21 #[.pointer (some ⟨p, 0, none⟩), .int .i64 k, .string ⟨s.toArray⟩] w fun e w' => e = .returned (.int .i64 (writeD d k s).2) ∧ ∃ ex', PD w' ex' p (writeD d k s).1 ∧ Mv ex w ex' w'
  flush : ∀ {ex : List Nat} {p : Nat} {d : Dv} (w : World), PD w ex p d → d.Few → d.Ok → Calls Try.prog 12 #[.pointer (some ⟨p, 0, none⟩)] w fun e w' => e = .returned (.int .i64 (flushD d).2) ∧ ∃ ex', PD w' ex' p (flushD d).1 ∧ Mv ex w ex' w'
  arm : ∀ {ex : List Nat} {p : Nat} {d : Dv} (n : Int) (w : World), PD w ex p d → Calls Try.prog 16 #[.pointer (some ⟨p, 0, none⟩), .int .i64 n] w fun e w' => e = .returned (.tuple #[]) ∧ ∃ ex', PD w' ex' p (armD d n) ∧ Mv ex w ex' w'
  crash : ∀ {ex : List Nat} {p : Nat} {d : Dv} (a : Option Addr) (kn kc : Nat) (keep : List Bool) (torn cut : Int) (w : World), PD w ex p d → d.Few → d.Ok → 0 < d.safe.length → BoolsAt w a kn keep → kn ≤ kc → (kn : Int) ≤ 9223372036854775807 → (∀ b off, 0 < kn → a = some ⟨b, off, none⟩ → b ∉ ex) →
    Calls Try.prog 18 #[.pointer (some ⟨p, 0, none⟩), .slice a kn kc, .int .i64 torn, .int .i64 cut] w fun e w' => e = .returned (.tuple #[]) ∧ ∃ ex', PD w' ex' p (crashD d keep torn cut) ∧ Mv ex w ex' w'
  on : ∀ {ex : List Nat} {p : Nat} {d : Dv} (w : World), PD w ex p d → Calls Try.prog 25 #[.pointer (some ⟨p, 0, none⟩)] w fun e w' => e = .returned (.bool d.on) ∧ w = w'
  steps : ∀ {ex : List Nat} {p : Nat} {d : Dv} (w : World), PD w ex p d → Calls Try.prog 26 #[.pointer (some ⟨p, 0, none⟩)] w fun e w' => e = .returned (.int .i64 (d.steps : Nat)) ∧ w = w'
  sectors : ∀ {ex : List Nat} {p : Nat} {d : Dv} (w : World), PD w ex p d → Calls Try.prog 27 #[.pointer (some ⟨p, 0, none⟩)] w fun e w' => e = .returned (.int .i64 (d.safe.length : Nat)) ∧ w = w'
  waiting : ∀ {ex : List Nat} {p : Nat} {d : Dv} (w : World), PD w ex p d → d.Few → Calls Try.prog 24 #[.pointer (some ⟨p, 0, none⟩)] w fun e w' => (∃ a c, e = .returned (.slice a d.waits.length c) ∧ d.waits.length ≤ c ∧ WritAt w' a d.waits.length d.waits) ∧ Below w.heap.size w w'
  safe : ∀ {ex : List Nat} {p : Nat} {d : Dv} (k : Int) (w : World), PD w ex p d → d.Few → d.Ok → Calls Try.prog 28 #[.pointer (some ⟨p, 0, none⟩), .int .i64 k] w fun e w' => e = .returned (.string ⟨(safeD d k).toArray⟩) ∧ Below w.heap.size w w'
section
variable {PD : World → List Nat → Nat → Dv → Prop} (I : Iface PD) {w w' : World} {ex ex' : List Nat} {p : Nat} {d : Dv}
include I in
theorem Iface.below (h : PD w ex p d) (hb : Below w.heap.size w w') : PD w' ex p d := I.keep h fun b hm => hb.block b (I.lt h b hm)
end
theorem Mv.below {B : Nat} {w0 w w' : World} {ex ex' : List Nat} (h : Mv ex w ex' w') (hb : Below B w0 w) (hB : B ≤ w.heap.size) (hx : ∀ b ∈ ex, B ≤ b) : Below B w0 w' ∧ ∀ b ∈ ex', B ≤ b :=
  ⟨hb.trans (h.1.below hB hx), fun b hm => (h.2 b hm).elim (hx b) (fun hh => Nat.le_trans hB hh)⟩
/-- A sector filled with a byte. -/
def sec (c : UInt8) : List UInt8 := List.replicate 64 c
theorem sec_len (c : UInt8) : (sec c).length = 64 := List.length_replicate
theorem sec_set (c : UInt8) (t : Nat) (h : t < 64) : (List.replicate t c ++ List.replicate (64 - t) 0).set t c = List.replicate (t + 1) c ++ List.replicate (64 - (t + 1)) 0 := by
  rw [List.set_append_right _ _ (by simp)]
  obtain ⟨m, hm⟩ : ∃ m, 64 - t = m + 1 := ⟨63 - t, by omega⟩
  rw [hm, show 64 - (t + 1) = m from by omega]
  rw [List.length_replicate, Nat.sub_self, List.replicate_succ (n := m), List.set_cons_zero, List.replicate_succ' (n := t)]
  simp
set_option maxHeartbeats 1000000 in
theorem sector_any (c : UInt8) (w : World) : Calls Try.prog 20 #[.int .u8 c.toNat] w fun e w' => e = .returned (.string ⟨(sec c).toArray⟩) ∧ Below w.heap.size w w' := by
  have hmk : ∀ w : World, (Instr.makeSlice 48 (.int .i64 64) (.int .i64 64)).run Try.prog w = .ok (.slice (some ⟨w.heap.size, 0, none⟩) 64 64) (w.alloc (.cells (madeCells #[Value.int .u8 0] 64) 5)) := fun w => run_make_row' (P := Try.prog) 48 5 (.int .u8 0) 1 Try.underlying48 info8d rfl .i64 .i64 64 (by omega) (by omega) w
  have h0 : Rw (w.alloc (.cells (madeCells #[Value.int .u8 0] 64) 5)) w.heap.size (bcells (List.replicate 0 c ++ List.replicate (64 - 0) 0)) 5 := by rw [madeRep]; exact Rw.new w _ _
  go_enter Try.func20, Try.ntmps20
  go_upto_region 2 with (fail)
  clear hmk
  have b0 : Below w.heap.size w (w.alloc (.cells (madeCells #[Value.int .u8 0] 64) 5)) := (Below.refl _ _).alloc (Nat.le_refl _) _
  generalize World.alloc _ _ = wa at *
  obtain ⟨b, hb⟩ : ∃ b, b = w.heap.size := ⟨_, rfl⟩
  rw [← hb] at h0
  rw [← hb]
  have HB := Lib.hid hb
  clear hb
  go_wp2
  go_loopw [4] (fun i wr => ∃ t : Nat, t ≤ 64 ∧ i = .int .i64 t ∧ Rw wr b (bcells (List.replicate t c ++ List.replicate (64 - t) 0)) 5 ∧ Below w.heap.size w wr) (fun i _ => 64 - (intOf i).toNat)
  case atStart => exact ⟨0, by omega, rfl, h0, b0⟩
  case round =>
    obtain ⟨t, ht, rfl, hr, hbw⟩ := hrel
    by_cases hlt : t < 64
    · have tl : (t : Int) < 64 := by omega
      obtain ⟨v, hv⟩ : ∃ v, (bcells (List.replicate t c ++ List.replicate (64 - t) 0))[t]? = some v := ⟨_, bcells_get (by simp; omega)⟩
      have c0 := hr.c t hv
      have f0 := hr.f t
      have hr2 := hr.set t (.int .u8 c.toNat)
      rw [bcells_set, sec_set c t hlt] at hr2
      have HR2 := Lib.hid hr2
      clear hr hr2 hv
      go_wp2
      go_roundw
      case rel => exact ⟨t + 1, by omega, by go_num, HR2.out, hbw.setCell (p := ⟨b, t, none⟩) (by rw [HB.out]; exact Nat.le_refl _) _⟩
      case measure => simp [intOf]; omega
    · obtain rfl : t = 64 := by omega
      rw [show ((64 : Nat) : Int) = 64 from rfl]
      have hcv := strRow wr 48 9 5 b 64 64 (sec c) 5 (0, 0) Try.underlying48 Try.underlying5 Try.underlying9 (by unfold Rw at hr; rw [hr]; simp [sec]) (sec_len c).symm
      clear hr
      go_wp2
      go_ret
      exact ⟨rfl, hbw⟩
end Go.Proofs.Ytmpcfdjpklmfmaa
