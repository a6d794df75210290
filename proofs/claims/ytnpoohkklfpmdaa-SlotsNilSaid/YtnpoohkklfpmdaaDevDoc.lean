/- DevR: The document's device: its steps, power, what it reads.
   DevS: The document's device: Arm, Write.
   DevT: The document's device: Read.
   DevU: The document's device: Flush.
   DevV: The document's device: Crash.
   DevW: The document's device: New.
   DevX: The document's device: are two rows of what waits the same?
   DevB: What a device of the program must keep to. -/
import Derived.Test.YtnpoohkklfpmdaaRows
import Derived.WalkKit
import Derived.Below
import Derived.ProofKit
import Derived.OpenShut
import Derived.ShutString
import Derived.ChangeOld
import Derived.Outline
import Derived.RegionTactic
import Derived.ChangeAlike
import Derived.BigRegion
import Derived.BigQuiet
import Derived.Deep.QuietTactic
import Derived.Deep.RegionWith
import Derived.Deep.RegionLaw
import Derived.Deep.RegionHeld3
import Derived.Deep.AppendLies
import Derived.Deep.Draws
import Derived.StillTailTactics
import Derived.Lib.Hide
import Derived.Lib.SmallJoins
import Derived.Handy
import Derived.WalkSpells
import Derived.WalkLawsBesides
import Derived.Deep.LoopGhost
import Derived.Deep.DeepCutAuto
import Derived.Deep.CutBlock
import Derived.Deep.CutRange
import Derived.Deep.OwnRows
import Derived.Laws.CopyOwn
import Derived.Test.YtnpoohkklfpmdaaDevA
import Derived.Test.YtnpoohkklfpmdaaRw
/- DevR -/
namespace Go.Proofs.Ytnpoohkklfpmdaa
open Go.RowKit
set_option linter.unusedSimpArgs false
set_option linter.unusedVariables false
set_option linter.unnecessarySimpa false
def svs (ls : List (List UInt8)) : List Value := ls.map fun l => Value.string ⟨l.toArray⟩
theorem svs_len (ls : List (List UInt8)) : (svs ls).length = ls.length := by simp [svs]
theorem svs_at (ls : List (List UInt8)) (k : Nat) (h : k < ls.length) : (svs ls)[k]? = some (.string ⟨(ls.getD k []).toArray⟩) := by simp [svs, h]
theorem svs_set (ls : List (List UInt8)) (k : Nat) (s : List UInt8) : (svs ls).set k (.string ⟨s.toArray⟩) = svs (ls.set k s) := by simp [svs, List.map_set]
theorem svs_snoc (ls : List (List UInt8)) (s : List UInt8) : svs ls ++ [.string ⟨s.toArray⟩] = svs (ls ++ [s]) := by simp [svs]
/-- The cells of the document's device. -/
def rcs (us uw : Value) (d : Dv) : List Value := [us, uw, .bool d.on, .bool d.armed, .int .i64 (d.left : Nat), .int .i64 (d.steps : Nat)]
section
variable {w w' : World} {us uw : Value} {p : Nat} {d : Dv}
end
theorem cast_succ (n : Nat) : ((n + 1 : Nat) : Int) = (n : Int) + 1 := by simp
end Go.Proofs.Ytnpoohkklfpmdaa
/- DevS -/
namespace Go.Proofs.Ytnpoohkklfpmdaa
open Go.RowKit
set_option linter.unusedSimpArgs false
set_option linter.unusedVariables false
set_option linter.unnecessarySimpa false
theorem infoW : (Try.prog.info? 75).map (fun i => (i.zero, i.size, i.bytes)) = some (some (.agg #[.int .i64 0, .string ⟨#[]⟩]), 2, 24) := by kernel_rfl
theorem infoStr : (Try.prog.info? 9).map (fun i => (i.zero, i.size, i.bytes)) = some (some (.string ⟨#[]⟩), 1, 16) := by kernel_rfl
/-- As devices are while a script goes on. -/
structure Dv.Few (d : Dv) : Prop where
  left : d.left < 4611686018427387904
  steps : d.steps < 4611686018427387904
  waits : d.waits.length < 1048576
  safe : d.safe.length ≤ 4096
end Go.Proofs.Ytnpoohkklfpmdaa
/- DevT -/
namespace Go.Proofs.Ytnpoohkklfpmdaa
open Go.RowKit
set_option linter.unusedSimpArgs false
set_option linter.unusedVariables false
set_option linter.unnecessarySimpa false
theorem lastW_all (ws : List (Nat × List UInt8)) (k : Nat) (s : List UInt8) : lastW (ws.take ws.length) k s = lastW ws k s := by rw [List.take_length]
end Go.Proofs.Ytnpoohkklfpmdaa
/- DevU -/
namespace Go.Proofs.Ytnpoohkklfpmdaa
open Go.RowKit
set_option linter.unusedSimpArgs false
set_option linter.unusedVariables false
set_option linter.unnecessarySimpa false
theorem Fr.store {ex : List Nat} {a b : World} (h : Fr ex a b) {p : Addr} (hp : p.block ∈ ex) (u : Value) : Fr ex a (b.setCell p u) := h.setCell (.inl hp) u
end Go.Proofs.Ytnpoohkklfpmdaa
/- DevV -/
namespace Go.Proofs.Ytnpoohkklfpmdaa
open Go.RowKit
set_option linter.unusedSimpArgs false
set_option linter.unusedVariables false
set_option linter.unnecessarySimpa false
/-- A slice of truths, read in w. -/
def BoolsAt (w : World) (a : Option Addr) (n : Nat) (ls : List Bool) : Prop :=
  ls.length = n ∧ (0 < n → ∃ b off, a = some ⟨b, off, none⟩ ∧ b < w.heap.size ∧ ∀ k x, ls[k]? = some x → w.cell? ⟨b, off + k, none⟩ = some (.bool x))
theorem BoolsAt.fr {ex : List Nat} {w w' : World} {a : Option Addr} {n : Nat} {ls : List Bool} (h : BoolsAt w a n ls) (hf : Fr ex w w') (hn : ∀ b off, 0 < n → a = some ⟨b, off, none⟩ → b ∉ ex) : BoolsAt w' a n ls :=
  ⟨h.1, fun h0 => by
    obtain ⟨b, off, e, hlt, hc⟩ := h.2 h0
    exact ⟨b, off, e, Nat.lt_of_lt_of_le hlt hf.size, fun k x hk => (hf.cell (p := ⟨b, off + k, none⟩) hlt (hn b off h0 e)).trans (hc k x hk)⟩⟩
end Go.Proofs.Ytnpoohkklfpmdaa
/- DevW -/
namespace Go.Proofs.Ytnpoohkklfpmdaa
open Go.RowKit
set_option linter.unusedSimpArgs false
set_option linter.unusedVariables false
set_option linter.unnecessarySimpa false
theorem info8d : (Try.prog.info? 5).map (fun i => (i.zero, i.size, i.bytes)) = some (some (.int .u8 0), 1, 1) := by kernel_rfl
theorem madeRep (n : Nat) : madeCells #[Value.int .u8 0] n = (bcells (List.replicate n 0)).toArray := by
  apply Array.toList_inj.1
  rw [toList_madeCells_one]
  simp [bcells]
/-- 'string(b)' of a row of bytes. -/
theorem strRow {P : Program} (w : World) (src dst e : TypeId) (b n c : Nat) (l : List UInt8) (t : TypeId) (fr : Nat × Nat)
    (hs : P.underlying src = some (.slice e)) (he : P.underlying e = some (.int .u8)) (hd : P.underlying dst = some .string)
    (hb : w.heap[b]? = some (.cells (bcells l).toArray t fr)) (hn : n = l.length) :
    (convert src dst (.slice (some ⟨b, 0, none⟩) n c)).run P w = .ok (.string ⟨l.toArray⟩) w :=
  run_b2s_tail (j := 0) (z := .int .u8 0) w src dst e b n c l t fr hs he hd (by simpa using hb) hn
theorem svs_rep (t : Nat) : svs (List.replicate t zsec) ++ [.string ⟨zsec.toArray⟩] = svs (List.replicate (t + 1) zsec) := by rw [svs_snoc, List.replicate_succ']
theorem own_down {w : World} {base base' size n : Nat} {e : TypeId} {v : Value} {xs : List Value} (h : w.ownsRow base e size v n xs) (hb : base' ≤ base) : w.ownsRow base' e size v n xs := by
  refine ⟨h.1, ?_⟩
  rcases h.2 with h2 | ⟨g, cap, cur, hv, hg, r⟩
  · exact Or.inl h2
  · exact Or.inr ⟨g, cap, cur, hv, by omega, r⟩
end Go.Proofs.Ytnpoohkklfpmdaa
/- DevX -/
namespace Go.Proofs.Ytnpoohkklfpmdaa
open Go.RowKit
set_option linter.unusedSimpArgs false
set_option linter.unusedVariables false
set_option linter.unnecessarySimpa false
/-- What waits, in a slice: from block B on, or below it, wherever. -/
def WritAt (w : World) (a : Option Addr) (n : Nat) (ws : List (Nat × List UInt8)) : Prop :=
  ws.length = n ∧ (0 < n → ∃ b off, a = some ⟨b, off, none⟩ ∧ b < w.heap.size ∧ ∀ k y, ws[k]? = some y → w.cell? ⟨b, off + k * 2, none⟩ = some (.int .i64 (y.1 : Nat)) ∧ w.cell? ⟨b, off + k * 2 + 1, none⟩ = some (.string ⟨y.2.toArray⟩))
theorem WritAt.own {w : World} {base n cp : Nat} {A : Option Addr} {ws : List (Nat × List UInt8)} (hn : ws.length = n) (h : w.ownsRow base 75 2 (.slice A n cp) n (wrs ws)) : WritAt w A n ws := by
  refine ⟨hn, fun h0 => ?_⟩
  obtain ⟨g, cap, e, _, hlt⟩ := h.form h0
  simp only [Value.slice.injEq] at e
  obtain ⟨rfl, _, rfl⟩ := e
  refine ⟨g, 0, rfl, hlt, fun k y hy => ?_⟩
  obtain ⟨a1, a2⟩ := wrs_at ws k y hy
  obtain ⟨g1, c1, e1, _, _, _, h1, _⟩ := own_cell h a1
  obtain ⟨g2, c2, e2, _, _, _, h2, _⟩ := own_cell h a2
  simp only [Value.slice.injEq, Option.some.injEq, Addr.mk.injEq, and_true, true_and] at e1 e2
  rw [← e1.1] at h1
  rw [← e2.1] at h2
  rw [Nat.zero_add]
  exact ⟨h1, h2⟩
theorem WritAt.fr {ex : List Nat} {w w' : World} {a : Option Addr} {n : Nat} {ws : List (Nat × List UInt8)} (h : WritAt w a n ws) (hf : Fr ex w w') (hn : ∀ b off, a = some ⟨b, off, none⟩ → b ∉ ex) : WritAt w' a n ws :=
  ⟨h.1, fun h0 => by
    obtain ⟨b, off, e, hlt, hc⟩ := h.2 h0
    refine ⟨b, off, e, Nat.lt_of_lt_of_le hlt hf.size, fun k y hk => ?_⟩
    obtain ⟨h1, h2⟩ := hc k y hk
    exact ⟨(hf.cell (p := ⟨b, off + k * 2, none⟩) hlt (hn b off e)).trans h1, (hf.cell (p := ⟨b, off + k * 2 + 1, none⟩) hlt (hn b off e)).trans h2⟩⟩
theorem take_ne {α : Type} {xs ys : List α} {k : Nat} {x y : α} (h : xs.take k = ys.take k) (hx : xs[k]? = some x) (hy : ys[k]? = some y) (he : x = y) : xs.take (k + 1) = ys.take (k + 1) := by
  rw [List.take_add_one, List.take_add_one, h, hx, hy, he]
end Go.Proofs.Ytnpoohkklfpmdaa
/- DevB -/
namespace Go.Proofs.Ytnpoohkklfpmdaa
open Go.RowKit
set_option linter.unusedSimpArgs false
set_option linter.unusedVariables false
set_option linter.unnecessarySimpa false
/-- From w to w' only the blocks ex have turned; what is the device's now was so, or is new. -/
def Mv (ex : List Nat) (w : World) (ex' : List Nat) (w' : World) : Prop := Fr ex w w' ∧ ∀ b ∈ ex', b ∈ ex ∨ w.heap.size ≤ b
/-- What the program's device must keep to (but for On and Steps). -/
structure Iface0 (PD : World → List Nat → Nat → Dv → Prop) : Prop where
  keep : ∀ {w w' : World} {ex : List Nat} {p : Nat} {d : Dv}, PD w ex p d → (∀ b ∈ ex, w'.heap[b]? = w.heap[b]?) → PD w' ex p d
  lt : ∀ {w : World} {ex : List Nat} {p : Nat} {d : Dv}, PD w ex p d → ∀ b ∈ ex, b < w.heap.size
  new0 : ∀ (z : Int) (w : World), (z < 1 ∨ 4096 < z) → Calls Try.prog 11 #[.int .i64 z] w fun e w' => e = .returned (.pointer none) ∧ Below w.heap.size w w'
  new : ∀ (n : Nat) (w : World), 1 ≤ n → n ≤ 4096 → Calls Try.prog 11 #[.int .i64 (n : Nat)] w fun e w' => (∃ p, e = .returned (.pointer (some ⟨p, 0, none⟩)) ∧ ∃ ex, PD w' ex p (newD n) ∧ ∀ b ∈ ex, w.heap.size ≤ b) ∧ Below w.heap.size w w'
  read : ∀ {ex : List Nat} {p : Nat} {d : Dv} (k : Int) (w : World), PD w ex p d → d.Few → d.Ok → Calls Try.prog 37 #[.pointer (some ⟨p, 0, none⟩), .int .i64 k] w fun e w' => e = .returned (.tuple #[.string ⟨(readD d k).1.toArray⟩, .int .i64 (readD d k).2]) ∧ Below w.heap.size w w'
  write : ∀ {ex : List Nat} {p : Nat} {d : Dv} (k : Int) (s : List UInt8) (w : World), PD w ex p d → d.Few → d.Ok → (s.length : Int) ≤ 9223372036854775807 → Calls Try.prog 57 #[.pointer (some ⟨p, 0, none⟩), .int .i64 k, .string ⟨s.toArray⟩] w fun e w' => e = .returned (.int .i64 (writeD d k s).2) ∧ ∃ ex', PD w' ex' p (writeD d k s).1 ∧ Mv ex w ex' w'
  flush : ∀ {ex : List Nat} {p : Nat} {d : Dv} (w : World), PD w ex p d → d.Few → d.Ok → Calls Try.prog 58 #[.pointer (some ⟨p, 0, none⟩)] w fun e w' => e = .returned (.int .i64 (flushD d).2) ∧ ∃ ex', PD w' ex' p (flushD d).1 ∧ Mv ex w ex' w'
  arm : ∀ {ex : List Nat} {p : Nat} {d : Dv} (n : Int) (w : World), PD w ex p d → Calls Try.prog 13 #[.pointer (some ⟨p, 0, none⟩), .int .i64 n] w fun e w' => e = .returned (.tuple #[]) ∧ ∃ ex', PD w' ex' p (armD d n) ∧ Mv ex w ex' w'
  crash : ∀ {ex : List Nat} {p : Nat} {d : Dv} (a : Option Addr) (kn kc : Nat) (keep : List Bool) (torn cut : Int) (w : World), PD w ex p d → d.Few → d.Ok → 0 < d.safe.length → BoolsAt w a kn keep → kn ≤ kc → (kn : Int) ≤ 9223372036854775807 → (∀ b off, 0 < kn → a = some ⟨b, off, none⟩ → b ∉ ex) →
    Calls Try.prog 16 #[.pointer (some ⟨p, 0, none⟩), .slice a kn kc, .int .i64 torn, .int .i64 cut] w fun e w' => e = .returned (.tuple #[]) ∧ ∃ ex', PD w' ex' p (crashD d keep torn cut) ∧ Mv ex w ex' w'
  sectors : ∀ {ex : List Nat} {p : Nat} {d : Dv} (w : World), PD w ex p d → Calls Try.prog 27 #[.pointer (some ⟨p, 0, none⟩)] w fun e w' => e = .returned (.int .i64 (d.safe.length : Nat)) ∧ w = w'
  waiting : ∀ {ex : List Nat} {p : Nat} {d : Dv} (w : World), PD w ex p d → d.Few → Calls Try.prog 22 #[.pointer (some ⟨p, 0, none⟩)] w fun e w' => (∃ a c, e = .returned (.slice a d.waits.length c) ∧ d.waits.length ≤ c ∧ WritAt w' a d.waits.length d.waits) ∧ Below w.heap.size w w'
  safe : ∀ {ex : List Nat} {p : Nat} {d : Dv} (k : Int) (w : World), PD w ex p d → d.Few → d.Ok → Calls Try.prog 21 #[.pointer (some ⟨p, 0, none⟩), .int .i64 k] w fun e w' => e = .returned (.string ⟨(safeD d k).toArray⟩) ∧ Below w.heap.size w w'
section
variable {PD : World → List Nat → Nat → Dv → Prop} (I : Iface0 PD) {w w' : World} {ex ex' : List Nat} {p : Nat} {d : Dv}
include I
theorem Iface0.below (h : PD w ex p d) (hb : Below w.heap.size w w') : PD w' ex p d := I.keep h fun b hm => hb.block b (I.lt h b hm)
end
theorem Mv.below {B : Nat} {w0 w w' : World} {ex ex' : List Nat} (h : Mv ex w ex' w') (hb : Below B w0 w) (hB : B ≤ w.heap.size) (hx : ∀ b ∈ ex, B ≤ b) : Below B w0 w' ∧ ∀ b ∈ ex', B ≤ b :=
  ⟨hb.trans (h.1.below hB hx), fun b hm => (h.2 b hm).elim (hx b) (fun hh => Nat.le_trans hB hh)⟩
end Go.Proofs.Ytnpoohkklfpmdaa
