/- What the program's log must keep to; a log beside other rows. -/
import Derived.Test.YtnpoohkklfpmdaaGreatRows
import Derived.WalkKit
import Derived.Below
import Derived.ProofKit
import Derived.OpenShut
import Derived.ShutString
import Derived.ChangeOld
import Derived.Outline
import Derived.RegionTactic
import Derived.ChangeAlike
import Derived.BigRegion
import Derived.BigQuiet
import Derived.Deep.QuietTactic
import Derived.Deep.RegionWith
import Derived.Deep.RegionLaw
import Derived.Deep.RegionHeld3
import Derived.Deep.AppendLies
import Derived.Deep.Draws
import Derived.StillTailTactics
import Derived.Lib.Hide
import Derived.Lib.SmallJoins
import Derived.Handy
import Derived.WalkSpells
import Derived.WalkLawsBesides
import Derived.Deep.LoopGhost
import Derived.Deep.DeepCutAuto
import Derived.Deep.CutBlock
import Derived.Deep.CutRange
import Derived.Deep.OwnRows
import Derived.Laws.CopyOwn
import Derived.Great.BuildSlice
import Derived.Test.YtnpoohkklfpmdaaGreatDevDoc
import Derived.Test.YtnpoohkklfpmdaaGreatSlPure
namespace Go.Proofs.YtnpoohkklfpmdaaGreat
open Go.RowKit
set_option linter.unusedSimpArgs false
set_option linter.unusedVariables false
set_option linter.unnecessarySimpa false
set_option linter.unusedSectionVars false
/-- A mark as a value. -/
def mkV (m : Mk) : Value := .agg #[.int .i64 (m.ep : Nat), .int .i64 (m.sz : Nat), .int .i64 (m.ct : Nat)]
/-- Bounds, so that a Commit may go on over the device. -/
structure Dv.Few7 (d : Dv) : Prop where
  left : d.left < 1099511627776
  steps : d.steps < 1099511627776
  waits : d.waits.length < 524288
  safe : d.safe.length ≤ 4096
theorem Dv.Few7.few {d : Dv} (h : d.Few7) : d.Few := ⟨Nat.lt_trans h.left (by decide), Nat.lt_trans h.steps (by decide), Nat.lt_trans h.waits (by decide), h.safe⟩
/-- As logs are, over so many sectors. -/
structure Sg.Fits (S : Sg) (n : Nat) : Prop where
  n3 : 3 ≤ n
  sz : S.m.sz = S.log.length
  fit : S.log.length ≤ 64 * (n - 2)
  ep : S.m.ep < 1152921504606846976
  ct : S.m.ct < 1152921504606846976
/-- What the program's log must keep to. -/
structure Iface7 (PD : World → List Nat → Nat → Dv → Prop) (PO : World → List Nat → Nat → Nat → Nat → Sg → Prop) : Prop where
  keep : ∀ {w w' : World} {exx : List Nat} {x p n : Nat} {S : Sg}, PO w exx x p n S → (∀ b ∈ exx, w'.heap[b]? = w.heap[b]?) → PO w' exx x p n S
  lt : ∀ {w : World} {exx : List Nat} {x p n : Nat} {S : Sg}, PO w exx x p n S → ∀ b ∈ exx, b < w.heap.size
  pack : ∀ (m : Mk) (w : World), m.ep < 4611686018427387904 → m.sz < 4611686018427387904 → m.ct < 4611686018427387904 → Calls Tryz.prog 23 #[mkV m] w fun e w' => e = .returned (.string ⟨(packM m).toArray⟩) ∧ Below w.heap.size w w'
  unpack : ∀ (s : List UInt8) (w : World), (s.length : Int) ≤ 9223372036854775807 → Calls Tryz.prog 24 #[.string ⟨s.toArray⟩] w fun e w' => e = .returned (.tuple #[mkV (mkO s), .bool (unpackM s).isSome]) ∧ Below w.heap.size w w'
  openNo : ∀ {ex : List Nat} {p : Nat} {d : Dv} (w : World), PD w ex p d → d.Few7 → d.Ok → openE d ≠ 0 → Calls Tryz.prog 7 #[.pointer (some ⟨p, 0, none⟩)] w fun e w' => (∃ a c, e = .returned (.tuple #[.pointer none, .slice a 0 c, .int .i64 (openE d)])) ∧ Below w.heap.size w w'
  openOk : ∀ {ex : List Nat} {p : Nat} {d : Dv} {m : Mk} {Lg : List UInt8} {rs : Secs} (w : World), PD w ex p d → d.Few7 → d.Ok → 3 ≤ d.safe.length → d.on = true → openM (vis d) = some (m, Lg, rs) →
    Calls Tryz.prog 7 #[.pointer (some ⟨p, 0, none⟩)] w fun e w' => (∃ x a c exx, e = .returned (.tuple #[.pointer (some ⟨x, 0, none⟩), .slice a rs.length c, .int .i64 0]) ∧ w'.ownsRow w.heap.size 9 1 (.slice a rs.length c) rs.length (strs rs) ∧ PO w' exx x p d.safe.length ⟨m, Lg, false⟩ ∧ (∀ b ∈ exx, w.heap.size ≤ b) ∧ ∀ b, (Value.slice a rs.length c).ownBlock = some b → b ∉ exx) ∧ Below w.heap.size w w'
  commit : ∀ {exd exx : List Nat} {p x : Nat} {d : Dv} {S : Sg} (r : List UInt8) (w : World), PD w exd p d → PO w exx x p d.safe.length S → (∀ b ∈ exd, b ∉ exx) → d.Few7 → d.Ok → S.Fits d.safe.length → (r.length : Int) ≤ 16777215 →
    Calls Tryz.prog 15 #[.pointer (some ⟨x, 0, none⟩), .string ⟨r.toArray⟩] w fun e w' => e = .returned (.int .i64 (commitD d S r).2) ∧ ∃ exd' exx', PD w' exd' p (commitD d S r).1.1 ∧ PO w' exx' x p d.safe.length (commitD d S r).1.2 ∧ (∀ b ∈ exd', b ∉ exx') ∧ Fr (exd ++ exx) w w' ∧ (∀ b ∈ exd', b ∈ exd ∨ w.heap.size ≤ b) ∧ ∀ b ∈ exx', b ∈ exx ∨ w.heap.size ≤ b
  mark : ∀ {exx : List Nat} {x p n : Nat} {S : Sg} (w : World), PO w exx x p n S → Calls Tryz.prog 19 #[.pointer (some ⟨x, 0, none⟩)] w fun e w' => e = .returned (mkV S.m) ∧ Below w.heap.size w w'
  broken : ∀ {exx : List Nat} {x p n : Nat} {S : Sg} (w : World), PO w exx x p n S → Calls Tryz.prog 20 #[.pointer (some ⟨x, 0, none⟩)] w fun e w' => e = .returned (.bool S.br) ∧ w = w'
  room : ∀ {exd exx : List Nat} {p x : Nat} {d : Dv} {S : Sg} (w : World), PD w exd p d → PO w exx x p d.safe.length S → S.Fits d.safe.length → d.safe.length ≤ 4096 → Calls Tryz.prog 21 #[.pointer (some ⟨x, 0, none⟩)] w fun e w' => e = .returned (.int .i64 (((64 * (d.safe.length - 2) - S.log.length : Nat)) : Int)) ∧ ∃ m, w' = w.drewN m
/-- A log of the program in w, over a device, all of it new since W; the blocks K lie apart. -/
structure LgX (PD : World → List Nat → Nat → Dv → Prop) (PO : World → List Nat → Nat → Nat → Nat → Sg → Prop) (K : List Nat) (W w : World) (p x : Nat) (d : Dv) (S : Sg) (exd exx : List Nat) : Prop where
  pd : PD w exd p d
  po : PO w exx x p d.safe.length S
  apart : ∀ b ∈ exd, b ∉ exx
  newd : ∀ b ∈ exd, W.heap.size ≤ b
  newx : ∀ b ∈ exx, W.heap.size ≤ b
  kept : ∀ k ∈ K, k < w.heap.size ∧ k ∉ exd ∧ k ∉ exx
  bel : Below W.heap.size W w
def Lg (PD : World → List Nat → Nat → Dv → Prop) (PO : World → List Nat → Nat → Nat → Nat → Sg → Prop) (K : List Nat) (W w : World) (p x : Nat) (d : Dv) (S : Sg) : Prop := ∃ exd exx, LgX PD PO K W w p x d S exd exx
/-- A device of the program in w, all of it new since W; the blocks K lie apart. -/
structure LdX (PD : World → List Nat → Nat → Dv → Prop) (K : List Nat) (W w : World) (p : Nat) (d : Dv) (exd : List Nat) : Prop where
  pd : PD w exd p d
  newd : ∀ b ∈ exd, W.heap.size ≤ b
  kept : ∀ k ∈ K, k < w.heap.size ∧ k ∉ exd
  bel : Below W.heap.size W w
def Ld (PD : World → List Nat → Nat → Dv → Prop) (K : List Nat) (W w : World) (p : Nat) (d : Dv) : Prop := ∃ exd, LdX PD K W w p d exd
/-- The blocks K stand as they did. -/
def Kp (K : List Nat) (w w' : World) : Prop := ∀ k ∈ K, w'.heap[k]? = w.heap[k]?
section
variable {PD : World → List Nat → Nat → Dv → Prop} {PO : World → List Nat → Nat → Nat → Nat → Sg → Prop} {K : List Nat} {W w w' : World} {p x : Nat} {d d' : Dv} {S S' : Sg}
theorem Lg.bel (h : Lg PD PO K W w p x d S) : Below W.heap.size W w := by obtain ⟨_, _, h⟩ := h; exact h.bel
theorem Ld.bel (h : Ld PD K W w p d) : Below W.heap.size W w := by obtain ⟨_, h⟩ := h; exact h.bel
theorem Lg.ld (h : Lg PD PO K W w p x d S) : Ld PD K W w p d := by
  obtain ⟨exd, exx, h⟩ := h
  exact ⟨exd, h.pd, h.newd, fun k hk => ⟨(h.kept k hk).1, (h.kept k hk).2.1⟩, h.bel⟩
theorem Lg.lt (h : Lg PD PO K W w p x d S) {k : Nat} (hk : k ∈ K) : k < w.heap.size := by obtain ⟨_, _, h⟩ := h; exact (h.kept k hk).1
theorem Ld.lt (h : Ld PD K W w p d) {k : Nat} (hk : k ∈ K) : k < w.heap.size := by obtain ⟨_, h⟩ := h; exact (h.kept k hk).1
theorem Lg.less (h : Lg PD PO K W w p x d S) {K' : List Nat} (hs : ∀ k ∈ K', k ∈ K) : Lg PD PO K' W w p x d S := by
  obtain ⟨exd, exx, h⟩ := h
  exact ⟨exd, exx, h.pd, h.po, h.apart, h.newd, h.newx, fun k hk => h.kept k (hs k hk), h.bel⟩
theorem Ld.less (h : Ld PD K W w p d) {K' : List Nat} (hs : ∀ k ∈ K', k ∈ K) : Ld PD K' W w p d := by
  obtain ⟨exd, h⟩ := h
  exact ⟨exd, h.pd, h.newd, fun k hk => h.kept k (hs k hk), h.bel⟩
theorem Kp.refl (K : List Nat) (w : World) : Kp K w w := fun _ _ => rfl
theorem Kp.trans {w'' : World} (h : Kp K w w') (h' : Kp K w' w'') : Kp K w w'' := fun k hk => (h' k hk).trans (h k hk)
variable (I : Iface0 PD) (J : Iface7 PD PO)
include I
theorem Ld.below (h : Ld PD K W w p d) (hb : Below w.heap.size w w') : Ld PD K W w' p d ∧ Kp K w w' := by
  obtain ⟨exd, h⟩ := h
  exact ⟨⟨exd, I.below h.pd hb, h.newd, fun k hk => ⟨Nat.lt_of_lt_of_le (h.kept k hk).1 hb.size, (h.kept k hk).2⟩, h.bel.trans (hb.mono h.bel.size)⟩, fun k hk => hb.block k (h.kept k hk).1⟩
/-- Blocks that are none of the device's have turned; what is K' now lies apart. -/
theorem Ld.turn (h : Ld PD K W w p d) {E : List Nat} (hf : Fr E w w') (hE : ∀ b ∈ E, b ∈ K ∧ W.heap.size ≤ b) {K' : List Nat} (hK : ∀ k ∈ K', (k ∈ K ∨ w.heap.size ≤ k) ∧ k < w'.heap.size) : Ld PD K' W w' p d := by
  obtain ⟨exd, h⟩ := h
  have hlt := I.lt h.pd
  exact ⟨exd, I.keep h.pd (fun b hb => hf.block b (hlt b hb) (fun he => (h.kept b (hE b he).1).2 hb)), h.newd, fun k hk => ⟨(hK k hk).2, fun hin => (hK k hk).1.elim (fun q => (h.kept k q).2 hin) (fun q => by have := hlt k hin; omega)⟩, h.bel.trans (hf.below h.bel.size (fun b hb => (hE b hb).2))⟩
theorem Iface0.newL (n : Nat) (hb : Below W.heap.size W w) (h1 : 1 ≤ n) (h2 : n ≤ 4096) (hK : ∀ k ∈ K, k < w.heap.size) : Calls Tryz.prog 5 #[.int .i64 (n : Nat)] w fun e w' => ∃ p, e = .returned (.pointer (some ⟨p, 0, none⟩)) ∧ Ld PD K W w' p (newD n) ∧ Kp K w w' :=
  (I.new n w h1 h2).mono fun e w' ⟨⟨p, he, ex, hp, hn⟩, hb2⟩ => ⟨p, he, ⟨ex, hp, fun b hm => Nat.le_trans hb.size (hn b hm), fun k hk => ⟨Nat.lt_of_lt_of_le (hK k hk) hb2.size, fun hin => by have := hn k hin; have := hK k hk; omega⟩, hb.trans (hb2.mono hb.size)⟩, fun k hk => hb2.block k (hK k hk)⟩
theorem Iface0.armD7 (n : Int) (h : Ld PD K W w p d) : Calls Tryz.prog 9 #[.pointer (some ⟨p, 0, none⟩), .int .i64 n] w fun e w' => e = .returned (.tuple #[]) ∧ Ld PD K W w' p (armD d n) ∧ Kp K w w' := by
  obtain ⟨ex, hx⟩ := h
  refine (I.arm n w hx.pd).mono fun e w' ⟨he, ex', hp, hm⟩ => ⟨he, ⟨ex', hp, fun b hb => (hm.2 b hb).elim (hx.newd b) (fun q => Nat.le_trans hx.bel.size q), fun k hk => ⟨Nat.lt_of_lt_of_le (hx.kept k hk).1 hm.1.size, fun hin => (hm.2 k hin).elim (hx.kept k hk).2 (fun q => by have := (hx.kept k hk).1; omega)⟩, hx.bel.trans (hm.1.below hx.bel.size hx.newd)⟩, fun k hk => hm.1.block k (hx.kept k hk).1 (hx.kept k hk).2⟩
theorem Iface0.crashD7 (a : Option Addr) (kn kc : Nat) (keep : List Bool) (torn cut : Int) (h : Ld PD K W w p d) (hf : d.Few) (ho : d.Ok) (h0 : 0 < d.safe.length) (hb : BoolsAt w a kn keep) (hkc : kn ≤ kc) (hkm : (kn : Int) ≤ 9223372036854775807) (hoff : ∀ b off, 0 < kn → a = some ⟨b, off, none⟩ → b < W.heap.size ∨ b ∈ K) :
    Calls Tryz.prog 11 #[.pointer (some ⟨p, 0, none⟩), .slice a kn kc, .int .i64 torn, .int .i64 cut] w fun e w' => e = .returned (.tuple #[]) ∧ Ld PD K W w' p (crashD d keep torn cut) ∧ Kp K w w' := by
  obtain ⟨ex, hx⟩ := h
  refine (I.crash a kn kc keep torn cut w hx.pd hf ho h0 hb hkc hkm (fun b off h0' e hin => ?_)).mono fun e w' ⟨he, ex', hp, hm⟩ => ⟨he, ⟨ex', hp, fun b hb => (hm.2 b hb).elim (hx.newd b) (fun q => Nat.le_trans hx.bel.size q), fun k hk => ⟨Nat.lt_of_lt_of_le (hx.kept k hk).1 hm.1.size, fun hin => (hm.2 k hin).elim (hx.kept k hk).2 (fun q => by have := (hx.kept k hk).1; omega)⟩, hx.bel.trans (hm.1.below hx.bel.size hx.newd)⟩, fun k hk => hm.1.block k (hx.kept k hk).1 (hx.kept k hk).2⟩
  rcases hoff b off h0' e with q | q
  · have := hx.newd b hin; omega
  · exact (hx.kept b q).2 hin
theorem Iface0.safeD7 (k : Int) (h : Ld PD K W w p d) (hf : d.Few) (ho : d.Ok) : Calls Tryz.prog 62 #[.pointer (some ⟨p, 0, none⟩), .int .i64 k] w fun e w' => e = .returned (.string ⟨(safeD d k).toArray⟩) ∧ Below w.heap.size w w' := by
  obtain ⟨ex, hx⟩ := h
  exact I.safe k w hx.pd hf ho
theorem Iface0.waitingD7 (h : Ld PD K W w p d) (hf : d.Few) : Calls Tryz.prog 18 #[.pointer (some ⟨p, 0, none⟩)] w fun e w' => (∃ a c, e = .returned (.slice a d.waits.length c) ∧ d.waits.length ≤ c ∧ WritAt w' a d.waits.length d.waits) ∧ Below w.heap.size w w' := by
  obtain ⟨ex, hx⟩ := h
  exact I.waiting w hx.pd hf
include J
theorem Lg.below (h : Lg PD PO K W w p x d S) (hb : Below w.heap.size w w') : Lg PD PO K W w' p x d S ∧ Kp K w w' := by
  obtain ⟨exd, exx, h⟩ := h
  exact ⟨⟨exd, exx, I.below h.pd hb, J.keep h.po (fun b hb' => hb.block b (J.lt h.po b hb')), h.apart, h.newd, h.newx, fun k hk => ⟨Nat.lt_of_lt_of_le (h.kept k hk).1 hb.size, (h.kept k hk).2⟩, h.bel.trans (hb.mono h.bel.size)⟩, fun k hk => hb.block k (h.kept k hk).1⟩
/-- Blocks that are none of the log's have turned; what is K' now lies apart. -/
theorem Lg.turn (h : Lg PD PO K W w p x d S) {E : List Nat} (hf : Fr E w w') (hE : ∀ b ∈ E, b ∈ K ∧ W.heap.size ≤ b) {K' : List Nat} (hK : ∀ k ∈ K', (k ∈ K ∨ w.heap.size ≤ k) ∧ k < w'.heap.size) : Lg PD PO K' W w' p x d S := by
  obtain ⟨exd, exx, h⟩ := h
  have hlt := I.lt h.pd
  have hlx := J.lt h.po
  exact ⟨exd, exx, I.keep h.pd (fun b hb => hf.block b (hlt b hb) (fun he => (h.kept b (hE b he).1).2.1 hb)), J.keep h.po (fun b hb => hf.block b (hlx b hb) (fun he => (h.kept b (hE b he).1).2.2 hb)), h.apart, h.newd, h.newx,
    fun k hk => ⟨(hK k hk).2, fun hin => (hK k hk).1.elim (fun q => (h.kept k q).2.1 hin) (fun q => by have := hlt k hin; omega), fun hin => (hK k hk).1.elim (fun q => (h.kept k q).2.2 hin) (fun q => by have := hlx k hin; omega)⟩, h.bel.trans (hf.below h.bel.size (fun b hb => (hE b hb).2))⟩
theorem Iface7.openOkL {m : Mk} {Lb : List UInt8} {rs : Secs} (h : Ld PD K W w p d) (hf : d.Few7) (ho : d.Ok) (h3 : 3 ≤ d.safe.length) (hon : d.on = true) (hm : openM (vis d) = some (m, Lb, rs)) :
    Calls Tryz.prog 7 #[.pointer (some ⟨p, 0, none⟩)] w fun e w' => ∃ x a c, e = .returned (.tuple #[.pointer (some ⟨x, 0, none⟩), .slice a rs.length c, .int .i64 0]) ∧ rs.length ≤ c ∧ StrsAt w' w'.heap.size a rs.length rs ∧ Lg PD PO K W w' p x d ⟨m, Lb, false⟩ ∧ Below w.heap.size w w' ∧ w'.ownsRow w.heap.size 9 1 (.slice a rs.length c) rs.length (strs rs) ∧ Lg PD PO (blk (.slice a rs.length c) ++ K) W w' p x d ⟨m, Lb, false⟩ := by
  obtain ⟨exd, h⟩ := h
  refine (J.openOk w h.pd hf ho h3 hon hm).mono fun e w' ⟨⟨x, a, c, exx, he, hs, hp, hn, ha⟩, hb⟩ => ?_
  have hlt := I.lt h.pd
  have base : ∀ K', (∀ k ∈ K', (k ∈ K ∨ w.heap.size ≤ k ∧ k ∉ exx ∧ k < w'.heap.size)) → LgX PD PO K' W w' p x d ⟨m, Lb, false⟩ exd exx := fun K' hK' =>
    ⟨I.below h.pd hb, hp, fun b hb1 hb2 => by have := hlt b hb1; have := hn b hb2; omega, h.newd, fun b hb1 => Nat.le_trans h.bel.size (hn b hb1), fun k hk => (hK' k hk).elim (fun q => ⟨Nat.lt_of_lt_of_le (h.kept k q).1 hb.size, (h.kept k q).2, fun hin => by have := hn k hin; have := (h.kept k q).1; omega⟩) (fun q => ⟨q.2.2, fun hin => by have := hlt k hin; omega, q.2.1⟩), h.bel.trans (hb.mono h.bel.size)⟩
  refine ⟨x, a, c, he, ?_, strsAt_own hs, ⟨exd, exx, base K fun k hk => .inl hk⟩, hb, hs, exd, exx, base _ fun k hk => ?_⟩
  · rcases hs.2 with ⟨e1, e2⟩ | ⟨g, cap, cur, e1, _, _, hnc, _⟩
    · omega
    · simp only [Value.slice.injEq] at e1; omega
  · rcases List.mem_append.1 hk with hk | hk
    · exact .inr ⟨own_block_ge hs k (mem_blk.1 hk), ha k (mem_blk.1 hk), own_lt hs (mem_blk.1 hk)⟩
    · exact .inl hk
theorem Iface7.openNoL (h : Ld PD K W w p d) (hf : d.Few7) (ho : d.Ok) (hm : openE d ≠ 0) : Calls Tryz.prog 7 #[.pointer (some ⟨p, 0, none⟩)] w fun e w' => (∃ a c, e = .returned (.tuple #[.pointer none, .slice a 0 c, .int .i64 (openE d)])) ∧ Below w.heap.size w w' := by
  obtain ⟨exd, h⟩ := h
  exact J.openNo w h.pd hf ho hm
theorem Iface7.commitL (r : List UInt8) (h : Lg PD PO K W w p x d S) (hf : d.Few7) (ho : d.Ok) (hS : S.Fits d.safe.length) (hr : (r.length : Int) ≤ 16777215) (hl : (commitD d S r).1.1.safe.length = d.safe.length) :
    Calls Tryz.prog 15 #[.pointer (some ⟨x, 0, none⟩), .string ⟨r.toArray⟩] w fun e w' => e = .returned (.int .i64 (commitD d S r).2) ∧ Lg PD PO K W w' p x (commitD d S r).1.1 (commitD d S r).1.2 ∧ Kp K w w' := by
  obtain ⟨exd, exx, h⟩ := h
  refine (J.commit r w h.pd h.po h.apart hf ho hS hr).mono fun e w' ⟨he, exd', exx', hp, hx, hap, hfr, hn1, hn2⟩ => ⟨he, ⟨exd', exx', hp, by rw [hl]; exact hx, hap, fun b hb => (hn1 b hb).elim (h.newd b) (fun q => Nat.le_trans h.bel.size q), fun b hb => (hn2 b hb).elim (h.newx b) (fun q => Nat.le_trans h.bel.size q), fun k hk => ?_, h.bel.trans (hfr.below h.bel.size (fun b hb => (List.mem_append.1 hb).elim (h.newd b) (h.newx b)))⟩, fun k hk => hfr.block k (h.kept k hk).1 (fun hin => (List.mem_append.1 hin).elim (h.kept k hk).2.1 (h.kept k hk).2.2)⟩
  have hlt := (h.kept k hk).1
  exact ⟨Nat.lt_of_lt_of_le hlt hfr.size, fun hin => (hn1 k hin).elim (h.kept k hk).2.1 (fun q => by omega), fun hin => (hn2 k hin).elim (h.kept k hk).2.2 (fun q => by omega)⟩
theorem Iface7.markL (h : Lg PD PO K W w p x d S) : Calls Tryz.prog 19 #[.pointer (some ⟨x, 0, none⟩)] w fun e w' => e = .returned (mkV S.m) ∧ Below w.heap.size w w' := by
  obtain ⟨exd, exx, h⟩ := h
  exact J.mark w h.po
theorem Iface7.brokenL (h : Lg PD PO K W w p x d S) : Calls Tryz.prog 20 #[.pointer (some ⟨x, 0, none⟩)] w fun e w' => e = .returned (.bool S.br) ∧ w = w' := by
  obtain ⟨exd, exx, h⟩ := h
  exact J.broken w h.po
theorem Iface7.roomL (h : Lg PD PO K W w p x d S) (hS : S.Fits d.safe.length) (hn : d.safe.length ≤ 4096) : Calls Tryz.prog 21 #[.pointer (some ⟨x, 0, none⟩)] w fun e w' => e = .returned (.int .i64 (((64 * (d.safe.length - 2) - S.log.length : Nat)) : Int)) ∧ ∃ m, w' = w.drewN m := by
  obtain ⟨exd, exx, h⟩ := h
  exact J.room w h.pd h.po hS hn
/-- The device of a log turns by a call of its own. -/
theorem Lg.dev (h : Lg PD PO K W w p x d S) (C : ∀ exd, PD w exd p d → (∀ b ∈ exd, W.heap.size ≤ b) → (∀ k ∈ K, k ∉ exd) → ∃ exd', PD w' exd' p d' ∧ Mv exd w exd' w') (hl : d'.safe.length = d.safe.length) : Lg PD PO K W w' p x d' S ∧ Kp K w w' := by
  obtain ⟨exd, exx, h⟩ := h
  obtain ⟨exd', hp, hm⟩ := C exd h.pd h.newd (fun k hk => (h.kept k hk).2.1)
  have hlx := J.lt h.po
  exact ⟨⟨exd', exx, hp, by rw [hl]; exact J.keep h.po (fun b hb => hm.1.block b (hlx b hb) (fun hin => h.apart b hin hb)), fun b hb hin => (hm.2 b hb).elim (fun q => h.apart b q hin) (fun q => by have := hlx b hin; omega), fun b hb => (hm.2 b hb).elim (h.newd b) (fun q => Nat.le_trans h.bel.size q), h.newx,
    fun k hk => ⟨Nat.lt_of_lt_of_le (h.kept k hk).1 hm.1.size, fun hin => (hm.2 k hin).elim (h.kept k hk).2.1 (fun q => by have := (h.kept k hk).1; omega), (h.kept k hk).2.2⟩, h.bel.trans (hm.1.below h.bel.size h.newd)⟩, fun k hk => hm.1.block k (h.kept k hk).1 (h.kept k hk).2.1⟩
theorem Iface7.armL (n : Int) (h : Lg PD PO K W w p x d S) : Calls Tryz.prog 9 #[.pointer (some ⟨p, 0, none⟩), .int .i64 n] w fun e w' => e = .returned (.tuple #[]) ∧ Lg PD PO K W w' p x (armD d n) S ∧ Kp K w w' := by
  obtain ⟨exd, exx, hx⟩ := h
  refine (I.arm n w hx.pd).mono fun e w' ⟨he, ex', hp, hm⟩ => ⟨he, ?_⟩
  have hlx := J.lt hx.po
  exact ⟨⟨ex', exx, hp, J.keep hx.po (fun b hb => hm.1.block b (hlx b hb) (fun hin => hx.apart b hin hb)), fun b hb hin => (hm.2 b hb).elim (fun q => hx.apart b q hin) (fun q => by have := hlx b hin; omega), fun b hb => (hm.2 b hb).elim (hx.newd b) (fun q => Nat.le_trans hx.bel.size q), hx.newx,
    fun k hk => ⟨Nat.lt_of_lt_of_le (hx.kept k hk).1 hm.1.size, fun hin => (hm.2 k hin).elim (hx.kept k hk).2.1 (fun q => by have := (hx.kept k hk).1; omega), (hx.kept k hk).2.2⟩, hx.bel.trans (hm.1.below hx.bel.size hx.newd)⟩, fun k hk => hm.1.block k (hx.kept k hk).1 (hx.kept k hk).2.1⟩
end
theorem commitD_len (d : Dv) (S : Sg) (r : List UInt8) : (commitD d S r).1.1.safe.length = d.safe.length := by
  unfold commitD
  split
  · rfl
  · split
    · split
      · split <;> exact runD_len _ _
      · rfl
    · rfl
end Go.Proofs.YtnpoohkklfpmdaaGreat
