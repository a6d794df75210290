/- A device of the program and one of the document, side by side. -/
import Derived.Test.YtmpcfdjpklmfmaaRows
import Derived.WalkKit
import Derived.Below
import Derived.ProofKit
import Derived.OpenShut
import Derived.ShutString
import Derived.ChangeOld
import Derived.Outline
import Derived.RegionTactic
import Derived.ChangeAlike
import Derived.BigRegion
import Derived.BigQuiet
import Derived.Deep.QuietTactic
import Derived.Deep.RegionWith
import Derived.Deep.RegionLaw
import Derived.Deep.RegionHeld3
import Derived.Deep.AppendLies
import Derived.Deep.Draws
import Derived.StillTailTactics
import Derived.Lib.Hide
import Derived.Lib.SmallJoins
import Derived.Handy
import Derived.WalkSpells
import Derived.WalkLawsBesides
import Derived.Deep.LoopGhost
import Derived.Deep.DeepCutAuto
import Derived.Deep.CutBlock
import Derived.Deep.CutRange
import Derived.Deep.OwnRows
import Derived.Laws.CopyOwn
import Derived.Test.YtmpcfdjpklmfmaaDevJ
namespace Go.Proofs.Ytmpcfdjpklmfmaa
open Go.RowKit
set_option linter.unusedSimpArgs false
set_option linter.unusedVariables false
set_option linter.unnecessarySimpa false
set_option linter.unusedSectionVars false
/-- The blocks of the document's device. -/
def ft (us uw : Value) (q : Nat) : List Nat := q :: (blk us ++ blk uw)
/-- A device of the program and one of the document, side by side; rows beside them stand as listed. -/
structure TwoX (PD : World → List Nat → Nat → Dv → Prop) (L : List (Nat × List Value × TypeId)) (W w : World) (p : Nat) (d : Dv) (q : Nat) (r : Dv) (ex : List Nat) (us uw : Value) : Prop where
  pd : PD w ex p d
  rd : R6 w us uw q r
  apart : ∀ b ∈ ex, b ∉ ft us uw q
  new1 : ∀ b ∈ ex, W.heap.size ≤ b
  new2 : ∀ b ∈ ft us uw q, W.heap.size ≤ b
  rows : ∀ x ∈ L, Rw w x.1 x.2.1 x.2.2 ∧ x.1 ∉ ex ∧ x.1 ∉ ft us uw q
  bel : Below W.heap.size W w
def Two (PD : World → List Nat → Nat → Dv → Prop) (L : List (Nat × List Value × TypeId)) (W w : World) (p : Nat) (d : Dv) (q : Nat) (r : Dv) : Prop := ∃ ex us uw, TwoX PD L W w p d q r ex us uw
section
variable {PD : World → List Nat → Nat → Dv → Prop} {L : List (Nat × List Value × TypeId)} {W w w' : World} {p q : Nat} {d d' r r' : Dv} {ex ex' : List Nat} {us uw us' uw' : Value}
theorem R6.lt (h : R6 w us uw q r) : ∀ b ∈ ft us uw q, b < w.heap.size := fun b hb => by
  rcases List.mem_cons.1 hb with e | e
  · rw [e]; exact h.row.lt
  · rcases List.mem_append.1 e with e | e
    · exact own_lt h.safe (mem_blk.1 e)
    · exact own_lt h.waits (mem_blk.1 e)
theorem R6.keep (h : R6 w us uw q r) (hb : ∀ b ∈ ft us uw q, w'.heap[b]? = w.heap[b]?) : R6 w' us uw q r :=
  ⟨h.row.keep (hb q List.mem_cons_self), own_keep h.safe (fun k hk => hb k (List.mem_cons_of_mem _ (List.mem_append_left _ (mem_blk.2 hk)))), own_keep h.waits (fun k hk => hb k (List.mem_cons_of_mem _ (List.mem_append_right _ (mem_blk.2 hk))))⟩
theorem Two.bel (h : Two PD L W w p d q r) : Below W.heap.size W w := by obtain ⟨ex, us, uw, h⟩ := h; exact h.bel
theorem Two.row (h : Two PD L W w p d q r) (i : Nat) {b : Nat} {cs : List Value} {t : TypeId} (hi : L[i]? = some (b, cs, t)) : Rw w b cs t := by
  obtain ⟨ex, us, uw, h⟩ := h
  exact (h.rows (b, cs, t) (List.mem_of_getElem? hi)).1
theorem TwoX.below (I : Iface PD) (h : TwoX PD L W w p d q r ex us uw) (hb : Below w.heap.size w w') : TwoX PD L W w' p d q r ex us uw :=
  ⟨I.below h.pd hb, h.rd.keep (fun b hm => hb.block b (h.rd.lt b hm)), h.apart, h.new1, h.new2, fun x hx => ⟨(h.rows x hx).1.below hb, (h.rows x hx).2⟩, h.bel.trans (hb.mono h.bel.size)⟩
theorem TwoX.drew (I : Iface PD) (h : TwoX PD L W w p d q r ex us uw) : TwoX PD L W w.drew p d q r ex us uw := h.below I (Below.refl _ _).drew
theorem own_le {w : World} {base size n cap : Nat} {e : TypeId} {A : Option Addr} {xs : List Value} (h : w.ownsRow base e size (.slice A n cap) n xs) : n ≤ cap := by
  rcases h.2 with ⟨h1, h2⟩ | ⟨g, cp, cur, hv, _, _, hc, _⟩
  · simp only [Value.slice.injEq] at h1; omega
  · simp only [Value.slice.injEq] at hv; omega
theorem Two.below (I : Iface PD) (h : Two PD L W w p d q r) (hb : Below w.heap.size w w') : Two PD L W w' p d q r := by
  obtain ⟨ex, us, uw, h⟩ := h
  exact ⟨ex, us, uw, I.below h.pd hb, h.rd.keep (fun b hm => hb.block b (h.rd.lt b hm)), h.apart, h.new1, h.new2, fun x hx => ⟨(h.rows x hx).1.below hb, (h.rows x hx).2⟩, h.bel.trans (hb.mono h.bel.size)⟩
theorem Two.drew (I : Iface PD) (h : Two PD L W w p d q r) : Two PD L W w.drew p d q r := h.below I (Below.refl _ _).drew
theorem Two.less (h : Two PD L W w p d q r) {L' : List (Nat × List Value × TypeId)} (hs : ∀ x ∈ L', x ∈ L) : Two PD L' W w p d q r := by
  obtain ⟨ex, us, uw, h⟩ := h
  exact ⟨ex, us, uw, h.pd, h.rd, h.apart, h.new1, h.new2, fun x hx => h.rows x (hs x hx), h.bel⟩
theorem Two.alloc (I : Iface PD) (h : Two PD L W w p d q r) (cs : List Value) (t : TypeId) : Two PD ((w.heap.size, cs, t) :: L) W (w.alloc (.cells cs.toArray t)) p d q r := by
  have hb : Below w.heap.size w (w.alloc (.cells cs.toArray t)) := (Below.refl _ _).alloc (Nat.le_refl _) _
  obtain ⟨ex, us, uw, h⟩ := h
  refine ⟨ex, us, uw, I.below h.pd hb, h.rd.keep (fun b hm => hb.block b (h.rd.lt b hm)), h.apart, h.new1, h.new2, fun x hx => ?_, h.bel.trans (hb.mono h.bel.size)⟩
  rcases List.mem_cons.1 hx with e | e
  · subst e
    exact ⟨Rw.new w _ _, fun hin => by have := I.lt h.pd _ hin; simp at this, fun hin => by have := h.rd.lt _ hin; simp at this⟩
  · exact ⟨(h.rows x e).1.below hb, (h.rows x e).2⟩
/-- The program's device has gone on. -/
theorem TwoX.mv (h : TwoX PD L W w p d q r ex us uw) (hp : PD w' ex' p d') (hm : Mv ex w ex' w') : Two PD L W w' p d' q r := by
  have hno : ∀ b ∈ ft us uw q, b ∉ ex := fun b hb hin => h.apart b hin hb
  refine ⟨ex', us, uw, hp, h.rd.keep (fun b hb => hm.1.block b (h.rd.lt b hb) (hno b hb)), fun b hb hin => ?_, fun b hb => (hm.2 b hb).elim (h.new1 b) (fun hh => Nat.le_trans h.bel.size hh), h.new2,
    fun x hx => ⟨(h.rows x hx).1.fr hm.1 (h.rows x hx).2.1, fun hin => (hm.2 _ hin).elim (h.rows x hx).2.1 (fun hh => by have := (h.rows x hx).1.lt; omega), (h.rows x hx).2.2⟩, h.bel.trans (hm.1.below h.bel.size h.new1)⟩
  rcases hm.2 b hb with hh | hh
  · exact h.apart b hh hin
  · have := h.rd.lt b hin; omega
/-- The document's device has gone on. -/
theorem TwoX.rmv (I : Iface PD) (h : TwoX PD L W w p d q r ex us uw) (hp : R6 w' us' uw' q r') (hf : Fr (ft us uw q) w w') (hn : ∀ b ∈ ft us' uw' q, b ∈ ft us uw q ∨ w.heap.size ≤ b) : Two PD L W w' p d q r' := by
  refine ⟨ex, us', uw', I.keep h.pd (fun b hb => hf.block b (I.lt h.pd b hb) (h.apart b hb)), hp, fun b hb hin => ?_, h.new1, fun b hb => (hn b hb).elim (h.new2 b) (fun hh => Nat.le_trans h.bel.size hh),
    fun x hx => ⟨(h.rows x hx).1.fr hf (h.rows x hx).2.2, (h.rows x hx).2.1, fun hin => (hn _ hin).elim (h.rows x hx).2.2 (fun hh => by have := (h.rows x hx).1.lt; omega)⟩, h.bel.trans (hf.below h.bel.size h.new2)⟩
  rcases hn b hin with hh | hh
  · exact h.apart b hb hh
  · have := I.lt h.pd b hb; omega
theorem Two.q_row (h : Two PD L W w p d q r) : ∃ us uw, Rw w q (rcs us uw r) 44 ∧ w.ownsRow 0 9 1 us r.safe.length (svs r.safe) ∧ w.ownsRow 0 64 2 uw r.waits.length (wrs r.waits) := by
  obtain ⟨ex, us, uw, h⟩ := h
  exact ⟨us, uw, h.rd.row, h.rd.safe, h.rd.waits⟩
variable (I : Iface PD)
include I
theorem Iface.readT (k : Int) (h : Two PD L W w p d q r) (hf : d.Few) (ho : d.Ok) : Calls Try.prog 14 #[.pointer (some ⟨p, 0, none⟩), .int .i64 k] w fun e w' => e = .returned (.tuple #[.string ⟨(readD d k).1.toArray⟩, .int .i64 (readD d k).2]) ∧ Two PD L W w' p d q r := by
  obtain ⟨ex, us, uw, hx⟩ := h
  exact (I.read k w hx.pd hf ho).mono fun e w' ⟨he, hb⟩ => ⟨he, Two.below I ⟨ex, us, uw, hx⟩ hb⟩
theorem Iface.writeT (k : Int) (s : List UInt8) (h : Two PD L W w p d q r) (hf : d.Few) (ho : d.Ok) (hs : (s.length : Int) ≤ 9223372036854775807) : Calls Try.prog 21 #[.pointer (some ⟨p, 0, none⟩), .int .i64 k, .string ⟨s.toArray⟩] w fun e w' => e = .returned (.int .i64 (writeD d k s).2) ∧ Two PD L W w' p (writeD d k s).1 q r := by
  obtain ⟨ex, us, uw, hx⟩ := h
  exact (I.write k s w hx.pd hf ho hs).mono fun e w' ⟨he, ex', hp, hm⟩ => ⟨he, hx.mv hp hm⟩
theorem Iface.flushT (h : Two PD L W w p d q r) (hf : d.Few) (ho : d.Ok) : Calls Try.prog 12 #[.pointer (some ⟨p, 0, none⟩)] w fun e w' => e = .returned (.int .i64 (flushD d).2) ∧ Two PD L W w' p (flushD d).1 q r := by
  obtain ⟨ex, us, uw, hx⟩ := h
  exact (I.flush w hx.pd hf ho).mono fun e w' ⟨he, ex', hp, hm⟩ => ⟨he, hx.mv hp hm⟩
theorem Iface.armT (n : Int) (h : Two PD L W w p d q r) : Calls Try.prog 16 #[.pointer (some ⟨p, 0, none⟩), .int .i64 n] w fun e w' => e = .returned (.tuple #[]) ∧ Two PD L W w' p (armD d n) q r := by
  obtain ⟨ex, us, uw, hx⟩ := h
  exact (I.arm n w hx.pd).mono fun e w' ⟨he, ex', hp, hm⟩ => ⟨he, hx.mv hp hm⟩
theorem Iface.crashT (a : Option Addr) (kn kc : Nat) (keep : List Bool) (torn cut : Int) (h : Two PD L W w p d q r) (hf : d.Few) (ho : d.Ok) (h0 : 0 < d.safe.length) (hb : BoolsAt w a kn keep) (hkc : kn ≤ kc) (hkm : (kn : Int) ≤ 9223372036854775807) (hoff : ∀ b off, 0 < kn → a = some ⟨b, off, none⟩ → b < W.heap.size) :
    Calls Try.prog 18 #[.pointer (some ⟨p, 0, none⟩), .slice a kn kc, .int .i64 torn, .int .i64 cut] w fun e w' => e = .returned (.tuple #[]) ∧ Two PD L W w' p (crashD d keep torn cut) q r := by
  obtain ⟨ex, us, uw, hx⟩ := h
  exact (I.crash a kn kc keep torn cut w hx.pd hf ho h0 hb hkc hkm (fun b off h0' e hin => by have := hoff b off h0' e; have := hx.new1 b hin; omega)).mono fun e w' ⟨he, ex', hp, hm⟩ => ⟨he, hx.mv hp hm⟩
theorem Iface.onT (h : Two PD L W w p d q r) : Calls Try.prog 25 #[.pointer (some ⟨p, 0, none⟩)] w fun e w' => e = .returned (.bool d.on) ∧ w = w' := by
  obtain ⟨ex, us, uw, hx⟩ := h; exact I.on w hx.pd
theorem Iface.stepsT (h : Two PD L W w p d q r) : Calls Try.prog 26 #[.pointer (some ⟨p, 0, none⟩)] w fun e w' => e = .returned (.int .i64 (d.steps : Nat)) ∧ w = w' := by
  obtain ⟨ex, us, uw, hx⟩ := h; exact I.steps w hx.pd
theorem Iface.sectorsT (h : Two PD L W w p d q r) : Calls Try.prog 27 #[.pointer (some ⟨p, 0, none⟩)] w fun e w' => e = .returned (.int .i64 (d.safe.length : Nat)) ∧ w = w' := by
  obtain ⟨ex, us, uw, hx⟩ := h; exact I.sectors w hx.pd
theorem Iface.waitingT (h : Two PD L W w p d q r) (hf : d.Few) : Calls Try.prog 24 #[.pointer (some ⟨p, 0, none⟩)] w fun e w' => ∃ a c, e = .returned (.slice a d.waits.length c) ∧ d.waits.length ≤ c ∧ WritAt w' a d.waits.length d.waits ∧ Two PD L W w' p d q r := by
  obtain ⟨ex, us, uw, hx⟩ := h
  exact (I.waiting w hx.pd hf).mono fun e w' ⟨⟨a, c, he, hc, ha⟩, hb⟩ => ⟨a, c, he, hc, ha, Two.below I ⟨ex, us, uw, hx⟩ hb⟩
theorem Iface.safeT (k : Int) (h : Two PD L W w p d q r) (hf : d.Few) (ho : d.Ok) : Calls Try.prog 28 #[.pointer (some ⟨p, 0, none⟩), .int .i64 k] w fun e w' => e = .returned (.string ⟨(safeD d k).toArray⟩) ∧ Two PD L W w' p d q r := by
  obtain ⟨ex, us, uw, hx⟩ := h
  exact (I.safe k w hx.pd hf ho).mono fun e w' ⟨he, hb⟩ => ⟨he, Two.below I ⟨ex, us, uw, hx⟩ hb⟩
theorem Iface.rreadT (k : Int) (h : Two PD L W w p d q r) (hf : r.Few) : Calls Try.prog 15 #[.pointer (some ⟨q, 0, none⟩), .int .i64 k] w fun e w' => e = .returned (.tuple #[.string ⟨(readD r k).1.toArray⟩, .int .i64 (readD r k).2]) ∧ Two PD L W w' p d q r := by
  obtain ⟨ex, us, uw, hx⟩ := h
  exact (refRead_any us uw q r k w hx.rd hf).mono fun e w' ⟨he, hw⟩ => ⟨he, by rw [hw]; exact ⟨ex, us, uw, hx⟩⟩
theorem Iface.rwriteT (k : Int) (s : List UInt8) (h : Two PD L W w p d q r) (hf : r.Few) (hs : (s.length : Int) ≤ 9223372036854775807) : Calls Try.prog 22 #[.pointer (some ⟨q, 0, none⟩), .int .i64 k, .string ⟨s.toArray⟩] w fun e w' => e = .returned (.int .i64 (writeD r k s).2) ∧ Two PD L W w' p d q (writeD r k s).1 := by
  obtain ⟨ex, us, uw, hx⟩ := h
  refine (refWrite_any us uw q r k s w hx.rd hf hs).mono fun e w' ⟨he, uw', hr, hfr, hn⟩ => ⟨he, hx.rmv I hr (hfr.more (fun b hb => ?_)) (fun b hb => ?_)⟩
  · rcases List.mem_cons.1 hb with e | e
    · rw [e]; exact List.mem_cons_self
    · exact List.mem_cons_of_mem _ (List.mem_append_right _ e)
  · rcases List.mem_cons.1 hb with e | e
    · left; rw [e]; exact List.mem_cons_self
    · rcases List.mem_append.1 e with e | e
      · exact .inl (List.mem_cons_of_mem _ (List.mem_append_left _ e))
      · exact (hn b e).imp (fun e => List.mem_cons_of_mem _ (List.mem_append_right _ e)) id
theorem ft_sub {us uw uw' : Value} {q : Nat} (h : uw' = uw ∨ blk uw' = []) : ∀ b ∈ ft us uw' q, b ∈ ft us uw q := fun b hb => by
  rcases h with h | h
  · rw [← h]; exact hb
  · unfold ft at hb ⊢
    rw [h, List.append_nil] at hb
    rcases List.mem_cons.1 hb with e | e
    · rw [e]; exact List.mem_cons_self
    · exact List.mem_cons_of_mem _ (List.mem_append_left _ e)
omit I in
theorem ft_us {us uw : Value} {q : Nat} : ∀ b ∈ q :: blk us, b ∈ ft us uw q := fun b hb => by
  rcases List.mem_cons.1 hb with e | e
  · rw [e]; exact List.mem_cons_self
  · exact List.mem_cons_of_mem _ (List.mem_append_left _ e)
theorem Iface.rflushT (h : Two PD L W w p d q r) (hf : r.Few) (ho : r.Ok) : Calls Try.prog 13 #[.pointer (some ⟨q, 0, none⟩)] w fun e w' => e = .returned (.int .i64 (flushD r).2) ∧ Two PD L W w' p d q (flushD r).1 := by
  obtain ⟨ex, us, uw, hx⟩ := h
  exact (refFlush_any us uw q r w hx.rd hf ho).mono fun e w' ⟨he, uw', hr, hfr, hn⟩ => ⟨he, hx.rmv I hr (hfr.more ft_us) (fun b hb => .inl (ft_sub I hn b hb))⟩
theorem Iface.rarmT (n : Int) (h : Two PD L W w p d q r) : Calls Try.prog 17 #[.pointer (some ⟨q, 0, none⟩), .int .i64 n] w fun e w' => e = .returned (.tuple #[]) ∧ Two PD L W w' p d q (armD r n) := by
  obtain ⟨ex, us, uw, hx⟩ := h
  exact (refArm_any us uw q r n w hx.rd).mono fun e w' ⟨he, hr, hfr⟩ => ⟨he, hx.rmv I hr (hfr.more (fun b hb => by rw [List.mem_singleton.1 hb]; exact List.mem_cons_self)) (fun b hb => .inl hb)⟩
theorem Iface.rcrashT (a : Option Addr) (kn kc : Nat) (keep : List Bool) (torn cut : Int) (h : Two PD L W w p d q r) (hf : r.Few) (ho : r.Ok) (hb : BoolsAt w a kn keep) (hkc : kn ≤ kc) (hkm : (kn : Int) ≤ 9223372036854775807) (hoff : ∀ b off, 0 < kn → a = some ⟨b, off, none⟩ → b < W.heap.size) :
    Calls Try.prog 19 #[.pointer (some ⟨q, 0, none⟩), .slice a kn kc, .int .i64 torn, .int .i64 cut] w fun e w' => e = .returned (.tuple #[]) ∧ Two PD L W w' p d q (crashD r keep torn cut) := by
  obtain ⟨ex, us, uw, hx⟩ := h
  exact (refCrash_any us uw q r a kn kc keep torn cut w hx.rd hf ho hb hkc hkm (fun b off h0' e hin => by have := hoff b off h0' e; have := hx.new2 b (ft_us b hin); omega)).mono fun e w' ⟨he, hr, hfr⟩ => ⟨he, hx.rmv I hr (hfr.more ft_us) (fun b hb => .inl (ft_sub I (.inr rfl) b hb))⟩
end
end Go.Proofs.Ytmpcfdjpklmfmaa
