/- Both logs, side by side. -/
import Derived.Test.YtnpoohkklfpmdaaGreatRows
import Derived.WalkKit
import Derived.Below
import Derived.ProofKit
import Derived.OpenShut
import Derived.ShutString
import Derived.ChangeOld
import Derived.Outline
import Derived.RegionTactic
import Derived.ChangeAlike
import Derived.BigRegion
import Derived.BigQuiet
import Derived.Deep.QuietTactic
import Derived.Deep.RegionWith
import Derived.Deep.RegionLaw
import Derived.Deep.RegionHeld3
import Derived.Deep.AppendLies
import Derived.Deep.Draws
import Derived.StillTailTactics
import Derived.Lib.Hide
import Derived.Lib.SmallJoins
import Derived.Handy
import Derived.WalkSpells
import Derived.WalkLawsBesides
import Derived.Deep.LoopGhost
import Derived.Deep.DeepCutAuto
import Derived.Deep.CutBlock
import Derived.Deep.CutRange
import Derived.Deep.OwnRows
import Derived.Laws.CopyOwn
import Derived.Great.BuildSlice
import Derived.Test.YtnpoohkklfpmdaaGreatSlRD
import Derived.Test.YtnpoohkklfpmdaaGreatSlPZ
import Derived.Test.YtnpoohkklfpmdaaGreatTlvK
namespace Go.Proofs.YtnpoohkklfpmdaaGreat
open Go.RowKit
set_option linter.unusedSimpArgs false
set_option linter.unusedVariables false
set_option linter.unnecessarySimpa false
/-- The program's log and its device, with all of their blocks. -/
def Hp (PD : World → List Nat → Nat → Dv → Prop) (p x : Nat) (d : Dv) (S : Sg) (w : World) (E : List Nat) : Prop := ∃ exd, E = exd ++ [x] ∧ PD w exd p d ∧ Rw w x (scs p d.safe.length S) 71 ∧ x ∉ exd
/-- The document's. -/
def Hq (q y : Nat) (d : Dv) (S : Sg) (w : World) (E : List Nat) : Prop := ∃ us uw, E = y :: ft us uw q ∧ R6 w us uw q d ∧ Rw w y (rs7 q S) 54 ∧ y ∉ ft us uw q
/-- Both, side by side; rows beside them stand as listed. -/
structure BothX (PD : World → List Nat → Nat → Dv → Prop) (K : List (Nat × List Value × TypeId)) (W w : World) (p x q y : Nat) (d : Dv) (S : Sg) (d2 : Dv) (S2 : Sg) (E1 E2 : List Nat) : Prop where
  hp : Hp PD p x d S w E1
  hq : Hq q y d2 S2 w E2
  apart : ∀ b ∈ E1, b ∉ E2
  new1 : ∀ b ∈ E1, W.heap.size ≤ b
  new2 : ∀ b ∈ E2, W.heap.size ≤ b
  rows : ∀ r ∈ K, Rw w r.1 r.2.1 r.2.2 ∧ r.1 ∉ E1 ∧ r.1 ∉ E2
  bel : Below W.heap.size W w
def Both (PD : World → List Nat → Nat → Dv → Prop) (K : List (Nat × List Value × TypeId)) (W w : World) (p x q y : Nat) (d : Dv) (S : Sg) (d2 : Dv) (S2 : Sg) : Prop := ∃ E1 E2, BothX PD K W w p x q y d S d2 S2 E1 E2
section
variable {PD : World → List Nat → Nat → Dv → Prop} {K : List (Nat × List Value × TypeId)} {W w w' : World} {p x q y : Nat} {d d2 d' : Dv} {S S2 S' : Sg} {E1 E2 E : List Nat}
theorem Hq.lt (h : Hq q y d S w E) : ∀ b ∈ E, b < w.heap.size := by
  obtain ⟨us, uw, rfl, hr, hy, _⟩ := h
  intro b hb
  rcases List.mem_cons.1 hb with e | e
  · rw [e]; exact hy.lt
  · exact hr.lt b e
theorem Hq.keep (h : Hq q y d S w E) (hb : ∀ b ∈ E, w'.heap[b]? = w.heap[b]?) : Hq q y d S w' E := by
  obtain ⟨us, uw, rfl, hr, hy, hn⟩ := h
  exact ⟨us, uw, rfl, hr.keep (fun b hm => hb b (List.mem_cons_of_mem _ hm)), hy.keep (hb y List.mem_cons_self), hn⟩
theorem Both.bel (h : Both PD K W w p x q y d S d2 S2) : Below W.heap.size W w := by obtain ⟨E1, E2, h⟩ := h; exact h.bel
theorem Both.row (h : Both PD K W w p x q y d S d2 S2) (i : Nat) {b : Nat} {cs : List Value} {t : TypeId} (hi : K[i]? = some (b, cs, t)) : Rw w b cs t := by
  obtain ⟨E1, E2, h⟩ := h
  exact (h.rows (b, cs, t) (List.mem_of_getElem? hi)).1
theorem Both.less (h : Both PD K W w p x q y d S d2 S2) : Both PD [] W w p x q y d S d2 S2 := by
  obtain ⟨E1, E2, h⟩ := h
  exact ⟨E1, E2, h.hp, h.hq, h.apart, h.new1, h.new2, (fun r hr => by cases hr), h.bel⟩
/-- The document's half has gone on. -/
theorem BothX.two (I : Iface0 PD) (h : BothX PD K W w p x q y d S d2 S2 E1 E2) {y' : Nat} {d' : Dv} {S' : Sg} {E2' : List Nat} (hq : Hq q y' d' S' w' E2') (hf : Fr E2 w w') (hn : ∀ b ∈ E2', b ∈ E2 ∨ w.heap.size ≤ b) : Both PD K W w' p x q y' d S d' S' := by
  obtain ⟨exd, rfl, hd, hx, hxn⟩ := h.hp
  have lt1 : ∀ b ∈ exd ++ [x], b < w.heap.size := fun b hb => (List.mem_append.1 hb).elim (I.lt hd b) (fun e => by rw [List.mem_singleton.1 e]; exact hx.lt)
  refine ⟨exd ++ [x], E2', ⟨exd, rfl, I.keep hd (fun b hb => hf.block b (lt1 b (by simp [hb])) (h.apart b (by simp [hb]))), hx.fr hf (h.apart x (by simp)), hxn⟩, hq, fun b hb hin => ?_, h.new1, fun b hb => (hn b hb).elim (h.new2 b) (fun e => Nat.le_trans h.bel.size e), fun r hr => ?_, h.bel.trans (hf.below h.bel.size h.new2)⟩
  · rcases hn b hin with e | e
    · exact h.apart b hb e
    · have := lt1 b hb; omega
  · obtain ⟨r1, r2, r3⟩ := h.rows r hr
    exact ⟨r1.fr hf r3, r2, fun hin => (hn _ hin).elim r3 (fun e => by have := r1.lt; omega)⟩
/-- The program's half has gone on. -/
theorem BothX.one (h : BothX PD K W w p x q y d S d2 S2 E1 E2) {x' : Nat} {d' : Dv} {S' : Sg} {E1' : List Nat} (hp : Hp PD p x' d' S' w' E1') (hf : Fr E1 w w') (hn : ∀ b ∈ E1', b ∈ E1 ∨ w.heap.size ≤ b) : Both PD K W w' p x' q y d' S' d2 S2 := by
  have lt2 := h.hq.lt
  refine ⟨E1', E2, hp, h.hq.keep (fun b hb => hf.block b (lt2 b hb) (fun e => h.apart b e hb)), fun b hb hin => ?_, fun b hb => (hn b hb).elim (h.new1 b) (fun e => Nat.le_trans h.bel.size e), h.new2, fun r hr => ?_, h.bel.trans (hf.below h.bel.size h.new1)⟩
  · rcases hn b hb with e | e
    · exact h.apart b e hin
    · have := lt2 b hin; omega
  · obtain ⟨r1, r2, r3⟩ := h.rows r hr
    exact ⟨r1.fr hf r2, fun hin => (hn _ hin).elim r2 (fun e => by have := r1.lt; omega), r3⟩
variable (I : Iface0 PD)
include I
theorem Both.below (h : Both PD K W w p x q y d S d2 S2) (hb : Below w.heap.size w w') : Both PD K W w' p x q y d S d2 S2 := by
  obtain ⟨E1, E2, h⟩ := h
  obtain ⟨exd, rfl, hd, hx, hxn⟩ := h.hp
  exact ⟨_, E2, ⟨exd, rfl, I.below hd hb, hx.below hb, hxn⟩, h.hq.keep (fun b hm => hb.block b (h.hq.lt b hm)), h.apart, h.new1, h.new2, fun r hr => ⟨(h.rows r hr).1.below hb, (h.rows r hr).2⟩, h.bel.trans (hb.mono h.bel.size)⟩
theorem Both.alloc (h : Both PD K W w p x q y d S d2 S2) (cs : List Value) (t : TypeId) : Both PD ((w.heap.size, cs, t) :: K) W (w.alloc (.cells cs.toArray t)) p x q y d S d2 S2 := by
  have hb : Below w.heap.size w (w.alloc (.cells cs.toArray t)) := (Below.refl _ _).alloc (Nat.le_refl _) _
  obtain ⟨E1, E2, h⟩ := h
  have lt2 := h.hq.lt
  obtain ⟨exd, rfl, hd, hx, hxn⟩ := h.hp
  have lt1 : ∀ b ∈ exd ++ [x], b < w.heap.size := fun b hb => (List.mem_append.1 hb).elim (I.lt hd b) (fun e => by rw [List.mem_singleton.1 e]; exact hx.lt)
  refine ⟨_, E2, ⟨exd, rfl, I.below hd hb, hx.below hb, hxn⟩, h.hq.keep (fun b hm => hb.block b (lt2 b hm)), h.apart, h.new1, h.new2, fun r hr => ?_, h.bel.trans (hb.mono h.bel.size)⟩
  rcases List.mem_cons.1 hr with e | e
  · subst e
    exact ⟨Rw.new w _ _, fun hin => Nat.lt_irrefl _ (lt1 _ hin), fun hin => Nat.lt_irrefl _ (lt2 _ hin)⟩
  · exact ⟨(h.rows r e).1.below hb, (h.rows r e).2⟩
theorem Both.arm (n : Int) (h : Both PD K W w p x q y d S d2 S2) : Calls Tryz.prog 9 #[.pointer (some ⟨p, 0, none⟩), .int .i64 n] w fun e w' => e = .returned (.tuple #[]) ∧ Both PD K W w' p x q y (armD d n) S d2 S2 := by
  obtain ⟨E1, E2, h⟩ := h
  obtain ⟨exd, rfl, hd, hx, hxn⟩ := h.hp
  refine (I.arm n w hd).mono fun e w' ⟨he, ex', hp, hm⟩ => ⟨he, h.one (E1' := ex' ++ [x]) ⟨ex', rfl, hp, hx.fr hm.1 hxn, fun hin => (hm.2 x hin).elim hxn (fun e => by have := hx.lt; omega)⟩ (hm.1.more (by intro b hb; simp [hb])) (fun b hb => ?_)⟩
  rcases List.mem_append.1 hb with e | e
  · exact (hm.2 b e).imp (fun e => by simp [e]) id
  · left; simp [List.mem_singleton.1 e]
theorem Both.rarm (n : Int) (h : Both PD K W w p x q y d S d2 S2) : Calls Tryz.prog 10 #[.pointer (some ⟨q, 0, none⟩), .int .i64 n] w fun e w' => e = .returned (.tuple #[]) ∧ Both PD K W w' p x q y d S (armD d2 n) S2 := by
  obtain ⟨E1, E2, h⟩ := h
  obtain ⟨us, uw, rfl, hr, hy, hyn⟩ := h.hq
  refine (refArm_any us uw q d2 n w hr).mono fun e w' ⟨he, hr', hf⟩ => ⟨he, h.two I ⟨us, uw, rfl, hr', hy.fr hf (fun hin => hyn (by rw [List.mem_singleton.1 hin]; simp [ft])), hyn⟩ (hf.more (fun b hb => by rw [List.mem_singleton.1 hb]; simp [ft])) (fun b hb => .inl hb)⟩
theorem Both.crash (a : Option Addr) (kn kc : Nat) (keep : List Bool) (torn cut : Int) (h : Both PD K W w p x q y d S d2 S2) (hf : d.Few) (ho : d.Ok) (h0 : 0 < d.safe.length) (hb : BoolsAt w a kn keep) (hkc : kn ≤ kc) (hkm : (kn : Int) ≤ 9223372036854775807) (hoff : ∀ b off, 0 < kn → a = some ⟨b, off, none⟩ → b < W.heap.size) :
    Calls Tryz.prog 11 #[.pointer (some ⟨p, 0, none⟩), .slice a kn kc, .int .i64 torn, .int .i64 cut] w fun e w' => e = .returned (.tuple #[]) ∧ Both PD K W w' p x q y (crashD d keep torn cut) S d2 S2 := by
  obtain ⟨E1, E2, h⟩ := h
  obtain ⟨exd, rfl, hd, hx, hxn⟩ := h.hp
  have hl := crashD_len ho keep torn cut
  refine (I.crash a kn kc keep torn cut w hd hf ho h0 hb hkc hkm (fun b off h0' e hin => by have := hoff b off h0' e; have := h.new1 b (by simp [hin]); omega)).mono fun e w' ⟨he, ex', hp, hm⟩ => ⟨he, h.one (E1' := ex' ++ [x]) ⟨ex', rfl, hp, by rw [hl]; exact hx.fr hm.1 hxn, fun hin => (hm.2 x hin).elim hxn (fun e => by have := hx.lt; omega)⟩ (hm.1.more (by intro b hb; simp [hb])) (fun b hb => ?_)⟩
  rcases List.mem_append.1 hb with e | e
  · exact (hm.2 b e).imp (fun e => by simp [e]) id
  · left; simp [List.mem_singleton.1 e]
theorem Both.rcrash (a : Option Addr) (kn kc : Nat) (keep : List Bool) (torn cut : Int) (h : Both PD K W w p x q y d S d2 S2) (hf : d2.Few) (ho : d2.Ok) (hb : BoolsAt w a kn keep) (hkc : kn ≤ kc) (hkm : (kn : Int) ≤ 9223372036854775807) (hoff : ∀ b off, 0 < kn → a = some ⟨b, off, none⟩ → b < W.heap.size) :
    Calls Tryz.prog 12 #[.pointer (some ⟨q, 0, none⟩), .slice a kn kc, .int .i64 torn, .int .i64 cut] w fun e w' => e = .returned (.tuple #[]) ∧ Both PD K W w' p x q y d S (crashD d2 keep torn cut) S2 := by
  obtain ⟨E1, E2, h⟩ := h
  obtain ⟨us, uw, rfl, hr, hy, hyn⟩ := h.hq
  have sub : ∀ b ∈ q :: blk us, b ∈ ft us uw q := fun b hb => by
    rcases List.mem_cons.1 hb with e | e
    · simp [ft, e]
    · simp [ft, e]
  have sub2 : ∀ b ∈ ft us (.slice none 0 0) q, b ∈ ft us uw q := fun b hb => by
    unfold ft at hb
    rcases List.mem_cons.1 hb with e | e
    · simp [ft, e]
    · rcases List.mem_append.1 e with e | e
      · simp [ft, e]
      · cases e
  refine (refCrash_any us uw q d2 a kn kc keep torn cut w hr hf ho hb hkc hkm (fun b off h0' e hin => by have := hoff b off h0' e; have := h.new2 b (by simp [sub b hin]); omega)).mono fun e w' ⟨he, hr', hf'⟩ => ⟨he, h.two I ⟨us, .slice none 0 0, rfl, hr', hy.fr hf' (fun hin => hyn (sub _ hin)), fun hin => hyn (sub2 _ hin)⟩ (hf'.more (fun b hb => by simp [sub b hb])) (fun b hb => .inl ?_)⟩
  rcases List.mem_cons.1 hb with e | e
  · simp [e]
  · simp [sub2 b e]
theorem Both.commit (r : List UInt8) (h : Both PD K W w p x q y d S d2 S2) (hf : d.Few7) (ho : d.Ok) (hs : S.Fits d.safe.length) (hr : (r.length : Int) ≤ 16777215) :
    Calls Tryz.prog 15 #[.pointer (some ⟨x, 0, none⟩), .string ⟨r.toArray⟩] w fun e w' => e = .returned (.int .i64 (commitD d S r).2) ∧ Both PD K W w' p x q y (commitD d S r).1.1 (commitD d S r).1.2 d2 S2 := by
  obtain ⟨E1, E2, h⟩ := h
  obtain ⟨exd, rfl, hd, hx, hxn⟩ := h.hp
  refine (sCommit_any I r w hd ⟨rfl, hx⟩ (fun b hb hin => hxn (by rw [← List.mem_singleton.1 hin]; exact hb)) hf ho hs hr).mono fun e w' ⟨he, exd', exx', hp, ⟨hxx, hx'⟩, hap, hfr, hn1, hn2⟩ => ⟨he, ?_⟩
  subst hxx
  refine h.one (E1' := exd' ++ [x]) ⟨exd', rfl, hp, by rw [commitD_len]; exact hx', fun hin => hap x hin (by simp)⟩ hfr (fun b hb => ?_)
  rcases List.mem_append.1 hb with e | e
  · exact (hn1 b e).imp (fun e => by simp [e]) id
  · left; simp [List.mem_singleton.1 e]
theorem Both.rcommit (r : List UInt8) (h : Both PD K W w p x q y d S d2 S2) (hf : d2.Few7) (ho : d2.Ok) (hs : S2.Fits d2.safe.length) (hr : (r.length : Int) ≤ 16777215) :
    Calls Tryz.prog 16 #[.pointer (some ⟨y, 0, none⟩), .string ⟨r.toArray⟩] w fun e w' => e = .returned (.int .i64 (commitD d2 S2 r).2) ∧ Both PD K W w' p x q y d S (commitD d2 S2 r).1.1 (commitD d2 S2 r).1.2 := by
  obtain ⟨E1, E2, h⟩ := h
  obtain ⟨us, uw, rfl, hr6, hy, hyn⟩ := h.hq
  refine (rCommit_any r w hr6 hy hyn hf ho hs hr).mono fun e w' ⟨he, uw', hr', hy', hfr, hn⟩ => ⟨he, h.two I ⟨us, uw', rfl, hr', hy', ft_uw hy.lt hyn hn⟩ hfr (fun b hb => ?_)⟩
  rcases List.mem_cons.1 hb with e | e
  · left; simp [e]
  · unfold ft at e
    rcases List.mem_cons.1 e with e | e
    · left; simp [ft, e]
    · rcases List.mem_append.1 e with e | e
      · left; simp [ft, e]
      · exact (hn b e).imp (fun e => by simp [ft, e]) id
/-- The program's log is opened anew. -/
theorem Both.openOk (h : Both PD K W w p x q y d S d2 S2) (hf : d.Few7) (ho : d.Ok) (h3 : 3 ≤ d.safe.length) (hon : d.on = true) {m : Mk} {L : List UInt8} {rs : Secs} (hO : openM (vis d) = some (m, L, rs)) :
    Calls Tryz.prog 7 #[.pointer (some ⟨p, 0, none⟩)] w fun e w' => (∃ x' a c, e = .returned (.tuple #[.pointer (some ⟨x', 0, none⟩), .slice a rs.length c, .int .i64 0]) ∧ StrsAt w' w'.heap.size a rs.length rs ∧ rs.length ≤ c ∧ Both PD K W w' p x' q y d ⟨m, L, false⟩ d2 S2) := by
  obtain ⟨E1, E2, h⟩ := h
  obtain ⟨exd, rfl, hd, hx, hxn⟩ := h.hp
  have hc := sOpen_on I w hd hf ho h3 hon
  rw [hO] at hc
  refine hc.mono fun e w' ⟨⟨x', a, c, he, hown, ⟨_, hx'⟩, hxn', _⟩, hb⟩ => ⟨x', a, c, he, strsAt_own hown, own_cap hown, h.one (E1' := exd ++ [x']) ⟨exd, rfl, I.below hd hb, hx', fun hin => by have := I.lt hd x' hin; omega⟩ (Fr.of_below hb) (fun b hb' => ?_)⟩
  rcases List.mem_append.1 hb' with e | e
  · left; simp [e]
  · right; rw [List.mem_singleton.1 e]; exact hxn'
theorem Both.ropenOk (h : Both PD K W w p x q y d S d2 S2) (hf : d2.Few7) (ho : d2.Ok) (h3 : 3 ≤ d2.safe.length) (hon : d2.on = true) {m : Mk} {L : List UInt8} {rs : Secs} (hO : openM (vis d2) = some (m, L, rs)) :
    Calls Tryz.prog 8 #[.pointer (some ⟨q, 0, none⟩)] w fun e w' => (∃ y' a k c, e = .returned (.tuple #[.pointer (some ⟨y', 0, none⟩), .slice a k c, .int .i64 0]) ∧ StrsAt w' w'.heap.size a k rs ∧ k ≤ c ∧ Both PD K W w' p x q y' d S d2 ⟨m, L, false⟩) ∧ Below w.heap.size w w' := by
  obtain ⟨E1, E2, h⟩ := h
  obtain ⟨us, uw, rfl, hr6, hy, hyn⟩ := h.hq
  have hc := rOpen_on w hr6 hf ho h3 hon
  rw [hO] at hc
  refine hc.mono fun e w' ⟨⟨y', a, k, c, he, hkc, hsa, hy', hyn'⟩, hb⟩ => ⟨⟨y', a, k, c, he, hsa.mono (fun k hk => rfl) (Nat.le_of_lt hy'.lt), hkc, h.two I ⟨us, uw, rfl, hr6.keep (fun b hm => hb.block b (hr6.lt b hm)), hy', fun hin => by have := hr6.lt y' hin; omega⟩ (Fr.of_below hb) (fun b hb' => ?_)⟩, hb⟩
  rcases List.mem_cons.1 hb' with e | e
  · right; rw [e]; exact hyn'
  · left; simp [e]
end
end Go.Proofs.YtnpoohkklfpmdaaGreat
