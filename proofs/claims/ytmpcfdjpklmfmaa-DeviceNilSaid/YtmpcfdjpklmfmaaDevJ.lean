/- A device of the program while a law goes on; the laws' awake. -/
import Derived.Test.YtmpcfdjpklmfmaaRows
import Derived.WalkKit
import Derived.Below
import Derived.ProofKit
import Derived.OpenShut
import Derived.ShutString
import Derived.ChangeOld
import Derived.Outline
import Derived.RegionTactic
import Derived.ChangeAlike
import Derived.BigRegion
import Derived.BigQuiet
import Derived.Deep.QuietTactic
import Derived.Deep.RegionWith
import Derived.Deep.RegionLaw
import Derived.Deep.RegionHeld3
import Derived.Deep.AppendLies
import Derived.Deep.Draws
import Derived.StillTailTactics
import Derived.Lib.Hide
import Derived.Lib.SmallJoins
import Derived.Handy
import Derived.WalkSpells
import Derived.WalkLawsBesides
import Derived.Deep.LoopGhost
import Derived.Deep.DeepCutAuto
import Derived.Deep.CutBlock
import Derived.Deep.CutRange
import Derived.Deep.OwnRows
import Derived.Laws.CopyOwn
import Derived.Test.YtmpcfdjpklmfmaaDevI
namespace Go.Proofs.Ytmpcfdjpklmfmaa
open Go.RowKit
set_option linter.unusedSimpArgs false
set_option linter.unusedVariables false
set_option linter.unnecessarySimpa false
/-- A device of the program in w, all of it new since W; rows beside it stand as listed. -/
structure HdX (PD : World → List Nat → Nat → Dv → Prop) (L : List (Nat × List Value × TypeId)) (W w : World) (p : Nat) (d : Dv) (ex : List Nat) : Prop where
  pd : PD w ex p d
  new : ∀ b ∈ ex, W.heap.size ≤ b
  rows : ∀ r ∈ L, Rw w r.1 r.2.1 r.2.2 ∧ r.1 ∉ ex ∧ W.heap.size ≤ r.1
  bel : Below W.heap.size W w
def Hd (PD : World → List Nat → Nat → Dv → Prop) (L : List (Nat × List Value × TypeId)) (W w : World) (p : Nat) (d : Dv) : Prop := ∃ ex, HdX PD L W w p d ex
section
variable {PD : World → List Nat → Nat → Dv → Prop} {L : List (Nat × List Value × TypeId)} {W w w' : World} {p : Nat} {d d' : Dv} {ex ex' : List Nat}
theorem Hd.bel (h : Hd PD L W w p d) : Below W.heap.size W w := by obtain ⟨ex, h⟩ := h; exact h.bel
theorem Hd.row (h : Hd PD L W w p d) (i : Nat) {b : Nat} {cs : List Value} {t : TypeId} (hi : L[i]? = some (b, cs, t)) : Rw w b cs t := by
  obtain ⟨ex, h⟩ := h
  exact (h.rows (b, cs, t) (List.mem_of_getElem? hi)).1
theorem Hd.below (I : Iface PD) (h : Hd PD L W w p d) (hb : Below w.heap.size w w') : Hd PD L W w' p d := by
  obtain ⟨ex, h⟩ := h
  exact ⟨ex, I.below h.pd hb, h.new, fun r hr => ⟨(h.rows r hr).1.below hb, (h.rows r hr).2⟩, h.bel.trans (hb.mono h.bel.size)⟩
theorem Hd.drew (I : Iface PD) (h : Hd PD L W w p d) : Hd PD L W w.drew p d := h.below I (Below.refl _ _).drew
theorem HdX.mv (h : HdX PD L W w p d ex) (hp : PD w' ex' p d') (hm : Mv ex w ex' w') : Hd PD L W w' p d' :=
  ⟨ex', hp, fun b hb => (hm.2 b hb).elim (h.new b) (fun hh => Nat.le_trans h.bel.size hh),
    fun r hr => ⟨(h.rows r hr).1.fr hm.1 (h.rows r hr).2.1, fun hin => (hm.2 _ hin).elim (h.rows r hr).2.1 (fun hh => by have := (h.rows r hr).1.lt; omega), (h.rows r hr).2.2⟩,
    h.bel.trans (hm.1.below h.bel.size h.new)⟩
theorem Hd.alloc (I : Iface PD) (h : Hd PD L W w p d) (cs : List Value) (t : TypeId) : Hd PD ((w.heap.size, cs, t) :: L) W (w.alloc (.cells cs.toArray t)) p d := by
  have hb : Below w.heap.size w (w.alloc (.cells cs.toArray t)) := (Below.refl _ _).alloc (Nat.le_refl _) _
  obtain ⟨ex, h2⟩ := h
  have hlt := I.lt h2.pd
  obtain ⟨ex2, h3⟩ := Hd.below I ⟨ex, h2⟩ hb
  exact ⟨ex, I.below h2.pd hb, h2.new, fun r hr => by
    rcases List.mem_cons.1 hr with e | e
    · subst e; exact ⟨Rw.new w _ _, fun hin => by have := hlt _ hin; simp at this, h2.bel.size⟩
    · exact ⟨(h2.rows r e).1.below hb, (h2.rows r e).2⟩, h2.bel.trans (hb.mono h2.bel.size)⟩
theorem Hd.less (h : Hd PD L W w p d) {L' : List (Nat × List Value × TypeId)} (hs : ∀ r ∈ L', r ∈ L) : Hd PD L' W w p d := by
  obtain ⟨ex, h⟩ := h
  exact ⟨ex, h.pd, h.new, fun r hr => h.rows r (hs r hr), h.bel⟩
/-- A cell of a listed row turns; the listed rows lie apart. -/
theorem Hd.set (I : Iface PD) (h : Hd PD L W w p d) (i : Nat) {b : Nat} {cs : List Value} {t : TypeId} (hi : L[i]? = some (b, cs, t)) (hap : L.Pairwise (fun r s => r.1 ≠ s.1)) (k : Nat) (v : Value) : Hd PD (L.set i (b, cs.set k v, t)) W (w.setCell ⟨b, k, none⟩ v) p d := by
  obtain ⟨ex, h⟩ := h
  obtain ⟨h1, h2, h3⟩ := h.rows (b, cs, t) (List.mem_of_getElem? hi)
  have hil := (List.getElem?_eq_some_iff.1 hi).1
  refine ⟨ex, I.keep h.pd (fun c hc => Below.heap_setCell _ _ _ _ (fun e => h2 (by rw [show b = c from e.symm]; exact hc))), h.new, fun r hr => ?_, h.bel.setCell h3 _⟩
  obtain ⟨j, hj⟩ := List.mem_iff_getElem?.1 hr
  rw [List.getElem?_set] at hj
  by_cases e : i = j
  · subst e
    rw [if_pos rfl, if_pos hil] at hj
    obtain rfl := Option.some.inj hj
    exact ⟨h1.set k v, h2, h3⟩
  · rw [if_neg e] at hj
    have hr2 := h.rows r (List.mem_of_getElem? hj)
    refine ⟨hr2.1.other (fun e2 => ?_) _, hr2.2⟩
    rw [List.getElem?_eq_some_iff] at hi hj
    obtain ⟨l1, e3⟩ := hi
    obtain ⟨l2, e4⟩ := hj
    have ap := List.pairwise_iff_getElem.1 hap
    rcases Nat.lt_or_gt_of_ne e with q | q
    · exact ap i j l1 l2 q (by rw [e3, e4]; exact e2.symm)
    · exact ap j i l2 l1 q (by rw [e3, e4]; exact e2)
/-- A listed row is laid anew; the listed rows lie apart. -/
theorem Hd.put (I : Iface PD) (h : Hd PD L W w p d) (i : Nat) {b : Nat} {cs : List Value} {t : TypeId} (hi : L[i]? = some (b, cs, t)) (hap : L.Pairwise (fun r s => r.1 ≠ s.1)) (cs' : List Value) : Hd PD (L.set i (b, cs', t)) W (w.setRow b cs'.toArray) p d := by
  obtain ⟨ex, h⟩ := h
  obtain ⟨h1, h2, h3⟩ := h.rows (b, cs, t) (List.mem_of_getElem? hi)
  have hil := (List.getElem?_eq_some_iff.1 hi).1
  refine ⟨ex, I.keep h.pd (fun c hc => setRow_other (fun e => h2 (by rw [show b = c from e]; exact hc))), h.new, fun r hr => ?_, below_setRow h.bel h3 _⟩
  obtain ⟨j, hj⟩ := List.mem_iff_getElem?.1 hr
  rw [List.getElem?_set] at hj
  by_cases e : i = j
  · subst e
    rw [if_pos rfl, if_pos hil] at hj
    obtain rfl := Option.some.inj hj
    exact ⟨setRow_heap _ _ _ _ _ _ h1, h2, h3⟩
  · rw [if_neg e] at hj
    have hr2 := h.rows r (List.mem_of_getElem? hj)
    refine ⟨(setRow_other (fun e2 => ?_)).trans hr2.1, hr2.2⟩
    rw [List.getElem?_eq_some_iff] at hi hj
    obtain ⟨l1, e3⟩ := hi
    obtain ⟨l2, e4⟩ := hj
    have ap := List.pairwise_iff_getElem.1 hap
    rcases Nat.lt_or_gt_of_ne e with q | q
    · exact ap i j l1 l2 q (by rw [e3, e4]; exact e2)
    · exact ap j i l2 l1 q (by rw [e3, e4]; exact e2.symm)
variable (I : Iface PD)
include I
theorem Iface.newH (n : Nat) (hb : Below W.heap.size W w) (h1 : 1 ≤ n) (h2 : n ≤ 4096) (hL : ∀ r ∈ L, Rw w r.1 r.2.1 r.2.2 ∧ W.heap.size ≤ r.1) : Calls Try.prog 10 #[.int .i64 (n : Nat)] w fun e w' => ∃ p, e = .returned (.pointer (some ⟨p, 0, none⟩)) ∧ Hd PD L W w' p (newD n) :=
  (I.new n w h1 h2).mono fun e w' ⟨⟨p, he, ex, hp, hn⟩, hb2⟩ => ⟨p, he, ex, hp, fun b hm => Nat.le_trans hb.size (hn b hm), fun r hr => ⟨(hL r hr).1.below hb2, fun hin => by have := hn _ hin; have := (hL r hr).1.lt; omega, (hL r hr).2⟩, hb.trans (hb2.mono hb.size)⟩
theorem Iface.readH (k : Int) (h : Hd PD L W w p d) (hf : d.Few) (ho : d.Ok) : Calls Try.prog 14 #[.pointer (some ⟨p, 0, none⟩), .int .i64 k] w fun e w' => e = .returned (.tuple #[.string ⟨(readD d k).1.toArray⟩, .int .i64 (readD d k).2]) ∧ Hd PD L W w' p d := by
  obtain ⟨ex, hx⟩ := h
  exact (I.read k w hx.pd hf ho).mono fun e w' ⟨he, hb⟩ => ⟨he, Hd.below I ⟨ex, hx⟩ hb⟩
theorem Iface.writeH (k : Int) (s : List UInt8) (h : Hd PD L W w p d) (hf : d.Few) (ho : d.Ok) (hs : (s.length : Int) ≤ 9223372036854775807) : Calls Try.prog 21 #[.pointer (some ⟨p, 0, none⟩), .int .i64 k, .string ⟨s.toArray⟩] w fun e w' => e = .returned (.int .i64 (writeD d k s).2) ∧ Hd PD L W w' p (writeD d k s).1 := by
  obtain ⟨ex, hx⟩ := h
  exact (I.write k s w hx.pd hf ho hs).mono fun e w' ⟨he, ex', hp, hm⟩ => ⟨he, hx.mv hp hm⟩
theorem Iface.flushH (h : Hd PD L W w p d) (hf : d.Few) (ho : d.Ok) : Calls Try.prog 12 #[.pointer (some ⟨p, 0, none⟩)] w fun e w' => e = .returned (.int .i64 (flushD d).2) ∧ Hd PD L W w' p (flushD d).1 := by
  obtain ⟨ex, hx⟩ := h
  exact (I.flush w hx.pd hf ho).mono fun e w' ⟨he, ex', hp, hm⟩ => ⟨he, hx.mv hp hm⟩
theorem Iface.armH (n : Int) (h : Hd PD L W w p d) : Calls Try.prog 16 #[.pointer (some ⟨p, 0, none⟩), .int .i64 n] w fun e w' => e = .returned (.tuple #[]) ∧ Hd PD L W w' p (armD d n) := by
  obtain ⟨ex, hx⟩ := h
  exact (I.arm n w hx.pd).mono fun e w' ⟨he, ex', hp, hm⟩ => ⟨he, hx.mv hp hm⟩
theorem Iface.crashH (a : Option Addr) (kn kc : Nat) (keep : List Bool) (torn cut : Int) (h : Hd PD L W w p d) (hf : d.Few) (ho : d.Ok) (h0 : 0 < d.safe.length) (hb : BoolsAt w a kn keep) (hkc : kn ≤ kc) (hkm : (kn : Int) ≤ 9223372036854775807) (hoff : ∀ b off, 0 < kn → a = some ⟨b, off, none⟩ → b < W.heap.size ∨ ∃ r ∈ L, r.1 = b) :
    Calls Try.prog 18 #[.pointer (some ⟨p, 0, none⟩), .slice a kn kc, .int .i64 torn, .int .i64 cut] w fun e w' => e = .returned (.tuple #[]) ∧ Hd PD L W w' p (crashD d keep torn cut) := by
  obtain ⟨ex, hx⟩ := h
  refine (I.crash a kn kc keep torn cut w hx.pd hf ho h0 hb hkc hkm (fun b off h0' e hin => ?_)).mono fun e w' ⟨he, ex', hp, hm⟩ => ⟨he, hx.mv hp hm⟩
  rcases hoff b off h0' e with q | ⟨r, hr, q⟩
  · have := hx.new b hin; omega
  · exact (hx.rows r hr).2.1 (by rw [q]; exact hin)
theorem Iface.onH (h : Hd PD L W w p d) : Calls Try.prog 25 #[.pointer (some ⟨p, 0, none⟩)] w fun e w' => e = .returned (.bool d.on) ∧ w = w' := by
  obtain ⟨ex, hx⟩ := h; exact I.on w hx.pd
theorem Iface.stepsH (h : Hd PD L W w p d) : Calls Try.prog 26 #[.pointer (some ⟨p, 0, none⟩)] w fun e w' => e = .returned (.int .i64 (d.steps : Nat)) ∧ w = w' := by
  obtain ⟨ex, hx⟩ := h; exact I.steps w hx.pd
theorem Iface.sectorsH (h : Hd PD L W w p d) : Calls Try.prog 27 #[.pointer (some ⟨p, 0, none⟩)] w fun e w' => e = .returned (.int .i64 (d.safe.length : Nat)) ∧ w = w' := by
  obtain ⟨ex, hx⟩ := h; exact I.sectors w hx.pd
theorem Iface.waitingH (h : Hd PD L W w p d) (hf : d.Few) : Calls Try.prog 24 #[.pointer (some ⟨p, 0, none⟩)] w fun e w' => ∃ a c, e = .returned (.slice a d.waits.length c) ∧ d.waits.length ≤ c ∧ Hd PD L W w' p d := by
  obtain ⟨ex, hx⟩ := h
  exact (I.waiting w hx.pd hf).mono fun e w' ⟨⟨a, c, he, hc, _⟩, hb⟩ => ⟨a, c, he, hc, Hd.below I ⟨ex, hx⟩ hb⟩
theorem Iface.safeH (k : Int) (h : Hd PD L W w p d) (hf : d.Few) (ho : d.Ok) : Calls Try.prog 28 #[.pointer (some ⟨p, 0, none⟩), .int .i64 k] w fun e w' => e = .returned (.string ⟨(safeD d k).toArray⟩) ∧ Hd PD L W w' p d := by
  obtain ⟨ex, hx⟩ := h
  exact (I.safe k w hx.pd hf ho).mono fun e w' ⟨he, hb⟩ => ⟨he, Hd.below I ⟨ex, hx⟩ hb⟩
end
theorem newD_few (n : Nat) (h : n ≤ 4096) : (newD n).Few := ⟨by show 0 < _; omega, by show 0 < _; omega, by show 0 < _; omega, by simp [newD]; exact h⟩
theorem few_lit {sf : List (List UInt8)} {ws : List (Nat × List UInt8)} {on ar : Bool} {l s : Nat} (h1 : l < 1048576) (h2 : s < 1048576) (h3 : ws.length < 1048576) (h4 : sf.length ≤ 4096) : (Dv.mk sf ws on ar l s).Few := ⟨Nat.lt_trans h1 (by decide), Nat.lt_trans h2 (by decide), h3, h4⟩
section
variable {PD : World → List Nat → Nat → Dv → Prop} (I : Iface PD)
include I
set_option maxHeartbeats 2000000 in
theorem awake6_any (w : World) : Calls Try.prog 9 #[] w fun e w' => e = .returned (.bool true) ∧ Below w.heap.size w w' := by
  have e0 : newD 4 = ⟨[zsec, zsec, zsec, zsec], [], true, false, 0, 0⟩ := rfl
  have e1 : writeD ⟨[zsec, zsec, zsec, zsec], [], true, false, 0, 0⟩ 0 (sec 97) = (⟨[zsec, zsec, zsec, zsec], [(0, sec 97)], true, false, 0, 1⟩, 0) := rfl
  have e2 : writeD ⟨[zsec, zsec, zsec, zsec], [(0, sec 97)], true, false, 0, 1⟩ 1 (sec 98) = (⟨[zsec, zsec, zsec, zsec], [(0, sec 97), (1, sec 98)], true, false, 0, 2⟩, 0) := rfl
  have e3 : crashD ⟨[zsec, zsec, zsec, zsec], [(0, sec 97), (1, sec 98)], true, false, 0, 2⟩ [false, true] (-1) 0 = ⟨[zsec, sec 98, zsec, zsec], [], true, false, 0, 2⟩ := rfl
  have e4 : readD ⟨[zsec, sec 98, zsec, zsec], [], true, false, 0, 2⟩ 0 = (sec 0, 0) := rfl
  have e5 : readD ⟨[zsec, sec 98, zsec, zsec], [], true, false, 0, 2⟩ 1 = (sec 98, 0) := rfl
  have o0 := newD_ok 4
  rw [e0] at o0
  have o1 := writeD_ok o0 0 (sec 97)
  rw [e1] at o1
  have o2 := writeD_ok o1 1 (sec 98)
  rw [e2] at o2
  have o3 := crashD_ok o2 [false, true] (-1) 0
  rw [e3] at o3
  simp only at o1 o2
  have E1 := Lib.hid e1
  have E2 := Lib.hid e2
  have E3 := Lib.hid e3
  have E4 := Lib.hid e4
  have E5 := Lib.hid e5
  clear e1 e2 e3 e4 e5
  go_enter Try.func9, Try.ntmps9
  go_wp2_with fail
  refine (I.newH (L := []) 4 (Below.refl _ w) (by omega) (by omega) (fun r hr => by cases hr)).mono ?_
  rw [e0]
  rintro e w1 ⟨p, rfl, h1⟩
  go_wp2_with fail
  refine (sector_any 97 w1).mono ?_
  rintro e w2 ⟨rfl, g2⟩
  have h2 := h1.below I g2
  go_wp2_with fail
  refine (I.writeH 0 (sec 97) h2 (few_lit (by omega) (by omega) (by decide) (by decide)) o0 (by rw [sec_len]; decide)).mono ?_
  rw [E1.out]
  rintro e w3 ⟨rfl, h3⟩
  go_wp2_with fail
  refine (sector_any 98 w3).mono ?_
  rintro e w4 ⟨rfl, g4⟩
  have h4 := h3.below I g4
  go_wp2_with fail
  refine (I.writeH 1 (sec 98) h4 (few_lit (by omega) (by omega) (by decide) (by decide)) o1 (by rw [sec_len]; decide)).mono ?_
  rw [E2.out]
  rintro e w5 ⟨rfl, h5⟩
  clear h1 h2 h3 h4 g2 g4
  go_wp2_with fail
  have h6 := h5.alloc I [.bool false, .bool true] 4
  have r6 := h6.row 0 rfl
  have hb6 : BoolsAt (w5.alloc (.cells #[.bool false, .bool true] 4)) (some ⟨w5.heap.size, 0, none⟩) 2 [false, true] := ⟨rfl, fun _ => ⟨_, 0, rfl, r6.lt, fun k x hk => by
    match k with
    | 0 => simp at hk; subst hk; exact r6.c 0 rfl
    | 1 => simp at hk; subst hk; exact r6.c 1 rfl
    | k + 2 => simp at hk⟩⟩
  refine (I.crashH _ 2 2 [false, true] (-1) 0 h6 (few_lit (by omega) (by omega) (by decide) (by decide)) o2 (by decide) hb6 (by omega) (by decide) (fun b off _ e => .inr ⟨_, List.mem_cons_self, by simp at e; exact e.1⟩)).mono ?_
  rw [E3.out]
  rintro e w7 ⟨rfl, h7⟩
  clear h6 r6 hb6 h5
  go_wp2_with fail
  refine (I.readH 0 h7 (few_lit (by omega) (by omega) (by decide) (by decide)) o3).mono ?_
  rw [E4.out]
  rintro e w8 ⟨rfl, h8⟩
  go_wp2_with fail
  refine (I.readH 1 h8 (few_lit (by omega) (by omega) (by decide) (by decide)) o3).mono ?_
  rw [E5.out]
  rintro e w9 ⟨rfl, h9⟩
  clear h7 h8
  go_wp2_with fail
  refine (sector_any 0 w9).mono ?_
  rintro e w10 ⟨rfl, g10⟩
  have h10 := h9.below I g10
  go_wp2_with fail
  refine (sector_any 98 w10).mono ?_
  rintro e w11 ⟨rfl, g11⟩
  have h11 := h10.below I g11
  go_wp2
  go_ret
  exact ⟨rfl, h11.bel⟩
end
end Go.Proofs.Ytmpcfdjpklmfmaa
