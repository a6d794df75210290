/- The program's device: Write, Flush. -/
import Derived.Test.YtmpcfdjpklmfmaaRows
import Derived.WalkKit
import Derived.Below
import Derived.ProofKit
import Derived.OpenShut
import Derived.ShutString
import Derived.ChangeOld
import Derived.Outline
import Derived.RegionTactic
import Derived.ChangeAlike
import Derived.BigRegion
import Derived.BigQuiet
import Derived.Deep.QuietTactic
import Derived.Deep.RegionWith
import Derived.Deep.RegionLaw
import Derived.Deep.RegionHeld3
import Derived.Deep.AppendLies
import Derived.Deep.Draws
import Derived.StillTailTactics
import Derived.Lib.Hide
import Derived.Lib.SmallJoins
import Derived.Handy
import Derived.WalkSpells
import Derived.WalkLawsBesides
import Derived.Deep.LoopGhost
import Derived.Deep.DeepCutAuto
import Derived.Deep.CutBlock
import Derived.Deep.CutRange
import Derived.Deep.OwnRows
import Derived.Laws.CopyOwn
import Derived.Test.YtmpcfdjpklmfmaaDevPF
namespace Go.Proofs.Ytmpcfdjpklmfmaa
open Go.RowKit
set_option linter.unusedSimpArgs false
set_option linter.unusedVariables false
set_option linter.unnecessarySimpa false
theorem writeD_step {d : Dv} {j : Nat} {s : List UInt8} (hon : d.on = true) (hk : d.has (j : Int) = true) (hs : s.length = 64) : writeD d (j : Nat) s = ({ (stepD d).1 with safe := d.safe, waits := d.waits ++ [(j, s)] }, (stepD d).2) := by
  unfold writeD
  rw [hon, if_pos rfl, if_pos (by simp [hk, hs])]
  have h := stepD_safe d
  generalize stepD d = x at *
  obtain ⟨⟨a, b, c, e, f, g⟩, er⟩ := x
  simp only at h
  subst h
  simp
theorem flushD_step {d : Dv} (hon : d.on = true) : flushD d = ({ (stepD d).1 with safe := if (stepD d).2 == 0 then layW d.safe d.waits else d.safe, waits := if (stepD d).2 == 0 then [] else d.waits }, (stepD d).2) := by
  unfold flushD
  rw [hon, if_pos rfl]
  have h := stepD_safe d
  have h2 := stepD_waits d
  generalize stepD d = x at *
  obtain ⟨⟨a, b, c, e, f, g⟩, er⟩ := x
  simp only at h h2
  subst h h2
  by_cases he : er = 0
  · subst he; simp
  · simp [he]
theorem fnName (f : Func) (h : (f.name == "runtime.NumGoroutine") = false) : f.name ≠ "runtime.NumGoroutine" := by simpa using h
set_option maxHeartbeats 1000000 in
theorem pWriteDo_any {bm bl l p : Nat} {uw : Value} {d : Dv} (b : Bool) (j c0 c1 c2 : Nat) (s : List UInt8) (w : World) (h : PDs w bm bl uw l p d) (hn4 : d.waits.length < 1048576) (hs4 : d.safe.length ≤ 4096) (hj : j < d.safe.length) (hs : s.length = 64)
    (q0 : w.cell? ⟨c0, 0, none⟩ = some (.pointer (some ⟨p, 0, none⟩))) (q1 : w.cell? ⟨c1, 0, none⟩ = some (.int .i64 (j : Nat))) (q2 : w.cell? ⟨c2, 0, none⟩ = some (.string ⟨s.toArray⟩)) :
    Calls Try.prog 36 #[.bool b, .pointer (some ⟨c0, 0, none⟩), .pointer (some ⟨c1, 0, none⟩), .pointer (some ⟨c2, 0, none⟩)] w fun e w' => e = .returned (.tuple #[]) ∧ ∃ uw', PDs w' bm bl uw' l p { d with waits := d.waits ++ [(j, s)] } ∧ Fr (p :: bl :: blk uw) w w' ∧ ∀ b ∈ blk uw', b ∈ blk uw ∨ w.heap.size ≤ b := by
  have hc := pWait_any j s w h hn4 hs4 hj hs
  clear h hn4 hs4 hj hs
  go_enter Try.func36, Try.ntmps36
  go_wp2_with fail
  refine hc.mono ?_
  rintro e w1 ⟨rfl, uw', h1, f1, g1⟩
  go_wp2
  go_end0
  exact ⟨rfl, uw', h1, f1, g1⟩
set_option maxHeartbeats 2000000 in
theorem pWrite_any {bm bl l p : Nat} {uw : Value} {d : Dv} (k : Int) (s : List UInt8) (w : World) (h : PDs w bm bl uw l p d) (hd : d.Few) (hs : (s.length : Int) ≤ 9223372036854775807) :
    Calls Try.prog 21 #[.pointer (some ⟨p, 0, none⟩), .int .i64 k, .string ⟨s.toArray⟩] w fun e w' => e = .returned (.int .i64 (writeD d k s).2) ∧ ∃ uw2 l2, PDs w' bm bl uw2 l2 p (writeD d k s).1 ∧ Fr (p :: bm :: bl :: blk uw) w w' ∧ ∀ c ∈ blk uw2, c ∈ blk uw ∨ w.heap.size ≤ c := by
  obtain ⟨wb, hwb⟩ : ∃ wb, wb = ((w.alloc (.cells #[.pointer (some ⟨p, 0, none⟩)] 24)).alloc (.cells #[.int .i64 k] 3)).alloc (.cells #[.string ⟨s.toArray⟩] 9) := ⟨_, rfl⟩
  have bb : Below w.heap.size w wb := by rw [hwb]; exact (((Below.refl _ _).alloc (Nat.le_refl _) _).alloc (by simp) _).alloc (by simp; omega) _
  have hb := h.below bb
  have q0 : Rw wb w.heap.size [.pointer (some ⟨p, 0, none⟩)] 24 := by rw [hwb]; exact ((Rw.new w _ _).alloc _).alloc _
  have q1 : Rw wb (w.heap.size + 1) [.int .i64 k] 3 := by
    have := (Rw.new (w.alloc (.cells #[.pointer (some ⟨p, 0, none⟩)] 24)) [.int .i64 k] 3).alloc (.cells #[.string ⟨s.toArray⟩] 9)
    rw [hwb]; simpa using this
  have q2 : Rw wb (w.heap.size + 1 + 1) [.string ⟨s.toArray⟩] 9 := by
    have := (Rw.new ((w.alloc (.cells #[.pointer (some ⟨p, 0, none⟩)] 24)).alloc (.cells #[.int .i64 k] 3)) [.string ⟨s.toArray⟩] 9)
    rw [hwb]; simpa using this
  have c0 := hb.row.c 0 rfl
  have hready := pReady_any (hb.row.c 4 rfl)
  have hcall := pHas_any k c0
  rw [← has_iff] at hcall
  have np : w.heap.size ≠ p := by have := h.row.lt; omega
  have np1 : w.heap.size + 1 ≠ p := by have := h.row.lt; omega
  have np2 : w.heap.size + 1 + 1 ≠ p := by have := h.row.lt; omega
  have r0 := q0.c 0 rfl
  have r1 := q1.c 0 rfl
  have r2 := q2.c 0 rfl
  clear c0
  go_enter Try.func21, Try.ntmps21
  go_wp2_with fail
  rw [← hwb]
  have hB := Lib.hid hb
  have Q0 := Lib.hid q0
  have Q1 := Lib.hid q1
  have Q2 := Lib.hid q2
  have BB := Lib.hid bb
  have ZW : w.heap.size + 1 + 1 < wb.heap.size := q2.lt
  clear hwb h hb q0 q1 q2 bb
  cases hon : d.on with
  | false =>
    rw [hon] at hready
    have e : writeD d k s = (d, 14) := by unfold writeD; rw [hon]; rfl
    have HE := Lib.hid e
    clear e hon hcall
    refine hready.mono ?_
    rintro e w1 ⟨rfl, rfl⟩
    go_wp2
    go_ret
    rw [HE.out]
    exact ⟨rfl, uw, l, hB.out, Fr.of_below BB.out, fun c hc => .inl hc⟩
  | true =>
    rw [hon] at hready
    refine hready.mono ?_
    rintro e w1 ⟨rfl, rfl⟩
    go_wp2_with fail
    refine hcall.mono ?_
    rintro e w1 ⟨rfl, rfl⟩
    clear hready hcall
    by_cases hk : d.has k = true
    · rw [hk]
      by_cases hs64 : s.length = 64
      · obtain ⟨k0, k1⟩ := Dv.has_lt hk
        obtain ⟨j, hj⟩ : ∃ j, j = k.toNat := ⟨_, rfl⟩
        obtain rfl : k = (j : Int) := by omega
        have e : writeD d (j : Nat) s = ({ (stepD d).1 with safe := d.safe, waits := d.waits ++ [(j, s)] }, (stepD d).2) := writeD_step hon hk hs64
        have hsI : (s.length : Int) = 64 := by omega
        have hst := pStep_any 36 #[.pointer (some ⟨w.heap.size, 0, none⟩), .pointer (some ⟨w.heap.size + 1, 0, none⟩), .pointer (some ⟨w.heap.size + 1 + 1, 0, none⟩)] (enters Try.func36 (fnName _ (by kernel_rfl)) rfl) (fun _ => d.safe) (fun _ => d.waits ++ [(j, s)]) wb hB.out hd (fun b w1 d1 l1 h1 e1 e2 f1 => by
          have t0 := (Q0.out.fr f1 (by simpa using np)).c 0 rfl
          have t1 := (Q1.out.fr f1 (by simpa using np1)).c 0 rfl
          have t2 := (Q2.out.fr f1 (by simpa using np2)).c 0 rfl
          refine (pWriteDo_any b j _ _ _ s w1 h1 (by rw [e2]; exact hd.waits) (by rw [e1]; exact hd.safe) (by rw [e1, hj]; exact k1) hs64 t0 t1 t2).mono ?_
          rintro e w2 ⟨rfl, uw2, h2, f2, g2⟩
          exact ⟨rfl, uw2, by rw [← e1, ← e2]; exact h2, f2.more (fun x hx => by simp only [List.mem_cons] at hx ⊢; rcases hx with e | e | e; exact .inl e; exact .inr (.inr (.inl e)); exact .inr (.inr (.inr e))), g2⟩)
        have HE := Lib.hid e
        clear e hk hon hj k0 k1 hd hs hs64
        go_wp2_with fail
        refine hst.mono ?_
        rintro e w2 ⟨rfl, uw2, l2, h2, f2, g2⟩
        go_wp2
        go_ret
        rw [HE.out]
        exact ⟨rfl, uw2, l2, h2, (Fr.of_below BB.out).trans f2, fun c hc => (g2 c hc).imp id (fun hh => Nat.le_trans BB.out.size hh)⟩
      · have e : writeD d k s = (d, 1) := by unfold writeD; rw [hon, if_pos rfl, if_neg (by simp [hs64])]
        have HE := Lib.hid e
        have d2 : ((s.length : Int) == 64) = false := by simp; omega
        clear e hs64 hk hon
        go_wp2
        go_ret
        rw [HE.out]
        exact ⟨rfl, uw, l, hB.out, Fr.of_below BB.out, fun c hc => .inl hc⟩
    · have hk' : d.has k = false := by simpa using hk
      rw [hk']
      have e : writeD d k s = (d, 1) := by unfold writeD; rw [hon, if_pos rfl, if_neg (by simp [hk'])]
      have HE := Lib.hid e
      clear e hk hk' hon
      go_wp2
      go_ret
      rw [HE.out]
      exact ⟨rfl, uw, l, hB.out, Fr.of_below BB.out, fun c hc => .inl hc⟩
theorem tornS_all {s old : List UInt8} (h : s.length = 64) (h2 : old.length = 64) : tornS 64 s old = s := by
  rw [tornS, List.take_of_length_le (by omega), List.drop_of_length_le (by omega), List.append_nil]
set_option maxHeartbeats 2000000 in
theorem pFlushDo_any {bm bl l p : Nat} {uw : Value} {d : Dv} (b : Bool) (c0 : Nat) (w : World) (h : PDs w bm bl uw l p d) (hml : d.waits.length < 1048576) (hsl : d.safe.length ≤ 4096) (ho : d.Ok) (q0 : Rw w c0 [.pointer (some ⟨p, 0, none⟩)] 24) :
    Calls Try.prog 31 #[.bool b, .pointer (some ⟨c0, 0, none⟩)] w fun e w' => e = .returned (.tuple #[]) ∧ ∃ uw', PDs w' bm bl uw' l p { d with safe := if b then layW d.safe d.waits else d.safe, waits := if b then [] else d.waits } ∧ Fr (p :: bm :: bl :: blk uw) w w' ∧ ∀ c ∈ blk uw', c ∈ blk uw ∨ w.heap.size ≤ c := by
  cases b with
  | false =>
    have HH := Lib.hid h
    clear h hml hsl ho
    go_enter Try.func31, Try.ntmps31
    go_wp2
    refine bodyPost_ret (results_none rfl _ _ _) rfl ?_
    exact ⟨rfl, uw, HH.out, Fr.refl _ _, fun c hc => .inl hc⟩
  | true =>
    obtain ⟨A, cp, rfl⟩ := own_form h.wts
    have r0 := q0.c 0 rfl
    have c2 := h.row.c 2 rfl
    obtain ⟨m, hm⟩ : ∃ m, m = d.waits.length := ⟨_, rfl⟩
    have HM := Lib.hid hm
    have HO := Lib.hid ho
    have hc0 : c0 ≠ bm := by obtain ⟨f, hf, _⟩ := h.sm; exact Ne.symm (mp_row hf q0)
    have L1 := h
    have Q0 := Lib.hid q0
    rw [← hm] at c2 hml
    have H := Lib.hid h
    clear hm ho h
    go_enter Try.func31, Try.ntmps31
    go_wp2
    go_loopw [12] (fun i wr => ∃ t : Nat, t ≤ m ∧ i = .int .i64 t ∧ PDs wr bm bl (.slice A d.waits.length cp) l p { d with safe := layW d.safe (d.waits.take t) } ∧ Fr [bm] w wr) (fun i _ => m - (intOf i).toNat)
    case atStart => exact ⟨0, by omega, rfl, L1, Fr.refl _ _⟩
    case round =>
      obtain ⟨t, ht, rfl, hL, hF⟩ := hrel
      have q0' := Q0.out.fr hF (by simpa using hc0)
      have r0 := q0'.c 0 rfl
      have lt0 := q0'.lt
      clear q0'
      by_cases hlt : t < m
      · have tl : (t : Int) < m := by omega
        have hmm := HM.out
        obtain ⟨y, hy⟩ : ∃ y, d.waits[t]? = some y := ⟨d.waits[t]'(by omega), List.getElem?_eq_getElem _⟩
        obtain ⟨a1, a2⟩ := wrs_at d.waits t y hy
        obtain ⟨g2, cap2, e2, hc2, _, _, ca, _⟩ := own_cell hL.wts a1
        obtain ⟨g3, cap3, e3, hc3, _, _, cb, _⟩ := own_cell hL.wts a2
        rw [e2] at e3
        obtain ⟨rfl, rfl⟩ : g2 = g3 ∧ cap2 = cap3 := by simpa using e3
        simp only [Value.slice.injEq] at e2
        obtain ⟨rfl, _, rfl⟩ := e2
        have hl := Lib.hid (layW_take d.safe d.waits t y hy)
        have hy2 := HO.out.waits y (List.mem_of_getElem? hy)
        have hlen : (layW d.safe (d.waits.take t)).length = d.safe.length := by rw [layW_len]
        have hmem := layW_mem (d.waits.take t) d.safe HO.out.safe (fun x hx => (HO.out.waits x (List.mem_of_mem_take hx)).2)
        obtain ⟨yi, ys⟩ := y
        simp only at ca cb hl hy2
        obtain ⟨old, hold⟩ : ∃ old, (layW d.safe (d.waits.take t))[yi]? = some old := ⟨_, List.getElem?_eq_getElem (by rw [hlen]; exact hy2.1)⟩
        have hol := hmem old (List.mem_of_getElem? hold)
        have HKp := Lib.hid (fun (W : World) (hW : PDs W bm bl (.slice (some ⟨g2, 0, none⟩) d.waits.length cp) l p { d with safe := layW d.safe (d.waits.take t) }) => pKeep_any yi ys old 64 W hW (by simp only; rw [hlen]; exact hsl) hold hol hy2.2 (by omega))
        rw [tornS_all hy2.2 hol] at HKp
        rw [show ((64 : Nat) : Int) = 64 from rfl] at HKp
        have HL := Lib.hid hL
        have hlt2 := (hL.lt)
        clear e3 a1 a2 hlen hmem hold hol hmm hL
        go_wp2_with fail
        have ba : Below wr.heap.size wr (wr.alloc (.cells #[.int .i64 (yi : Nat), .string ⟨ys.toArray⟩] 64)) := (Below.refl _ _).alloc (Nat.le_refl _) _
        refine (HKp.out _ (HL.out.below ba)).mono ?_
        rintro e w2 ⟨rfl, h2, f2⟩
        have F2 := (hF.trans (Fr.of_below ba)).trans f2
        clear HKp
        go_wp2
        go_roundw
        case rel => exact ⟨t + 1, by omega, by go_num, by rw [hl.out]; exact h2, F2⟩
        case measure => simp [intOf]; omega
      · have tl : ¬ ((t : Int) < m) := by omega
        have hmm := HM.out
        have e : d.waits.take t = d.waits := List.take_of_length_le (by omega)
        rw [e] at hL
        have hmore := pNoMore_any wr hL
        clear e hmm hL
        go_wp2_with fail
        refine hmore.mono ?_
        rintro e w2 ⟨rfl, h2, f2⟩
        go_wp2
        go_end0
        refine ⟨rfl, _, h2, (hF.more (fun x hx => by simp at hx; simp [hx])).trans (f2.more (fun x hx => by simp at hx; rcases hx with e | e <;> simp [e])), fun c hc => ?_⟩
        simp [blk, Value.ownBlock] at hc
end Go.Proofs.Ytmpcfdjpklmfmaa
