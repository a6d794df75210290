/- The program's device: Flush, Crash. -/
import Derived.Test.YtmpcfdjpklmfmaaRows
import Derived.WalkKit
import Derived.Below
import Derived.ProofKit
import Derived.OpenShut
import Derived.ShutString
import Derived.ChangeOld
import Derived.Outline
import Derived.RegionTactic
import Derived.ChangeAlike
import Derived.BigRegion
import Derived.BigQuiet
import Derived.Deep.QuietTactic
import Derived.Deep.RegionWith
import Derived.Deep.RegionLaw
import Derived.Deep.RegionHeld3
import Derived.Deep.AppendLies
import Derived.Deep.Draws
import Derived.StillTailTactics
import Derived.Lib.Hide
import Derived.Lib.SmallJoins
import Derived.Handy
import Derived.WalkSpells
import Derived.WalkLawsBesides
import Derived.Deep.LoopGhost
import Derived.Deep.DeepCutAuto
import Derived.Deep.CutBlock
import Derived.Deep.CutRange
import Derived.Deep.OwnRows
import Derived.Laws.CopyOwn
import Derived.Test.YtmpcfdjpklmfmaaDevPG
namespace Go.Proofs.Ytmpcfdjpklmfmaa
open Go.RowKit
set_option linter.unusedSimpArgs false
set_option linter.unusedVariables false
set_option linter.unnecessarySimpa false
set_option maxHeartbeats 2000000 in
theorem pFlush_any {bm bl l p : Nat} {uw : Value} {d : Dv} (w : World) (h : PDs w bm bl uw l p d) (hd : d.Few) (ho : d.Ok) :
    Calls Try.prog 12 #[.pointer (some ⟨p, 0, none⟩)] w fun e w' => e = .returned (.int .i64 (flushD d).2) ∧ ∃ uw2 l2, PDs w' bm bl uw2 l2 p (flushD d).1 ∧ Fr (p :: bm :: bl :: blk uw) w w' ∧ ∀ c ∈ blk uw2, c ∈ blk uw ∨ w.heap.size ≤ c := by
  obtain ⟨wb, hwb⟩ : ∃ wb, wb = w.alloc (.cells #[.pointer (some ⟨p, 0, none⟩)] 24) := ⟨_, rfl⟩
  have bb : Below w.heap.size w wb := by rw [hwb]; exact (Below.refl _ _).alloc (Nat.le_refl _) _
  have hb := h.below bb
  have q0 : Rw wb w.heap.size [.pointer (some ⟨p, 0, none⟩)] 24 := by rw [hwb]; exact Rw.new w _ _
  have hready := pReady_any (hb.row.c 4 rfl)
  have np : w.heap.size ≠ p := by have := h.row.lt; omega
  have r0 := q0.c 0 rfl
  go_enter Try.func12, Try.ntmps12
  go_wp2_with fail
  rw [← hwb]
  have hB := Lib.hid hb
  have Q0 := Lib.hid q0
  have BB := Lib.hid bb
  have ZW : w.heap.size < wb.heap.size := q0.lt
  clear hwb h hb q0 bb
  cases hon : d.on with
  | false =>
    rw [hon] at hready
    have e : flushD d = (d, 14) := by unfold flushD; rw [hon]; rfl
    have HE := Lib.hid e
    clear e hon
    refine hready.mono ?_
    rintro e w1 ⟨rfl, rfl⟩
    go_wp2
    go_ret
    rw [HE.out]
    exact ⟨rfl, uw, l, hB.out, Fr.of_below BB.out, fun c hc => .inl hc⟩
  | true =>
    rw [hon] at hready
    have HE := Lib.hid (flushD_step hon)
    have hst := pStep_any 31 #[.pointer (some ⟨w.heap.size, 0, none⟩)] (enters Try.func31 (fnName _ (by kernel_rfl)) rfl) (fun b => if b then layW d.safe d.waits else d.safe) (fun b => if b then [] else d.waits) wb hB.out hd (fun b w1 d1 l1 h1 e1 e2 f1 => by
      have t0 := Q0.out.fr f1 (by simpa using np)
      refine (pFlushDo_any b _ w1 h1 (by rw [e2]; exact hd.waits) (by rw [e1]; exact hd.safe) ⟨by rw [e1]; exact ho.safe, by rw [e1, e2]; exact ho.waits⟩ t0).mono ?_
      rintro e w2 ⟨rfl, uw2, h2, f2, g2⟩
      rw [e1, e2] at h2
      exact ⟨rfl, uw2, h2, f2, g2⟩)
    refine hready.mono ?_
    rintro e w1 ⟨rfl, rfl⟩
    clear hready hon hd ho
    go_wp2_with fail
    refine hst.mono ?_
    rintro e w2 ⟨rfl, uw2, l2, h2, f2, g2⟩
    go_wp2
    go_ret
    rw [HE.out]
    exact ⟨rfl, uw2, l2, h2, (Fr.of_below BB.out).trans f2, fun c hc => (g2 c hc).imp id (fun hh => Nat.le_trans BB.out.size hh)⟩
theorem keep1_set {keep : List Bool} {torn : Int} {c t yi : Nat} {ys old : List UInt8} {sf : List (List UInt8)} (ho : sf[yi]? = some old) (hs : ys.length = 64) (hol : old.length = 64) :
    keep1 keep torn c t (yi, ys) sf = if keep.getD t false then sf.set yi (tornS (if (t : Int) = torn then c else 64) ys old) else sf := by
  unfold keep1
  split
  · congr 1
    split
    · rw [tornS, List.getD_eq_getElem?_getD, ho]; rfl
    · rw [tornS_all hs hol]
  · rfl
set_option maxHeartbeats 4000000 in
theorem pCrash_any {bm bl l p : Nat} {uw : Value} {d : Dv} (a : Option Addr) (kn kc : Nat) (keep : List Bool) (torn cut : Int) (w : World) (h : PDs w bm bl uw l p d) (hd : d.Few) (ho : d.Ok) (hpos : 0 < d.safe.length) (hb : BoolsAt w a kn keep) (hkc : kn ≤ kc) (hkm : (kn : Int) ≤ 9223372036854775807) (hoff : ∀ b off, 0 < kn → a = some ⟨b, off, none⟩ → b ∉ p :: bm :: bl :: blk uw) :
    Calls Try.prog 18 #[.pointer (some ⟨p, 0, none⟩), .slice a kn kc, .int .i64 torn, .int .i64 cut] w fun e w' => e = .returned (.tuple #[]) ∧ PDs w' bm bl (.slice none 0 0) 0 p (crashD d keep torn cut) ∧ Fr (p :: bm :: bl :: blk uw) w w' := by
  obtain ⟨c, hc⟩ : ∃ c, c = cutD cut := ⟨_, rfl⟩
  have hc64 : c ≤ 64 := by rw [hc]; exact cutD_le cut
  have eC : crashD d keep torn cut = { d with safe := keepW keep torn c 0 d.waits d.safe, waits := [], on := true, armed := false } := by rw [hc]; rfl
  rw [eC]
  have hmx : ∀ ty (W : World), (Builtin.max_ #[3, 3] ty #[.int .i64 cut, .int .i64 0]).run Try.prog W = .ok (.int .i64 (if (0 : Int) > cut then 0 else cut)) W := fun ty W => run_max_int2 W _ _ _ _ _ _
  have hmn : ∀ ty (W : World), (Builtin.min_ #[3, 3] ty #[.int .i64 (if (0 : Int) > cut then 0 else cut), .int .i64 64]).run Try.prog W = .ok (.int .i64 (c : Nat)) W := fun ty W => by
    rw [run_min_int2]
    have : (if (64 : Int) < (if (0 : Int) > cut then 0 else cut) then (64 : Int) else (if (0 : Int) > cut then 0 else cut)) = (c : Nat) := by
      rw [hc]; unfold cutD; split <;> (try split) <;> (try split) <;> omega
    rw [this]
  obtain ⟨z, hz⟩ : ∃ z, z = (if (0 : Int) > cut then 0 else cut) := ⟨_, rfl⟩
  rw [← hz] at hmx
  simp only [← hz] at hmn
  clear hz
  obtain ⟨A, cp, rfl⟩ := own_form h.wts
  have c0 := h.row.c 0 rfl
  have c2 := h.row.c 2 rfl
  obtain ⟨n, hn⟩ : ∃ n, n = d.safe.length := ⟨_, rfl⟩
  rw [← hn] at c0 hpos
  have n0 : ((n : Int) == 0) = false := by simp; omega
  obtain ⟨m, hm⟩ : ∃ m, m = d.waits.length := ⟨_, rfl⟩
  have HM := Lib.hid hm
  have HN := Lib.hid hn
  have hml := hd.waits
  have hsl := hd.safe
  have HO := Lib.hid ho
  have L0 := h
  have H := Lib.hid h
  rw [← hm] at c2 hml
  have hoff' : ∀ b off, 0 < kn → a = some ⟨b, off, none⟩ → b ∉ [bm] := fun b off h1 h2 hm => hoff b off h1 h2 (by simp at hm; simp [hm])
  clear hm hn hd ho h eC hc
  go_enter Try.func18, Try.ntmps18
  go_wp2
  go_loopw [24] (fun i wr => ∃ t : Nat, t ≤ m ∧ i = .int .i64 t ∧ PDs wr bm bl (.slice A d.waits.length cp) l p { d with safe := keepW keep torn c 0 (d.waits.take t) d.safe } ∧ Fr [bm] w wr) (fun i _ => m - (intOf i).toNat)
  case atStart => exact ⟨0, by omega, rfl, L0, Fr.refl _ _⟩
  case round =>
    obtain ⟨t, ht, rfl, hL, hF⟩ := hrel
    by_cases hlt : t < m
    · have tl : (t : Int) < m := by omega
      have hmm := HM.out
      obtain ⟨y, hy⟩ : ∃ y, d.waits[t]? = some y := ⟨d.waits[t]'(by omega), List.getElem?_eq_getElem _⟩
      obtain ⟨a1, a2⟩ := wrs_at d.waits t y hy
      obtain ⟨g2, cap2, e2, hc2, _, _, ca, _⟩ := own_cell hL.wts a1
      obtain ⟨g3, cap3, e3, hc3, _, _, cb, _⟩ := own_cell hL.wts a2
      rw [e2] at e3
      obtain ⟨rfl, rfl⟩ : g2 = g3 ∧ cap2 = cap3 := by simpa using e3
      simp only [Value.slice.injEq] at e2
      obtain ⟨rfl, _, rfl⟩ := e2
      have hl := keepW_take keep torn c d.waits 0 t d.safe y hy
      have hy2 := HO.out.waits y (List.mem_of_getElem? hy)
      obtain ⟨sf, hsf⟩ : ∃ sf, sf = keepW keep torn c 0 (d.waits.take t) d.safe := ⟨_, rfl⟩
      have hsfl : sf.length = d.safe.length ∧ ∀ z ∈ sf, z.length = 64 := by
        rw [hsf]
        exact keepW_all hc64 _ 0 _ (fun z hz => HO.out.waits z (List.mem_of_mem_take hz)) HO.out.safe
      rw [← hsf] at hl hL
      obtain ⟨yi, ys⟩ := y
      simp only at ca cb hl hy2
      obtain ⟨old, hold⟩ : ∃ old, sf[yi]? = some old := ⟨_, List.getElem?_eq_getElem (by rw [hsfl.1]; exact hy2.1)⟩
      have hol := hsfl.2 old (List.mem_of_getElem? hold)
      rw [Nat.zero_add, keep1_set hold hy2.2 hol] at hl
      have HL := Lib.hid hL
      have ba : Below wr.heap.size wr (wr.alloc (.cells #[.int .i64 (yi : Nat), .string ⟨ys.toArray⟩] 64)) := (Below.refl _ _).alloc (Nat.le_refl _) _
      have BA := Lib.hid ba
      have hbt := hb.fr hF hoff'
      have HKp : ∀ (x : Nat), x ≤ 64 → Calls Try.prog 32 #[.pointer (some ⟨p, 0, none⟩), .agg #[.int .i64 (yi : Nat), .string ⟨ys.toArray⟩], .int .i64 (x : Nat)] (wr.alloc (.cells #[.int .i64 (yi : Nat), .string ⟨ys.toArray⟩] 64)) fun e w' => e = .returned (.tuple #[]) ∧ PDs w' bm bl (.slice (some ⟨g2, 0, none⟩) d.waits.length cp) l p { d with safe := sf.set yi (tornS x ys old) } ∧ Fr [bm] (wr.alloc (.cells #[.int .i64 (yi : Nat), .string ⟨ys.toArray⟩] 64)) w' :=
        fun x hx => pKeep_any yi ys old x _ (hL.below ba) (by simp only; rw [hsfl.1]; exact hsl) hold hol hy2.2 hx
      have F1 := hF.trans (Fr.of_below (ex := [bm]) ba)
      have lgp := hL.lt
      clear e3 a1 a2 hsfl hold hol hmm hL ba hy2 hsf hy
      by_cases hkt : keep.getD t false = true
      · rw [if_pos hkt] at hl
        have hq : t < kn := by
          rcases Nat.lt_or_ge t kn with h | h
          · exact h
          · rw [List.getD_eq_getElem?_getD, List.getElem?_eq_none (by rw [hb.1]; exact h)] at hkt; simp at hkt
        have d3 : decide ((kn : Int) ≤ t) = false := decide_eq_false (by omega)
        obtain ⟨x, hx⟩ : ∃ x, keep[t]? = some x := ⟨keep[t]'(by rw [hb.1]; exact hq), List.getElem?_eq_getElem _⟩
        have hxt : x = true := by
          rw [List.getD_eq_getElem?_getD, hx] at hkt; simpa using hkt
        obtain ⟨bb, off, ea, lbb, hcb⟩ := hbt.2 (by omega)
        have cbb := hcb t x hx
        rw [hxt] at cbb
        subst ea
        have tk : (t : Int) < kn := by omega
        by_cases hto : (t : Int) = torn
        · rw [if_pos hto] at hl
          have dto : ((t : Int) == torn) = true := by simp [hto]
          have HKc := Lib.hid (HKp c hc64)
          have hl2 := Lib.hid hl
          clear HKp hcb hx hxt hkt hto hl hbt hb
          go_wp2_with fail
          refine HKc.out.mono ?_
          rintro e w2 ⟨rfl, h2, f2⟩
          go_wp2
          go_roundw
          case rel => exact ⟨t + 1, by omega, by go_num, by rw [hl2.out]; exact h2, F1.trans f2⟩
          case measure => simp [intOf]; omega
        · rw [if_neg hto] at hl
          have dto : ((t : Int) == torn) = false := by simpa using hto
          have HKc := Lib.hid (HKp 64 (by omega))
          rw [show ((64 : Nat) : Int) = 64 from rfl] at HKc
          have hl2 := Lib.hid hl
          clear HKp hcb hx hxt hkt hto hl hbt hb
          go_wp2_with fail
          refine HKc.out.mono ?_
          rintro e w2 ⟨rfl, h2, f2⟩
          go_wp2
          go_roundw
          case rel => exact ⟨t + 1, by omega, by go_num, by rw [hl2.out]; exact h2, F1.trans f2⟩
          case measure => simp [intOf]; omega
      · rw [if_neg hkt] at hl
        have hl2 := Lib.hid hl
        have HB2 := Lib.hid (HL.out.below BA.out)
        clear HKp hl
        by_cases hq : (kn : Int) ≤ t
        · have d3 : decide ((kn : Int) ≤ t) = true := decide_eq_true hq
          clear hbt hb hkt
          go_wp2
          go_roundw
          case rel => exact ⟨t + 1, by omega, by go_num, by rw [hl2.out]; exact HB2.out, F1⟩
          case measure => simp [intOf]; omega
        · have d3 : decide ((kn : Int) ≤ t) = false := decide_eq_false hq
          obtain ⟨x, hx⟩ : ∃ x, keep[t]? = some x := ⟨keep[t]'(by rw [hb.1]; omega), List.getElem?_eq_getElem _⟩
          have hxt : x = false := by
            rw [List.getD_eq_getElem?_getD, hx] at hkt; simpa using hkt
          obtain ⟨bb, off, ea, lbb, hcb⟩ := hbt.2 (by omega)
          have cbb := hcb t x hx
          rw [hxt] at cbb
          subst ea
          have tk : (t : Int) < kn := by omega
          clear hcb hx hxt hkt hbt hb
          go_wp2
          go_roundw
          case rel => exact ⟨t + 1, by omega, by go_num, by rw [hl2.out]; exact HB2.out, F1⟩
          case measure => simp [intOf]; omega
    · have tl : ¬ ((t : Int) < m) := by omega
      have hmm := HM.out
      have e : d.waits.take t = d.waits := List.take_of_length_le (by omega)
      rw [e] at hL
      have hmore := pNoMore_any wr hL
      clear e hmm hL hb
      go_wp2_with fail
      refine hmore.mono ?_
      rintro e w2 ⟨rfl, h2, f2⟩
      have c4 := h2.row.c 4 (v := .bool d.on) rfl
      have c5 := h2.row.c 5 (v := .bool d.armed) rfl
      have c6 := h2.row.c 6 (v := .int .i64 (l : Nat)) rfl
      have f4 := h2.row.f 4
      have f5 := h2.row.f 5
      have f6 := h2.row.f 6
      have F2 := (hF.more (ex' := p :: bm :: bl :: blk (.slice A d.waits.length cp)) (fun x hx => by simp at hx; simp [hx])).trans (f2.more (fun x hx => by simp at hx; rcases hx with e | e <;> simp [e]))
      have hr := ((h2.row.set 4 (.bool true)).set 5 (.bool false)).set 6 (.int .i64 0)
      have H2 := Lib.hid h2
      clear h2
      go_wp2
      go_end0
      exact ⟨rfl, H2.out.turn (l' := 0) hr ((((Fr.refl _ _).setCell (.inl (by simp)) _).setCell (.inl (by simp)) _).setCell (.inl (by simp)) _) rfl rfl (fun h => by cases h), ((F2.setCell (.inl (by simp)) _).setCell (.inl (by simp)) _).setCell (.inl (by simp)) _⟩
end Go.Proofs.Ytmpcfdjpklmfmaa
