/- The walk of DeviceSafe, over whatever keeps to Iface. -/
import Derived.Test.YtmpcfdjpklmfmaaRows
import Derived.WalkKit
import Derived.Below
import Derived.ProofKit
import Derived.OpenShut
import Derived.ShutString
import Derived.ChangeOld
import Derived.Outline
import Derived.RegionTactic
import Derived.ChangeAlike
import Derived.BigRegion
import Derived.BigQuiet
import Derived.Deep.QuietTactic
import Derived.Deep.RegionWith
import Derived.Deep.RegionLaw
import Derived.Deep.RegionHeld3
import Derived.Deep.AppendLies
import Derived.Deep.Draws
import Derived.StillTailTactics
import Derived.Lib.Hide
import Derived.Lib.SmallJoins
import Derived.Handy
import Derived.WalkSpells
import Derived.WalkLawsBesides
import Derived.Deep.LoopGhost
import Derived.Deep.DeepCutAuto
import Derived.Deep.CutBlock
import Derived.Deep.CutRange
import Derived.Deep.OwnRows
import Derived.Laws.CopyOwn
import Derived.Great.BuildSlice
import Derived.Test.YtmpcfdjpklmfmaaDevJ
import Derived.Test.YtmpcfdjpklmfmaaDevK
import Derived.Test.YtmpcfdjpklmfmaaDevX
namespace Go.Proofs.Ytmpcfdjpklmfmaa.deviceSafe
open Go.RowKit
set_option linter.unusedSimpArgs false
set_option linter.unusedVariables false
set_option linter.unnecessarySimpa false
set_option linter.unusedSectionVars false
/-- A slice of bytes, read in w below block B. -/
def BytsAt (w : World) (B : Nat) (a : Option Addr) (n : Nat) (ls : List UInt8) : Prop :=
  ls.length = n ∧ (0 < n → ∃ b off, a = some ⟨b, off, none⟩ ∧ b < B ∧ ∀ k x, ls[k]? = some x → w.cell? ⟨b, off + k, none⟩ = some (.int .u8 x.toNat))
theorem BytsAt.below {w w' : World} {B : Nat} {a : Option Addr} {n : Nat} {ls : List UInt8} (h : BytsAt w B a n ls) (hb : Below B w w') : BytsAt w' B a n ls :=
  ⟨h.1, fun h0 => by
    obtain ⟨b, off, e, hlt, hc⟩ := h.2 h0
    exact ⟨b, off, e, hlt, fun k x hk => (hb.cell (p := ⟨b, off + k, none⟩) hlt).trans (hc k x hk)⟩⟩
theorem lastW_snoc (ws : List (Nat × List UInt8)) (k j : Nat) (x s : List UInt8) : lastW (ws ++ [(k, x)]) j s = if k = j then x else lastW ws j s := by simp [lastW]
theorem layW_get (ws : List (Nat × List UInt8)) : ∀ (s : List (List UInt8)) (j : Nat), j < s.length → (layW s ws).getD j [] = lastW ws j (s.getD j []) := by
  induction ws with
  | nil => exact fun s j _ => rfl
  | cons w ws ih =>
    intro s j hj
    show (layW (s.set w.1 w.2) ws).getD j [] = lastW ws j (if w.1 = j then w.2 else s.getD j [])
    rw [ih _ _ (by simpa using hj)]
    congr 1
    by_cases e : w.1 = j
    · subst e; simp [List.getD, hj]
    · simp [List.getD, List.getElem?_set, e]
/-- A sector, the first c bytes of which are one byte, the others another one. -/
def mix (a b : UInt8) (c : Nat) : List UInt8 := List.replicate c a ++ List.replicate (64 - c) b
theorem mix_len (a b : UInt8) (c : Nat) (h : c ≤ 64) : (mix a b c).length = 64 := by simp [mix]; omega
theorem mix_0 (a b : UInt8) : mix a b 0 = sec b := by simp [mix, sec]
theorem mix_64 (a b : UInt8) : mix a b 64 = sec a := by simp [mix, sec]
theorem mix_cut (a b : UInt8) (c k : Nat) (hc : c ≤ 64) (hk : k ≤ 64) : (sec a).take k ++ (mix a b c).drop k = mix a b (max c k) := by
  simp only [mix, sec, List.take_replicate, List.drop_append, List.drop_replicate, List.length_replicate]
  rw [← List.append_assoc, List.replicate_append_replicate]
  congr 2 <;> omega
theorem mix_get (a b : UInt8) (c k : Nat) (hc : c ≤ 64) (hk : k < 64) : (mix a b c)[k]? = some (if k < c then a else b) := by
  unfold mix
  by_cases h : k < c
  · rw [List.getElem?_append_left (by simpa using h), List.getElem?_replicate, if_pos h, if_pos h]
  · rw [List.getElem?_append_right (by simpa using h), List.getElem?_replicate, List.length_replicate, if_pos (by omega), if_neg h]
/-- What a crash leaves of sectors that were old, when what waits is now. -/
theorem keep_mix (old now : Nat → UInt8) (keep : List Bool) (torn : Int) (cut : Nat) (hc : cut ≤ 64) : ∀ (ws : List (Nat × List UInt8)) (i : Nat) (s : List (List UInt8)), s.length = 8 → (∀ w ∈ ws, w.1 < 8 ∧ w.2 = sec (now w.1) ∧ now w.1 ≠ 0) →
    (∀ j, j < 8 → ∃ c, c ≤ 64 ∧ s.getD j [] = mix (now j) (old j) c ∧ (now j = 0 → c = 0)) → ∀ j, j < 8 → ∃ c, c ≤ 64 ∧ (keepW keep torn cut i ws s).getD j [] = mix (now j) (old j) c ∧ (now j = 0 → c = 0)
  | [], _, _, _, _, h => h
  | w :: ws, i, s, hl, hw, h => by
    obtain ⟨w1, w2, w3⟩ := hw w List.mem_cons_self
    refine keep_mix old now keep torn cut hc ws (i + 1) _ (by split <;> simp [hl]) (fun y hy => hw y (List.mem_cons_of_mem _ hy)) fun j hj => ?_
    by_cases hk : keep.getD i false = true
    · rw [if_pos hk]
      by_cases e : w.1 = j
      · subst e
        obtain ⟨c, h1, h2, h3⟩ := h w.1 hj
        have hg : ∀ x, (s.set w.1 x).getD w.1 [] = x := fun x => by simp [List.getD, hl, hj]
        rw [hg]
        by_cases ht : (i : Int) = torn
        · rw [if_pos ht, h2, w2, mix_cut _ _ _ _ h1 hc]
          exact ⟨_, by omega, rfl, fun h0 => absurd h0 w3⟩
        · rw [if_neg ht, w2]
          exact ⟨64, by omega, (mix_64 _ _).symm, fun h0 => absurd h0 w3⟩
      · obtain ⟨c, h1, h2, h3⟩ := h j hj
        exact ⟨c, h1, by rw [← h2]; simp [List.getD, List.getElem?_set, e], h3⟩
    · rw [if_neg hk]; exact h j hj
/-- While the first bytes are written. -/
structure Fst (d : Dv) (ls : List UInt8) (t : Nat) : Prop where
  go : Going d 8 false 0 t t
  last : ∀ j, j < 8 → lastW d.waits j (d.safe.getD j []) = sec (if j < t then ls.getD j 0 else 0)
theorem fst_new (ls : List UInt8) : Fst (newD 8) ls 0 := ⟨newD_going 8, fun j hj => by
  rw [if_neg (by omega)]
  match j, hj with
  | 0, _ => rfl
  | 1, _ => rfl
  | 2, _ => rfl
  | 3, _ => rfl
  | 4, _ => rfl
  | 5, _ => rfl
  | 6, _ => rfl
  | 7, _ => rfl⟩
theorem Fst.write {d : Dv} {ls : List UInt8} {t : Nat} (h : Fst d ls t) (ht : t < 8) {x : UInt8} (hx : ls[t]? = some x) : writeD d t (sec x) = ((writeD d t (sec x)).1, 0) ∧ Fst (writeD d t (sec x)).1 ls (t + 1) := by
  obtain ⟨e, q⟩ := h.go.write (fun h => by cases h) t (sec x) ht (sec_len x)
  refine ⟨Prod.ext rfl (by rw [e]), q, fun j hj => ?_⟩
  rw [e]
  simp only [stepD_safe]
  rw [lastW_snoc]
  by_cases e2 : t = j
  · subst e2
    rw [if_pos rfl, if_pos (by omega)]
    simp [List.getD, hx]
  · rw [if_neg e2, h.last j hj]
    by_cases q : j < t
    · rw [if_pos q, if_pos (by omega)]
    · rw [if_neg q, if_neg (by omega)]
/-- Once the first bytes are safe, while others are written. -/
structure Snd (d : Dv) (ls ag : List UInt8) (s m : Nat) : Prop where
  go : Going d 8 false 0 s m
  old : ∀ j, j < 8 → d.safe.getD j [] = sec (ls.getD j 0)
  now : ∀ w ∈ d.waits, w.1 < 8 ∧ w.2 = sec (ag.getD w.1 0) ∧ ag.getD w.1 0 ≠ 0
theorem Fst.flush {d : Dv} {ls : List UInt8} {t : Nat} (h : Fst d ls t) (ht : t = 8 ∨ t = ls.length) (ag : List UInt8) : flushD d = ((flushD d).1, 0) ∧ (flushD d).1.waits = [] ∧ Snd (flushD d).1 ls ag (t + 1) 0 := by
  obtain ⟨e, q⟩ := h.go.flush (fun h => by cases h)
  refine ⟨Prod.ext rfl (by rw [e]), by rw [e], q, fun j hj => ?_, fun w hw => by rw [e] at hw; cases hw⟩
  rw [e]
  simp only
  rw [layW_get _ _ _ (by rw [h.go.safe]; exact hj), h.last j hj]
  by_cases q : j < t
  · rw [if_pos q]
  · rw [if_neg q]
    congr 1
    rw [List.getD_eq_getElem?_getD, List.getElem?_eq_none (by omega)]
    rfl
theorem Snd.write {d : Dv} {ls ag : List UInt8} {s m : Nat} (h : Snd d ls ag s m) (t : Nat) (ht : t < 8) {x : UInt8} (hx : ag[t]? = some x) (h0 : x ≠ 0) : writeD d t (sec x) = ((writeD d t (sec x)).1, 0) ∧ Snd (writeD d t (sec x)).1 ls ag (s + 1) (m + 1) := by
  obtain ⟨e, q⟩ := h.go.write (fun h => by cases h) t (sec x) ht (sec_len x)
  refine ⟨Prod.ext rfl (by rw [e]), q, fun j hj => ?_, fun w hw => ?_⟩
  · rw [e]; simp only [stepD_safe]; exact h.old j hj
  · rw [e] at hw
    simp only at hw
    rcases List.mem_append.1 hw with h1 | h1
    · exact h.now w h1
    · rw [List.mem_singleton.1 h1]
      have : ag.getD t 0 = x := by simp [List.getD, hx]
      exact ⟨ht, by rw [this], by rw [this]; exact h0⟩
theorem Snd.cast {d : Dv} {ls ag : List UInt8} {s m : Nat} (h : Snd d ls ag s m) {m' : Nat} (hm : m ≤ m') : Snd d ls ag s m' := ⟨h.go.cast rfl hm, h.old, h.now⟩
/-- Behind the crash. -/
structure Thd (d : Dv) (ls ag : List UInt8) (s : Nat) : Prop where
  go : Going d 8 false 0 s 0
  mixed : ∀ j, j < 8 → ∃ c, c ≤ 64 ∧ d.safe.getD j [] = mix (ag.getD j 0) (ls.getD j 0) c ∧ (ag.getD j 0 = 0 → c = 0)
theorem Snd.crash {d : Dv} {ls ag : List UInt8} {s m : Nat} (h : Snd d ls ag s m) (keep : List Bool) (torn cut : Int) : Thd (crashD d keep torn cut) ls ag s :=
  ⟨h.go.crash keep torn cut, keep_mix (fun j => ls.getD j 0) (fun j => ag.getD j 0) keep torn (cutD cut) (cutD_le cut) d.waits 0 d.safe h.go.safe h.now fun j hj => ⟨0, by omega, by rw [h.old j hj, mix_0], fun _ => rfl⟩⟩
theorem Thd.read {d : Dv} {ls ag : List UInt8} {s : Nat} (h : Thd d ls ag s) (j : Nat) (hj : j < 8) : readD d j = (d.safe.getD j [], 0) ∧ safeD d j = d.safe.getD j [] := by
  have hh := has_nat d (k := j) (by rw [h.go.safe]; exact hj)
  have hw : d.waits = [] := List.eq_nil_of_length_eq_zero (Nat.le_zero.1 h.go.waits)
  constructor
  · unfold readD
    rw [if_pos h.go.on, if_pos hh, Int.toNat_natCast, hw]; rfl
  · unfold safeD
    rw [if_pos hh, Int.toNat_natCast]
theorem if_ctx_same {α : Type} {p : Prop} [Decidable p] (a : α) : (if p then a else a) = a := by split <;> rfl
theorem getD_of {ls : List UInt8} {k : Nat} {x : UInt8} (h : ls[k]? = some x) : ls.getD k 0 = x := by simp [List.getD, h]
theorem getD_out {ls : List UInt8} {k : Nat} (h : ls.length ≤ k) : ls.getD k 0 = 0 := by simp [List.getD, List.getElem?_eq_none h]
section
attribute [local go_sem] idx_list ext_list app_list
variable {PD : World → List Nat → Nat → Dv → Prop} (I : Iface PD)
include I
set_option maxHeartbeats 2000000 in
set_option maxRecDepth 100000 in
theorem walk (a : Option Addr) (n ca : Nat) (ls : List UInt8) (b : Option Addr) (m cb : Nat) (ag : List UInt8) (kA : Option Addr) (kn kc : Nat) (keep : List Bool) (torn cut : Int) (W : World) (hna : n ≤ ca) (hcam : ca ≤ maxLen) (ha : BytsAt W W.heap.size a n ls) (hmb : m ≤ cb) (hcbm : cb ≤ maxLen) (hb : BytsAt W W.heap.size b m ag)
    (hk : BoolsAt W kA kn keep) (hkc : kn ≤ kc) (hkm : (kn : Int) ≤ 9223372036854775807) (hkl : ∀ x off, 0 < kn → kA = some ⟨x, off, none⟩ → x < W.heap.size) :
    Calls Try.prog 4 #[.slice a n ca, .slice b m cb, .agg #[.slice kA kn kc, .int .i64 torn, .int .i64 cut]] W fun e w' => e = .returned (.bool true) ∧ Below W.heap.size W w' := by
  obtain ⟨O, hO⟩ : ∃ O, O = [Value.slice kA kn kc, .int .i64 torn, .int .i64 cut] := ⟨_, rfl⟩
  have O0 := Lib.hid (show O[0]? = some (.slice kA kn kc) from by rw [hO]; rfl)
  have O1 := Lib.hid (show O[1]? = some (.int .i64 torn) from by rw [hO]; rfl)
  have O2 := Lib.hid (show O[2]? = some (.int .i64 cut) from by rw [hO]; rfl)
  have hk0 : ∀ w', Below W.heap.size W w' → BoolsAt w' kA kn keep := fun w' hb' => ⟨hk.1, fun h0 => by
    obtain ⟨b', off', e, hlt, hc'⟩ := hk.2 h0
    exact ⟨b', off', e, Nat.lt_of_lt_of_le hlt hb'.size, fun i x hi => (hb'.cell (p := ⟨b', off' + i, none⟩) (hkl b' off' h0 e)).trans (hc' i x hi)⟩⟩
  have HK := Lib.hid hk0
  obtain ⟨bo, hbo⟩ : ∃ bo, bo = W.heap.size := ⟨_, rfl⟩
  obtain ⟨w0, hw0⟩ : ∃ w0, w0 = W.alloc (.cells O.toArray 50) := ⟨_, rfl⟩
  have r0 : Rw w0 bo O 50 := by rw [hw0, hbo]; exact Rw.new W _ _
  have b0 : Below W.heap.size W w0 := by rw [hw0]; exact (Below.refl _ _).alloc (Nat.le_refl _) _
  have HW0 := Lib.hid (show W.alloc (.cells #[.slice kA kn kc, .int .i64 torn, .int .i64 cut] 50) = w0 from by rw [hw0, hO])
  have HBO := Lib.hid hbo
  clear hk0 hk hO hw0 hbo
  go_enter Try.func4, Try.ntmps4
  go_upto_region 1 with (fail)
  rw [HW0.out, ← HBO.out]
  go_wp2_with fail
  refine (awake6_any I w0).mono ?_
  rintro e w1 ⟨rfl, g1⟩
  have b1 := b0.trans (g1.mono b0.size)
  have r1 := r0.below g1
  go_wp2_with fail
  refine (I.newH (L := [(bo, O, 50)]) 8 b1 (by omega) (by omega) (fun r hr => by rw [List.mem_singleton.1 hr]; exact ⟨r1, Nat.le_of_eq HBO.out.symm⟩)).mono ?_
  rintro e w2 ⟨p, rfl, h2⟩
  have q2 := fst_new ls
  generalize newD 8 = d2 at *
  clear r0 r1 b0 b1 g1
  go_upto_block 0 with (fail)
  go_cut [9] from 23 to 166 (fun _ w' => ∃ (t : Nat) (d : Dv), (t = 8 ∨ t = ls.length) ∧ t ≤ 8 ∧ Hd PD [(bo, O, 50)] W w' p d ∧ Fst d ls t)
  case first =>
    as_aux_lemma =>
    go_wp2
    go_loopw [9] (fun i wr => ∃ (t : Nat) (d : Dv), t ≤ n ∧ t ≤ 8 ∧ i = .int .i64 t ∧ Hd PD [(bo, O, 50)] W wr p d ∧ Fst d ls t) (fun i _ => 8 - (intOf i).toNat)
    case atStart => exact ⟨0, d2, by omega, by omega, rfl, h2, q2⟩
    case round =>
      clear h2 q2 d2
      obtain ⟨t, d, htn, ht8, rfl, hd, hq⟩ := hrel
      have hf := hq.go.few (by omega) (by omega) (by omega) (by omega)
      by_cases hlt : t < n ∧ t < 8
      · obtain ⟨tl, tl8⟩ := hlt
        have tlI : (t : Int) < n := by omega
        have tl8I : (t : Int) < 8 := by omega
        obtain ⟨ab, off, rfl, _, hc⟩ := (ha.below hd.bel).2 (by omega)
        obtain ⟨x, hx⟩ : ∃ x, ls[t]? = some x := ⟨ls[t]'(by rw [ha.1]; exact tl), List.getElem?_eq_getElem _⟩
        have cx := hc t x hx
        obtain ⟨e1, q1⟩ := hq.write tl8 hx
        have E1 := Lib.hid (congrArg Prod.snd e1)
        clear hc hx e1
        go_wp2_with fail
        refine (sector_any x wr).mono ?_
        rintro e w4 ⟨rfl, g4⟩
        have h4 := hd.below I g4
        go_wp2_with fail
        refine (I.writeH (t : Int) (sec x) h4 hf hq.go.ok (by rw [sec_len]; decide)).mono ?_
        rw [E1.out]
        rintro e w5 ⟨rfl, h5⟩
        generalize (writeD d (t : Int) (sec x)).1 = d5 at *
        clear h4 hd hq
        go_wp2
        go_roundw
        case rel => exact ⟨t + 1, d5, by omega, by omega, by go_num, h5, q1⟩
        case measure => simp [intOf]; omega
      · have hno : (¬ t < n ∧ ¬ ((t : Int) < n)) ∨ (t < n ∧ (t : Int) < n ∧ ¬ t < 8 ∧ ¬ ((t : Int) < 8)) := by omega
        have ht : t = 8 ∨ t = ls.length := by have := ha.1; omega
        rcases hno with ⟨g0, g1⟩ | ⟨g0, g1, g2, g3⟩
        all_goals
          go_wp2
          go_meet
          case rel => exact ⟨t, d, ht, ht8, hd, hq⟩
  case rest =>
  obtain ⟨t, d, ht, ht8, hd, hq⟩ := hcut
  have hf := hq.go.few (by omega) (by omega) (by omega) (by omega)
  obtain ⟨e3, w3', q3⟩ := hq.flush ht ag
  have E3 := Lib.hid (congrArg Prod.snd e3)
  have WT := Lib.hid (show (flushD d).1.waits.length = 0 from by rw [w3']; rfl)
  have hok := hq.go.ok
  have f3 := q3.go.few (by omega) (by omega) (by omega) (by omega)
  clear e3 w3' ht hq h2 q2
  apply_assumption
  go_wp2_with fail
  refine (I.flushH hd hf hok).mono ?_
  rw [E3.out]
  rintro e w5 ⟨rfl, h5⟩
  go_wp2_with fail
  refine (I.waitingH h5 f3).mono ?_
  rw [WT.out]
  rintro e w6 ⟨aw, cw, rfl, hcw, h6⟩
  generalize (flushD d).1 = d3 at *
  clear hd h5 E3 WT hok hf
  go_upto_block 2 with (fail)
  go_cut [10] from 23 to 166 (fun _ w' => ∃ (m' s' : Nat) (d : Dv), m' ≤ 8 ∧ s' ≤ 20 ∧ Hd PD [(bo, O, 50)] W w' p d ∧ Snd d ls ag s' m')
  case first =>
    as_aux_lemma =>
    go_wp2
    go_loopw [10] (fun i wr => ∃ (u s' m' : Nat) (d : Dv), u ≤ m ∧ u ≤ 8 ∧ m' ≤ u ∧ s' ≤ u + 9 ∧ i = .int .i64 u ∧ Hd PD [(bo, O, 50)] W wr p d ∧ Snd d ls ag s' m') (fun i _ => 8 - (intOf i).toNat)
    case atStart => exact ⟨0, t + 1, 0, d3, by omega, by omega, by omega, by omega, rfl, h6, q3⟩
    case round =>
      clear h6 q3
      obtain ⟨u, s', m', d, hum, hu8, hmu, hsu, rfl, hd, hq⟩ := hrel
      have hf := hq.go.few (by omega) (by omega) (by omega) (by omega)
      by_cases hlt : u < m ∧ u < 8
      · obtain ⟨tl, tl8⟩ := hlt
        have tlI : (u : Int) < m := by omega
        have tl8I : (u : Int) < 8 := by omega
        obtain ⟨ab, off, rfl, _, hc⟩ := (hb.below hd.bel).2 (by omega)
        obtain ⟨x, hx⟩ : ∃ x, ag[u]? = some x := ⟨ag[u]'(by rw [hb.1]; exact tl), List.getElem?_eq_getElem _⟩
        have cx := hc u x hx
        by_cases hx0 : x = 0
        · subst hx0
          clear hc hx
          go_wp2
          go_roundw
          case rel => exact ⟨u + 1, s', m', d, by omega, by omega, by omega, by omega, by go_num, hd, hq⟩
          case measure => simp [intOf]; omega
        · obtain ⟨e1, q1⟩ := hq.write u tl8 hx hx0
          have E1 := Lib.hid (congrArg Prod.snd e1)
          obtain ⟨zx, hzx⟩ : ∃ zx : Int, (x.toNat : Int) = zx := ⟨_, rfl⟩
          have zx0 : (zx == 0) = false := by
            have : x.toNat ≠ 0 := fun h => hx0 (UInt8.toNat_inj.1 (by simpa using h))
            simp; omega
          have zx1 : ¬ (zx = 0) := by simpa using zx0
          have zx2 : (zx != 0) = true := by simpa using zx1
          rw [hzx] at cx
          have SC := Lib.hid (show ∀ w, Calls Try.prog 20 #[.int .u8 zx] w fun e w' => e = .returned (.string ⟨(sec x).toArray⟩) ∧ Below w.heap.size w w' from fun w => by rw [← hzx]; exact sector_any x w)
          clear hc hx e1 hzx hx0
          go_wp2_with fail
          refine (SC.out wr).mono ?_
          rintro e w4 ⟨rfl, g4⟩
          have h4 := hd.below I g4
          go_wp2_with fail
          refine (I.writeH (u : Int) (sec x) h4 hf hq.go.ok (by rw [sec_len]; decide)).mono ?_
          rw [E1.out]
          rintro e w5 ⟨rfl, h5⟩
          generalize (writeD d (u : Int) (sec x)).1 = d5 at *
          clear h4 hd hq
          go_wp2
          go_roundw
          case rel => exact ⟨u + 1, s' + 1, m' + 1, d5, by omega, by omega, by omega, by omega, by go_num, h5, q1⟩
          case measure => simp [intOf]; omega
      · have hno : (¬ u < m ∧ ¬ ((u : Int) < m)) ∨ (u < m ∧ (u : Int) < m ∧ ¬ u < 8 ∧ ¬ ((u : Int) < 8)) := by omega
        rcases hno with ⟨g0, g1⟩ | ⟨g0, g1, g2, g3⟩
        all_goals
          go_wp2
          go_meet
          case rel => exact ⟨m', s', d, by omega, by omega, hd, hq⟩
  case rest =>
  clear h6 q3
  obtain ⟨m', s', d, hm8, hs20, hd, hq⟩ := hcut
  have hf := hq.go.few (by omega) (by omega) (by omega) (by omega)
  have ro := hd.row 0 rfl
  have e0 := ro.c 0 O0.out
  have e1 := ro.c 1 O1.out
  have e2 := ro.c 2 O2.out
  have bk := HK.out wc hd.bel
  apply_assumption
  go_wp2_with fail
  refine (I.crashH kA kn kc keep torn cut hd hf hq.go.ok (by rw [hq.go.safe]; omega) bk hkc hkm (fun x off h0 e => .inl (hkl x off h0 e))).mono ?_
  have q7 := hq.crash keep torn cut
  generalize crashD d keep torn cut = d7 at *
  rintro e w7 ⟨rfl, h7⟩
  clear hd hq hf ro e0 e1 e2 bk O0 O1 O2 HK hkc hkm hkl
  have f7 := q7.go.few (by omega) (by omega) (by omega) (by omega)
  go_wp2
  go_loopw [11, 12, 13, 14, 15, 16, 17, 18] (fun i _ _ _ _ _ _ _ wr => ∃ j : Nat, j ≤ 8 ∧ i = .int .i64 j ∧ Hd PD [(bo, O, 50)] W wr p d7) (fun i _ _ _ _ _ _ _ _ => 8 - (intOf i).toNat)
  case atStart => exact ⟨0, by omega, rfl, h7⟩
  case round =>
    clear h7
    obtain ⟨j, hj, rfl, hd⟩ := hrel
    by_cases hj8 : j < 8
    · have jl : (j : Int) < 8 := by omega
      obtain ⟨x, hx, hS, hx0⟩ := q7.mixed j hj8
      obtain ⟨er, es⟩ := q7.read j hj8
      have hok := q7.go.ok
      obtain ⟨zd, hzd⟩ : ∃ zd : Int, ((ls.getD j 0).toNat : Int) = zd := ⟨_, rfl⟩
      obtain ⟨zn, hzn⟩ : ∃ zn : Int, ((ag.getD j 0).toNat : Int) = zn := ⟨_, rfl⟩
      generalize d7.safe.getD j [] = S at *
      have S64 : S.length = 64 := by rw [hS, mix_len _ _ _ hx]
      have ER := Lib.hid er
      have ES := Lib.hid es
      have HZD := Lib.hid hzd
      have HZN := Lib.hid hzn
      have hget : ∀ (h64 : S.length = 64) (k : Nat) (hk : k < 64), (((S[k]'(by rw [h64]; exact hk)).toNat : Nat) : Int) = if k < x then zn else zd := fun h64 k hk => by
        have h1 := mix_get (ag.getD j 0) (ls.getD j 0) x k hx hk
        rw [← hS, List.getElem?_eq_getElem (by omega)] at h1
        rw [Option.some.inj h1]
        split
        · exact hzn
        · exact hzd
      have hz0 : zn = 0 → x = 0 := fun h => hx0 (UInt8.toNat_inj.1 (by have : (ag.getD j 0).toNat = 0 := by omega
                                                                       simpa using this))
      have HG := Lib.hid hget
      have H64 := Lib.hid S64
      clear S64 hget hS hx0 er es hzd hzn
      go_upto_if 92 with (fail)
      go_cut [12] from 85 to 159 (fun v w' => v = .int .u8 zd ∧ wr = w')
      case first =>
        as_aux_lemma =>
        by_cases h : j < n
        · have hI : (j : Int) < n := by omega
          have dq : decide ((j : Int) < n) = true := decide_eq_true hI
          obtain ⟨ab, off, rfl, _, hc⟩ := (ha.below hd.bel).2 (by omega)
          obtain ⟨y, hy⟩ : ∃ y, ls[j]? = some y := ⟨ls[j]'(by rw [ha.1]; exact h), List.getElem?_eq_getElem _⟩
          have cy := hc j y hy
          rw [show ((y.toNat : Nat) : Int) = zd from by rw [← getD_of hy]; exact HZD.out] at cy
          clear hc hy hd
          go_wp2_with fail
          go_meet
          case rel => exact ⟨rfl, rfl⟩
        · have hI : ¬ ((j : Int) < n) := by omega
          have dq : decide ((j : Int) < n) = false := decide_eq_false hI
          have z0 : zd = 0 := by
            rw [← HZD.out, getD_out (by have := ha.1; omega)]; rfl
          have Z0 := Lib.hid z0
          clear z0 hd
          go_wp2_with fail
          go_meet
          case rel => exact ⟨by rw [Z0.out], rfl⟩
      case rest =>
      obtain ⟨rfl, rfl⟩ := hcut
      apply_assumption
      go_upto_if 100 with (fail)
      go_cut [13] from 85 to 159 (fun v w' => v = .int .u8 zn ∧ wr = w')
      case first =>
        as_aux_lemma =>
        by_cases h : j < m
        · have hI : (j : Int) < m := by omega
          have dq : decide ((j : Int) < m) = true := decide_eq_true hI
          obtain ⟨ab, off, rfl, _, hc⟩ := (hb.below hd.bel).2 (by omega)
          obtain ⟨y, hy⟩ : ∃ y, ag[j]? = some y := ⟨ag[j]'(by rw [hb.1]; exact h), List.getElem?_eq_getElem _⟩
          have cy := hc j y hy
          rw [show ((y.toNat : Nat) : Int) = zn from by rw [← getD_of hy]; exact HZN.out] at cy
          clear hc hy hd
          go_wp2_with fail
          go_meet
          case rel => exact ⟨rfl, rfl⟩
        · have hI : ¬ ((j : Int) < m) := by omega
          have dq : decide ((j : Int) < m) = false := decide_eq_false hI
          have z0 : zn = 0 := by
            rw [← HZN.out, getD_out (by have := hb.1; omega)]; rfl
          have Z0 := Lib.hid z0
          clear z0 hd
          go_wp2_with fail
          go_meet
          case rel => exact ⟨by rw [Z0.out], rfl⟩
      case rest =>
      obtain ⟨rfl, rfl⟩ := hcut
      apply_assumption
      go_wp2_with fail
      refine (I.readH (j : Int) hd f7 hok).mono ?_
      rw [ER.out]
      rintro e w8 ⟨rfl, h8⟩
      have s64I : (S.length : Int) = 64 := by rw [H64.out]; rfl
      go_wp2_with fail
      refine (I.safeH (j : Int) h8 f7 hok).mono ?_
      rw [ES.out]
      rintro e w9 ⟨rfl, h9⟩
      clear hd h8 HZD HZN ER ES
      go_wp2
      go_loopw [16, 17, 18] (fun tu i _ wq => ∃ k : Nat, k ≤ 64 ∧ i = .int .i64 k ∧ tu = .bool (decide (zn ≠ 0 ∧ zn ≠ zd ∧ x < k)) ∧ w9 = wq) (fun _ i _ _ => 64 - (intOf i).toNat)
      case atStart => exact ⟨0, by omega, rfl, by simp, rfl⟩
      case round =>
        obtain ⟨k, hk, rfl, rfl, rfl⟩ := hrel
        by_cases hk64 : k < 64
        · have kl : (k : Int) < 64 := by omega
          have kl2 : (k : Int) < S.length := by omega
          have hy := HG.out H64.out k hk64
          clear HG
          by_cases hn0 : zn = 0
          · have hx0 := hz0 hn0
            subst hx0
            subst hn0
            rw [if_neg (by omega)] at hy
            rw [show decide ((0 : Int) ≠ 0 ∧ (0 : Int) ≠ zd ∧ 0 < k) = false from by simp]
            have rel1 : Value.bool false = Value.bool (decide ((0 : Int) ≠ 0 ∧ (0 : Int) ≠ zd ∧ 0 < k + 1)) := by simp
            have REL := Lib.hid rel1
            by_cases hd0 : zd = 0
            · subst hd0
              clear rel1
              go_wp2
              go_roundw
              case rel => exact ⟨k + 1, by omega, by go_num, REL.out, by first | rfl | trivial⟩
              case measure => simp [intOf]; omega
            · have z1 : (zd == 0) = false := by simpa using hd0
              clear rel1
              go_wp2
              go_roundw
              case rel => exact ⟨k + 1, by omega, by go_num, REL.out, by first | rfl | trivial⟩
              case measure => simp [intOf]; omega
          · have z1 : (zn == 0) = false := by simpa using hn0
            have z4 : (zn != 0) = true := by simpa using hn0
            by_cases hnd : zn = zd
            · subst hnd
              rw [if_ctx_same] at hy
              rw [show decide (zn ≠ 0 ∧ zn ≠ zn ∧ x < k) = false from by simp]
              have REL := Lib.hid (show Value.bool false = Value.bool (decide (zn ≠ 0 ∧ zn ≠ zn ∧ x < k + 1)) from by simp)
              go_wp2
              go_roundw
              case rel => exact ⟨k + 1, by omega, by go_num, REL.out, by first | rfl | trivial⟩
              case measure => simp [intOf]; omega
            · have z2 : (zn == zd) = false := by simpa using hnd
              have z5 : (zn != zd) = true := by simpa using hnd
              have z3 : (zd == zn) = false := by simpa using fun h => hnd h.symm
              have hdn : ¬ zd = zn := fun h => hnd h.symm
              by_cases hkx : k < x
              · rw [if_pos hkx] at hy
                rw [show decide (zn ≠ 0 ∧ zn ≠ zd ∧ x < k) = false from by simp; omega]
                have REL := Lib.hid (show Value.bool false = Value.bool (decide (zn ≠ 0 ∧ zn ≠ zd ∧ x < k + 1)) from by simp; omega)
                clear hkx
                go_wp2
                go_roundw
                case rel => exact ⟨k + 1, by omega, by go_num, REL.out, by first | rfl | trivial⟩
                case measure => simp [intOf]; omega
              · rw [if_neg hkx] at hy
                have REL := Lib.hid (show Value.bool true = Value.bool (decide (zn ≠ 0 ∧ zn ≠ zd ∧ x < k + 1)) from by simp; exact ⟨hn0, hnd, by omega⟩)
                generalize decide (zn ≠ 0 ∧ zn ≠ zd ∧ x < k) = tu
                clear hkx
                go_wp2
                go_roundw
                case rel => exact ⟨k + 1, by omega, by go_num, REL.out, by first | rfl | trivial⟩
                case measure => simp [intOf]; omega
        · obtain rfl : k = 64 := by omega
          rw [show ((64 : Nat) : Int) = 64 from rfl]
          generalize decide (zn ≠ 0 ∧ zn ≠ zd ∧ x < 64) = tu
          go_wp2
          go_roundw
          case rel => exact ⟨j + 1, by omega, by go_num, h9⟩
          case measure => simp [intOf]; omega
    · obtain rfl : j = 8 := by omega
      rw [show ((8 : Nat) : Int) = 8 from rfl]
      have w7' : d7.waits.length = 0 := Nat.le_zero.1 q7.go.waits
      go_wp2_with fail
      refine (I.waitingH hd f7).mono ?_
      rw [w7']
      rintro e w8 ⟨aw, cw, rfl, hcw, h8⟩
      have hbb := h8.bel
      clear hd h8
      go_wp2
      go_ret
      exact ⟨rfl, hbb⟩
end
end Go.Proofs.Ytmpcfdjpklmfmaa.deviceSafe
