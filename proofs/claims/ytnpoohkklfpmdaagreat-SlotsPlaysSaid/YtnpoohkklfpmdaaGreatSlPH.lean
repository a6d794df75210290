/- The program's log: Commit. -/
import Derived.Test.YtnpoohkklfpmdaaGreatRows
import Derived.WalkKit
import Derived.Below
import Derived.ProofKit
import Derived.OpenShut
import Derived.ShutString
import Derived.ChangeOld
import Derived.Outline
import Derived.RegionTactic
import Derived.ChangeAlike
import Derived.BigRegion
import Derived.BigQuiet
import Derived.Deep.QuietTactic
import Derived.Deep.RegionWith
import Derived.Deep.RegionLaw
import Derived.Deep.RegionHeld3
import Derived.Deep.AppendLies
import Derived.Deep.Draws
import Derived.StillTailTactics
import Derived.Lib.Hide
import Derived.Lib.SmallJoins
import Derived.Handy
import Derived.WalkSpells
import Derived.WalkLawsBesides
import Derived.Deep.LoopGhost
import Derived.Deep.DeepCutAuto
import Derived.Deep.CutBlock
import Derived.Deep.CutRange
import Derived.Deep.OwnRows
import Derived.Laws.CopyOwn
import Derived.Great.BuildSlice
import Derived.Test.YtnpoohkklfpmdaaGreatSlPX
namespace Go.Proofs.YtnpoohkklfpmdaaGreat
open Go.RowKit
set_option linter.unusedSimpArgs false
set_option linter.unusedVariables false
set_option linter.unnecessarySimpa false
attribute [local go_sem] idx_list ext_list app_list
theorem tailM_len (L : List UInt8) : (tailM L).length = L.length - 64 * (L.length / 64) := by unfold tailM; rw [List.length_drop]; omega
theorem tail_split (L : List UInt8) : L = L.take (64 * (L.length / 64)) ++ tailM L := by
  unfold tailM; rw [Nat.mul_comm, List.take_append_drop]
theorem drop_front {A B : List UInt8} {a i : Nat} (h : A.length = a) : (A ++ B).drop (a + i) = B.drop i := by
  rw [← h, ← List.drop_drop, List.drop_left]
theorem chunk_tail (L rc : List UInt8) (i : Nat) : chunk (tailM L ++ rc) i = chunk (L ++ rc) (L.length / 64 + i) := by
  unfold chunk
  have hl : (L.take (64 * (L.length / 64))).length = 64 * (L.length / 64) := by rw [List.length_take]; omega
  have e : L ++ rc ++ zsec = L.take (64 * (L.length / 64)) ++ (tailM L ++ rc ++ zsec) := by
    rw [← List.append_assoc, ← List.append_assoc, ← tail_split L]
  rw [e, Nat.mul_add, drop_front hl]
theorem chunks_secs (L rc : List UInt8) : chunks (2 + L.length / 64) (tailM L ++ rc) (((tailM L ++ rc).length + 63) / 64) = secsM L rc := by
  unfold chunks secsM
  rw [List.length_append, tailM_len, show (L.length - 64 * (L.length / 64) + rc.length + 63) / 64 = (L.length + rc.length + 63) / 64 - L.length / 64 from by omega, List.range'_eq_map_range, List.map_map]
  refine List.map_congr_left fun i _ => ?_
  simp only [Function.comp]
  rw [chunk_tail, Nat.add_assoc]
theorem tailM_app (L rc : List UInt8) : tailM (tailM L ++ rc) = tailM (L ++ rc) := by
  have hl : (L.take (64 * (L.length / 64))).length = 64 * (L.length / 64) := by rw [List.length_take]; omega
  have h2 := tailM_len L
  have e : tailM (L ++ rc) = (L.take (64 * (L.length / 64)) ++ (tailM L ++ rc)).drop ((L.length + rc.length) / 64 * 64) := by
    rw [← List.append_assoc, ← tail_split L]
    unfold tailM
    rw [List.length_append]
  have hd : (L.length + rc.length) / 64 * 64 = 64 * (L.length / 64) + (tailM L ++ rc).length / 64 * 64 := by rw [List.length_append, h2]; omega
  rw [e, hd, drop_front hl]
  rfl
set_option maxRecDepth 100000 in
/-- What writes a log's sectors. -/
theorem addOne_any {K : Nat} {cap : Array Value} {E : List Nat} {W : World} {n : Nat} {J : List (Nat × List UInt8) → World → Prop} (X : Wr K cap E W n J) {c1 c2 x p : Nat} {S : Sg} (rc : List UInt8) (w : World) (h : J [] w) (h1 : Rw w c1 [.pointer (some ⟨x, 0, none⟩)] 28) (h2 : Rw w c2 [.string ⟨(tailM S.log ++ rc).toArray⟩] 9) (hx : Rw w x (scs p n S) 71)
    (hn : n ≤ 4096) (hs : S.Fits n) (hr : S.log.length + rc.length ≤ 64 * (n - 2)) :
    Calls Tryz.prog 54 #[.func (.func K) #[] cap, .pointer (some ⟨c1, 0, none⟩), .pointer (some ⟨c2, 0, none⟩)] w fun e w' => e = .returned (.tuple #[]) ∧ J (secsM S.log rc) w' := by
  have hsp := fun w hw => sSpread_any X (2 + S.log.length / 64) (tailM S.log ++ rc) w hw hn (by have := hs.n3; rw [List.length_append, tailM_len]; omega)
  rw [chunks_secs, show ((2 + S.log.length / 64 : Nat) : Int) = 2 + (S.log.length : Int) / 64 from by omega] at hsp
  have hsz := hs.sz
  have hfit := hs.fit
  have q1 := h1.c 0 (v := .pointer (some ⟨x, 0, none⟩)) rfl
  have q2 := h2.c 0 (v := .string ⟨(tailM S.log ++ rc).toArray⟩) rfl
  have q3 := hx.c 2 (v := .int .i64 (S.m.sz : Nat)) rfl
  rw [hsz] at q3
  obtain ⟨l, hl⟩ : ∃ l, l = S.log.length := ⟨_, rfl⟩
  rw [← hl] at hsp q3 hfit
  have hlI : (l : Int) ≤ 262144 := by omega
  obtain ⟨T, hT⟩ : ∃ T, T = tailM S.log ++ rc := ⟨_, rfl⟩
  rw [← hT] at hsp q2
  have HSP := Lib.hid hsp
  have HJ : ∀ m, J [] (w.drewN m) := fun m => X.below h (below_drewN (Below.refl _ _) m)
  have HJ' := Lib.hid HJ
  have HX := Lib.hid X
  clear hsp h1 h2 hx hs hr hsz hfit hl hT HJ X h
  go_enter Tryz.func54, Tryz.ntmps54
  go_wp2
  go_still_tail 9, (by kernel_rfl)
  change wpList _ _ _ _ _ w.drew
  go_wp2_with fail
  refine (HSP.out _ (HJ'.out 1)).mono ?_
  rintro e w1 ⟨rfl, h1⟩
  go_wp2
  go_end0
  exact ⟨rfl, h1⟩
set_option maxRecDepth 100000 in
/-- What writes a mark. -/
theorem addTwo_any {K : Nat} {cap : Array Value} {E : List Nat} {W : World} {n : Nat} {J : List (Nat × List UInt8) → World → Prop} (X : Wr K cap E W n J) {cm : Nat} (m : Mk) (h : J [] W) (h1 : Rw W cm (ncs m.ep m.sz m.ct) 51) (hcm : cm ∉ E)
    (hn : 2 ≤ n) (b1 : m.ep < 4611686018427387904) (b2 : m.sz < 4611686018427387904) (b3 : m.ct < 4611686018427387904) :
    Calls Tryz.prog 56 #[.func (.func K) #[] cap, .pointer (some ⟨cm, 0, none⟩)] W fun e w' => e = .returned (.tuple #[]) ∧ J [(m.ep % 2, packM m)] w' := by
  have hst : ∀ w1, J [] w1 → Calls Tryz.prog K (#[.int .i64 ((m.ep : Int).tmod 2), .string ⟨(packM m).toArray⟩] ++ cap) w1 fun e w' => e = .returned (.tuple #[]) ∧ J [(m.ep % 2, packM m)] w' := fun w1 hj => by
    have := X.step (m.ep % 2) (packM m) hj (by simp) (by omega) (packM_len m)
    rw [show ((m.ep % 2 : Nat) : Int) = (m.ep : Int).tmod 2 from by rw [Int.tmod_eq_emod_of_nonneg (by omega)]; omega] at this
    exact this
  have hpk := fun w => pPack_any m w b1 b2 b3
  have hfrc : ∀ ws w' (k : Nat), J ws w' → w'.cell? ⟨cm, k, none⟩ = W.cell? ⟨cm, k, none⟩ := fun ws w' k hj => (X.fr hj).cell (p := ⟨cm, k, none⟩) h1.lt hcm
  have FRC := Lib.hid hfrc
  clear hfrc
  have hbel : ∀ w', Below W.heap.size W w' → J [] w' := fun w' hb => X.below h hb
  have hbe2 : ∀ w' w'', J [] w' → Below w'.heap.size w' w'' → J [] w'' := fun w' w'' hj hb => X.below hj hb
  obtain ⟨a, b, c⟩ := m
  rw [show mkV ⟨a, b, c⟩ = .agg #[.int .i64 (a : Nat), .int .i64 (b : Nat), .int .i64 (c : Nat)] from rfl] at hpk
  obtain ⟨P, hP⟩ : ∃ P, P = packM ⟨a, b, c⟩ := ⟨_, rfl⟩
  rw [← hP] at hst hpk ⊢
  have q0 := h1.c 0 (v := .int .i64 (a : Nat)) rfl
  have q1 := h1.c 1 (v := .int .i64 (b : Nat)) rfl
  have q2 := h1.c 2 (v := .int .i64 (c : Nat)) rfl
  simp only at b1 b2 b3 hst ⊢
  have aI : (a : Int) < 4611686018427387904 := by omega
  have bI : (b : Int) < 4611686018427387904 := by omega
  have cI : (c : Int) < 4611686018427387904 := by omega
  have hl := h1.lt
  have HST := Lib.hid hst
  have HPK := Lib.hid hpk
  have HB := Lib.hid hbel
  have HB2 := Lib.hid hbe2
  have hcf := X.enters
  have keepc : ∀ {w' : World} (k : Nat), Below W.heap.size W w' → w'.cell? ⟨cm, k, none⟩ = W.cell? ⟨cm, k, none⟩ := fun k hb => hb.cell (p := ⟨cm, k, none⟩) hl
  have KC : Hid (∀ {w' : World} (k : Nat), Below W.heap.size W w' → w'.cell? ⟨cm, k, none⟩ = W.cell? ⟨cm, k, none⟩) := Lib.hid keepc
  clear hst hpk hbel hbe2 keepc h h1 hP b1 b2 b3 X hcm
  go_enter Tryz.func56, Tryz.ntmps56
  go_wp2
  go_region_held3 (fun w' => w'.cell? ⟨cm, 0, none⟩ = some (.int .i64 (a : Nat)) ∧ w'.cell? ⟨cm, 1, none⟩ = some (.int .i64 (b : Nat)) ∧ w'.cell? ⟨cm, 2, none⟩ = some (.int .i64 (c : Nat)))
    (first | go_keep | exact ⟨q0, q1, q2⟩ | exact ⟨d0, d1, d2⟩ | exact ⟨z0, z1, z2⟩)
    (first
      | ((with_reducible go_at_call 23); (with_reducible refine (HPK.out _).mono ?_); rintro e w5 ⟨rfl, h5'⟩; have h5 := below_undrew h5'; have d0 := (KC.out 0 h5).trans q0; have d1 := (KC.out 1 h5).trans q1; have d2 := (KC.out 2 h5).trans q2; have hJ5 := HB.out _ h5)
      | ((with_reducible refine (HST.out _ hJ5).mono ?_); rintro e w6 ⟨rfl, h6⟩; have z0 := (FRC.out _ _ 0 h6).trans q0; have z1 := (FRC.out _ _ 1 h6).trans q1; have z2 := (FRC.out _ _ 2 h6).trans q2))
  go_end0
  exact ⟨rfl, h6⟩
theorem ex_set {w : World} {a b : Addr} {v : Value} (h : ∃ z, w.cell? b = some z) : ∃ z, (w.setCell a v).cell? b = some z := by
  obtain ⟨z, hz⟩ := h
  by_cases e : a = b
  · subst e; exact ⟨v, World.cell?_setCell_same w a v hz⟩
  · exact ⟨z, (World.cell?_setCell_other w a b v e).trans hz⟩
theorem acts_split (L rc : List UInt8) (m : Mk) : actsC L rc m = (wrD (secsM L rc) ++ [.f]) ++ (wrD [(m.ep % 2, packM m)] ++ [.f]) := by simp [actsC, wrD]
section
variable {PD : World → List Nat → Nat → Dv → Prop} (I : Iface0 PD)
include I
set_option maxHeartbeats 8000000 in
set_option maxRecDepth 100000 in
theorem sAdd_any {exd : List Nat} {p x n : Nat} {d : Dv} {S : Sg} (rc : List UInt8) (w : World) (h : PD w exd p d) (hx : Rw w x (scs p n S) 71) (hxe : x ∉ exd) (hf : d.Few7) (ho : d.Ok) (hnl : n = d.safe.length) (hs : S.Fits n) (hr : S.log.length + rc.length ≤ 64 * (n - 2)) (hbr : S.br = false) :
    Calls Tryz.prog 36 #[.pointer (some ⟨x, 0, none⟩), .string ⟨rc.toArray⟩] w fun e w' => e = .returned (.int .i64 (runD d (actsC S.log rc (nextM S.m rc))).2) ∧
      ∃ exd', PD w' exd' p (runD d (actsC S.log rc (nextM S.m rc))).1 ∧ Rw w' x (scs p n (if (runD d (actsC S.log rc (nextM S.m rc))).2 = 0 then ⟨nextM S.m rc, S.log ++ rc, false⟩ else { S with br := true })) 71 ∧ Fr (x :: exd) w w' ∧ ∀ b ∈ exd', b ∈ exd ∨ w.heap.size ≤ b := by
  obtain ⟨R, hR⟩ : ∃ R, R = runD d (actsC S.log rc (nextM S.m rc)) := ⟨_, rfl⟩
  rw [← hR]
  have hlt := I.lt h
  have hxl := hx.lt
  have hn : n ≤ 4096 := by rw [hnl]; exact hf.safe
  have hn3 := hs.n3
  have nin : ∀ b, w.heap.size ≤ b → b ∉ exd := fun b hb hin => by have := hlt b hin; omega
  have hws : (secsM S.log rc).length ≤ 8000 := by rw [secsM_len]; omega
  obtain ⟨W, hW⟩ : ∃ W, W = (w.alloc (.cells #[.pointer (some ⟨x, 0, none⟩)] 28)).alloc (.cells #[.string ⟨(tailM S.log ++ rc).toArray⟩] 9) := ⟨_, rfl⟩
  have bW : Below w.heap.size w W := by rw [hW]; exact ((Below.refl _ _).alloc (Nat.le_refl _) _).alloc (by simp) _
  have r1 : Rw W w.heap.size [.pointer (some ⟨x, 0, none⟩)] 28 := by rw [hW]; exact (Rw.new w _ _).alloc _
  have r2 : Rw W (w.heap.size + 1) [.string ⟨(tailM S.log ++ rc).toArray⟩] 9 := by
    have := Rw.new (w.alloc (.cells #[.pointer (some ⟨x, 0, none⟩)] 28)) [.string ⟨(tailM S.log ++ rc).toArray⟩] 9
    rw [hW]; simpa using this
  have hx0 := hx.alloc (.cells #[.pointer (some ⟨x, 0, none⟩)] 28)
  have k5 := hx0.c 5 (v := .string ⟨(tailM S.log).toArray⟩) rfl
  have hxW := hx.below bW
  have hpW := I.below h bW
  have z2 := r2.lt
  have hf1 := sFlush_any I (exd := exd) (p := p) (x := x) (n := n) (d := d) (S := S) 54 #[.pointer (some ⟨w.heap.size, 0, none⟩), .pointer (some ⟨w.heap.size + 1, 0, none⟩)] (secsM S.log rc) W (enters Tryz.func54 (fnName _ (by kernel_rfl)) rfl) hpW hxW hxe hf.few8 ho hws (fun K2 cap2 E2 W2 J2 X hb hE hj =>
    addOne_any X rc W2 hj (r1.below (hb.mono (by omega))) (r2.below (hb.mono (by omega))) (hxW.below (hb.mono (by omega))) hn hs hr)
  obtain ⟨D, hD⟩ : ∃ D, D = runD d (wrD (secsM S.log rc) ++ [.f]) := ⟨_, rfl⟩
  rw [← hD] at hf1
  have hDfew := runD_few (wrD (secsM S.log rc) ++ [.f]) d
  have hDlen := runD_len (wrD (secsM S.log rc) ++ [.f]) d
  have hDok := runD_ok (wrD (secsM S.log rc) ++ [.f]) ho
  rw [← hD] at hDfew hDlen hDok
  have hal : (wrD (secsM S.log rc) ++ [DAct.f]).length ≤ 8001 := by simp [wrD]; omega
  have hRD : R = if D.2 = 0 then runD D.1 (wrD [((nextM S.m rc).ep % 2, packM (nextM S.m rc))] ++ [.f]) else D := by
    rw [hR, acts_split, runD_append, ← hD]
  have qs : ¬ (9223372036854775807 < (tailM S.log).length + rc.length) := by rw [tailM_len]; omega
  have HF1 := Lib.hid hf1
  have HRD := Lib.hid hRD
  have BW := Lib.hid bW
  have HW := Lib.hid hW
  have HR1 := Lib.hid r1
  have HR2 := Lib.hid r2
  have NIN := Lib.hid nin
  have HXE := Lib.hid hxe
  have HD3 := Lib.hid (And.intro hDfew (And.intro hDlen (And.intro hDok hal)))
  have HFEW := Lib.hid hf
  have HS := Lib.hid hs
  have HBR := Lib.hid hbr
  have HNL := Lib.hid hnl
  have HRF := Lib.hid hr
  clear hf1 hRD bW hW r1 r2 nin hxe hDfew hDlen hDok hal hD hR hws hx0 hxW hpW h hx hf ho hs hr hbr hnl hlt
  go_enter Tryz.func36, Tryz.ntmps36
  go_wp2_with fail
  rw [← HW.out]
  refine HF1.out.mono ?_
  rintro e w1 ⟨rfl, exd1, p1, x1, f1, m1⟩
  clear HF1 HW k5 qs
  by_cases h0 : D.2 = 0
  · have hz : (D.2 == 0) = true := by simpa using h0
    have hRR := HRD.out
    rw [if_pos h0] at hRR
    rw [hz] at x1
    have hz2 : (D.2 != 0) = false := by simp [h0]
    have BZ := BW.out.size
    have xne1 : w.heap.size ∉ x :: exd := by
      intro e
      rcases List.mem_cons.1 e with e | e
      · omega
      · exact NIN.out _ (Nat.le_refl _) e
    have xne2 : w.heap.size + 1 ∉ x :: exd := by
      intro e
      rcases List.mem_cons.1 e with e | e
      · omega
      · exact NIN.out _ (by omega) e
    have b1 := HR1.out.fr f1 xne1
    have b2 := HR2.out.fr f1 xne2
    have c0 := b1.c 0 (v := .pointer (some ⟨x, 0, none⟩)) rfl
    have c1 := x1.c 1 (v := .int .i64 (S.m.ep : Nat)) rfl
    have c2 := x1.c 2 (v := .int .i64 (S.m.sz : Nat)) rfl
    have c3 := x1.c 3 (v := .int .i64 (S.m.ct : Nat)) rfl
    have eI : (S.m.ep : Int) < 1152921504606846976 := by have := HS.out.ep; omega
    have kI : (S.m.ct : Int) < 1152921504606846976 := by have := HS.out.ct; omega
    have sI : (S.m.sz : Int) ≤ 262144 := by have := HS.out.sz; have := HS.out.fit; omega
    have rI : (rc.length : Int) ≤ 262144 := by have := HRF.out; omega
    obtain ⟨E, hE⟩ : ∃ E, E = S.m.ep := ⟨_, rfl⟩
    obtain ⟨Z, hZ⟩ : ∃ Z, Z = S.m.sz := ⟨_, rfl⟩
    obtain ⟨C, hC⟩ : ∃ C, C = S.m.ct := ⟨_, rfl⟩
    rw [← hE] at c1 eI
    rw [← hZ] at c2 sI
    rw [← hC] at c3 kI
    have B1 := Lib.hid b1
    have B2 := Lib.hid b2
    have X1 := Lib.hid x1
    have P1 := Lib.hid p1
    have F1 := Lib.hid f1
    have M1 := Lib.hid m1
    have HRR := Lib.hid hRR
    have H0 := Lib.hid h0
    have HE := Lib.hid hE
    have HZ := Lib.hid hZ
    have HC := Lib.hid hC
    clear HRD x1 p1 f1 m1 b1 b2 hRR h0 hE hZ hC xne1 xne2
    go_upto_region 5 with (fail)
    clear hz hz2
    have a0 := (B1.out.alloc (.cells #[.int .i64 0, .int .i64 0, .int .i64 0] 51)).c 0 (v := .pointer (some ⟨x, 0, none⟩)) rfl
    have a1 := (X1.out.alloc (.cells #[.int .i64 0, .int .i64 0, .int .i64 0] 51)).c 1 (v := .int .i64 (S.m.ep : Nat)) rfl
    have a2 := (X1.out.alloc (.cells #[.int .i64 0, .int .i64 0, .int .i64 0] 51)).c 2 (v := .int .i64 (S.m.sz : Nat)) rfl
    have a3 := (X1.out.alloc (.cells #[.int .i64 0, .int .i64 0, .int .i64 0] 51)).c 3 (v := .int .i64 (S.m.ct : Nat)) rfl
    rw [← HE.out] at a1
    rw [← HZ.out] at a2
    rw [← HC.out] at a3
    go_region
    clear a0 a1 a2 a3 c0 c1 c2 c3
    obtain ⟨wm, hwm⟩ : ∃ wm, wm = (w1.alloc (.cells #[.int .i64 ((E : Int) + 1), .int .i64 ((Z : Int) + (rc.length : Int)), .int .i64 ((C : Int) + 1)] 51)).drew := ⟨_, rfl⟩
    obtain ⟨cm, hcm⟩ : ∃ cm, cm = w1.heap.size := ⟨_, rfl⟩
    rw [← hwm, ← hcm]
    have bm : Below w1.heap.size w1 wm := by rw [hwm]; exact ((Below.refl _ _).alloc (Nat.le_refl _) _).drew
    have rm : Rw wm cm (ncs (nextM S.m rc).ep (nextM S.m rc).sz (nextM S.m rc).ct) 51 := by
      have : Rw wm cm [.int .i64 ((E : Int) + 1), .int .i64 ((Z : Int) + (rc.length : Int)), .int .i64 ((C : Int) + 1)] 51 := by rw [hwm, hcm]; exact Rw.new w1 _ _
      rw [HE.out, HZ.out, HC.out] at this
      exact this
    have xm := X1.out.below bm
    have pm := I.below P1.out bm
    have q1 := B1.out.below bm
    have q2 := B2.out.below bm
    have WZ := F1.out.size
    have xn1 : x ∉ exd1 := fun e => (M1.out x e).elim HXE.out (fun q => by omega)
    have cmZ : W.heap.size ≤ cm := by rw [hcm]; exact WZ
    have hD3 := HD3.out
    have hF8 : D.1.Few8 := by
      obtain ⟨g1, g2, g3, g4⟩ := HFEW.out
      obtain ⟨⟨e1, e2, e3⟩, e4, e5, e6⟩ := hD3
      exact ⟨by omega, by omega, by omega, by omega⟩
    have hnx : (nextM S.m rc).ep < 4611686018427387904 ∧ (nextM S.m rc).sz < 4611686018427387904 ∧ (nextM S.m rc).ct < 4611686018427387904 := by
      have := HS.out.ep
      have := HS.out.ct
      have := HS.out.sz
      have := HS.out.fit
      have := HRF.out
      simp only [nextM]
      omega
    have hltm : ∀ b ∈ exd1, b < w1.heap.size := fun b hb => I.lt P1.out b hb
    have cmn : cm ∉ exd1 := fun e => by have := hltm cm e; omega
    have hf2 := sFlush_any I (exd := exd1) (p := p) (x := x) (n := n) (d := D.1) (S := { S with br := !true }) 56 #[.pointer (some ⟨cm, 0, none⟩)] [((nextM S.m rc).ep % 2, packM (nextM S.m rc))] wm (enters Tryz.func56 (fnName _ (by kernel_rfl)) rfl) pm xm xn1 hF8 hD3.2.2.1 (by simp) (fun K2 cap2 E2 W2 J2 X hb hE hj =>
      addTwo_any X (nextM S.m rc) hj (rm.below hb) (fun e => by
        have h1 := rm.lt
        rcases hE cm e with q | q
        · exact cmn q
        · omega) (by omega) hnx.1 hnx.2.1 hnx.2.2)
    rw [← HRR.out] at hf2
    have b0 := q1.c 0 (v := .pointer (some ⟨x, 0, none⟩)) rfl
    have HF2 := Lib.hid hf2
    have Q1 := Lib.hid q1
    have Q2 := Lib.hid q2
    have HCM := Lib.hid hcm
    clear hf2 hnx hF8 hD3 xm pm hwm hltm q1 q2 eI kI sI rI hcm
    have RM := Lib.hid rm
    have BM := Lib.hid bm
    have XN := Lib.hid xn1
    have CMN := Lib.hid cmn
    clear rm bm xn1 cmn
    go_wp2_with fail
    with_reducible refine HF2.out.mono ?_
    rintro e w2 ⟨rfl, exd2, p2, x2, f2, m2⟩
    clear HF2 b0
    have WZ1 := BM.out.size
    have wz1 : w1.heap.size ≤ wm.heap.size := BM.out.size
    have xin : ∀ b, w.heap.size ≤ b → b < W.heap.size → b ∉ x :: exd1 := fun b hb hb2 e => by
      rcases List.mem_cons.1 e with e | e
      · omega
      · rcases M1.out b e with q | q
        · exact NIN.out b hb q
        · omega
    have FF : Hid (Fr (x :: exd) w w2) := Lib.hid ((((Fr.of_below BW.out).then2 F1.out fun b hb => .inl hb).trans (Fr.of_below BM.out)).then2 f2 fun b hb => by
      rcases List.mem_cons.1 hb with e | e
      · left; simp [e]
      · rcases M1.out b e with q | q
        · left; simp [q]
        · right; omega)
    have MM : Hid (∀ b ∈ exd2, b ∈ exd ∨ w.heap.size ≤ b) := Lib.hid fun b hb => by
      rcases m2 b hb with q | q
      · rcases M1.out b q with q | q
        · exact .inl q
        · right; omega
      · right; omega
    have P2 := Lib.hid p2
    have X2 := Lib.hid x2
    have r0 := Q1.out.fr f2 (xin _ (Nat.le_refl _) (by omega))
    have r1 := Q2.out.fr f2 (xin _ (by omega) (by omega))
    have cmx : cm ∉ x :: exd1 := fun e => by
      rcases List.mem_cons.1 e with e | e
      · omega
      · exact CMN.out e
    have rm2 := RM.out.fr f2 cmx
    have xn2 : x ∉ exd2 := fun e => by
      rcases m2 x e with q | q
      · exact XN.out q
      · omega
    have R0 := Lib.hid r0
    have R1 := Lib.hid r1
    have RM2 := Lib.hid rm2
    have XN2 := Lib.hid xn2
    clear f2 m2 p2 x2 r0 r1 rm2 xn2 cmx xin RM BM F1 M1 P1 Q1 Q2
    by_cases hR0 : R.2 = 0
    · have hz : (R.2 != 0) = false := by simp [hR0]
      have x3 := X2.out
      rw [show (R.2 == 0) = true from by simpa using hR0] at x3
      have X3 := Lib.hid x3
      obtain ⟨T, hT⟩ : ∃ T, T = tailM S.log ++ rc := ⟨_, rfl⟩
      have HT := Lib.hid hT
      have htl := sTail_any T
      have hTl : (T.length : Int) ≤ 281474976710656 := by rw [hT, List.length_append, tailM_len]; have := HS.out.fit; have := HRF.out; omega
      have HTL := Lib.hid (fun w => htl w hTl)
      obtain ⟨E', hE'⟩ : ∃ E', E' = (nextM S.m rc).ep := ⟨_, rfl⟩
      obtain ⟨Z', hZ'⟩ : ∃ Z', Z' = (nextM S.m rc).sz := ⟨_, rfl⟩
      obtain ⟨C', hC'⟩ : ∃ C', C' = (nextM S.m rc).ct := ⟨_, rfl⟩
      have rm3 := RM2.out
      rw [← hE', ← hZ', ← hC'] at rm3
      have r13 := R1.out
      rw [← hT] at r13
      have HE' := Lib.hid hE'
      have HZ' := Lib.hid hZ'
      have HC' := Lib.hid hC'
      have d0 := R0.out.c 0 (v := .pointer (some ⟨x, 0, none⟩)) rfl
      have d1 := rm3.c 0 (v := .int .i64 (E' : Nat)) rfl
      have d2 := rm3.c 1 (v := .int .i64 (Z' : Nat)) rfl
      have d3 := rm3.c 2 (v := .int .i64 (C' : Nat)) rfl
      have d4 := r13.c 0 (v := .string ⟨T.toArray⟩) rfl
      have e1 := X3.out.f 1
      have e2 := X3.out.f 2
      have e3 := X3.out.f 3
      have e5 := X3.out.f 5
      have g1 := X3.out.c 1 (v := .int .i64 (S.m.ep : Nat)) rfl
      have g2 := X3.out.c 2 (v := .int .i64 (S.m.sz : Nat)) rfl
      have g3 := X3.out.c 3 (v := .int .i64 (S.m.ct : Nat)) rfl
      have g5 := X3.out.c 5 (v := .string ⟨(tailM S.log).toArray⟩) rfl
      have n1 : w.heap.size ≠ x := by omega
      have n2 : w.heap.size + 1 ≠ x := by omega
      have n3 : cm ≠ x := by omega
      have n1' : x ≠ w.heap.size := by omega
      have n2' : x ≠ w.heap.size + 1 := by omega
      have n3' : x ≠ cm := by omega
      have RM3 := Lib.hid rm3
      have R13 := Lib.hid r13
      have HR0 := Lib.hid hR0
      clear x3 X2 hT htl hTl hE' hZ' hC' rm3 r13 RM2 R1 hR0
      go_upto_region 9 with (fail)
      go_region_held3 (fun w' => w'.cell? ⟨w.heap.size, 0, none⟩ = some (.pointer (some ⟨x, 0, none⟩)) ∧ w'.cell? ⟨cm, 0, none⟩ = some (.int .i64 (E' : Nat)) ∧ w'.cell? ⟨cm, 1, none⟩ = some (.int .i64 (Z' : Nat)) ∧ w'.cell? ⟨cm, 2, none⟩ = some (.int .i64 (C' : Nat)) ∧ w'.cell? ⟨w.heap.size + 1, 0, none⟩ = some (.string ⟨T.toArray⟩) ∧ w'.frozen? ⟨x, 1, none⟩ = false ∧ w'.frozen? ⟨x, 2, none⟩ = false ∧ w'.frozen? ⟨x, 3, none⟩ = false ∧ w'.frozen? ⟨x, 5, none⟩ = false ∧ (∃ z, w'.cell? ⟨x, 1, none⟩ = some z) ∧ (∃ z, w'.cell? ⟨x, 2, none⟩ = some z) ∧ (∃ z, w'.cell? ⟨x, 3, none⟩ = some z) ∧ ∃ z, w'.cell? ⟨x, 5, none⟩ = some z)
        (first | (go_keep; done) | exact ⟨d0, d1, d2, d3, d4, e1, e2, e3, e5, ⟨_, g1⟩, ⟨_, g2⟩, ⟨_, g3⟩, ⟨_, g5⟩⟩ | exact ⟨k0, k1, k2, k3, k4, l1, l2, l3, l5, ⟨_, o1⟩, ⟨_, o2⟩, ⟨_, o3⟩, ⟨_, o5⟩⟩ | (refine ⟨?_, ?_, ?_, ?_, ?_, ?_, ?_, ?_, ?_, ?_, ?_, ?_, ?_⟩ <;> first | (go_keep; done) | exact ex_set (ex_set (ex_set ⟨_, o1⟩)) | exact ex_set (ex_set (ex_set ⟨_, o2⟩)) | exact ex_set (ex_set (ex_set ⟨_, o3⟩)) | exact ex_set (ex_set (ex_set ⟨_, o5⟩)) | exact ex_set (ex_set (ex_set (ex_set ⟨_, o1⟩))) | exact ex_set (ex_set (ex_set (ex_set ⟨_, o2⟩))) | exact ex_set (ex_set (ex_set (ex_set ⟨_, o3⟩))) | exact ex_set (ex_set (ex_set (ex_set ⟨_, o5⟩)))))
        (first
          | ((with_reducible go_at_call 29); (with_reducible refine (HTL.out _).mono ?_); rintro e w5 ⟨rfl, h5'⟩; have h5 := below_undrew h5'; have X5 := X3.out.below h5; have k0 := (R0.out.below h5).c 0 (v := .pointer (some ⟨x, 0, none⟩)) rfl; have k1 := (RM3.out.below h5).c 0 (v := .int .i64 (E' : Nat)) rfl; have k2 := (RM3.out.below h5).c 1 (v := .int .i64 (Z' : Nat)) rfl; have k3 := (RM3.out.below h5).c 2 (v := .int .i64 (C' : Nat)) rfl; have k4 := (R13.out.below h5).c 0 (v := .string ⟨T.toArray⟩) rfl; have l1 := X5.f 1; have l2 := X5.f 2; have l3 := X5.f 3; have l5 := X5.f 5; have o1 := X5.c 1 (v := .int .i64 (S.m.ep : Nat)) rfl; have o2 := X5.c 2 (v := .int .i64 (S.m.sz : Nat)) rfl; have o3 := X5.c 3 (v := .int .i64 (S.m.ct : Nat)) rfl; have o5 := X5.c 5 (v := .string ⟨(tailM S.log).toArray⟩) rfl; clear X5))
      rename_i hh
      have FX : Hid (Rw ((((w5.setCell ⟨x, 1, none⟩ (.int .i64 (E' : Nat))).setCell ⟨x, 2, none⟩ (.int .i64 (Z' : Nat))).setCell ⟨x, 3, none⟩ (.int .i64 (C' : Nat))).setCell ⟨x, 5, none⟩ (.string ⟨(tailM T).toArray⟩)) x (scs p n ⟨nextM S.m rc, S.log ++ rc, false⟩) 71) := Lib.hid (by
        have := ((((X3.out.below h5).set 1 (.int .i64 (E' : Nat))).set 2 (.int .i64 (Z' : Nat))).set 3 (.int .i64 (C' : Nat))).set 5 (.string ⟨(tailM T).toArray⟩)
        rw [HE'.out, HZ'.out, HC'.out, HT.out, tailM_app] at this ⊢
        exact this)
      have PX : Hid (PD ((((w5.setCell ⟨x, 1, none⟩ (.int .i64 (E' : Nat))).setCell ⟨x, 2, none⟩ (.int .i64 (Z' : Nat))).setCell ⟨x, 3, none⟩ (.int .i64 (C' : Nat))).setCell ⟨x, 5, none⟩ (.string ⟨(tailM T).toArray⟩)) exd2 p R.1) := Lib.hid (I.keep (I.below P2.out h5) fun b hb => by
        have hne : b ≠ x := fun e => XN2.out (e ▸ hb)
        rw [Below.heap_setCell _ _ _ _ hne, Below.heap_setCell _ _ _ _ hne, Below.heap_setCell _ _ _ _ hne, Below.heap_setCell _ _ _ _ hne])
      have FG : Hid (Fr (x :: exd) w ((((w5.setCell ⟨x, 1, none⟩ (.int .i64 (E' : Nat))).setCell ⟨x, 2, none⟩ (.int .i64 (Z' : Nat))).setCell ⟨x, 3, none⟩ (.int .i64 (C' : Nat))).setCell ⟨x, 5, none⟩ (.string ⟨(tailM T).toArray⟩))) := Lib.hid (((((FF.out.trans (Fr.of_below h5)).setCell (.inl (by simp)) _).setCell (.inl (by simp)) _).setCell (.inl (by simp)) _).setCell (.inl (by simp)) _)
      clear hh h5' h5 d0 d1 d2 d3 d4 e1 e2 e3 e5 g1 g2 g3 g5 k0 k1 k2 k3 k4 l1 l2 l3 l5 o1 o2 o3 o5 n1 n2 n3 n1' n2' n3' hz
      go_wp2
      go_ret
      refine ⟨rfl, exd2, PX.out, ?_, FG.out, MM.out⟩
      first | exact FX.out | (rw [if_pos HR0.out]; exact FX.out) | (rw [if_pos rfl]; exact FX.out)
    · have hz : (R.2 != 0) = true := by simp [hR0]
      have x3 := X2.out
      rw [show (R.2 == 0) = false from by simpa using hR0] at x3
      have X3 := Lib.hid x3
      clear x3 X2
      go_wp2
      go_ret
      exact ⟨rfl, exd2, P2.out, X3.out, FF.out, MM.out⟩
  · have hz : (D.2 == 0) = false := by simpa using h0
    have hRR := HRD.out
    rw [if_neg h0] at hRR
    subst hRR
    rw [hz] at x1
    have X1 := Lib.hid x1
    have P1 := Lib.hid p1
    have F1 := Lib.hid f1
    have M1 := Lib.hid m1
    clear HRD HD3 x1 p1 f1 m1
    have BZ := BW.out.size
    have hz2 : (R.2 != 0) = true := by simp [h0]
    have H0 := Lib.hid h0
    clear h0
    go_wp2
    go_ret
    refine ⟨rfl, exd1, P1.out, X1.out, (Fr.of_below BW.out).then2 F1.out fun b hb => .inl hb, fun b hb => (M1.out b hb).imp id (fun q => by omega)⟩
end
end Go.Proofs.YtnpoohkklfpmdaaGreat
