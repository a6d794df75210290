/- SlPE: The program's log: what is written.
   SlPF: The program's log: its fields; flush.
   SlPG: The program's log: flush. -/
import Derived.Test.YtnpoohkklfpmdaaGreatRows
import Derived.WalkKit
import Derived.Below
import Derived.ProofKit
import Derived.OpenShut
import Derived.ShutString
import Derived.ChangeOld
import Derived.Outline
import Derived.RegionTactic
import Derived.ChangeAlike
import Derived.BigRegion
import Derived.BigQuiet
import Derived.Deep.QuietTactic
import Derived.Deep.RegionWith
import Derived.Deep.RegionLaw
import Derived.Deep.RegionHeld3
import Derived.Deep.AppendLies
import Derived.Deep.Draws
import Derived.StillTailTactics
import Derived.Lib.Hide
import Derived.Lib.SmallJoins
import Derived.Handy
import Derived.WalkSpells
import Derived.WalkLawsBesides
import Derived.Deep.LoopGhost
import Derived.Deep.DeepCutAuto
import Derived.Deep.CutBlock
import Derived.Deep.CutRange
import Derived.Deep.OwnRows
import Derived.Laws.CopyOwn
import Derived.Great.BuildSlice
import Derived.Test.YtnpoohkklfpmdaaGreatSlPQ
import Derived.Test.YtnpoohkklfpmdaaGreatSlI
import Derived.Test.YtnpoohkklfpmdaaGreatRepeat
import Derived.Test.YtnpoohkklfpmdaaGreatTlvK
import Derived.Test.YtnpoohkklfpmdaaGreatDevPZ
/- SlPE -/
namespace Go.Proofs.YtnpoohkklfpmdaaGreat
open Go.RowKit
set_option linter.unusedSimpArgs false
set_option linter.unusedVariables false
set_option linter.unnecessarySimpa false
attribute [local go_sem] idx_list ext_list app_list
/-- What is handed a sector to write: J tells what was handed to it since W; E is what it may turn. -/
structure Wr (K : Nat) (cap : Array Value) (E : List Nat) (W : World) (n : Nat) (J : List (Nat × List UInt8) → World → Prop) : Prop where
  enters : ∀ (args : Array Value) (w : World), (callFunc K args).run Tryz.prog w = .ok (.enter K args) w
  fr : ∀ {ws : List (Nat × List UInt8)} {w : World}, J ws w → Fr E W w
  below : ∀ {ws : List (Nat × List UInt8)} {w w' : World}, J ws w → Below w.heap.size w w' → J ws w'
  step : ∀ {ws : List (Nat × List UInt8)} {w : World} (k : Nat) (s : List UInt8), J ws w → ws.length < 8192 → k < n → s.length = 64 → Calls Tryz.prog K (#[.int .i64 k, .string ⟨s.toArray⟩] ++ cap) w fun e w' => e = .returned (.tuple #[]) ∧ J (ws ++ [(k, s)]) w'
/-- The pieces of a text, from the sector at_ on. -/
def chunks (at_ : Nat) (l : List UInt8) (k : Nat) : List (Nat × List UInt8) := (List.range k).map fun i => (at_ + i, chunk l i)
theorem chunks_succ (at_ : Nat) (l : List UInt8) (k : Nat) : chunks at_ l (k + 1) = chunks at_ l k ++ [(at_ + k, chunk l k)] := by
  simp [chunks, List.range_succ]
theorem chunk_eq {l : List UInt8} {k : Nat} (h : 64 * k ≤ l.length) : chunk l k = (l.drop (64 * k)).take 64 ++ List.replicate (64 - min (l.length - 64 * k) 64) 0 := by
  unfold chunk zsec
  rw [List.drop_append_of_le_length h, List.take_append, List.length_drop, List.take_replicate]
  congr 2; omega
theorem chunk_m {l r : List UInt8} {k m : Nat} (hr : r = l.drop (64 * k)) (hm : m = min r.length 64) (h0 : 64 * k ≤ l.length) : r.take m ++ zl (64 - m) = chunk l k := by
  rw [zl]
  have hl : r.length = l.length - 64 * k := by rw [hr, List.length_drop]
  rw [chunk_eq h0, ← hr, ← hl, ← hm]
  congr 1
  rcases Nat.lt_or_ge r.length 64 with q | q
  · rw [List.take_of_length_le (by omega), List.take_of_length_le (by omega)]
  · rw [hm, Nat.min_eq_right q]
set_option maxHeartbeats 1000000 in
set_option maxRecDepth 100000 in
theorem sSpread_any {K : Nat} {cap : Array Value} {E : List Nat} {W : World} {n : Nat} {J : List (Nat × List UInt8) → World → Prop} (X : Wr K cap E W n J) (at_ : Nat) (l : List UInt8) (w : World) (h : J [] w) (hn : n ≤ 4096) (hat : at_ + (l.length + 63) / 64 ≤ n) :
    Calls Tryz.prog 55 #[.int .i64 at_, .string ⟨l.toArray⟩, .func (.func K) #[] cap] w fun e w' => e = .returned (.tuple #[]) ∧ J (chunks at_ l ((l.length + 63) / 64)) w' := by
  have hcf := X.enters
  have hl : (l.length : Int) ≤ 262144 := by omega
  obtain ⟨N, hN⟩ : ∃ N, N = (l.length + 63) / 64 := ⟨_, rfl⟩
  rw [← hN] at hat ⊢
  have HN := Lib.hid hN
  have HAT := Lib.hid hat
  have haI : (at_ : Int) ≤ 4096 := by omega
  clear hN hat
  go_enter Tryz.func55, Tryz.ntmps55
  go_wp2
  go_loopw [0, 1] (fun a s wr => ∃ k j : Nat, Hid (j = at_ + k ∧ k ≤ N) ∧ a = .int .i64 (j : Nat) ∧ s = .string ⟨(l.drop (64 * k)).toArray⟩ ∧ J (chunks at_ l k) wr) (fun a _ _ => at_ + N - (intOf a).toNat)
  case atStart => exact ⟨0, at_, Lib.hid ⟨rfl, by omega⟩, rfl, by simp, h⟩
  case round =>
    obtain ⟨k, j, hK, rfl, rfl, hJ⟩ := hrel
    obtain ⟨r, hr⟩ : ∃ r, r = l.drop (64 * k) := ⟨_, rfl⟩
    have hrl : r.length = l.length - 64 * k := by rw [hr, List.length_drop]
    rw [← hr]
    have HR := Lib.hid hr
    have HRL := Lib.hid hrl
    have hjI : (j : Int) ≤ 4096 := by have := hK.out; have := HAT.out; omega
    have hrI : (r.length : Int) ≤ 262144 := by omega
    clear hr hrl
    by_cases hlt : 0 < r.length
    · have hk : k < N := by have := hK.out; have := HN.out; have := HRL.out; omega
      have hlI : (0 : Int) < r.length := by omega
      obtain ⟨m, hm⟩ : ∃ m, m = min r.length 64 := ⟨_, rfl⟩
      have hdr : Hid (l.drop (64 * (k + 1)) = r.drop m) := Lib.hid (by
        rw [hm]
        conv => rhs; rw [HR.out, List.drop_drop, ← HR.out]
        rcases Nat.lt_or_ge r.length 64 with q | q
        · have := HRL.out
          rw [Nat.min_eq_left (by omega), List.drop_of_length_le (by omega), List.drop_of_length_le (by omega)]
        · rw [Nat.min_eq_right q]; rfl)
      have hz := zeros_any (64 - m)
      rw [show ((64 - m : Nat) : Int) = 64 - (m : Int) from by omega] at hz
      have hst : ∀ w1, J (chunks at_ l k) w1 → Calls Tryz.prog K (#[.int .i64 (j : Nat), .string ⟨(r.take m ++ zl (64 - m)).toArray⟩] ++ cap) w1 fun e w' => e = .returned (.tuple #[]) ∧ J (chunks at_ l (k + 1)) w' := fun w1 hj => by
        rw [chunk_m HR.out hm (by have := HRL.out; omega), chunks_succ, ← hK.out.1]
        exact X.step j (chunk l k) hj (by have := HAT.out; simp [chunks]; omega) (by have := hK.out; have := HAT.out; omega) (chunk_len (by have := HRL.out; omega))
      have hms : min (r.length : Int) 64 = (m : Int) := by omega
      have hmr : (m : Int) ≤ r.length := by omega
      have hm64 : (m : Int) ≤ 64 := by omega
      have hm0 : (0 : Int) ≤ (m : Int) := by omega
      have hz64 : 64 - m ≤ 64 := by omega
      have HZ := Lib.hid hz
      have HST := Lib.hid hst
      have HMS := Lib.hid hms
      clear hz hst hm hms hlt
      go_upto_region 3 with (fail)
      rw [HMS.out]
      go_cut [] (fun wx => J (chunks at_ l (k + 1)) wx)
      case first =>
        have hX := Lib.hid X
        have hwr : IntKind.i64.wrap (64 - (m : Int)) = 64 - (m : Int) := IntWalk.i64_in _ (by omega)
        have q1 : ¬ (9223372036854775807 < (r.take m).length + (zl (64 - m)).length) := by rw [zl, List.length_replicate, List.length_take]; omega
        have q3 : ¬ (9223372036854775807 < min m r.length + (zl (64 - m)).length) := by rw [zl, List.length_replicate]; omega
        have q2 : ¬ (9223372036854775807 < m + (zl (64 - m)).length) := by rw [zl, List.length_replicate]; omega
        have hw0 : (0 : Int) ≤ 64 - (m : Int) := by omega
        go_region_held3 (fun _ => True)
          (first | go_keep | exact trivial)
          (first
            | ((with_reducible go_at_call 76); (with_reducible refine (HZ.out _ hz64).mono ?_); rintro e w5 ⟨rfl, h5'⟩; have h5 := below_undrew h5'; have hJ5 := hX.out.below hJ h5)
            | ((with_reducible refine (HST.out _ hJ5).mono ?_); rintro e w6 ⟨rfl, h6⟩))
        go_wp2_with fail
        go_meet
        exact h6
      case rest =>
        have HKN : Hid (j + 1 = at_ + (k + 1) ∧ k + 1 ≤ N) := Lib.hid (by have := hK.out; omega)
        have HRT : Hid (r.take r.length = r) := Lib.hid List.take_length
        clear hK
        go_wp2
        go_roundw
        case rel => exact ⟨k + 1, j + 1, HKN, by go_num, by rw [hdr.out], hcut⟩
        case measure => simp [intOf]; have := HKN.out; omega
    · have hk : k = N := by have := hK.out; have := HN.out; have := HRL.out; omega
      have hlI : ¬ ((0 : Int) < r.length) := by omega
      subst hk
      clear hlt
      go_wp2
      go_end0
      exact ⟨rfl, hJ⟩
end Go.Proofs.YtnpoohkklfpmdaaGreat
/- SlPF -/
namespace Go.Proofs.YtnpoohkklfpmdaaGreat
open Go.RowKit
set_option linter.unusedSimpArgs false
set_option linter.unusedVariables false
set_option linter.unnecessarySimpa false
attribute [local go_sem] idx_list ext_list app_list
theorem Fr.then2 {ex ex' : List Nat} {a b c : World} (h : Fr ex a b) (k : Fr ex' b c) (hs : ∀ i ∈ ex', i ∈ ex ∨ a.heap.size ≤ i) : Fr ex a c :=
  ⟨k.os.trans h.os, k.tape.trans h.tape, k.output.trans h.output, Nat.le_trans h.size k.size, fun i hi hn => (k.block i (Nat.lt_of_lt_of_le hi h.size) (fun e => (hs i e).elim hn (fun q => by omega))).trans (h.block i hi hn)⟩
/-- Bounds, so that a flush may go on over the device. -/
structure Dv.Few8 (d : Dv) : Prop where
  left : d.left < 2199023255552
  steps : d.steps < 2199023255552
  waits : d.waits.length < 600000
  safe : d.safe.length ≤ 4096
theorem Dv.Few7.few8 {d : Dv} (h : d.Few7) : d.Few8 := ⟨Nat.lt_trans h.left (by decide), Nat.lt_trans h.steps (by decide), Nat.lt_trans h.waits (by decide), h.safe⟩
/-- The cells of a log. -/
def scs (p n : Nat) (S : Sg) : List Value := [.pointer (some ⟨p, 0, none⟩), .int .i64 (S.m.ep : Nat), .int .i64 (S.m.sz : Nat), .int .i64 (S.m.ct : Nat), .int .i64 ((64 * (n - 2) : Nat) : Int), .string ⟨(tailM S.log).toArray⟩, .bool (!S.br)]
def PO (w : World) (exx : List Nat) (x p n : Nat) (S : Sg) : Prop := exx = [x] ∧ Rw w x (scs p n S) 71
theorem sMark_any {x p n : Nat} {S : Sg} (w : World) (h : Rw w x (scs p n S) 71) : Calls Tryz.prog 19 #[.pointer (some ⟨x, 0, none⟩)] w fun e w' => e = .returned (mkV S.m) ∧ Below w.heap.size w w' := by
  obtain ⟨⟨a, b, c⟩, L, br⟩ := S
  rw [show mkV (Mk.mk a b c) = .agg #[.int .i64 (a : Nat), .int .i64 (b : Nat), .int .i64 (c : Nat)] from rfl]
  have ha := h.alloc (.cells #[.int .i64 0, .int .i64 0, .int .i64 0] 51)
  have c1 := ha.c 1 (v := .int .i64 (a : Nat)) rfl
  have c2 := ha.c 2 (v := .int .i64 (b : Nat)) rfl
  have c3 := ha.c 3 (v := .int .i64 (c : Nat)) rfl
  clear ha
  clear h
  go_enter Tryz.func19, Tryz.ntmps19
  go_wp2
  exact bodyPost_ret (v := .agg #[.int .i64 (a : Nat), .int .i64 (b : Nat), .int .i64 (c : Nat)]) (by simp [results, Tryz.results19, go_sem]) rfl ⟨rfl, (Below.refl _ _).alloc (Nat.le_refl _) _⟩
theorem sBroken_any {x p n : Nat} {S : Sg} (w : World) (h : Rw w x (scs p n S) 71) : Calls Tryz.prog 20 #[.pointer (some ⟨x, 0, none⟩)] w fun e w' => e = .returned (.bool S.br) ∧ w = w' := by
  obtain ⟨m, L, br⟩ := S
  have c1 := h.c 6 (v := .bool (!br)) rfl
  clear h
  go_enter Tryz.func20, Tryz.ntmps20
  go_wp2
  go_ret
  cases br <;> exact ⟨rfl, rfl⟩
theorem sRoom_any {x p n : Nat} {S : Sg} (w : World) (h : Rw w x (scs p n S) 71) (hf : S.Fits n) (hn : n ≤ 4096) : Calls Tryz.prog 21 #[.pointer (some ⟨x, 0, none⟩)] w fun e w' => e = .returned (.int .i64 ((64 * (n - 2) - S.log.length : Nat) : Int)) ∧ ∃ m, w' = w.drewN m := by
  have hsz := hf.sz
  have hft := hf.fit
  obtain ⟨⟨a, b, c⟩, L, br⟩ := S
  simp only at hsz hft
  subst hsz
  obtain ⟨M, hM⟩ : ∃ M, M = 64 * (n - 2) := ⟨_, rfl⟩
  have c1 := h.c 2 (v := .int .i64 (L.length : Nat)) rfl
  have c2 := h.c 4 (v := .int .i64 ((64 * (n - 2) : Nat) : Int)) rfl
  rw [← hM] at c2 hft ⊢
  have hMI : (M : Int) ≤ 262144 := by omega
  have hle : (L.length : Int) ≤ M := by omega
  rw [show ((M - L.length : Nat) : Int) = (M : Int) - (L.length : Int) from by omega]
  clear h hM hft
  go_enter Tryz.func21, Tryz.ntmps21
  go_wp2
  go_quiet (fail)
  go_wp2
  go_ret
  exact ⟨rfl, _, rfl⟩
theorem runD_append : ∀ (l k : List DAct) (d : Dv), runD d (l ++ k) = if (runD d l).2 = 0 then runD (runD d l).1 k else runD d l
  | [], k, d => by simp [runD]
  | a :: l, k, d => by
    rw [List.cons_append, runD, runD]
    by_cases h : (actD d a).2 = 0
    · rw [if_pos h, if_pos h]; exact runD_append l k _
    · rw [if_neg h, if_neg h, if_neg h]
theorem runD_one (d : Dv) (a : DAct) : runD d [a] = actD d a := by
  rw [runD]
  split
  · rename_i h
    exact Prod.ext rfl h.symm
  · rfl
/-- What writing sectors makes of a device. -/
def wrD (ws : List (Nat × List UInt8)) : List DAct := ws.map fun w => .w w.1 w.2
theorem wrD_snoc (ws : List (Nat × List UInt8)) (k : Nat) (s : List UInt8) : wrD (ws ++ [(k, s)]) = wrD ws ++ [.w k s] := by simp [wrD]
theorem actD_waits (d : Dv) (a : DAct) : (actD d a).1.waits.length ≤ d.waits.length + 1 := by
  cases a with
  | w k s =>
    simp only [actD, writeD]
    split
    · split
      · simp
      · simp
    · simp
  | f =>
    simp only [actD, flushD]
    split
    · split
      · simp
      · rw [stepD_waits]; omega
    · simp
theorem actD_steps (d : Dv) (a : DAct) : (actD d a).1.steps ≤ d.steps + 1 := by
  cases a with
  | w k s =>
    simp only [actD, writeD]
    split
    · split
      · exact stepD_steps d
      · simp
    · simp
  | f =>
    simp only [actD, flushD]
    split
    · split
      · exact stepD_steps d
      · exact stepD_steps d
    · simp
theorem actD_left (d : Dv) (a : DAct) : (actD d a).1.left ≤ d.left := by
  cases a with
  | w k s =>
    simp only [actD, writeD]
    split
    · split
      · exact stepD_left d
      · simp
    · simp
  | f =>
    simp only [actD, flushD]
    split
    · split
      · exact stepD_left d
      · exact stepD_left d
    · simp
theorem runD_few : ∀ (l : List DAct) (d : Dv), (runD d l).1.waits.length ≤ d.waits.length + l.length ∧ (runD d l).1.steps ≤ d.steps + l.length ∧ (runD d l).1.left ≤ d.left
  | [], d => by simp [runD]
  | a :: l, d => by
    have h1 := actD_waits d a
    have h2 := actD_steps d a
    have h3 := actD_left d a
    rw [runD, List.length_cons]
    split
    · have := runD_few l (actD d a).1
      omega
    · omega
/-- The actions go on: one more. -/
theorem runD_snoc_ok {l : List DAct} {d : Dv} (a : DAct) (h : (runD d l).2 = 0) : runD d (l ++ [a]) = actD (runD d l).1 a := by rw [runD_append, if_pos h, runD_one]
theorem runD_snoc_no {l : List DAct} {d : Dv} (a : DAct) (h : (runD d l).2 ≠ 0) : runD d (l ++ [a]) = runD d l := by rw [runD_append, if_neg h]
section
variable {PD : World → List Nat → Nat → Dv → Prop} (I : Iface0 PD)
/-- Where the writes of a flush are. -/
structure Jf (PD : World → List Nat → Nat → Dv → Prop) (exd : List Nat) (p x n : Nat) (d : Dv) (S : Sg) (ce cx : Nat) (W : World) (ws : List (Nat × List UInt8)) (w : World) : Prop where
  pd : ∃ exd', PD w exd' p (runD d (wrD ws)).1 ∧ ∀ b ∈ exd', b ∈ exd ∨ W.heap.size ≤ b
  rx : Rw w x (scs p n S) 71
  re : Rw w ce [.int .i64 (runD d (wrD ws)).2] 30
  rc : Rw w cx [.pointer (some ⟨x, 0, none⟩)] 28
  fr : Fr (ce :: exd) W w
  few : d.Few8 ∧ d.Ok
include I
theorem flushW_any {exd : List Nat} {p x n : Nat} {d : Dv} {S : Sg} {ce cx : Nat} {W w : World} {ws : List (Nat × List UInt8)} (hJ : Jf PD exd p x n d S ce cx W ws w) (hx : x < W.heap.size ∧ x ∉ exd) (he : ce < W.heap.size ∧ ce ∉ exd) (hc : cx < W.heap.size ∧ cx ∉ exd) (hxe : x ≠ ce) (hce : cx ≠ ce) (hws : ws.length < 8192)
    (k : Nat) (s : List UInt8) (hs : s.length = 64) :
    Calls Tryz.prog 73 #[.int .i64 k, .string ⟨s.toArray⟩, .pointer (some ⟨ce, 0, none⟩), .pointer (some ⟨cx, 0, none⟩)] w fun e w' => e = .returned (.tuple #[]) ∧ Jf PD exd p x n d S ce cx W (ws ++ [(k, s)]) w' := by
  obtain ⟨exd', hp, hm⟩ := hJ.pd
  have c0 := hJ.re.c 0 (v := .int .i64 (runD d (wrD ws)).2) rfl
  have c1 := hJ.rc.c 0 (v := .pointer (some ⟨x, 0, none⟩)) rfl
  have c2 := hJ.rx.c 0 (v := .pointer (some ⟨p, 0, none⟩)) rfl
  obtain ⟨D, hD⟩ : ∃ D, D = runD d (wrD ws) := ⟨_, rfl⟩
  have hfew := runD_few (wrD ws) d
  have hlen := runD_len (wrD ws) d
  have hok := runD_ok (wrD ws) hJ.few.2
  have hwl : (wrD ws).length = ws.length := by simp [wrD]
  rw [← hD] at hp c0 hfew hlen hok
  have hF : D.1.Few := by
    obtain ⟨f1, f2, f3, f4⟩ := hJ.few.1
    exact ⟨by omega, by omega, by omega, by omega⟩
  have HJ := Lib.hid hJ
  have HD := Lib.hid hD
  by_cases h0 : D.2 = 0
  · have hw := I.write (k : Int) s w hp hF hok (by omega)
    have hrun : runD d (wrD (ws ++ [(k, s)])) = writeD D.1 (k : Nat) s := by
      rw [wrD_snoc, runD_snoc_ok _ (by rw [← hD]; exact h0), ← hD]; rfl
    rw [← hrun] at hw
    rw [h0] at c0
    have HW := Lib.hid hw
    have HM := Lib.hid hm
    have HP := Lib.hid hp
    have f0 := hJ.re.f 0
    obtain ⟨R, hR⟩ : ∃ R, R = runD d (wrD (ws ++ [(k, s)])) := ⟨_, rfl⟩
    have HR := Lib.hid hR
    clear hw hrun hfew hlen hok hwl hF hD hJ hm hp hR h0
    go_enter Tryz.func73, Tryz.ntmps73
    go_wp2_with fail
    refine HW.out.mono ?_
    rintro e w2 ⟨rfl, ex2, h2, m2⟩
    have hfe : ∀ b, (b < W.heap.size ∧ b ∉ exd) → b ∉ exd' := fun b hb hin => (HM.out b hin).elim hb.2 (fun q => by omega)
    have r2 := HJ.out.re.fr m2.1 (hfe _ he)
    have fc := r2.f 0
    have cc := r2.c 0 (v := .int .i64 (runD d (wrD ws)).2) rfl
    have HX := Lib.hid (HJ.out.rx.fr m2.1 (hfe _ hx))
    have HC := Lib.hid (HJ.out.rc.fr m2.1 (hfe _ hc))
    have HRE := Lib.hid r2
    have H2 := Lib.hid h2
    have M2 := Lib.hid m2
    clear r2 h2 m2 c0 f0 c1 c2
    have WZ := HJ.out.fr.size
    go_wp2
    go_end0
    have hce2 : ∀ b ∈ ex2, b ≠ ce := fun b hb e => by
      subst e
      rcases M2.out.2 b hb with q | q
      · exact hfe _ he q
      · omega
    refine ⟨rfl, ⟨ex2, I.keep H2.out fun b hb => Below.heap_setCell _ _ _ _ (hce2 b hb), fun b hb => (M2.out.2 b hb).elim (HM.out b) (fun q => .inr (by omega))⟩, HX.out.other (by exact hxe) _, HRE.out.set 0 _, HC.out.other (by exact hce) _, ?_, HJ.out.few⟩
    exact (HJ.out.fr.then2 M2.out.1 fun b hb => (HM.out b hb).imp (fun q => by simp [q]) id).setCell (.inl (by simp)) _
  · have hrun : runD d (wrD (ws ++ [(k, s)])) = runD d (wrD ws) := by
      rw [wrD_snoc, runD_snoc_no _ (by rw [← hD]; exact h0)]
    have hz : (D.2 == 0) = false := by simpa using h0
    have HR := Lib.hid hrun
    clear hrun hfew hlen hok hwl hF hD hJ hm hp h0 c1 c2
    go_enter Tryz.func73, Tryz.ntmps73
    go_wp2
    go_end0
    have J := HJ.out
    refine ⟨rfl, by rw [HR.out]; exact J.pd, J.rx, by rw [HR.out]; exact J.re, J.rc, J.fr, J.few⟩
theorem flushW_wr {exd : List Nat} {p x n : Nat} {d : Dv} {S : Sg} {ce cx : Nat} {W : World} (hx : x < W.heap.size ∧ x ∉ exd) (he : ce < W.heap.size ∧ ce ∉ exd) (hc : cx < W.heap.size ∧ cx ∉ exd) (hxe : x ≠ ce) (hce : cx ≠ ce) :
    Wr 73 #[.pointer (some ⟨ce, 0, none⟩), .pointer (some ⟨cx, 0, none⟩)] (ce :: exd) W n (fun ws w => Jf PD exd p x n d S ce cx W ws w) where
  enters := enters Tryz.func73 (fnName _ (by kernel_rfl)) rfl
  fr := fun h => h.fr
  below := fun {ws w w'} h hb => by
    obtain ⟨exd', hp, hm⟩ := h.pd
    exact ⟨⟨exd', I.below hp hb, hm⟩, h.rx.below hb, h.re.below hb, h.rc.below hb, h.fr.trans (Fr.of_below hb), h.few⟩
  step := fun k s h hl _ hs => flushW_any I h hx he hc hxe hce hl k s hs
end
end Go.Proofs.YtnpoohkklfpmdaaGreat
/- SlPG -/
namespace Go.Proofs.YtnpoohkklfpmdaaGreat
open Go.RowKit
set_option linter.unusedSimpArgs false
set_option linter.unusedVariables false
set_option linter.unnecessarySimpa false
attribute [local go_sem] idx_list ext_list app_list
section
variable {PD : World → List Nat → Nat → Dv → Prop} (I : Iface0 PD)
include I
set_option maxHeartbeats 1000000 in
theorem sFlush_any {exd : List Nat} {p x n : Nat} {d : Dv} {S : Sg} (Kdo : Nat) (cdo : Array Value) (ws : List (Nat × List UInt8)) (w : World) (hcf : ∀ (args : Array Value) (w : World), (callFunc Kdo args).run Tryz.prog w = .ok (.enter Kdo args) w)
    (h : PD w exd p d) (hx : Rw w x (scs p n S) 71) (hxe : x ∉ exd) (hf : d.Few8) (ho : d.Ok) (hws : ws.length ≤ 8000)
    (hdo : ∀ (K2 : Nat) (cap2 : Array Value) (E2 : List Nat) (W2 : World) (J2 : List (Nat × List UInt8) → World → Prop), Wr K2 cap2 E2 W2 n J2 → Below w.heap.size w W2 → (∀ b ∈ E2, b ∈ exd ∨ w.heap.size ≤ b) → J2 [] W2 →
      Calls Tryz.prog Kdo (#[.func (.func K2) #[] cap2] ++ cdo) W2 fun e w' => e = .returned (.tuple #[]) ∧ J2 ws w') :
    Calls Tryz.prog 53 #[.pointer (some ⟨x, 0, none⟩), .func (.func Kdo) #[] cdo] w fun e w' => e = .returned (.int .i64 (runD d (wrD ws ++ [.f])).2) ∧
      ∃ exd', PD w' exd' p (runD d (wrD ws ++ [.f])).1 ∧ Rw w' x (scs p n { S with br := !((runD d (wrD ws ++ [.f])).2 == 0) }) 71 ∧ Fr (x :: exd) w w' ∧ ∀ b ∈ exd', b ∈ exd ∨ w.heap.size ≤ b := by
  have hlt := I.lt h
  obtain ⟨R, hR⟩ : ∃ R, R = runD d (wrD ws ++ [.f]) := ⟨_, rfl⟩
  rw [← hR]
  have HR := Lib.hid hR
  clear hR
  obtain ⟨W, hW⟩ : ∃ W, W = (w.alloc (.cells #[.pointer (some ⟨x, 0, none⟩)] 28)).alloc (.cells #[.int .i64 0] 30) := ⟨_, rfl⟩
  have bW : Below w.heap.size w W := by rw [hW]; exact ((Below.refl _ _).alloc (Nat.le_refl _) _).alloc (by simp) _
  have rc : Rw W w.heap.size [.pointer (some ⟨x, 0, none⟩)] 28 := by rw [hW]; exact (Rw.new w _ _).alloc _
  have re : Rw W (w.heap.size + 1) [.int .i64 0] 30 := by
    have := Rw.new (w.alloc (.cells #[.pointer (some ⟨x, 0, none⟩)] 28)) [.int .i64 0] 30
    rw [hW]; simpa using this
  have hxl := hx.lt
  have zc := rc.lt
  have ze := re.lt
  have nin : ∀ b, w.heap.size ≤ b → b ∉ exd := fun b hb hin => by have := hlt b hin; omega
  have hJ0 : Jf PD exd p x n d S (w.heap.size + 1) w.heap.size W [] W := ⟨⟨exd, I.below h bW, fun b hb => .inl hb⟩, hx.below bW, by simpa [wrD, runD] using re, rc, Fr.refl _ _, hf, ho⟩
  have hWr := flushW_wr (PD := PD) I (exd := exd) (p := p) (x := x) (n := n) (d := d) (S := S) (ce := w.heap.size + 1) (cx := w.heap.size) (W := W) ⟨by omega, hxe⟩ ⟨ze, nin _ (by omega)⟩ ⟨zc, nin _ (by omega)⟩ (by omega) (by omega)
  have hcall := hdo _ _ _ _ _ hWr bW (fun b hb => by
    rcases List.mem_cons.1 hb with e | e
    · right; omega
    · exact .inl e) hJ0
  have HCALL := Lib.hid hcall
  have BW := Lib.hid bW
  have HW := Lib.hid hW
  have HLT := Lib.hid hlt
  have NIN := Lib.hid nin
  have HXE := Lib.hid hxe
  have HWS := Lib.hid hws
  have HF := Lib.hid hf
  have HO := Lib.hid ho
  clear hcall hdo hWr hJ0 bW rc re hW hlt nin h hx hxe hws hf ho
  go_enter Tryz.func53, Tryz.ntmps53
  go_wp2_with fail
  rw [← HW.out]
  refine HCALL.out.mono ?_
  rintro e w1 ⟨rfl, hJ⟩
  clear HW HCALL
  obtain ⟨exd', hp, hm⟩ := hJ.pd
  obtain ⟨D, hD⟩ : ∃ D, D = runD d (wrD ws) := ⟨_, rfl⟩
  have hfew := runD_few (wrD ws) d
  have hlen := runD_len (wrD ws) d
  have hok := runD_ok (wrD ws) HO.out
  have hwl : (wrD ws).length = ws.length := by simp [wrD]
  have c0 := hJ.re.c 0 (v := .int .i64 (runD d (wrD ws)).2) rfl
  have f0 := hJ.re.f 0
  have c1 := hJ.rc.c 0 (v := .pointer (some ⟨x, 0, none⟩)) rfl
  rw [← hD] at hp c0 hfew hlen hok
  have hFd : D.1.Few := by
    obtain ⟨f1, f2, f3, f4⟩ := HF.out
    have := HWS.out
    exact ⟨by omega, by omega, by omega, by omega⟩
  have hfe : ∀ b, b < W.heap.size → b ∉ exd → b ∉ exd' := fun b hb hn hin => (hm b hin).elim hn (fun q => by omega)
  have BZ := BW.out.size
  have HJ := Lib.hid hJ
  by_cases h0 : D.2 = 0
  · have hfl := I.flush w1 hp hFd hok
    have hrun : R = flushD D.1 := by rw [HR.out, runD_snoc_ok _ (by rw [← hD]; exact h0), ← hD]; rfl
    rw [← hrun] at hfl
    rw [h0] at c0
    have c2 := hJ.rx.c 0 (v := .pointer (some ⟨p, 0, none⟩)) rfl
    have HFL := Lib.hid hfl
    have HM := Lib.hid hm
    have HFE := Lib.hid hfe
    clear hfl hrun hfew hlen hok hwl hFd hD hJ hm hp h0 hfe HR
    go_wp2_with fail
    refine HFL.out.mono ?_
    rintro e w2 ⟨rfl, ex2, h2, m2⟩
    have r2 := HJ.out.re.fr m2.1 (HFE.out _ ze (NIN.out _ (by omega)))
    have x2 := HJ.out.rx.fr m2.1 (HFE.out _ (by omega) HXE.out)
    have q2 := HJ.out.rc.fr m2.1 (HFE.out _ zc (NIN.out _ (by omega)))
    have fe := r2.f 0
    have ce := r2.c 0 (v := .int .i64 (runD d (wrD ws)).2) rfl
    have cc := q2.c 0 (v := .pointer (some ⟨x, 0, none⟩)) rfl
    have cx := x2.c 6 (v := .bool (!S.br)) rfl
    have fx := x2.f 6
    have X2 := Lib.hid x2
    have H2 := Lib.hid h2
    have M2 := Lib.hid m2
    clear r2 x2 q2 h2 m2 c0 f0 c1 c2 HFL
    have hre : ∀ b, b < W.heap.size → b ∉ exd → b ∉ ex2 := fun b hb hn hin => by
      have := HJ.out.fr.size
      rcases M2.out.2 b hin with q | q
      · exact HFE.out b hb hn q
      · omega
    have WZ := HJ.out.fr.size
    have HRE := Lib.hid hre
    clear hre
    go_wp2
    go_ret
    refine ⟨rfl, ex2, I.keep H2.out (fun b hb => ?_), ?_, ?_, fun b hb => (M2.out.2 b hb).elim (fun q => (HM.out b q).imp id (fun q => by omega)) (fun q => .inr (by omega))⟩
    · rw [Below.heap_setCell _ _ _ _ (by intro e; subst e; exact HRE.out _ (by omega) HXE.out hb), Below.heap_setCell _ _ _ _ (by intro e; subst e; exact HRE.out _ ze (NIN.out _ (by omega)) hb)]
    · have := (X2.out.other (a := ⟨w.heap.size + 1, 0, none⟩) (by simp; omega) (.int .i64 R.2)).set 6 (.bool (R.2 == 0))
      rw [show scs p n { S with br := !(R.2 == 0) } = (scs p n S).set 6 (.bool (R.2 == 0)) from by simp [scs]]
      exact this
    · refine ((((Fr.of_below BW.out).then2 HJ.out.fr fun b hb => ?_).then2 M2.out.1 fun b hb => ?_).setCell (.inr (by simp)) _).setCell (.inl (by simp)) _
      · rcases List.mem_cons.1 hb with e | e
        · right; omega
        · left; simp [e]
      · rcases HM.out b hb with e | e
        · left; simp [e]
        · right; omega
  · have hrun : R = D := by rw [HR.out, runD_snoc_no _ (by rw [← hD]; exact h0), ← hD]
    have hz : (D.2 == 0) = false := by simpa using h0
    have cx := hJ.rx.c 6 (v := .bool (!S.br)) rfl
    have fx := hJ.rx.f 6
    have HM := Lib.hid hm
    have HP := Lib.hid hp
    have HFE := Lib.hid hfe
    subst hrun
    have HD := Lib.hid hD
    clear hfew hlen hok hwl hFd hD hJ hm hp h0 hfe HR
    go_wp2
    go_ret
    refine ⟨rfl, exd', I.keep HP.out (fun b hb => ?_), ?_, ?_, fun b hb => (HM.out b hb).imp id (fun q => by omega)⟩
    · rw [Below.heap_setCell _ _ _ _ (by intro e; subst e; exact HFE.out _ (by omega) HXE.out hb)]
    · have := HJ.out.rx.set 6 (.bool false)
      rw [hz, show scs p n { S with br := !false } = (scs p n S).set 6 (.bool false) from by simp [scs]]
      exact this
    · refine ((Fr.of_below BW.out).then2 HJ.out.fr fun b hb => ?_).setCell (.inl (by simp)) _
      rcases List.mem_cons.1 hb with e | e
      · right; omega
      · left; simp [e]
end
end Go.Proofs.YtnpoohkklfpmdaaGreat
