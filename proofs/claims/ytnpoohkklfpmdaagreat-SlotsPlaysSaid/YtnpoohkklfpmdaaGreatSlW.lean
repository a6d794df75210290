/- SlJ: The laws' examples of stage 7.
   SlL: A script of commits, as plain data.
   SlK: Small things for the laws of stage 7.
   SlM: append of an own row onto an own row, whichever is empty. -/
import Derived.Test.YtnpoohkklfpmdaaGreatRows
import Derived.WalkKit
import Derived.Below
import Derived.ProofKit
import Derived.OpenShut
import Derived.ShutString
import Derived.ChangeOld
import Derived.Outline
import Derived.RegionTactic
import Derived.ChangeAlike
import Derived.BigRegion
import Derived.BigQuiet
import Derived.Deep.QuietTactic
import Derived.Deep.RegionWith
import Derived.Deep.RegionLaw
import Derived.Deep.RegionHeld3
import Derived.Deep.AppendLies
import Derived.Deep.Draws
import Derived.StillTailTactics
import Derived.Lib.Hide
import Derived.Lib.SmallJoins
import Derived.Handy
import Derived.WalkSpells
import Derived.WalkLawsBesides
import Derived.Deep.LoopGhost
import Derived.Deep.DeepCutAuto
import Derived.Deep.CutBlock
import Derived.Deep.CutRange
import Derived.Deep.OwnRows
import Derived.Laws.CopyOwn
import Derived.Great.BuildSlice
import Derived.Deep.Upon
import Derived.Test.YtnpoohkklfpmdaaGreatSlI
import Derived.Test.YtnpoohkklfpmdaaGreatTlvK
/- SlJ -/
namespace Go.Proofs.YtnpoohkklfpmdaaGreat
open Go.RowKit
set_option linter.unusedSimpArgs false
set_option linter.unusedVariables false
set_option linter.unnecessarySimpa false
attribute [local go_sem] idx_list ext_list app_list
theorem rdy_few7 {n : Nat} {d : Dv} {S : Sg} {rs : Secs} {ar : Bool} {lf st : Nat} {o : List UInt8} (h : Rdy n d S rs ar lf st o) (h1 : lf < 1048576) (h2 : st < 1048576) (h3 : n ≤ 4096) : d.Few7 :=
  ⟨Nat.lt_of_le_of_lt h.left (Nat.lt_trans h1 (by decide)), Nat.lt_of_le_of_lt h.steps (Nat.lt_trans h2 (by decide)), by rw [h.waits]; exact Nat.zero_lt_of_lt (by decide : 0 < 524288), by rw [h.len]; exact h3⟩
theorem rdy_fits {n : Nat} {d : Dv} {S : Sg} {rs : Secs} {ar : Bool} {lf st : Nat} {o : List UInt8} (h : Rdy n d S rs ar lf st o) (h1 : S.m.ep < 1048576) (h2 : S.m.ct < 1048576) : S.Fits d.safe.length :=
  ⟨h.log.len, h.log.sz, h.log.fit, Nat.lt_trans h1 (by decide), Nat.lt_trans h2 (by decide)⟩
theorem boolsNil (w : World) : BoolsAt w none 0 [] := ⟨rfl, fun h => absurd h (by omega)⟩
theorem un123x : unpackM ((packM ⟨1, 2, 3⟩).take 63 ++ [120]) = none := by decide
section
variable {PD : World → List Nat → Nat → Dv → Prop} {PO : World → List Nat → Nat → Nat → Nat → Sg → Prop} (I : Iface0 PD) (J : Iface7 PD PO)
include I J
set_option maxHeartbeats 2000000 in
theorem awake7_any (w : World) : Calls Tryz.prog 4 #[] w fun e w' => e = .returned (.bool true) ∧ Below w.heap.size w w' := by
  have R0 := new_rdy 10 (by omega)
  have hl : (recd [97]).length ≤ 17 := by have := (recd_len [97]).2; simpa using this
  obtain ⟨d1, hc1, R1⟩ := commit_calm (r := [97]) R0 (by omega) (by decide) (by simp; omega) (by decide) (by decide)
  have R2 := R1.crash [] 0 0
  have F0 := rdy_few7 R0 (by decide) (by decide) (by decide)
  have F1 := rdy_few7 R1 (by decide) (by decide) (by decide)
  have F2 := rdy_few7 R2 (by decide) (by decide) (by decide)
  have e0 := R0.opens
  have e2 := R2.opens
  have hu1 := Lib.hid un123x
  have hu2 := Lib.hid (unpackM_pack (m := ⟨1, 2, 3⟩) ⟨by decide, by decide, by decide⟩)
  obtain ⟨P, hP⟩ : ∃ P, P = packM ⟨1, 2, 3⟩ := ⟨_, rfl⟩
  have hPl : P.length = 64 := by rw [hP]; exact packM_len _
  have HP := Lib.hid hP
  have C1 := Lib.hid hc1
  clear hP hc1
  go_enter Tryz.func4, Tryz.ntmps4
  go_wp2_with fail
  refine (I.newL (K := []) 10 (Below.refl _ w) (by omega) (by omega) (fun k hk => by cases hk)).mono ?_
  rintro e w1 ⟨p, rfl, h1, _⟩
  go_wp2_with fail
  refine (Iface7.openOkL I J h1 F0 R0.ok (by rw [R0.len]; decide) R0.on e0).mono ?_
  rintro e w2 ⟨x, a, c, rfl, hca, hsa, h2, g2, _, _⟩
  rw [show (([] : Secs).length) = 0 from rfl]
  clear hsa
  go_wp2_with fail
  refine (Iface7.commitL I J [97] h2 F0 R0.ok (rdy_fits R0 (by decide) (by decide)) (by decide) (commitD_len _ _ _)).mono ?_
  rw [C1.out]
  rintro e w3 ⟨rfl, h3, _⟩
  go_wp2_with fail
  refine (I.crashD7 none 0 0 [] 0 0 h3.ld F1.few R1.ok (by rw [R1.len]; decide) (boolsNil _) (by omega) (by decide) (fun b off h => absurd h (by omega))).mono ?_
  rintro e w4 ⟨rfl, h4, _⟩
  go_wp2_with fail
  refine (Iface7.openOkL I J h4 F2 R2.ok (by rw [R2.len]; decide) R2.on e2).mono ?_
  rintro e w5 ⟨x5, a5, c5, rfl, hc5, hs5, h5, g5, _, _⟩
  simp only [List.nil_append, List.length_singleton] at hc5 hs5 ⊢
  obtain ⟨b5, off5, rfl, lt5, hcell⟩ := hs5.2 (by omega)
  have c0 := hcell 0 [97] rfl
  rw [Nat.add_zero] at c0
  clear hs5 hcell h1 h2 h3 h4 g2 e0 e2 F0 F1 F2 R0 R1 R2 C1
  have hpk : Calls Tryz.prog 23 #[.agg #[.int .i64 1, .int .i64 2, .int .i64 3]] w5 fun e w' => e = .returned (.string ⟨P.toArray⟩) ∧ Below w5.heap.size w5 w' := by rw [HP.out]; exact J.pack ⟨1, 2, 3⟩ w5 (by decide) (by decide) (by decide)
  go_wp2_with fail
  refine hpk.mono ?_
  rintro e w6 ⟨rfl, g6⟩
  have c6 := (g6.cell (p := ⟨b5, off5, none⟩) lt5).trans c0
  have b6 := h5.bel.trans (g6.mono h5.bel.size)
  have lt6 := Nat.lt_of_lt_of_le lt5 g6.size
  have hlI : (P.length : Int) = 64 := by omega
  clear hpk c0 g6 g5 h5
  have hu3 : Calls Tryz.prog 24 #[.string ⟨(P.take 63 ++ [120]).toArray⟩] w6 fun e w' => e = .returned (.tuple #[.agg #[.int .i64 0, .int .i64 0, .int .i64 0], .bool false]) ∧ Below w6.heap.size w6 w' := by
    refine (J.unpack (P.take 63 ++ [120]) w6 (by simp; omega)).mono ?_
    rw [HP.out, mkO, hu1.out]
    exact fun e w' h => h
  go_wp2_with fail
  refine hu3.mono ?_
  rintro e w7 ⟨rfl, g7⟩
  have c7 := (g7.cell (p := ⟨b5, off5, none⟩) lt6).trans c6
  have b7 := b6.trans (g7.mono b6.size)
  have lt7 := Nat.lt_of_lt_of_le lt6 g7.size
  have hu4 : ∀ w, Calls Tryz.prog 24 #[.string ⟨P.toArray⟩] w fun e w' => e = .returned (.tuple #[.agg #[.int .i64 1, .int .i64 2, .int .i64 3], .bool true]) ∧ Below w.heap.size w w' := by
    intro w
    refine (J.unpack P w (by omega)).mono ?_
    rw [HP.out, mkO, hu2.out]
    exact fun e w' h => h
  have HU := Lib.hid hu4
  have BX := Lib.hid b7
  clear hu3 hu4 c6 g7 b6 lt6
  go_wp2_with fail
  have ba : Below w7.heap.size w7 (w7.alloc (.cells #[.int .i64 0, .int .i64 0, .int .i64 0] 51)) := (Below.refl _ _).alloc (Nat.le_refl _) _
  refine (HU.out _).mono ?_
  rintro e w8 ⟨rfl, g8⟩
  have g9 := ba.trans (g8.mono ba.size)
  have c8 := (g9.cell (p := ⟨b5, off5, none⟩) lt7).trans c7
  have lt8 := Nat.lt_of_lt_of_le lt7 g9.size
  have b8 := BX.out.trans (g9.mono BX.out.size)
  have B8 := Lib.hid b8
  have z1 : (1 : Int) ≤ 1 := by omega
  clear c7 g8 ba g9 b8
  go_wp2
  go_ret
  exact ⟨rfl, B8.out.alloc B8.out.size _⟩
end
end Go.Proofs.YtnpoohkklfpmdaaGreat
/- SlL -/
namespace Go.Proofs.YtnpoohkklfpmdaaGreat
open Go.RowKit
set_option linter.unusedSimpArgs false
set_option linter.unusedVariables false
set_option linter.unnecessarySimpa false
/-- Where a script of commits is: it goes on; or power went in the commit of r. -/
structure Bnd (S : Sg) (t : Nat) : Prop where
  ep : S.m.ep ≤ t
  ct : S.m.ct ≤ t
  len : S.log.length ≤ 96 * t
def Ph (d : Dv) (S : Sg) (told going : Secs) (t : Nat) : Prop :=
  S.Fits 30 ∧ Bnd S t ∧ told.length ≤ t ∧
  ((going = [] ∧ ∃ m0 : Mk, m0.Ok ∧ Rdy 30 d S told true 64 (t * 8192) (packM m0)) ∨
   (∃ r : List UInt8, going = [r] ∧ S.br = true ∧ d.Ok ∧ d.safe.length = 30 ∧ d.steps ≤ t * 8192 ∧ d.left ≤ 64 ∧ d.waits.length ≤ 8192 ∧
     ∀ keep torn cut, ∃ (S2 : Sg) (o : List UInt8), Bnd S2 t ∧ (Rdy 30 (crashD d keep torn cut) S2 told false 64 (t * 8192) o ∨ Rdy 30 (crashD d keep torn cut) S2 (told ++ [r]) false 64 (t * 8192) o)))
theorem Ph.len {d : Dv} {S : Sg} {told going : Secs} {t : Nat} (h : Ph d S told going t) : d.safe.length = 30 := by
  obtain ⟨_, _, _, ⟨_, m0, _, h⟩ | ⟨r, _, _, _, h, _⟩⟩ := h
  · exact h.len
  · exact h
theorem Ph.ok {d : Dv} {S : Sg} {told going : Secs} {t : Nat} (h : Ph d S told going t) : d.Ok := by
  obtain ⟨_, _, _, ⟨_, m0, _, h⟩ | ⟨r, _, _, h, _⟩⟩ := h
  · exact h.ok
  · exact h
theorem Ph.few {d : Dv} {S : Sg} {told going : Secs} {t : Nat} (h : Ph d S told going t) (ht : t ≤ 64) : d.Few7 := by
  obtain ⟨_, _, _, ⟨_, m0, _, h⟩ | ⟨r, _, _, _, h1, h2, h3, h4, _⟩⟩ := h
  · exact rdy_few7 h (by decide) (by omega) (by decide)
  · exact ⟨by omega, by omega, by omega, by omega⟩
theorem Ph.fits {d : Dv} {S : Sg} {told going : Secs} {t : Nat} (h : Ph d S told going t) : S.Fits d.safe.length := by rw [h.len]; exact h.1
theorem ph_start (k : Nat) (hk : k < 64) : Ph (armD (newD 30) k) ⟨mk0, [], false⟩ [] [] 0 := by
  have h := (new_rdy 30 (by omega)).arm k
  refine ⟨⟨by omega, rfl, by simp, by decide, by decide⟩, ⟨Nat.le_refl _, Nat.le_refl _, by simp⟩, by simp, .inl ⟨rfl, mk0, ⟨by decide, by decide, by decide⟩, ?_⟩⟩
  rw [show packM mk0 = zsec from packM_0]
  exact ⟨h.on, h.waits, h.ok, h.len, h.armed, by have := h.left; omega, by have := h.steps; omega, h.br, h.log, h.alw⟩
theorem Rdy.more {n : Nat} {d : Dv} {S : Sg} {rs : Secs} {ar : Bool} {lf st st' : Nat} {o : List UInt8} (h : Rdy n d S rs ar lf st o) (hs : st ≤ st') : Rdy n d S rs ar lf st' o :=
  ⟨h.on, h.waits, h.ok, h.len, h.armed, h.left, Nat.le_trans h.steps hs, h.br, h.log, h.alw⟩
theorem Rdy.fits30 {d : Dv} {S : Sg} {rs : Secs} {ar : Bool} {lf st t : Nat} {o : List UInt8} (h : Rdy 30 d S rs ar lf st o) (hb : Bnd S t) (ht : t ≤ 64) : S.Fits 30 := by
  have := h.log.fit
  rw [h.len] at this
  exact ⟨by omega, h.log.sz, this, by have := hb.ep; omega, by have := hb.ct; omega⟩
/-- One commit of a script. -/
theorem ph_commit {d : Dv} {S : Sg} {told going : Secs} {t : Nat} {r : List UInt8} (h : Ph d S told going t) (ht : t ≤ 10) (hr : r.length ≤ 80) (h96 : (recd r).length ≤ 96) :
    (going = [] ∧ (commitD d S r).2 = 0 ∧ Ph (commitD d S r).1.1 (commitD d S r).1.2 (told ++ [r]) [] (t + 1)) ∨
    (going = [] ∧ (commitD d S r).2 = 14 ∧ Ph (commitD d S r).1.1 (commitD d S r).1.2 told [r] (t + 1)) ∨
    (going.length = 1 ∧ (commitD d S r).2 = 13 ∧ Ph (commitD d S r).1.1 (commitD d S r).1.2 told going (t + 1)) := by
  obtain ⟨hf, hb, htl, h | ⟨r0, rfl, hbr, ho, hlen, hst, hlf, hw, hall⟩⟩ := h
  · obtain ⟨rfl, m0, hm0, hR⟩ := h
    have hbl := hb.len
    have hep := hb.ep
    have hct := hb.ct
    obtain ⟨hnx, h | ⟨_, d', hc, _, ho', hl', hs', hlf', hw', hall⟩⟩ := commit_rdy (r := r) hR hm0 (by omega) (by omega) (by omega) (by omega) (by omega)
    · left
      obtain ⟨d', hc, hR'⟩ := h
      have hb' : Bnd ⟨nextM S.m (recd r), S.log ++ recd r, false⟩ (t + 1) := ⟨by simp only [nextM]; omega, by simp only [nextM]; omega, by simp only [List.length_append]; omega⟩
      rw [hc]
      refine ⟨rfl, rfl, (hR'.fits30 hb' (by omega)), hb', by simp; omega, .inl ⟨rfl, S.m, hR.log.ok, hR'.more (by omega)⟩⟩
    · right; left
      rw [hc]
      refine ⟨rfl, rfl, ⟨hf.n3, hf.sz, hf.fit, hf.ep, hf.ct⟩, ⟨by simp only; omega, by simp only; omega, by simp only; omega⟩, by omega, .inr ⟨r, rfl, rfl, ho', hl', by show d'.steps ≤ _; omega, hlf', hw', fun keep torn cut => ?_⟩⟩
      obtain ⟨o, q | q⟩ := hall keep torn cut
      · exact ⟨S, o, ⟨by omega, by omega, by omega⟩, .inl (q.more (by omega))⟩
      · exact ⟨_, o, ⟨by simp only [nextM]; omega, by simp only [nextM]; omega, by simp only [List.length_append]; omega⟩, .inr (q.more (by omega))⟩
  · right; right
    rw [commit_broken hbr]
    refine ⟨rfl, rfl, hf, ⟨by have := hb.ep; simp only; omega, by have := hb.ct; simp only; omega, by have := hb.len; simp only; omega⟩, by omega, .inr ⟨r0, rfl, hbr, ho, hlen, Nat.le_trans hst (by omega), hlf, hw, fun keep torn cut => ?_⟩⟩
    obtain ⟨S2, o, hb2, q⟩ := hall keep torn cut
    exact ⟨S2, o, ⟨by have := hb2.ep; omega, by have := hb2.ct; omega, by have := hb2.len; omega⟩, q.imp (fun q => q.more (by omega)) (fun q => q.more (by omega))⟩
/-- The crash behind a script. -/
theorem ph_crash {d : Dv} {S : Sg} {told going : Secs} {t : Nat} (h : Ph d S told going t) (keep : List Bool) (torn cut : Int) :
    ∃ (S2 : Sg) (rs : Secs) (o : List UInt8), Bnd S2 t ∧ Rdy 30 (crashD d keep torn cut) S2 rs false 64 (t * 8192) o ∧ (rs = told ∨ rs = told ++ going) := by
  obtain ⟨hf, hb, htl, ⟨rfl, m0, hm0, hR⟩ | ⟨r0, rfl, hbr, ho, hlen, hst, hlf, hw, hall⟩⟩ := h
  · exact ⟨S, told, _, hb, hR.crash keep torn cut, .inl rfl⟩
  · obtain ⟨S2, o, hb2, q | q⟩ := hall keep torn cut
    · exact ⟨S2, _, o, hb2, q, .inl rfl⟩
    · exact ⟨S2, _, o, hb2, q, .inr rfl⟩
end Go.Proofs.YtnpoohkklfpmdaaGreat
/- SlK -/
namespace Go.Proofs.YtnpoohkklfpmdaaGreat
open Go.RowKit
set_option linter.unusedSimpArgs false
set_option linter.unusedVariables false
set_option linter.unnecessarySimpa false
attribute [local go_sem] idx_list ext_list app_list
theorem short7_any (l : List UInt8) (n : Int) (w : World) (h0 : 0 ≤ n) :
    Calls Tryz.prog 14 #[.string ⟨l.toArray⟩, .int .i64 n] w fun e w' => e = .returned (.string ⟨(l.take n.toNat).toArray⟩) ∧ w = w' := by
  by_cases h : n < (l.length : Int)
  · go_enter Tryz.func14, Tryz.ntmps14
    go_wp2
    go_ret
    exact ⟨rfl, rfl⟩
  · have e := List.take_of_length_le (show l.length ≤ n.toNat by omega)
    have He := Lib.hid e
    have d : decide (n < (l.length : Int)) = false := decide_eq_false h
    clear e
    go_enter Tryz.func14, Tryz.ntmps14
    go_wp2
    go_ret
    exact ⟨by rw [He.out]; rfl, rfl⟩
theorem mkV_cells (m : Mk) : mkV m = .agg #[.int .i64 (m.ep : Nat), .int .i64 (m.sz : Nat), .int .i64 (m.ct : Nat)] := rfl
theorem safeD_at {d : Dv} {k : Nat} {s : List UInt8} (h : d.safe[k]? = some s) : safeD d (k : Int) = s := by
  have hk : k < d.safe.length := by
    rcases Nat.lt_or_ge k d.safe.length with q | q
    · exact q
    · rw [List.getElem?_eq_none q] at h; cases h
  unfold safeD
  rw [has_nat d hk, if_pos rfl, Int.toNat_natCast, List.getD_eq_getElem?_getD, h]; rfl
/-- Texts of 80 bytes make records of 96 at most. -/
theorem recd80 (l : List UInt8) : (recd (l.take 80)).length ≤ 96 := by
  have := (recd_len (l.take 80)).2
  rw [List.length_take] at this; omega
end Go.Proofs.YtnpoohkklfpmdaaGreat
/- SlM -/
namespace Go.Proofs.YtnpoohkklfpmdaaGreat
open Go.RowKit
set_option linter.unusedSimpArgs false
set_option linter.unusedVariables false
set_option linter.unnecessarySimpa false
section
variable {P : Program} (w : World)
/-- An own row onto an own row, whichever is empty. -/
theorem run_append_all (t ty : TypeId) (base base2 : Nat) (e : TypeId) (i : TypeInfo) (z : Value) (bytes : Nat) (ht : P.underlying t = some (.slice e)) (hi : P.info? e = some i) (hz : i.zero = some z)
    (hsize : i.size = 1) (hby : i.bytes = bytes) (hzs : z.cells.size = 1)
    (v : Value) (n : Nat) (xs : List Value) (hown : w.ownsRow base e 1 v n xs) (u : Value) (m : Nat) (ys : List Value) (hu : w.ownsRow base2 e 1 u m ys) (h1 : ∀ y ∈ ys, y.oneCell' = true)
    (h63 : n + m ≤ maxLen) (hbytes : (n + m) * bytes ≤ 140737488355328) (hbase : base ≤ w.heap.size) :
    ∃ A cap w', (Builtin.append_ #[t, t] ty #[v, u]).run P w = .ok (.slice A (n + m) cap) w' ∧
      w'.ownsRow base e 1 (.slice A (n + m) cap) (n + m) (xs ++ ys) ∧ w.grownBy w' v.ownBlock ∧ (∀ g, (Value.slice A (n + m) cap).ownBlock = some g → v.ownBlock = some g ∨ g = w.heap.size) := by
  have hyl : ys.length = m := by have := hu.1; omega
  by_cases hm : m = 0
  · subst hm
    have hys : ys = [] := List.eq_nil_of_length_eq_zero hyl
    subst hys
    have hsrc : Src P i.size t u 0 [] w := by
      rw [hsize]
      rcases hu.2 with ⟨rfl, _⟩ | ⟨g, cap, cur, rfl, _⟩
      · exact Src.ofNil w ht 0
      · exact Src.ofSlice w ht _ 0 cap [] rfl (fun j u h => by simp at h) (fun u h => by cases h)
    rcases hown.2 with ⟨rfl, rfl⟩ | ⟨g, cap, cur, rfl, hb, hg, hle, hr⟩
    · exact ⟨none, 0, w, run_append_nothing w t t ty e i ht hi none 0 0 (Nat.le_refl _) u hsrc, by simpa using hown, World.grownBy.refl _ _, fun g hg => by cases hg⟩
    · exact ⟨some ⟨g, 0, none⟩, cap, w, run_append_nothing w t t ty e i ht hi _ n cap hle u hsrc, by simpa using hown, World.grownBy.refl _ _, fun g hg => .inl hg⟩
  · obtain ⟨g2, c2, rfl, _, hlt2⟩ := hu.form (by omega)
    obtain ⟨g, cap, w', hr, a1, a2, a3, a4⟩ := run_append_lies (P := P) w t ty base e i z 1 bytes ht hi hz hsize hby hzs (by omega) v n xs hown ⟨g2, 0, none⟩ m c2 ys (by omega) (fun j y hy => by
      have := hu.cells (g := g2) rfl j y hy
      simpa [Addr.add] using this) h1 (by omega) h63 hbytes hbase _ rfl
    exact ⟨_, cap, w', hr, a1, a2, fun g' hg' => by
      simp only [Value.ownBlock, Option.some.injEq] at hg'
      subst hg'; exact a3⟩
theorem wpList_append_all {ops : Array Oper} {rest : List Oper} {o : Oper} {a : Act} {Q : Exit → Act → World → Prop} (hgd : o.guard = none) (s x : Operand) (t : TypeId)
    (ho : o.op = .call { callee := .builtin .append, args := #[s, x], argTypes := #[t, t] })
    (base base2 : Nat) (e : TypeId) (i : TypeInfo) (z : Value) (bytes : Nat) (ht : P.underlying t = some (.slice e)) (hi : P.info? e = some i) (hz : i.zero = some z)
    (hsize : i.size = 1) (hby : i.bytes = bytes) (hzs : z.cells.size = 1)
    (v : Value) (n : Nat) (xs : List Value) (hs : a.eval s = v) (hown : w.ownsRow base e 1 v n xs) (u : Value) (m : Nat) (ys : List Value) (hx : a.eval x = u) (hu : w.ownsRow base2 e 1 u m ys) (h1 : ∀ y ∈ ys, y.oneCell' = true)
    (h63 : n + m ≤ maxLen) (hbytes : (n + m) * bytes ≤ 140737488355328) (hbase : base ≤ w.heap.size) (N : Nat) (hN : n + m = N) (zs : List Value) (hzs2 : xs ++ ys = zs)
    (h : ∀ A cap w', w'.ownsRow base e 1 (.slice A N cap) N zs → w.grownBy w' v.ownBlock → (∀ g, (Value.slice A N cap).ownBlock = some g → v.ownBlock = some g ∨ g = w.heap.size) → wpList P ops Q rest (a.put o.dst (.slice A N cap)) w') : wpList P ops Q (o :: rest) a w := by
  subst hN hzs2
  refine wpList_plain hgd fun _ hK => ?_
  obtain ⟨A, cap, w', hr, a1, a2, a3⟩ := run_append_all (P := P) w t o.type base base2 e i z bytes ht hi hz hsize hby hzs v n xs hown u m ys hu h1 h63 hbytes hbase
  unfold Oper.wp execOp
  simp only [ho, resolve, invoke, builtin, Sem.run_bind, Sem.run_pure, Result.andThen_ok, List.map_toArray, List.map_cons, List.map_nil, hs, hx, hr]
  exact hK _ _ (h A cap w' a1 a2 a3)
end
theorem strs_one (ls : List (List UInt8)) : ∀ y ∈ strs ls, y.oneCell' = true := by
  intro y hy
  simp only [strs, List.mem_map] at hy
  obtain ⟨l, _, rfl⟩ := hy
  rfl
theorem strs_app (ls ms : List (List UInt8)) : strs ls ++ strs ms = strs (ls ++ ms) := by simp [strs]
end Go.Proofs.YtnpoohkklfpmdaaGreat
