/- The walk of SlotsPlays, over whatever keeps to the interface. -/
import Derived.Test.YtnpoohkklfpmdaaGreatRows
import Derived.WalkKit
import Derived.Below
import Derived.ProofKit
import Derived.OpenShut
import Derived.ShutString
import Derived.ChangeOld
import Derived.Outline
import Derived.RegionTactic
import Derived.ChangeAlike
import Derived.BigRegion
import Derived.BigQuiet
import Derived.Deep.QuietTactic
import Derived.Deep.RegionWith
import Derived.Deep.RegionLaw
import Derived.Deep.RegionHeld3
import Derived.Deep.AppendLies
import Derived.Deep.Draws
import Derived.StillTailTactics
import Derived.Lib.Hide
import Derived.Lib.SmallJoins
import Derived.Handy
import Derived.WalkSpells
import Derived.WalkLawsBesides
import Derived.Deep.LoopGhost
import Derived.Deep.DeepCutAuto
import Derived.Deep.CutBlock
import Derived.Deep.CutRange
import Derived.Deep.OwnRows
import Derived.Laws.CopyOwn
import Derived.Great.BuildSlice
import Derived.Test.YtnpoohkklfpmdaaGreatSlRE
import Derived.Test.YtnpoohkklfpmdaaGreatSlW
import Derived.Test.YtnpoohkklfpmdaaGreatBitsLow
import Derived.Test.YtnpoohkklfpmdaaGreatLawY
namespace Go.Proofs.YtnpoohkklfpmdaaGreat.slotsPlays
open Go.RowKit
set_option linter.unusedSimpArgs false
set_option linter.unusedVariables false
set_option linter.unnecessarySimpa false
attribute [local go_sem] idx_list ext_list app_list
/-- An op of a script, as data. -/
structure OpV where
  kind : Int
  n : Int
  torn : Int
  cut : Int
  s : List UInt8
  ka : Option Addr
  kn : Nat
  kc : Nat
  keep : List Bool
/-- A slice of ops, read in w below block B. -/
def OpsAt (w : World) (B : Nat) (a : Option Addr) (n : Nat) (ls : List OpV) : Prop :=
  ls.length = n ∧ (∀ o ∈ ls, BoolsAt w o.ka o.kn o.keep ∧ o.kn ≤ o.kc ∧ (o.kn : Int) ≤ 9223372036854775807 ∧ ∀ b off, 0 < o.kn → o.ka = some ⟨b, off, none⟩ → b < B) ∧
  (0 < n → ∃ b off, a = some ⟨b, off, none⟩ ∧ b < B ∧ ∀ k o, ls[k]? = some o → w.cell? ⟨b, off + k * 6, none⟩ = some (.int .i64 o.kind) ∧ w.cell? ⟨b, off + k * 6 + 1, none⟩ = some (.int .i64 o.n) ∧ w.cell? ⟨b, off + k * 6 + 2, none⟩ = some (.int .i64 o.torn) ∧ w.cell? ⟨b, off + k * 6 + 3, none⟩ = some (.int .i64 o.cut) ∧ w.cell? ⟨b, off + k * 6 + 4, none⟩ = some (.string ⟨o.s.toArray⟩) ∧ w.cell? ⟨b, off + k * 6 + 5, none⟩ = some (.slice o.ka o.kn o.kc))
theorem OpsAt.below {w w' : World} {B : Nat} {a : Option Addr} {n : Nat} {ls : List OpV} (h : OpsAt w B a n ls) (hb : Below B w w') : OpsAt w' B a n ls := by
  refine ⟨h.1, fun o ho => ?_, fun h0 => ?_⟩
  · obtain ⟨h1, h2, h3, h4⟩ := h.2.1 o ho
    refine ⟨⟨h1.1, fun h0 => ?_⟩, h2, h3, h4⟩
    obtain ⟨b, off, e, hlt, hc⟩ := h1.2 h0
    exact ⟨b, off, e, Nat.lt_of_lt_of_le hlt hb.size, fun k x hk => (hb.cell (p := ⟨b, off + k, none⟩) (h4 b off h0 e)).trans (hc k x hk)⟩
  · obtain ⟨b, off, e, hlt, hc⟩ := h.2.2 h0
    refine ⟨b, off, e, hlt, fun k o hk => ?_⟩
    obtain ⟨a0, a1, a2, a3, a4, a5⟩ := hc k o hk
    exact ⟨(hb.cell (p := ⟨b, _, none⟩) hlt).trans a0, (hb.cell (p := ⟨b, _, none⟩) hlt).trans a1, (hb.cell (p := ⟨b, _, none⟩) hlt).trans a2, (hb.cell (p := ⟨b, _, none⟩) hlt).trans a3, (hb.cell (p := ⟨b, _, none⟩) hlt).trans a4, (hb.cell (p := ⟨b, _, none⟩) hlt).trans a5⟩
def ocs (o : OpV) : List Value := [.int .i64 o.kind, .int .i64 o.n, .int .i64 o.torn, .int .i64 o.cut, .string ⟨o.s.toArray⟩, .slice o.ka o.kn o.kc]
/-- A log over a device while a script goes on. -/
structure Scr (d : Dv) (S : Sg) (n t : Nat) : Prop where
  ok : d.Ok
  left : d.left ≤ 15
  steps : d.steps ≤ t * 8192
  waits : d.waits.length ≤ t * 8192
  safe : d.safe.length = n
  fits : S.Fits n
  ep : S.m.ep ≤ 1099511627776 + t
  ct : S.m.ct ≤ 1099511627776 + t
section
variable {d : Dv} {S : Sg} {n t : Nat}
theorem Scr.few (h : Scr d S n t) (ht : t ≤ 50) (hn : n ≤ 4096) : d.Few7 := ⟨Nat.lt_of_le_of_lt h.left (by decide), by have := h.steps; omega, by have := h.waits; omega, by rw [h.safe]; exact hn⟩
theorem Scr.more (h : Scr d S n t) : Scr d S n (t + 1) := ⟨h.ok, h.left, Nat.le_trans h.steps (Nat.mul_le_mul_right 8192 (Nat.le_succ t)), Nat.le_trans h.waits (Nat.mul_le_mul_right 8192 (Nat.le_succ t)), h.safe, h.fits, by have := h.ep; omega, by have := h.ct; omega⟩
theorem Scr.arm (h : Scr d S n t) (k : Nat) (hk : k ≤ 15) : Scr (armD d k) S n (t + 1) := ⟨armD_ok h.ok _, by simp [armD]; exact hk, Nat.le_trans h.steps (Nat.mul_le_mul_right 8192 (Nat.le_succ t)), Nat.le_trans h.waits (Nat.mul_le_mul_right 8192 (Nat.le_succ t)), h.safe, h.fits, by have := h.ep; omega, by have := h.ct; omega⟩
theorem Scr.crash (h : Scr d S n t) (keep : List Bool) (torn cut : Int) : Scr (crashD d keep torn cut) S n t := ⟨crashD_ok h.ok _ _ _, h.left, h.steps, Nat.zero_le _, by rw [crashD_len h.ok]; exact h.safe, h.fits, h.ep, h.ct⟩
theorem Scr.open (h : Scr d S n t) (hn : 3 ≤ n) {m : Mk} {L : List UInt8} {rs : Secs} (hO : openM (vis d) = some (m, L, rs)) : Scr d ⟨m, L, false⟩ n (t + 1) := by
  have hm : m.Ok ∧ m.sz = L.length ∧ L.length ≤ 64 * (n - 2) := by
    unfold openM at hO
    have ok : ∀ s, (mkO s).Ok := fun s => by
      unfold mkO
      cases hu : unpackM s with
      | none => exact ⟨by decide, by decide, by decide⟩
      | some x => exact (unpackM_inv hu).2
    have okn : (newestM ((vis d).getD 0 []) ((vis d).getD 1 [])).Ok := by
      rw [newestM_eq]; split <;> exact ok _
    split at hO
    · rename_i hle
      split at hO
      · simp only [Option.some.injEq, Prod.mk.injEq] at hO
        obtain ⟨rfl, rfl, _⟩ := hO
        rw [vis_len, h.safe] at hle
        have hl := logF_len (vis_64 h.ok)
        rw [vis_len, h.safe] at hl
        refine ⟨okn, ?_, ?_⟩
        · rw [List.length_take]; omega
        · rw [List.length_take]; omega
      · cases hO
    · cases hO
  exact ⟨h.ok, h.left, Nat.le_trans h.steps (Nat.mul_le_mul_right 8192 (Nat.le_succ t)), Nat.le_trans h.waits (Nat.mul_le_mul_right 8192 (Nat.le_succ t)), h.safe, ⟨hn, hm.2.1, hm.2.2, by have := hm.1.1; simp only; omega, by have := hm.1.2.2; simp only; omega⟩, by have := hm.1.1; simp only; omega, by have := hm.1.2.2; simp only; omega⟩
theorem Scr.commit (h : Scr d S n t) (ht : t ≤ 50) (hn4 : n ≤ 4096) (r : List UInt8) : Scr (commitD d S r).1.1 (commitD d S r).1.2 n (t + 1) := by
  have hm := h.more
  have hf := h.fits
  unfold commitD
  split
  · exact hm
  · split
    · split
      · rename_i hfit
        rw [h.safe] at hfit
        have h1 := runD_few (actsC S.log (recd r) (nextM S.m (recd r))) d
        have h2 := runD_ok (actsC S.log (recd r) (nextM S.m (recd r))) h.ok
        have h3 := runD_len (actsC S.log (recd r) (nextM S.m (recd r))) d
        have hal : (actsC S.log (recd r) (nextM S.m (recd r))).length ≤ 8192 := by
          simp only [actsC, List.length_append, List.length_map, secsM_len, List.length_cons, List.length_nil]; omega
        have e1 := h.steps
        have e2 := h.waits
        have e3 := h.left
        have e4 := h.ep
        have e5 := h.ct
        split
        · refine ⟨h2, by simp only; omega, by simp only; omega, by simp only; omega, by simp only; rw [h3]; exact h.safe, ⟨hf.n3, ?_, ?_, ?_, ?_⟩, ?_, ?_⟩
          · simp only [nextM, List.length_append]; have := hf.sz; omega
          · simp only [List.length_append]; exact hfit
          · simp only [nextM]; omega
          · simp only [nextM]; omega
          · simp only [nextM]; omega
          · simp only [nextM]; omega
        · exact ⟨h2, by simp only; omega, by simp only; omega, by simp only; omega, by simp only; rw [h3]; exact h.safe, ⟨hf.n3, hf.sz, hf.fit, hf.ep, hf.ct⟩, by simp only; omega, by simp only; omega⟩
      · exact hm
    · exact hm
theorem scr_new (n : Nat) (hn : 3 ≤ n) : Scr (newD n) ⟨mk0, [], false⟩ n 0 := ⟨newD_ok n, by show 0 ≤ 15; omega, Nat.le_refl _, Nat.le_refl _, by simp [newD], ⟨hn, rfl, by simp, by decide, by decide⟩, by simp [mk0], by simp [mk0]⟩
end
theorem openM_ct {ss : Secs} {m : Mk} {L : List UInt8} {rs : Secs} (h : openM ss = some (m, L, rs)) : rs.length = m.ct := by
  unfold openM at h
  split at h
  · split at h
    · rename_i h2
      simp only [Option.some.injEq, Prod.mk.injEq] at h
      obtain ⟨rfl, rfl, rfl⟩ := h
      exact h2.2
    · cases h
  · cases h
section
variable {PD : World → List Nat → Nat → Dv → Prop} {K : List (Nat × List Value × TypeId)} {W w w' : World} {p x q y : Nat} {d d2 : Dv} {S S2 : Sg} (I : Iface0 PD)
include I
theorem openNo (h : Both PD K W w p x q y d S d2 S2) (hf : d.Few7) (ho : d.Ok) (h3 : 3 ≤ d.safe.length) (hno : openE d ≠ 0) :
    Calls Tryz.prog 7 #[.pointer (some ⟨p, 0, none⟩)] w fun e w' => e = .returned (.tuple #[.pointer none, .slice none 0 0, .int .i64 (openE d)]) ∧ Below w.heap.size w w' := by
  obtain ⟨E1, E2, h⟩ := h
  obtain ⟨exd, rfl, hd, hx, hxn⟩ := h.hp
  cases hon : d.on with
  | true =>
    cases hO : openM (vis d) with
    | none =>
      have hc := sOpen_on I w hd hf ho h3 hon
      rw [hO] at hc
      have he : openE d = 10 := by unfold openE; rw [if_neg (by omega), hon, hO]; rfl
      rw [he]
      exact hc
    | some r => exact absurd (by unfold openE; rw [if_neg (by omega), hon, hO]; rfl) hno
  | false =>
    have he : openE d = 14 := by unfold openE; rw [if_neg (by omega), hon]; rfl
    rw [he]
    exact sOpen_off I w hd hf ho h3 hon
omit I in
theorem ropenNo (h : Both PD K W w p x q y d2 S2 d S) (hf : d.Few7) (ho : d.Ok) (h3 : 3 ≤ d.safe.length) (hno : openE d ≠ 0) :
    Calls Tryz.prog 8 #[.pointer (some ⟨q, 0, none⟩)] w fun e w' => e = .returned (.tuple #[.pointer none, .slice none 0 0, .int .i64 (openE d)]) ∧ Below w.heap.size w w' := by
  obtain ⟨E1, E2, h⟩ := h
  obtain ⟨us, uw, rfl, hr, hy, hyn⟩ := h.hq
  cases hon : d.on with
  | true =>
    cases hO : openM (vis d) with
    | none =>
      have hc := rOpen_on w hr hf ho h3 hon
      rw [hO] at hc
      have he : openE d = 10 := by unfold openE; rw [if_neg (by omega), hon, hO]; rfl
      rw [he]
      exact hc
    | some r => exact absurd (by unfold openE; rw [if_neg (by omega), hon, hO]; rfl) hno
  | false =>
    have he : openE d = 14 := by unfold openE; rw [if_neg (by omega), hon]; rfl
    rw [he]
    exact (rOpen_off w hr hf h3 hon).mono fun e w' ⟨h1, h2⟩ => ⟨h1, h2 ▸ Below.refl _ _⟩
omit I in
theorem openYes (d : Dv) (h3 : 3 ≤ d.safe.length) (h : openE d = 0) : d.on = true ∧ ∃ m L rs, openM (vis d) = some (m, L, rs) := by
  unfold openE at h
  rw [if_neg (by omega)] at h
  cases hon : d.on with
  | true =>
    rw [hon] at h
    cases hO : openM (vis d) with
    | none => rw [hO] at h; cases h
    | some r => exact ⟨rfl, r.1, r.2.1, r.2.2, rfl⟩
  | false => rw [hon] at h; cases h
omit I
theorem own_le {w : World} {base size n cap : Nat} {e : TypeId} {A : Option Addr} {xs : List Value} (h : w.ownsRow base e size (.slice A n cap) n xs) : n ≤ cap := by
  rcases h.2 with ⟨h1, h2⟩ | ⟨g, cp, cur, hv, _, _, hc, _⟩
  · simp only [Value.slice.injEq] at h1; omega
  · simp only [Value.slice.injEq] at hv; omega
theorem markB (h : Both PD K W w p x q y d S d2 S2) : Calls Tryz.prog 19 #[.pointer (some ⟨x, 0, none⟩)] w fun e w' => e = .returned (.agg #[.int .i64 (S.m.ep : Nat), .int .i64 (S.m.sz : Nat), .int .i64 (S.m.ct : Nat)]) ∧ Below w.heap.size w w' := by
  obtain ⟨E1, E2, h⟩ := h
  obtain ⟨exd, rfl, hd, hx, hxn⟩ := h.hp
  exact sMark_any w hx
theorem brokenB (h : Both PD K W w p x q y d S d2 S2) : Calls Tryz.prog 20 #[.pointer (some ⟨x, 0, none⟩)] w fun e w' => e = .returned (.bool S.br) ∧ w = w' := by
  obtain ⟨E1, E2, h⟩ := h
  obtain ⟨exd, rfl, hd, hx, hxn⟩ := h.hp
  exact sBroken_any w hx
theorem roomB (h : Both PD K W w p x q y d S d2 S2) (hf : S.Fits d.safe.length) (hn : d.safe.length ≤ 4096) : Calls Tryz.prog 21 #[.pointer (some ⟨x, 0, none⟩)] w fun e w' => e = .returned (.int .i64 ((64 * (d.safe.length - 2) - S.log.length : Nat) : Int)) ∧ ∃ m, w' = w.drewN m := by
  obtain ⟨E1, E2, h⟩ := h
  obtain ⟨exd, rfl, hd, hx, hxn⟩ := h.hp
  exact sRoom_any w hx hf hn
theorem rroomB (h : Both PD K W w p x q y d2 S2 d S) (hf : S.Fits d.safe.length) (hn : d.safe.length ≤ 4096) : Calls Tryz.prog 22 #[.pointer (some ⟨y, 0, none⟩)] w fun e w' => e = .returned (.int .i64 ((64 * (d.safe.length - 2) - S.log.length : Nat) : Int)) ∧ ∃ m, w' = w.drewN m := by
  obtain ⟨E1, E2, h⟩ := h
  obtain ⟨us, uw, rfl, hr, hy, hyn⟩ := h.hq
  exact rRoom_any w hr hy rfl hf hn
include I
theorem waitingB (h : Both PD K W w p x q y d S d2 S2) (hf : d.Few) : Calls Tryz.prog 18 #[.pointer (some ⟨p, 0, none⟩)] w fun e w' => (∃ a c, e = .returned (.slice a d.waits.length c) ∧ d.waits.length ≤ c ∧ WritAt w' a d.waits.length d.waits) ∧ Below w.heap.size w w' := by
  obtain ⟨E1, E2, h⟩ := h
  obtain ⟨exd, rfl, hd, hx, hxn⟩ := h.hp
  exact I.waiting w hd hf
theorem keepB {us uw : Value} (h : Both PD K W w p x q y d S d2 S2 ∧ R6 w us uw q d2) (hb : Below w.heap.size w w') : Both PD K W w' p x q y d S d2 S2 ∧ R6 w' us uw q d2 := ⟨h.1.below I hb, h.2.keep fun b hm => hb.block b (h.2.lt b hm)⟩
theorem keepY (h : Both PD K W w p x q y d S d2 S2 ∧ Rw w y (rs7 q S2) 54) (hb : Below w.heap.size w w') : Both PD K W w' p x q y d S d2 S2 ∧ Rw w' y (rs7 q S2) 54 := ⟨h.1.below I hb, h.2.below hb⟩
end
section
variable {PD : World → List Nat → Nat → Dv → Prop} {PO : World → List Nat → Nat → Nat → Nat → Sg → Prop} (I : Iface0 PD) (J : Iface7 PD PO)
include I J
set_option maxHeartbeats 40000000 in
set_option maxRecDepth 100000 in
theorem walk (z : Int) (a : Option Addr) (m c : Nat) (ls : List OpV) (W : World) (hmc : m ≤ c) (hcm : c ≤ maxLen) (ha : OpsAt W W.heap.size a m ls) : Calls Tryz.prog 3 #[.int .i64 z, .slice a m c] W fun e w' => e = .returned (.bool true) ∧ Below W.heap.size W w' := by
  obtain ⟨k31, hk31⟩ : ∃ k : Nat, z % 32 = (k : Int) := ⟨(z % 32).toNat, by omega⟩
  have hk32 : k31 ≤ 31 := by omega
  have hand : bits .and .i64 z 31 = (k31 : Int) := by rw [and31, hk31]
  clear hk31
  obtain ⟨n, hn⟩ : ∃ n, n = 3 + k31 := ⟨_, rfl⟩
  have n3 : 3 ≤ n := by omega
  have n34 : n ≤ 34 := by omega
  have R0 := new_rdy n n3
  have eO := R0.opens
  have hsum : (3 : Int) + (k31 : Int) = (n : Int) := by omega
  have HSUM := Lib.hid hsum
  have HEO := Lib.hid eO
  have F0 := scr_new n n3
  have HCM := Lib.hid hcm
  have k31I : (k31 : Int) ≤ 31 := by omega
  clear hsum eO hn hcm
  go_enter Tryz.func3, Tryz.ntmps3
  go_wp2_with fail
  refine (awake7_any I J W).mono ?_
  rintro e w1 ⟨rfl, g1⟩
  go_wp2_with fail
  rw [HSUM.out]
  clear hand
  refine (I.new n w1 (by omega) (by omega)).mono ?_
  rintro e w2 ⟨⟨p, rfl, ex, hp, hpn⟩, g2⟩
  go_wp2_with fail
  refine (refNew_any n w2 (by omega) (by omega)).mono ?_
  rintro e w3 ⟨⟨q, us, rfl, hr, hq, hus⟩, g3⟩
  have hp3 := I.below hp g3
  have hP := sOpen_on I w3 hp3 (F0.few (by omega) (by omega)) F0.ok (by rw [F0.safe]; exact n3) rfl
  rw [HEO.out] at hP
  go_wp2_with fail
  refine hP.mono ?_
  rintro e w4 ⟨⟨x, av, cv, rfl, _, ⟨_, hx⟩, hxn, _⟩, g4⟩
  have hr4 : R6 w4 us (.slice none 0 0) q (newD n) := hr.keep fun b hb => g4.block b (hr.lt b hb)
  have hQ := rOpen_on w4 hr4 (F0.few (by omega) (by omega)) F0.ok (by rw [F0.safe]; exact n3) rfl
  rw [HEO.out] at hQ
  go_wp2_with fail
  refine hQ.mono ?_
  rintro e w5 ⟨⟨y, bv, kv, dv, rfl, _, _, hy, hyn⟩, g5⟩
  have hB : Both PD [] W w5 p x q y (newD n) ⟨mk0, [], false⟩ (newD n) ⟨mk0, [], false⟩ := by
    have lt1 : ∀ b ∈ ex, b < w2.heap.size := I.lt hp
    have lt2 : ∀ b ∈ ft us (.slice none 0 0) q, b < w3.heap.size := hr.lt
    have ge2 : ∀ b ∈ ft us (.slice none 0 0) q, w2.heap.size ≤ b := fun b hb => by
      unfold ft at hb
      rcases List.mem_cons.1 hb with e | e
      · rw [e]; exact hq
      · rcases List.mem_append.1 e with e | e
        · exact hus b e
        · cases e
    have lx := hx.lt
    have s1 := g1.size
    have s2 := g2.size
    have s3 := g3.size
    have s4 := g4.size
    have s5 := g5.size
    refine ⟨ex ++ [x], y :: ft us (.slice none 0 0) q, ⟨ex, rfl, I.below (I.below hp3 g4) g5, hx.below g5, fun hin => ?_⟩, ⟨us, .slice none 0 0, rfl, hr4.keep (fun b hb => g5.block b (Nat.lt_of_lt_of_le (lt2 b hb) s4)), hy, fun hin => ?_⟩, fun b hb hin => ?_, fun b hb => ?_, fun b hb => ?_, (fun r hr => by cases hr), (((g1.trans (g2.mono s1)).trans (g3.mono (Nat.le_trans s1 s2))).trans (g4.mono (Nat.le_trans s1 (Nat.le_trans s2 s3)))).trans (g5.mono (Nat.le_trans s1 (Nat.le_trans s2 (Nat.le_trans s3 s4))))⟩
    · have := lt1 x hin; omega
    · have := lt2 y hin; omega
    · rcases List.mem_append.1 hb with e | e
      · have := lt1 b e
        rcases List.mem_cons.1 hin with e2 | e2
        · omega
        · have := ge2 b e2; omega
      · have := List.mem_singleton.1 e
        rcases List.mem_cons.1 hin with e2 | e2
        · omega
        · have := lt2 b e2; omega
    · rcases List.mem_append.1 hb with e | e
      · have := hpn b e; omega
      · have := List.mem_singleton.1 e; omega
    · rcases List.mem_cons.1 hb with e | e
      · omega
      · have := ge2 b e; omega
  clear hP hQ hr4 hr hp hp3 hpn hus hq hx hxn hy hyn g1 g2 g3 g4 g5
  have HB := hB
  clear hB R0 HEO HSUM
  generalize newD n = d3 at *
  obtain ⟨S3, hS3⟩ : ∃ S : Sg, S = ⟨mk0, [], false⟩ := ⟨_, rfl⟩
  rw [← hS3] at HB F0
  clear hS3
  go_wp2
  go_loopw [15, 9, 12, 16, 17, 18, 19, 20, 21, 22, 23, 24, 25, 26] (fun i vx vy _ _ _ _ _ _ _ _ _ _ _ wr => ∃ (t : Nat) (d : Dv) (S : Sg) (x y : Nat), t ≤ m ∧ t ≤ 40 ∧ i = .int .i64 t ∧ vx = .pointer (some ⟨x, 0, none⟩) ∧ vy = .pointer (some ⟨y, 0, none⟩) ∧ Both PD [] W wr p x q y d S d S ∧ Scr d S n t) (fun i _ _ _ _ _ _ _ _ _ _ _ _ _ _ => 40 - (intOf i).toNat)
  case atStart => exact ⟨0, d3, S3, x, y, by omega, by omega, rfl, rfl, rfl, HB, F0⟩
  case round =>
    clear HB F0 d3 S3
    obtain ⟨t, d, S, x, y, htm, ht40, rfl, rfl, rfl, hd, hq⟩ := hrel
    by_cases hlt : t < m ∧ t < 40
    · obtain ⟨tl, tl2⟩ := hlt
      have tlI : (t : Int) < m := by omega
      have tl2I : (t : Int) < 40 := by omega
      have ha2 := ha.below hd.bel
      obtain ⟨b, off, rfl, hbW, hc⟩ := ha2.2.2 (by omega)
      obtain ⟨o, ho⟩ : ∃ o, ls[t]? = some o := ⟨ls[t]'(by rw [ha2.1]; exact tl), List.getElem?_eq_getElem _⟩
      obtain ⟨c0, c1, c2, c3, c4, c5⟩ := hc t o ho
      have hk := ha.2.1 o (List.mem_of_getElem? ho)
      clear hc ho ha2
      obtain ⟨ok, oa, ot, oc, os, oka, okn, okc, okeep⟩ := o
      simp only at c0 c1 c2 c3 c4 c5 hk
      obtain ⟨v, hv⟩ : ∃ v : Int, v = ok % 8 := ⟨_, rfl⟩
      have hand7 : bits .and .i64 ok 7 = v := by rw [and7, hv]
      obtain ⟨k, hk15⟩ : ∃ k : Nat, oa % 16 = (k : Int) := ⟨(oa % 16).toNat, by omega⟩
      have k15 : k ≤ 15 := by omega
      have hand15 : bits .and .i64 oa 15 = (k : Int) := by rw [and15, hk15]
      go_upto_region 14 with (fail)
      obtain ⟨O, hO⟩ : ∃ O, O = ocs ⟨ok, oa, ot, oc, os, oka, okn, okc, okeep⟩ := ⟨_, rfl⟩
      obtain ⟨bo, hbo⟩ : ∃ bo, bo = wr.heap.size := ⟨_, rfl⟩
      have h4 := hd.alloc I O 38
      rw [← hbo] at h4
      rw [← hbo]
      obtain ⟨w4, hw4⟩ : ∃ w4, w4 = wr.alloc (.cells O.toArray 38) := ⟨_, rfl⟩
      rw [← hw4] at h4
      rw [show wr.alloc (.cells #[.int .i64 ok, .int .i64 oa, .int .i64 ot, .int .i64 oc, .string ⟨os.toArray⟩, .slice oka okn okc] 38) = w4 from by rw [hw4, hO]; rfl]
      have O0 := Lib.hid (show O[0]? = some (.int .i64 ok) from by rw [hO]; rfl)
      have O1 := Lib.hid (show O[1]? = some (.int .i64 oa) from by rw [hO]; rfl)
      have O2 := Lib.hid (show O[2]? = some (.int .i64 ot) from by rw [hO]; rfl)
      have O3 := Lib.hid (show O[3]? = some (.int .i64 oc) from by rw [hO]; rfl)
      have O4 := Lib.hid (show O[4]? = some (.string ⟨os.toArray⟩) from by rw [hO]; rfl)
      have O5 := Lib.hid (show O[5]? = some (.slice oka okn okc) from by rw [hO]; rfl)
      have hbk : ∀ w' : World, Below W.heap.size W w' → BoolsAt w' oka okn okeep := fun w' hb => ⟨hk.1.1, fun h0 => by
        obtain ⟨b', off', e, hlt, hc'⟩ := hk.1.2 h0
        exact ⟨b', off', e, Nat.lt_of_lt_of_le hlt hb.size, fun i x hi => (hb.cell (p := ⟨b', off' + i, none⟩) (hk.2.2.2 b' off' h0 e)).trans (hc' i x hi)⟩⟩
      have HK := Lib.hid hk
      have HBK := Lib.hid hbk
      have hf7 := hq.few (by omega) (by omega)
      have hrow := h4.row 0 rfl
      have e0 := hrow.c 0 O0.out
      have HV := Lib.hid hv
      clear hd hbo hw4 hO c0 c1 c2 c3 c4 c5 hk hbk hv hk15
      go_cut [74] from 58 to 198 (fun x w' => x = .int .i64 v ∧ w4 = w')
      case first =>
        go_wp2_with fail
        go_meet
        case rel => exact ⟨rfl, rfl⟩
      case rest =>
      obtain ⟨rfl, rfl⟩ := hcut
      apply_assumption
      go_cut [9, 12, 17, 18, 19, 20, 21, 22, 23, 24, 25] from 58 to 198 (fun vx vy vok _ _ _ _ _ _ _ _ w' => vok = .bool true ∧ ∃ d' S' x' y', vx = .pointer (some ⟨x', 0, none⟩) ∧ vy = .pointer (some ⟨y', 0, none⟩) ∧ Both PD [(bo, O, 38)] W w' p x' q y' d' S' d' S' ∧ Scr d' S' n (t + 1))
      case first =>
        have e1 := hrow.c 1 O1.out
        by_cases v3 : v = 3
        · as_aux_lemma =>
            subst v3
            go_wp2_with fail
            refine (Both.arm I (k : Int) h4).mono ?_
            rintro e w5 ⟨rfl, h5⟩
            have f1 := (h5.row 0 rfl).c 1 O1.out
            go_wp2_with fail
            refine (Both.rarm I (k : Int) h5).mono ?_
            rintro e w6 ⟨rfl, h6⟩
            have q6 := hq.arm k k15
            generalize armD d (k : Int) = d6 at *
            go_wp2
            go_meet
            case rel => exact ⟨rfl, d6, S, x, y, rfl, rfl, h6, q6⟩
        · by_cases v4 : v = 4
          · as_aux_lemma =>
            subst v4
            have e2 := hrow.c 2 O2.out
            have e3 := hrow.c 3 O3.out
            have e6 := hrow.c 5 O5.out
            have b4 := HBK.out w4 h4.bel
            have hk2 := HK.out.2
            clear HK
            have h0 : 0 < d.safe.length := by rw [hq.safe]; omega
            go_wp2_with fail
            refine (Both.crash I oka okn okc okeep ot oc h4 hf7.few hq.ok h0 b4 hk2.1 hk2.2.1 hk2.2.2).mono ?_
            rintro e w5 ⟨rfl, hA⟩
            have b5 := HBK.out w5 hA.bel
            have f2 := (hA.row 0 rfl).c 2 O2.out
            have f3 := (hA.row 0 rfl).c 3 O3.out
            have f6 := (hA.row 0 rfl).c 5 O5.out
            go_wp2_with fail
            refine (Both.rcrash I oka okn okc okeep ot oc hA hf7.few hq.ok b5 hk2.1 hk2.2.1 hk2.2.2).mono ?_
            rintro e w5' ⟨rfl, h5⟩
            have q5 := hq.crash okeep ot oc
            clear hA b4 b5 hk2 f2 f3 f6 e2 e3 e6
            obtain ⟨d5, hd5⟩ : ∃ d5, d5 = crashD d okeep ot oc := ⟨_, rfl⟩
            rw [← hd5] at h5 q5
            clear hd5
            have hf5 := q5.few (by omega) (by omega)
            have h35 : 3 ≤ d5.safe.length := by rw [q5.safe]; exact n3
            by_cases hoe : openE d5 = 0
            · as_aux_lemma =>
                obtain ⟨hon, m', L', rs', hO⟩ := openYes d5 h35 hoe
                have q6 := q5.open n3 hO
                go_wp2_with fail
                refine (Both.openOk I h5 hf5 q5.ok h35 hon hO).mono ?_
                rintro e w6 ⟨x', a1, cp1, rfl, hs1, hcp1, h6⟩
                go_wp2_with fail
                refine (Both.ropenOk I h6 hf5 q5.ok h35 hon hO).mono ?_
                rintro e w7 ⟨⟨y', a2, k2, cp2, rfl, hs2, hcp2, h7⟩, g7⟩
                have hs1' := hs1.below g7 g7.size
                go_wp2_with fail
                refine (Same_any a1 a2 _ _ cp1 cp2 _ _ w7 hs1' hs2 (by rw [openM_ct hO]; have := q6.ct; have := hq.ct; simp only at *; omega)).mono ?_
                rintro e w8 ⟨rfl, g8⟩
                have h8 := h7.below I g8
                clear h5 h6 h7 hs1 hs1' hs2
                go_wp2
                go_meet
                case rel => exact ⟨rfl, d5, _, x', y', rfl, rfl, h8, q6⟩
            · as_aux_lemma =>
                go_wp2_with fail
                refine (openNo I h5 hf5 q5.ok h35 hoe).mono ?_
                rintro e w6 ⟨rfl, g6⟩
                have h6 := h5.below I g6
                go_wp2_with fail
                refine (ropenNo h6 hf5 q5.ok h35 hoe).mono ?_
                rintro e w7 ⟨rfl, g7⟩
                have h7 := h6.below I g7
                generalize openE d5 = er at *
                go_wp2_with fail
                refine (Same_any none none 0 0 0 0 [] [] w7 ⟨rfl, fun h => absurd h (by omega)⟩ ⟨rfl, fun h => absurd h (by omega)⟩ (by omega)).mono ?_
                rintro e w8 ⟨rfl, g8⟩
                have h8 := (h7.below I g8).bel
                clear h5 h6 h7
                go_wp2
                go_ret
                exact ⟨rfl, h8⟩
          · by_cases v5 : v = 5
            · as_aux_lemma =>
              subst v5
              have e2 := hrow.c 2 O2.out
              have e3 := hrow.c 3 O3.out
              have e6 := hrow.c 5 O5.out
              have b4 := HBK.out w4 h4.bel
              have hk2 := HK.out.2
              clear HK
              have h0 : 0 < d.safe.length := by rw [hq.safe]; omega
              go_wp2_with fail
              refine (Both.crash I oka okn okc okeep ot oc h4 hf7.few hq.ok h0 b4 hk2.1 hk2.2.1 hk2.2.2).mono ?_
              rintro e w5 ⟨rfl, hA⟩
              have b5 := HBK.out w5 hA.bel
              have f2 := (hA.row 0 rfl).c 2 O2.out
              have f3 := (hA.row 0 rfl).c 3 O3.out
              have f6 := (hA.row 0 rfl).c 5 O5.out
              go_wp2_with fail
              refine (Both.rcrash I oka okn okc okeep ot oc hA hf7.few hq.ok b5 hk2.1 hk2.2.1 hk2.2.2).mono ?_
              rintro e w5' ⟨rfl, h5⟩
              have q5 := hq.crash okeep ot oc
              clear hA b4 b5 hk2 f2 f3 f6 e2 e3 e6
              obtain ⟨d5, hd5⟩ : ∃ d5, d5 = crashD d okeep ot oc := ⟨_, rfl⟩
              rw [← hd5] at h5 q5
              clear hd5
              have hf5 := q5.few (by omega) (by omega)
              have h35 : 3 ≤ d5.safe.length := by rw [q5.safe]; exact n3
              by_cases hoe : openE d5 = 0
              · as_aux_lemma =>
                  obtain ⟨hon, m', L', rs', hO⟩ := openYes d5 h35 hoe
                  have q6 := q5.open n3 hO
                  go_wp2_with fail
                  refine (Both.openOk I h5 hf5 q5.ok h35 hon hO).mono ?_
                  rintro e w6 ⟨x', a1, cp1, rfl, hs1, hcp1, h6⟩
                  go_wp2_with fail
                  refine (Both.ropenOk I h6 hf5 q5.ok h35 hon hO).mono ?_
                  rintro e w7 ⟨⟨y', a2, k2, cp2, rfl, hs2, hcp2, h7⟩, g7⟩
                  have hs1' := hs1.below g7 g7.size
                  go_wp2_with fail
                  refine (Same_any a1 a2 _ _ cp1 cp2 _ _ w7 hs1' hs2 (by rw [openM_ct hO]; have := q6.ct; have := hq.ct; simp only at *; omega)).mono ?_
                  rintro e w8 ⟨rfl, g8⟩
                  have h8 := h7.below I g8
                  clear h5 h6 h7 hs1 hs1' hs2
                  go_wp2
                  go_meet
                  case rel => exact ⟨rfl, d5, _, x', y', rfl, rfl, h8, q6⟩
              · as_aux_lemma =>
                  go_wp2_with fail
                  refine (openNo I h5 hf5 q5.ok h35 hoe).mono ?_
                  rintro e w6 ⟨rfl, g6⟩
                  have h6 := h5.below I g6
                  go_wp2_with fail
                  refine (ropenNo h6 hf5 q5.ok h35 hoe).mono ?_
                  rintro e w7 ⟨rfl, g7⟩
                  have h7 := h6.below I g7
                  generalize openE d5 = er at *
                  go_wp2_with fail
                  refine (Same_any none none 0 0 0 0 [] [] w7 ⟨rfl, fun h => absurd h (by omega)⟩ ⟨rfl, fun h => absurd h (by omega)⟩ (by omega)).mono ?_
                  rintro e w8 ⟨rfl, g8⟩
                  have h8 := (h7.below I g8).bel
                  clear h5 h6 h7
                  go_wp2
                  go_ret
                  exact ⟨rfl, h8⟩
            · by_cases v6 : v = 6
              · as_aux_lemma =>
                subst v6
                have h5 := h4
                have q5 := hq
                obtain ⟨d5, hd5⟩ : ∃ d5, d5 = d := ⟨_, rfl⟩
                rw [← hd5] at h5 q5
                clear hd5
                have hf5 := q5.few (by omega) (by omega)
                have h35 : 3 ≤ d5.safe.length := by rw [q5.safe]; exact n3
                by_cases hoe : openE d5 = 0
                · as_aux_lemma =>
                    obtain ⟨hon, m', L', rs', hO⟩ := openYes d5 h35 hoe
                    have q6 := q5.open n3 hO
                    go_wp2_with fail
                    refine (Both.openOk I h5 hf5 q5.ok h35 hon hO).mono ?_
                    rintro e w6 ⟨x', a1, cp1, rfl, hs1, hcp1, h6⟩
                    go_wp2_with fail
                    refine (Both.ropenOk I h6 hf5 q5.ok h35 hon hO).mono ?_
                    rintro e w7 ⟨⟨y', a2, k2, cp2, rfl, hs2, hcp2, h7⟩, g7⟩
                    have hs1' := hs1.below g7 g7.size
                    go_wp2_with fail
                    refine (Same_any a1 a2 _ _ cp1 cp2 _ _ w7 hs1' hs2 (by rw [openM_ct hO]; have := q6.ct; have := hq.ct; simp only at *; omega)).mono ?_
                    rintro e w8 ⟨rfl, g8⟩
                    have h8 := h7.below I g8
                    clear h5 h6 h7 hs1 hs1' hs2
                    go_wp2
                    go_meet
                    case rel => exact ⟨rfl, d5, _, x', y', rfl, rfl, h8, q6⟩
                · as_aux_lemma =>
                    go_wp2_with fail
                    refine (openNo I h5 hf5 q5.ok h35 hoe).mono ?_
                    rintro e w6 ⟨rfl, g6⟩
                    have h6 := h5.below I g6
                    go_wp2_with fail
                    refine (ropenNo h6 hf5 q5.ok h35 hoe).mono ?_
                    rintro e w7 ⟨rfl, g7⟩
                    have h7 := h6.below I g7
                    generalize openE d5 = er at *
                    go_wp2_with fail
                    refine (Same_any none none 0 0 0 0 [] [] w7 ⟨rfl, fun h => absurd h (by omega)⟩ ⟨rfl, fun h => absurd h (by omega)⟩ (by omega)).mono ?_
                    rintro e w8 ⟨rfl, g8⟩
                    have h8 := (h7.below I g8).bel
                    clear h5 h6 h7
                    go_wp2
                    go_ret
                    exact ⟨rfl, h8⟩
              · as_aux_lemma =>
                have n3' : (v == 3) = false := by simpa using v3
                have n4' : (v == 4) = false := by simpa using v4
                have n5' : (v == 5) = false := by simpa using v5
                have n6' : (v == 6) = false := by simpa using v6
                have e4 := hrow.c 4 O4.out
                have hsh := short7_any os 80 w4 (by omega)
                obtain ⟨s80, hs80⟩ : ∃ s80, s80 = os.take (80 : Int).toNat := ⟨_, rfl⟩
                have hl80 : s80.length ≤ 80 := by rw [hs80, List.length_take]; exact Nat.min_le_left _ _
                rw [← hs80] at hsh
                clear hs80
                go_wp2_with fail
                refine hsh.mono ?_
                rintro e w5 ⟨rfl, rfl⟩
                clear hsh
                go_upto_if 81 with (fail)
                go_cut [25] from 58 to 198 (fun vv w' => ∃ r : List UInt8, vv = .string ⟨r.toArray⟩ ∧ (r.length : Int) ≤ 16777215 ∧ Both PD [(bo, O, 38)] W w' p x q y d S d S)
                case first =>
                  by_cases v7 : v = 7
                  · subst v7
                    have hmk : ∀ w : World, (Instr.makeSlice 43 (.int .i64 1000) (.int .i64 1000)).run Tryz.prog w = .ok (.slice (some ⟨w.heap.size, 0, none⟩) 1000 1000) (w.alloc (.cells (madeCells #[Value.int .u8 0] 1000) 5)) := fun w => run_make_row' (P := Tryz.prog) 43 5 (.int .u8 0) 1 Tryz.underlying43 info8d rfl .i64 .i64 1000 (by omega) (by omega) w
                    obtain ⟨zs, hzs⟩ : ∃ zs : List UInt8, zs = List.replicate 1000 0 := ⟨_, rfl⟩
                    have hzl : zs.length = 1000 := by rw [hzs, List.length_replicate]
                    have hcv := strRow (w4.alloc (.cells (bcells zs).toArray 5)) 43 9 5 w4.heap.size 1000 1000 zs 5 (0, 0) Tryz.underlying43 Tryz.underlying5 Tryz.underlying9 (heap_alloc_new w4 _) hzl.symm
                    rw [show madeCells #[Value.int .u8 0] 1000 = (bcells zs).toArray from by rw [madeRep, hzs]] at hmk
                    obtain ⟨OO, hOO⟩ : ∃ OO, OO = Obj.cells (bcells zs).toArray 5 := ⟨_, rfl⟩
                    rw [← hOO] at hcv
                    simp only [← hOO] at hmk
                    clear hOO hzs
                    go_wp2
                    go_meet
                    case rel => exact ⟨zs, rfl, by omega, h4.below I (by first | exact (Below.refl _ _).alloc (Nat.le_refl _) _ | exact ((Below.refl _ _).alloc (Nat.le_refl _) _).drew)⟩
                  · have n7' : (v == 7) = false := by simpa using v7
                    go_wp2
                    go_meet
                    case rel => exact ⟨s80, rfl, by omega, h4⟩
                case rest =>
                obtain ⟨r, rfl, hrl, h5⟩ := hcut
                clear h4
                have hfit : S.Fits d.safe.length := by rw [hq.safe]; exact hq.fits
                have q6 := hq.commit (by omega) (by omega) r
                go_wp2_with fail
                refine (Both.commit I r h5 hf7 hq.ok hfit hrl).mono ?_
                rintro e w6 ⟨rfl, h6⟩
                go_wp2_with fail
                refine (Both.rcommit I r h6 hf7 hq.ok hfit hrl).mono ?_
                rintro e w7 ⟨rfl, h7⟩
                clear h5 h6
                generalize commitD d S r = cd at *
                obtain ⟨⟨d6, S6⟩, er⟩ := cd
                go_wp2
                go_meet
                case rel => exact ⟨by simp, d6, S6, x, y, rfl, rfl, h7, q6⟩
      case rest =>
      obtain ⟨rfl, d', S', x', y', rfl, rfl, h', q'⟩ := hcut
      clear h4 hq hf7 d hrow e0 hand7 hand15 HV HK HBK O0 O1 O2 O3 O4 O5
      have hf7 := q'.few (by omega) (by omega)
      have hml := hf7.waits
      obtain ⟨us', uw', hR⟩ : ∃ us uw, R6 wc us uw q d' := by
        obtain ⟨E1, E2, hb⟩ := h'
        obtain ⟨us, uw, _, hr, _⟩ := hb.hq
        exact ⟨us, uw, hr⟩
      obtain ⟨A2, cp, rfl⟩ := own_form hR.waits
      have hwc := own_le hR.waits
      have c1 := hR.row.c 1 (v := .slice A2 d'.waits.length cp) rfl
      apply_assumption
      go_upto_region 37 with (fail)
      go_cut [26] from 58 to 198 (fun x w' => x = .bool true ∧ Both PD [(bo, O, 38)] W w' p x' q y' d' S' d' S')
      case first =>
        as_aux_lemma =>
          refine wp_region_held_drew (S := fun w => Both PD [(bo, O, 38)] W w p x' q y' d' S' d' S' ∧ R6 w us' (.slice A2 d'.waits.length cp) q d') (by kernel_rfl) (keepB I ⟨h', hR⟩ (Below.refl _ _).drew) (fun hHeld => ?_)
          refine wpAnyH_take (i := 0) (oi := _) (v := ?_) rfl (by kernel_rfl) (by kernel_rfl) (by kernel_rfl) (fun _ _ _ h => h) (Or.inl ⟨by kernel_rfl, ?_⟩) hHeld ?_
          rotate_left
          · (intro w hSw; go_simp; try with_reducible rfl)
          try simp only [Act.put, List.getElem_toArray, List.getElem_cons_succ, List.getElem_cons_zero, List.setIfInBounds_toArray, List.set_cons_zero, List.set_cons_succ]
          refine wpAnyH_take (i := 2) (oi := _) (v := ?_) rfl (by kernel_rfl) (by kernel_rfl) (by kernel_rfl) (fun _ _ _ h => h) (Or.inl ⟨by kernel_rfl, ?_⟩) hHeld ?_
          rotate_left
          · (intro w hSw; go_simp; try with_reducible rfl)
          try simp only [Act.put, List.getElem_toArray, List.getElem_cons_succ, List.getElem_cons_zero, List.setIfInBounds_toArray, List.set_cons_zero, List.set_cons_succ]
          refine wpAnyH_take (i := 3) (oi := _) (v := ?_) rfl (by kernel_rfl) (by kernel_rfl) (by kernel_rfl) (fun _ _ _ h => h) (Or.inl ⟨by kernel_rfl, ?_⟩) hHeld ?_
          rotate_left
          · (intro w hSw; go_simp; try with_reducible rfl)
          try simp only [Act.put, List.getElem_toArray, List.getElem_cons_succ, List.getElem_cons_zero, List.setIfInBounds_toArray, List.set_cons_zero, List.set_cons_succ]
          refine wpAnyH_take (i := 4) (oi := _) (v := ?_) rfl (by kernel_rfl) (by kernel_rfl) (by kernel_rfl) (fun _ _ _ h => h) (Or.inl ⟨by kernel_rfl, ?_⟩) hHeld ?_
          rotate_left
          · (intro w hSw; go_simp; try with_reducible rfl)
          try simp only [Act.put, List.getElem_toArray, List.getElem_cons_succ, List.getElem_cons_zero, List.setIfInBounds_toArray, List.set_cons_zero, List.set_cons_succ]
          refine wpAnyH_take (i := 5) (oi := _) (v := ?_) rfl (by kernel_rfl) (by kernel_rfl) (by kernel_rfl) (fun _ _ _ h => h) (Or.inl ⟨by kernel_rfl, ?_⟩) hHeld ?_
          rotate_left
          · (intro w hSw; have cq := hSw.2.row.c 1 (v := .slice A2 d'.waits.length cp) rfl; go_simp; try with_reducible rfl)
          try simp only [Act.put, List.getElem_toArray, List.getElem_cons_succ, List.getElem_cons_zero, List.setIfInBounds_toArray, List.set_cons_zero, List.set_cons_succ]
          refine wpAnyH_ready (rs := [1]) (by kernel_rfl) (by simp) ?_
          refine AllReadyH.cons (o := _) rfl (fun K hK => ?_) AllReadyH.nil
          go_simp
          go_at_call 18
          refine (waitingB I hHeld.1 hf7.few).mono ?_
          rintro e w6 ⟨⟨a1, cw, rfl, hcw, ha1⟩, g6⟩
          have h6 := keepB I hHeld g6
          have hw6 := WritAt.own rfl h6.2.waits
          refine hK.out _ _ h6 (fun hHeld => ?_)
          clear hK K
          try simp only [Act.put, List.getElem_toArray, List.getElem_cons_succ, List.getElem_cons_zero, List.setIfInBounds_toArray, List.set_cons_zero, List.set_cons_succ]
          refine wpAnyH_ready (rs := [6]) (by kernel_rfl) (by simp) ?_
          refine AllReadyH.cons (o := _) rfl (fun K hK => ?_) AllReadyH.nil
          go_simp
          go_at_call 17
          refine (refSame6_any a1 A2 _ cw _ cp d'.waits d'.waits _ ha1 hw6 hcw hwc (by omega)).mono ?_
          rintro e w7 ⟨rfl, kk, rfl⟩
          refine hK.out _ _ (keepB I hHeld (below_drewN (Below.refl _ _) kk)) (fun hHeld => ?_)
          clear hK K
          try simp only [Act.put, List.getElem_toArray, List.getElem_cons_succ, List.getElem_cons_zero, List.setIfInBounds_toArray, List.set_cons_zero, List.set_cons_succ]
          refine wpAnyH_take (i := 7) (oi := _) (v := ?_) rfl (by kernel_rfl) (by kernel_rfl) (by kernel_rfl) (fun _ _ _ h => h) (Or.inl ⟨by kernel_rfl, ?_⟩) hHeld ?_
          rotate_left
          · (intro w hSw; go_simp; try with_reducible rfl)
          try simp only [Act.put, List.getElem_toArray, List.getElem_cons_succ, List.getElem_cons_zero, List.setIfInBounds_toArray, List.set_cons_zero, List.set_cons_succ]
          refine wpAnyH_done (by kernel_rfl) ?_ _
          go_wp2
          go_meet
          case rel => exact ⟨by simp, hHeld.1⟩
      case rest =>
      obtain ⟨rfl, h8⟩ := hcut
      clear hR c1 h' hwc hml
      obtain ⟨w8, hw8⟩ : ∃ w8, w8 = wc := ⟨_, rfl⟩
      rw [← hw8] at h8 ⊢
      clear hw8
      have hY : Rw w8 y' (rs7 q S') 54 := by
        obtain ⟨E1, E2, hb⟩ := h8
        obtain ⟨us, uw, _, _, hy, _⟩ := hb.hq
        exact hy
      have hfit : S'.Fits d'.safe.length := by rw [q'.safe]; exact q'.fits
      have hn4 : d'.safe.length ≤ 4096 := hf7.safe
      go_wp2
      refine wp_region_held_drew (S := fun w => Both PD [(bo, O, 38)] W w p x' q y' d' S' d' S' ∧ Rw w y' (rs7 q S') 54) (by kernel_rfl) (keepY I ⟨h8, hY⟩ (Below.refl _ _).drew) (fun hHeld => ?_)
      refine wpAnyH_take (i := 0) (oi := _) (v := ?_) rfl (by kernel_rfl) (by kernel_rfl) (by kernel_rfl) (fun _ _ _ h => h) (Or.inl ⟨by kernel_rfl, ?_⟩) hHeld ?_
      rotate_left
      · (intro w hSw; go_simp; try with_reducible rfl)
      try simp only [Act.put, List.getElem_toArray, List.getElem_cons_succ, List.getElem_cons_zero, List.setIfInBounds_toArray, List.set_cons_zero, List.set_cons_succ]
      refine wpAnyH_take (i := 1) (oi := _) (v := ?_) rfl (by kernel_rfl) (by kernel_rfl) (by kernel_rfl) (fun _ _ _ h => h) (Or.inl ⟨by kernel_rfl, ?_⟩) hHeld ?_
      rotate_left
      · (intro w hSw; go_simp; try with_reducible rfl)
      try simp only [Act.put, List.getElem_toArray, List.getElem_cons_succ, List.getElem_cons_zero, List.setIfInBounds_toArray, List.set_cons_zero, List.set_cons_succ]
      refine wpAnyH_take (i := 2) (oi := _) (v := ?_) rfl (by kernel_rfl) (by kernel_rfl) (by kernel_rfl) (fun _ _ _ h => h) (Or.inl ⟨by kernel_rfl, ?_⟩) hHeld ?_
      rotate_left
      · (intro w hSw; go_simp; try with_reducible rfl)
      try simp only [Act.put, List.getElem_toArray, List.getElem_cons_succ, List.getElem_cons_zero, List.setIfInBounds_toArray, List.set_cons_zero, List.set_cons_succ]
      refine wpAnyH_take (i := 3) (oi := _) (v := ?_) rfl (by kernel_rfl) (by kernel_rfl) (by kernel_rfl) (fun _ _ _ h => h) (Or.inl ⟨by kernel_rfl, ?_⟩) hHeld ?_
      rotate_left
      · (intro w hSw; go_simp; try with_reducible rfl)
      try simp only [Act.put, List.getElem_toArray, List.getElem_cons_succ, List.getElem_cons_zero, List.setIfInBounds_toArray, List.set_cons_zero, List.set_cons_succ]
      refine wpAnyH_take (i := 4) (oi := _) (v := ?_) rfl (by kernel_rfl) (by kernel_rfl) (by kernel_rfl) (fun _ _ _ h => h) (Or.inl ⟨by kernel_rfl, ?_⟩) hHeld ?_
      rotate_left
      · (intro w hSw; go_simp; try with_reducible rfl)
      try simp only [Act.put, List.getElem_toArray, List.getElem_cons_succ, List.getElem_cons_zero, List.setIfInBounds_toArray, List.set_cons_zero, List.set_cons_succ]
      refine wpAnyH_take (i := 5) (oi := _) (v := ?_) rfl (by kernel_rfl) (by kernel_rfl) (by kernel_rfl) (fun _ _ _ h => h) (Or.inl ⟨by kernel_rfl, ?_⟩) hHeld ?_
      rotate_left
      · (intro w hSw; go_simp; try with_reducible rfl)
      try simp only [Act.put, List.getElem_toArray, List.getElem_cons_succ, List.getElem_cons_zero, List.setIfInBounds_toArray, List.set_cons_zero, List.set_cons_succ]
      refine wpAnyH_take (i := 6) (oi := _) (v := ?_) rfl (by kernel_rfl) (by kernel_rfl) (by kernel_rfl) (fun _ _ _ h => h) (Or.inl ⟨by kernel_rfl, ?_⟩) hHeld ?_
      rotate_left
      · (intro w hSw; go_simp; try with_reducible rfl)
      try simp only [Act.put, List.getElem_toArray, List.getElem_cons_succ, List.getElem_cons_zero, List.setIfInBounds_toArray, List.set_cons_zero, List.set_cons_succ]
      refine wpAnyH_take (i := 7) (oi := _) (v := ?_) rfl (by kernel_rfl) (by kernel_rfl) (by kernel_rfl) (fun _ _ _ h => h) (Or.inl ⟨by kernel_rfl, ?_⟩) hHeld ?_
      rotate_left
      · (intro w hSw; go_simp; try with_reducible rfl)
      try simp only [Act.put, List.getElem_toArray, List.getElem_cons_succ, List.getElem_cons_zero, List.setIfInBounds_toArray, List.set_cons_zero, List.set_cons_succ]
      refine wpAnyH_take (i := 9) (oi := _) (v := ?_) rfl (by kernel_rfl) (by kernel_rfl) (by kernel_rfl) (fun _ _ _ h => h) (Or.inl ⟨by kernel_rfl, ?_⟩) hHeld ?_
      rotate_left
      · (intro w hSw; go_simp; try with_reducible rfl)
      try simp only [Act.put, List.getElem_toArray, List.getElem_cons_succ, List.getElem_cons_zero, List.setIfInBounds_toArray, List.set_cons_zero, List.set_cons_succ]
      refine wpAnyH_take (i := 10) (oi := _) (v := ?_) rfl (by kernel_rfl) (by kernel_rfl) (by kernel_rfl) (fun _ _ _ h => h) (Or.inl ⟨by kernel_rfl, ?_⟩) hHeld ?_
      rotate_left
      · (intro w hSw; go_simp; try with_reducible rfl)
      try simp only [Act.put, List.getElem_toArray, List.getElem_cons_succ, List.getElem_cons_zero, List.setIfInBounds_toArray, List.set_cons_zero, List.set_cons_succ]
      refine wpAnyH_take (i := 11) (oi := _) (v := ?_) rfl (by kernel_rfl) (by kernel_rfl) (by kernel_rfl) (fun _ _ _ h => h) (Or.inl ⟨by kernel_rfl, ?_⟩) hHeld ?_
      rotate_left
      · (intro w hSw; go_simp; try with_reducible rfl)
      try simp only [Act.put, List.getElem_toArray, List.getElem_cons_succ, List.getElem_cons_zero, List.setIfInBounds_toArray, List.set_cons_zero, List.set_cons_succ]
      refine wpAnyH_take (i := 12) (oi := _) (v := ?_) rfl (by kernel_rfl) (by kernel_rfl) (by kernel_rfl) (fun _ _ _ h => h) (Or.inl ⟨by kernel_rfl, ?_⟩) hHeld ?_
      rotate_left
      · (intro w hSw; have cq1 := hSw.2.c 1 (v := .int .i64 (S'.m.ep : Nat)) rfl; have cq2 := hSw.2.c 2 (v := .int .i64 (S'.m.sz : Nat)) rfl; have cq3 := hSw.2.c 3 (v := .int .i64 (S'.m.ct : Nat)) rfl; go_simp; try with_reducible rfl)
      try simp only [Act.put, List.getElem_toArray, List.getElem_cons_succ, List.getElem_cons_zero, List.setIfInBounds_toArray, List.set_cons_zero, List.set_cons_succ]
      refine wpAnyH_ready (rs := [8]) (by kernel_rfl) (by simp) ?_
      refine AllReadyH.cons (o := _) rfl (fun K hK => ?_) AllReadyH.nil
      go_simp
      go_at_call 19
      refine (markB hHeld.1).mono ?_
      rintro e w5 ⟨rfl, g5⟩
      refine hK.out _ _ (keepY I hHeld g5) (fun hHeld => ?_)
      clear hK K
      try simp only [Act.put, List.getElem_toArray, List.getElem_cons_succ, List.getElem_cons_zero, List.setIfInBounds_toArray, List.set_cons_zero, List.set_cons_succ]
      refine wpAnyH_take (i := 13) (oi := _) (v := ?_) rfl (by kernel_rfl) (by kernel_rfl) (by kernel_rfl) (fun _ _ _ h => h) (Or.inl ⟨by kernel_rfl, ?_⟩) hHeld ?_
      rotate_left
      · (intro w hSw; go_simp; try with_reducible rfl)
      try simp only [Act.put, List.getElem_toArray, List.getElem_cons_succ, List.getElem_cons_zero, List.setIfInBounds_toArray, List.set_cons_zero, List.set_cons_succ]
      refine wpAnyH_take (i := 14) (oi := _) (v := ?_) rfl (by kernel_rfl) (by kernel_rfl) (by kernel_rfl) (fun _ _ _ h => h) (Or.inl ⟨by kernel_rfl, ?_⟩) hHeld ?_
      rotate_left
      · (intro w hSw; go_simp; try with_reducible rfl)
      try simp only [Act.put, List.getElem_toArray, List.getElem_cons_succ, List.getElem_cons_zero, List.setIfInBounds_toArray, List.set_cons_zero, List.set_cons_succ]
      refine wpAnyH_take (i := 15) (oi := _) (v := ?_) rfl (by kernel_rfl) (by kernel_rfl) (by kernel_rfl) (fun _ _ _ h => h) (Or.inl ⟨by kernel_rfl, ?_⟩) hHeld ?_
      rotate_left
      · (intro w hSw; go_simp; try with_reducible rfl)
      try simp only [Act.put, List.getElem_toArray, List.getElem_cons_succ, List.getElem_cons_zero, List.setIfInBounds_toArray, List.set_cons_zero, List.set_cons_succ]
      refine wpAnyH_take (i := 16) (oi := _) (v := ?_) rfl (by kernel_rfl) (by kernel_rfl) (by kernel_rfl) (fun _ _ _ h => h) (Or.inl ⟨by kernel_rfl, ?_⟩) hHeld ?_
      rotate_left
      · (intro w hSw; go_simp; try with_reducible rfl)
      try simp only [Act.put, List.getElem_toArray, List.getElem_cons_succ, List.getElem_cons_zero, List.setIfInBounds_toArray, List.set_cons_zero, List.set_cons_succ]
      refine wpAnyH_take (i := 18) (oi := _) (v := ?_) rfl (by kernel_rfl) (by kernel_rfl) (by kernel_rfl) (fun _ _ _ h => h) (Or.inl ⟨by kernel_rfl, ?_⟩) hHeld ?_
      rotate_left
      · (intro w hSw; go_simp; try with_reducible rfl)
      try simp only [Act.put, List.getElem_toArray, List.getElem_cons_succ, List.getElem_cons_zero, List.setIfInBounds_toArray, List.set_cons_zero, List.set_cons_succ]
      refine wpAnyH_take (i := 19) (oi := _) (v := ?_) rfl (by kernel_rfl) (by kernel_rfl) (by kernel_rfl) (fun _ _ _ h => h) (Or.inl ⟨by kernel_rfl, ?_⟩) hHeld ?_
      rotate_left
      · (intro w hSw; go_simp; try with_reducible rfl)
      try simp only [Act.put, List.getElem_toArray, List.getElem_cons_succ, List.getElem_cons_zero, List.setIfInBounds_toArray, List.set_cons_zero, List.set_cons_succ]
      refine wpAnyH_take (i := 20) (oi := _) (v := ?_) rfl (by kernel_rfl) (by kernel_rfl) (by kernel_rfl) (fun _ _ _ h => h) (Or.inl ⟨by kernel_rfl, ?_⟩) hHeld ?_
      rotate_left
      · (intro w hSw; go_simp; try with_reducible rfl)
      try simp only [Act.put, List.getElem_toArray, List.getElem_cons_succ, List.getElem_cons_zero, List.setIfInBounds_toArray, List.set_cons_zero, List.set_cons_succ]
      refine wpAnyH_take (i := 21) (oi := _) (v := ?_) rfl (by kernel_rfl) (by kernel_rfl) (by kernel_rfl) (fun _ _ _ h => h) (Or.inl ⟨by kernel_rfl, ?_⟩) hHeld ?_
      rotate_left
      · (intro w hSw; have cq := hSw.2.c 5 (v := .bool S'.br) rfl; go_simp; try with_reducible rfl)
      try simp only [Act.put, List.getElem_toArray, List.getElem_cons_succ, List.getElem_cons_zero, List.setIfInBounds_toArray, List.set_cons_zero, List.set_cons_succ]
      refine wpAnyH_ready (rs := [17]) (by kernel_rfl) (by simp) ?_
      refine AllReadyH.cons (o := _) rfl (fun K hK => ?_) AllReadyH.nil
      go_simp
      go_at_call 20
      refine (brokenB hHeld.1).mono ?_
      rintro e w5 ⟨rfl, rfl⟩
      refine hK.out _ _ hHeld (fun hHeld => ?_)
      clear hK K
      try simp only [Act.put, List.getElem_toArray, List.getElem_cons_succ, List.getElem_cons_zero, List.setIfInBounds_toArray, List.set_cons_zero, List.set_cons_succ]
      refine wpAnyH_take (i := 22) (oi := _) (v := ?_) rfl (by kernel_rfl) (by kernel_rfl) (by kernel_rfl) (fun _ _ _ h => h) (Or.inl ⟨by kernel_rfl, ?_⟩) hHeld ?_
      rotate_left
      · (intro w hSw; go_simp; try with_reducible rfl)
      try simp only [Act.put, List.getElem_toArray, List.getElem_cons_succ, List.getElem_cons_zero, List.setIfInBounds_toArray, List.set_cons_zero, List.set_cons_succ]
      refine wpAnyH_take (i := 23) (oi := _) (v := ?_) rfl (by kernel_rfl) (by kernel_rfl) (by kernel_rfl) (fun _ _ _ h => h) (Or.inl ⟨by kernel_rfl, ?_⟩) hHeld ?_
      rotate_left
      · (intro w hSw; go_simp; try with_reducible rfl)
      try simp only [Act.put, List.getElem_toArray, List.getElem_cons_succ, List.getElem_cons_zero, List.setIfInBounds_toArray, List.set_cons_zero, List.set_cons_succ]
      refine wpAnyH_take (i := 24) (oi := _) (v := ?_) rfl (by kernel_rfl) (by kernel_rfl) (by kernel_rfl) (fun _ _ _ h => h) (Or.inl ⟨by kernel_rfl, ?_⟩) hHeld ?_
      rotate_left
      · (intro w hSw; go_simp; try with_reducible rfl)
      try simp only [Act.put, List.getElem_toArray, List.getElem_cons_succ, List.getElem_cons_zero, List.setIfInBounds_toArray, List.set_cons_zero, List.set_cons_succ]
      refine wpAnyH_take (i := 25) (oi := _) (v := ?_) rfl (by kernel_rfl) (by kernel_rfl) (by kernel_rfl) (fun _ _ _ h => h) (Or.inl ⟨by kernel_rfl, ?_⟩) hHeld ?_
      rotate_left
      · (intro w hSw; go_simp; try with_reducible rfl)
      try simp only [Act.put, List.getElem_toArray, List.getElem_cons_succ, List.getElem_cons_zero, List.setIfInBounds_toArray, List.set_cons_zero, List.set_cons_succ]
      refine wpAnyH_take (i := 27) (oi := _) (v := ?_) rfl (by kernel_rfl) (by kernel_rfl) (by kernel_rfl) (fun _ _ _ h => h) (Or.inl ⟨by kernel_rfl, ?_⟩) hHeld ?_
      rotate_left
      · (intro w hSw; go_simp; try with_reducible rfl)
      try simp only [Act.put, List.getElem_toArray, List.getElem_cons_succ, List.getElem_cons_zero, List.setIfInBounds_toArray, List.set_cons_zero, List.set_cons_succ]
      refine wpAnyH_ready (rs := [26]) (by kernel_rfl) (by simp) ?_
      refine AllReadyH.cons (o := _) rfl (fun K hK => ?_) AllReadyH.nil
      go_simp
      go_at_call 21
      refine (roomB hHeld.1 hfit hn4).mono ?_
      rintro e w6 ⟨rfl, hw6⟩
      obtain ⟨km, hkm⟩ := hw6
      have hk6 := keepY I hHeld (w' := w6) (by rw [hkm]; exact below_drewN (Below.refl _ _) km)
      clear hkm
      refine hK.out _ _ hk6 (fun hHeld => ?_)
      clear hK K
      try simp only [Act.put, List.getElem_toArray, List.getElem_cons_succ, List.getElem_cons_zero, List.setIfInBounds_toArray, List.set_cons_zero, List.set_cons_succ]
      refine wpAnyH_ready (rs := [28]) (by kernel_rfl) (by simp) ?_
      refine AllReadyH.cons (o := _) rfl (fun K hK => ?_) AllReadyH.nil
      go_simp
      go_at_call 22
      refine (rroomB hHeld.1 hfit hn4).mono ?_
      rintro e w6 ⟨rfl, hw6⟩
      obtain ⟨km, hkm⟩ := hw6
      have hk6 := keepY I hHeld (w' := w6) (by rw [hkm]; exact below_drewN (Below.refl _ _) km)
      clear hkm
      refine hK.out _ _ hk6 (fun hHeld => ?_)
      clear hK K
      try simp only [Act.put, List.getElem_toArray, List.getElem_cons_succ, List.getElem_cons_zero, List.setIfInBounds_toArray, List.set_cons_zero, List.set_cons_succ]
      refine wpAnyH_take (i := 29) (oi := _) (v := ?_) rfl (by kernel_rfl) (by kernel_rfl) (by kernel_rfl) (fun _ _ _ h => h) (Or.inl ⟨by kernel_rfl, ?_⟩) hHeld ?_
      rotate_left
      · (intro w hSw; go_simp; try with_reducible rfl)
      try simp only [Act.put, List.getElem_toArray, List.getElem_cons_succ, List.getElem_cons_zero, List.setIfInBounds_toArray, List.set_cons_zero, List.set_cons_succ]
      refine wpAnyH_take (i := 30) (oi := _) (v := ?_) rfl (by kernel_rfl) (by kernel_rfl) (by kernel_rfl) (fun _ _ _ h => h) (Or.inl ⟨by kernel_rfl, ?_⟩) hHeld ?_
      rotate_left
      · (intro w hSw; go_simp; try with_reducible rfl)
      try simp only [Act.put, List.getElem_toArray, List.getElem_cons_succ, List.getElem_cons_zero, List.setIfInBounds_toArray, List.set_cons_zero, List.set_cons_succ]
      refine wpAnyH_done (by kernel_rfl) ?_ _
      clear h8 hY
      have hEnd := hHeld.1.less
      clear hHeld
      go_wp2
      go_roundw
      case rel => exact ⟨t + 1, d', S', x', y', by omega, by omega, by go_num, rfl, rfl, hEnd, q'⟩
      case measure => simp [intOf]; omega
    · have tl : ¬ ((t : Int) < m ∧ (t : Int) < 40) := by omega
      have hEnd := hd.bel
      clear hd
      by_cases htm2 : t < m
      · have t1 : (t : Int) < m := by omega
        have t2 : ¬ ((t : Int) < 40) := by omega
        go_wp2
        go_ret
        exact ⟨rfl, hEnd⟩
      · have t1 : ¬ ((t : Int) < m) := by omega
        go_wp2
        go_ret
        exact ⟨rfl, hEnd⟩
end
end Go.Proofs.YtnpoohkklfpmdaaGreat.slotsPlays
