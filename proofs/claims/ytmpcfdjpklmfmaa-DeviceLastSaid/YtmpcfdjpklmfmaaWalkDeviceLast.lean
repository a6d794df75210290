/- The walk of DeviceLast, over whatever keeps to Iface. -/
import Derived.Test.YtmpcfdjpklmfmaaRows
import Derived.WalkKit
import Derived.Below
import Derived.ProofKit
import Derived.OpenShut
import Derived.ShutString
import Derived.ChangeOld
import Derived.Outline
import Derived.RegionTactic
import Derived.ChangeAlike
import Derived.BigRegion
import Derived.BigQuiet
import Derived.Deep.QuietTactic
import Derived.Deep.RegionWith
import Derived.Deep.RegionLaw
import Derived.Deep.RegionHeld3
import Derived.Deep.AppendLies
import Derived.Deep.Draws
import Derived.StillTailTactics
import Derived.Lib.Hide
import Derived.Lib.SmallJoins
import Derived.Handy
import Derived.WalkSpells
import Derived.WalkLawsBesides
import Derived.Deep.LoopGhost
import Derived.Deep.DeepCutAuto
import Derived.Deep.CutBlock
import Derived.Deep.CutRange
import Derived.Deep.OwnRows
import Derived.Laws.CopyOwn
import Derived.Great.BuildSlice
import Derived.Test.YtmpcfdjpklmfmaaDevJ
import Derived.Test.YtmpcfdjpklmfmaaDevK
import Derived.Test.YtmpcfdjpklmfmaaBitsLow
namespace Go.Proofs.Ytmpcfdjpklmfmaa.deviceLast
open Go.RowKit
set_option linter.unusedSimpArgs false
set_option linter.unusedVariables false
set_option linter.unnecessarySimpa false
/-- A slice of pairs of bytes, read in w below block B. -/
def PairsAt (w : World) (B : Nat) (a : Option Addr) (n : Nat) (ls : List (UInt8 × UInt8)) : Prop :=
  ls.length = n ∧ (0 < n → ∃ b off, a = some ⟨b, off, none⟩ ∧ b < B ∧ ∀ k x, ls[k]? = some x → w.cell? ⟨b, off + k * 2, none⟩ = some (.int .u8 x.1.toNat) ∧ w.cell? ⟨b, off + k * 2 + 1, none⟩ = some (.int .u8 x.2.toNat))
theorem PairsAt.below {w w' : World} {B : Nat} {a : Option Addr} {n : Nat} {ls : List (UInt8 × UInt8)} (h : PairsAt w B a n ls) (hb : Below B w w') : PairsAt w' B a n ls :=
  ⟨h.1, fun h0 => by
    obtain ⟨b, off, e, hlt, hc⟩ := h.2 h0
    refine ⟨b, off, e, hlt, fun k x hk => ?_⟩
    obtain ⟨h1, h2⟩ := hc k x hk
    exact ⟨(hb.cell (p := ⟨b, off + k * 2, none⟩) hlt).trans h1, (hb.cell (p := ⟨b, off + k * 2 + 1, none⟩) hlt).trans h2⟩⟩
theorem bcells_one (l : List UInt8) : (bcells l).toArray.all (·.oneCell') = true := by simp [bcells, Value.oneCell']
theorem lastW_snoc (ws : List (Nat × List UInt8)) (k j : Nat) (x s : List UInt8) : lastW (ws ++ [(k, x)]) j s = if k = j then x else lastW ws j s := by simp [lastW]
theorem layW_get (ws : List (Nat × List UInt8)) : ∀ (s : List (List UInt8)) (j : Nat), j < s.length → (layW s ws).getD j [] = lastW ws j (s.getD j []) := by
  induction ws with
  | nil => exact fun s j _ => rfl
  | cons w ws ih =>
    intro s j hj
    show (layW (s.set w.1 w.2) ws).getD j [] = lastW ws j (if w.1 = j then w.2 else s.getD j [])
    rw [ih _ _ (by simpa using hj)]
    congr 1
    by_cases e : w.1 = j
    · subst e; simp [List.getD, hj]
    · simp [List.getD, List.getElem?_set, e]
/-- What the law keeps of the device: the last byte that was written to each sector, and the last one that is safe. -/
structure Kept (d : Dv) (want safe : List UInt8) (steps m : Nat) : Prop where
  go : Going d 4 false 0 steps m
  wl : want.length = 4
  sl : safe.length = 4
  last : ∀ j, j < 4 → lastW d.waits j (d.safe.getD j []) = sec (want.getD j 0)
  safe : ∀ j, j < 4 → d.safe.getD j [] = sec (safe.getD j 0)
theorem Kept.write {d : Dv} {want safe : List UInt8} {steps m : Nat} (h : Kept d want safe steps m) (k : Nat) (c : UInt8) (hk : k < 4) : writeD d k (sec c) = ((writeD d k (sec c)).1, 0) ∧ Kept (writeD d k (sec c)).1 (want.set k c) safe (steps + 1) (m + 1) := by
  obtain ⟨e, q⟩ := h.go.write (fun h => by cases h) k (sec c) hk (sec_len c)
  refine ⟨Prod.ext rfl (by rw [e]), q, by simp [h.wl], h.sl, fun j hj => ?_, fun j hj => ?_⟩
  · rw [e]
    simp only [stepD_safe]
    rw [lastW_snoc, h.last j hj]
    by_cases q : k = j
    · subst q; simp [List.getD, h.wl, hk]
    · simp [List.getD, List.getElem?_set, q]
  · rw [e]
    simp only [stepD_safe]
    exact h.safe j hj
theorem Kept.flush {d : Dv} {want safe : List UInt8} {steps m : Nat} (h : Kept d want safe steps m) : flushD d = ((flushD d).1, 0) ∧ Kept (flushD d).1 want want (steps + 1) 0 := by
  obtain ⟨e, q⟩ := h.go.flush (fun h => by cases h)
  have hg : ∀ j, j < 4 → (layW d.safe d.waits).getD j [] = sec (want.getD j 0) := fun j hj => by
    rw [layW_get _ _ _ (by rw [h.go.safe]; exact hj)]; exact h.last j hj
  refine ⟨Prod.ext rfl (by rw [e]), q, h.wl, h.wl, fun j hj => ?_, fun j hj => ?_⟩
  · rw [e]; exact hg j hj
  · rw [e]; exact hg j hj
theorem Kept.cast {d : Dv} {want safe : List UInt8} {steps m : Nat} (h : Kept d want safe steps m) {m' : Nat} (hm : m ≤ m') : Kept d want safe steps m' := ⟨h.go.cast rfl hm, h.wl, h.sl, h.last, h.safe⟩
theorem kept_new : Kept (newD 4) [0, 0, 0, 0] [0, 0, 0, 0] 0 0 := ⟨newD_going 4, rfl, rfl, fun j hj => by
    match j, hj with
    | 0, _ => rfl
    | 1, _ => rfl
    | 2, _ => rfl
    | 3, _ => rfl, fun j hj => by
    match j, hj with
    | 0, _ => rfl
    | 1, _ => rfl
    | 2, _ => rfl
    | 3, _ => rfl⟩
section
variable {PD : World → List Nat → Nat → Dv → Prop} (I : Iface PD)
include I
set_option maxHeartbeats 2000000 in
set_option maxRecDepth 100000 in
theorem walk (a : Option Addr) (n c : Nat) (ls : List (UInt8 × UInt8)) (z : Int) (W : World) (hnc : n ≤ c) (hcm : c ≤ maxLen) (ha : PairsAt W W.heap.size a n ls) (z0 : -9223372036854775808 ≤ z) (z1 : z < 9223372036854775808) : Calls Try.prog 7 #[.slice a n c, .int .i64 z] W fun e w' => e = .returned (.bool true) ∧ Below W.heap.size W w' := by
  obtain ⟨f, hfl⟩ : ∃ f : Nat, z % 32 = (f : Int) := ⟨(z % 32).toNat, by omega⟩
  have hand : bits .and .i64 z 31 = (f : Int) := by rw [and31, hfl]
  clear hfl z0 z1
  go_enter Try.func7, Try.ntmps7
  go_wp2_with fail
  refine (awake6_any I W).mono ?_
  rintro e w1 ⟨rfl, g1⟩
  go_wp2_with fail
  refine (I.newH (L := []) 4 g1 (by omega) (by omega) (fun r hr => by cases hr)).mono ?_
  rintro e w2 ⟨p, rfl, h2⟩
  have q2 := kept_new
  generalize newD 4 = d2 at *
  go_upto_region 7 with (fail)
  obtain ⟨bw, hbw⟩ : ∃ bw, bw = w2.heap.size := ⟨_, rfl⟩
  have h3 := (h2.alloc I (bcells [0, 0, 0, 0]) 58).alloc I (bcells [0, 0, 0, 0]) 58
  rw [show (w2.alloc (.cells (bcells [0, 0, 0, 0]).toArray 58)).heap.size = bw + 1 from by rw [hbw]; simp, ← hbw] at h3
  rw [← hbw]
  generalize hw3 : World.alloc _ _ = w3
  have h3' : Hd PD [(bw + 1, bcells [0, 0, 0, 0], 58), (bw, bcells [0, 0, 0, 0], 58)] W w3 p d2 := by rw [← hw3]; exact h3
  clear hw3 h3 h2 hbw
  go_wp2
  go_loopw [9, 10] (fun i _ wr => ∃ (t : Nat) (d : Dv) (want safe : List UInt8) (steps m : Nat), t ≤ n ∧ t ≤ 20 ∧ i = .int .i64 t ∧ steps ≤ 2 * t ∧ m ≤ t ∧ Hd PD [(bw + 1, bcells safe, 58), (bw, bcells want, 58)] W wr p d ∧ Kept d want safe steps m) (fun i _ _ => 20 - (intOf i).toNat)
  case atStart => exact ⟨0, d2, [0, 0, 0, 0], [0, 0, 0, 0], 0, 0, by omega, by omega, rfl, by omega, by omega, h3', q2⟩
  case round =>
    clear h3' q2 d2
    obtain ⟨t, d, want, safe, steps, m, htn, ht20, rfl, hst, hmt, hd, hq⟩ := hrel
    have hf := hq.go.few (by omega) (by omega) (by omega) (by omega)
    by_cases hlt : t < n ∧ t < 20
    · have tl : (t : Int) < n := by omega
      have tl2 : (t : Int) < 20 := by omega
      obtain ⟨b, off, rfl, hbW, hc⟩ := (ha.below hd.bel).2 (by omega)
      obtain ⟨⟨x, y⟩, hx⟩ : ∃ x, ls[t]? = some x := ⟨ls[t]'(by rw [ha.1]; exact hlt.1), List.getElem?_eq_getElem _⟩
      obtain ⟨cx, cy⟩ := hc t (x, y) hx
      simp only at cx cy
      obtain ⟨k, hk⟩ : ∃ k, k = x.toNat % 4 := ⟨_, rfl⟩
      have k4 : k < 4 := by omega
      have kI : (k : Int) < 4 := by omega
      have hand8 : bits .and .u8 (x.toNat : Nat) 3 = (k : Int) := by
        rw [hk]
        have hx' := x.toNat_lt
        have e3 : (BitVec.ofInt 8 3).toNat = 2 ^ 2 - 1 := by decide
        have key : (BitVec.ofInt 8 (x.toNat : Nat) &&& BitVec.ofInt 8 3).toNat = x.toNat % 4 := by
          rw [BitVec.toNat_and, e3, Nat.and_two_pow_sub_one_eq_mod, BitVec.ofInt_natCast, BitVec.toNat_ofNat, Nat.mod_eq_of_lt hx']
        show IntKind.u8.wrap ((BitVec.ofInt 8 (x.toNat : Nat) &&& BitVec.ofInt 8 3).toNat : Nat) = _
        rw [key]
        exact IntWalk.u8_in _ (by omega)
      have HBW := Lib.hid hbW
      have HX := Lib.hid hx
      obtain ⟨e1, q1⟩ := hq.write k y k4
      have E1 := Lib.hid (congrArg Prod.snd e1)
      clear hc hx hk e1
      go_wp2_with fail
      refine (sector_any y wr).mono ?_
      rintro e w4 ⟨rfl, g4⟩
      have h4 := hd.below I g4
      go_wp2_with fail
      refine (I.writeH (k : Int) (sec y) h4 hf hq.go.ok (by rw [sec_len]; decide)).mono ?_
      rw [E1.out]
      rintro e w5 ⟨rfl, h5⟩
      obtain ⟨b', off', eab, _, hc5⟩ := (ha.below h5.bel).2 (by omega)
      have cy5 := (hc5 t (x, y) HX.out).2
      obtain ⟨rfl, rfl⟩ : b = b' ∧ off = off' := by simpa using eab
      simp only at cy5
      have rw5 := h5.row 1 rfl
      have hwl := hq.wl
      have cw := rw5.c k (v := .int .u8 (want.getD k 0).toNat) (bcells_get (by omega))
      have fw := rw5.f k
      have h6 := h5.set I 1 rfl (List.pairwise_cons.2 ⟨fun r hr => by rw [List.mem_singleton.1 hr]; simp, List.pairwise_singleton _ _⟩) k (.int .u8 y.toNat)
      rw [bcells_set] at h6
      simp only [List.set_cons_succ, List.set_cons_zero] at h6
      clear hc5 eab
      by_cases htf : t = f
      · have dtf : ((t : Int) == (f : Int)) = true := by simp [htf]
        clear htf
        generalize hd5 : (writeD d (k : Int) (sec y)).1 = d5 at *
        clear hd5 h5 hd hq g4 h4 cx cy rw5
        go_upto_region 15 with (fail)
        generalize World.setCell _ _ _ = w6 at *
        have hf6 := q1.go.few (by omega) (by omega) (by omega) (by omega)
        obtain ⟨e7, q7⟩ := q1.flush
        have E7 := Lib.hid (congrArg Prod.snd e7)
        clear e7
        go_wp2_with fail
        refine (I.flushH h6 hf6 q1.go.ok).mono ?_
        rw [E7.out]
        rintro e w7 ⟨rfl, h7⟩
        generalize (flushD d5).1 = d7 at *
        have r7 := h7.row 1 rfl
        have s7 := h7.row 0 rfl
        go_upto_region 17 with (fail)
        have hpa : [(bw + 1, bcells safe, 58), (bw, bcells (want.set k y), 58)].Pairwise (fun r s => r.1 ≠ s.1) := List.pairwise_cons.2 ⟨fun r hr => by rw [List.mem_singleton.1 hr]; simp, List.pairwise_singleton _ _⟩
        have h8 := h7.put I 0 rfl hpa (bcells (want.set k y))
        have hsl := q1.sl
        have hwl2 := q1.wl
        go_wp2_with (first
          | (refine wpList_load_g (by rfl) 58 (.tmp 7) rfl bw rfl (bcells (want.set k y)) (.array 4 5) (range_row r7) Try.underlying58 rfl (by rw [bcells_len, hwl2]; kernel_rfl) ?_)
          | (refine wpList_store_row rfl 58 (.tmp 8) (.tmp 59) rfl (bw + 1) (bcells (want.set k y)).toArray rfl rfl 58 (bcells safe).toArray s7 (by rw [List.size_toArray, bcells_len, hwl2]; kernel_rfl) (by rw [List.size_toArray, List.size_toArray, bcells_len, bcells_len, hwl2, hsl]) (bcells_one _) ?_))
        go_roundw
        case rel => exact ⟨t + 1, d7, want.set k y, want.set k y, steps + 1 + 1, 0, by omega, by omega, by go_num, by omega, by omega, h8, q7⟩
        case measure => simp [intOf]; omega
      · have dtf : ((t : Int) == (f : Int)) = false := by simp; omega
        have htfI : ¬ ((t : Int) = f) := by omega
        generalize hd5 : (writeD d (k : Int) (sec y)).1 = d5 at *
        clear hd5 h5 hd hq g4 h4 cx cy rw5
        go_wp2
        go_roundw
        case rel => exact ⟨t + 1, d5, want.set k y, safe, steps + 1, m + 1, by omega, by omega, by go_num, by omega, by omega, h6, q1⟩
        case measure => simp [intOf]; omega
    · have hg : ¬ ((t : Int) < n) ∨ ¬ ((t : Int) < 20) := by omega
      have hrest : ∀ (K' : Prop), K' → K' := fun _ h => h
      have wl := hq.wl
      have sl := hq.sl
      have HQ := Lib.hid hq
      clear hq hand
      clear hg hrest
      rcases (show (¬ t < n ∧ ¬ ((t : Int) < n)) ∨ (t < n ∧ (t : Int) < n ∧ ¬ t < 20 ∧ ¬ ((t : Int) < 20)) from by omega) with ⟨g0, g1'⟩ | ⟨g0, g1', g2, g3⟩
      all_goals
        go_wp2
        go_loopw [11, 12, 13] (fun i _ _ wq => ∃ j : Nat, j ≤ 4 ∧ i = .int .i64 j ∧ Hd PD [(bw + 1, bcells safe, 58), (bw, bcells want, 58)] W wq p d) (fun i _ _ _ => 4 - (intOf i).toNat)
        case atStart => exact ⟨0, by omega, rfl, hd⟩
        case round =>
          clear hd
          obtain ⟨j, hj, rfl, hd⟩ := hrel
          have hq := HQ.out
          by_cases hj4 : j < 4
          · have jl : (j : Int) < 4 := by omega
            have hh := has_nat d (k := j) (by rw [hq.go.safe]; exact hj4)
            have e1 : readD d (j : Int) = (sec (want.getD j 0), 0) := by
              unfold readD
              rw [if_pos hq.go.on, if_pos hh, Int.toNat_natCast, hq.last j hj4]
            have e2 : safeD d (j : Int) = sec (safe.getD j 0) := by
              unfold safeD
              rw [if_pos hh, Int.toNat_natCast, hq.safe j hj4]
            have E1 := Lib.hid e1
            have E2 := Lib.hid e2
            clear e1 e2 hh
            go_wp2_with fail
            refine (I.readH (j : Int) hd hf hq.go.ok).mono ?_
            rw [E1.out]
            rintro e w4 ⟨rfl, h4⟩
            have rw4 := h4.row 1 rfl
            have rs4 := h4.row 0 rfl
            have cw := rw4.c j (v := .int .u8 (want.getD j 0).toNat) (bcells_get (by omega))
            have cs := rs4.c j (v := .int .u8 (safe.getD j 0).toNat) (bcells_get (by omega))
            have hok := hq.go.ok
            have HCW := Lib.hid (show (bcells want)[j]? = some (.int .u8 (want.getD j 0).toNat) from bcells_get (by omega))
            have HCS := Lib.hid (show (bcells safe)[j]? = some (.int .u8 (safe.getD j 0).toNat) from bcells_get (by omega))
            generalize want.getD j 0 = cwant at *
            generalize safe.getD j 0 = csafe at *
            go_wp2
            refine wp_region_held_drew (S := fun w => Hd PD [(bw + 1, bcells safe, 58), (bw, bcells want, 58)] W w p d) (by kernel_rfl) (h4.drew I) (fun hHeld => ?_)
            refine wpAnyH_take (i := 0) (oi := _) (v := ?_) rfl (by kernel_rfl) (by kernel_rfl) (by kernel_rfl) (fun _ _ _ h => h) (Or.inl ⟨by kernel_rfl, ?_⟩) hHeld ?_
            rotate_left
            · (intro w hSw; go_simp; try with_reducible rfl)
            try simp only [Act.put, List.getElem_toArray, List.getElem_cons_succ, List.getElem_cons_zero, List.setIfInBounds_toArray, List.set_cons_zero, List.set_cons_succ]
            refine wpAnyH_take (i := 1) (oi := _) (v := ?_) rfl (by kernel_rfl) (by kernel_rfl) (by kernel_rfl) (fun _ _ _ h => h) (Or.inl ⟨by kernel_rfl, ?_⟩) hHeld ?_
            rotate_left
            · (intro w hSw; go_simp; try with_reducible rfl)
            try simp only [Act.put, List.getElem_toArray, List.getElem_cons_succ, List.getElem_cons_zero, List.setIfInBounds_toArray, List.set_cons_zero, List.set_cons_succ]
            refine wpAnyH_take (i := 2) (oi := _) (v := ?_) rfl (by kernel_rfl) (by kernel_rfl) (by kernel_rfl) (fun _ _ _ h => h) (Or.inl ⟨by kernel_rfl, ?_⟩) hHeld ?_
            rotate_left
            · (intro w hSw; go_simp; try with_reducible rfl)
            try simp only [Act.put, List.getElem_toArray, List.getElem_cons_succ, List.getElem_cons_zero, List.setIfInBounds_toArray, List.set_cons_zero, List.set_cons_succ]
            refine wpAnyH_take (i := 3) (oi := _) (v := ?_) rfl (by kernel_rfl) (by kernel_rfl) (by kernel_rfl) (fun _ _ _ h => h) (Or.inl ⟨by kernel_rfl, ?_⟩) hHeld ?_
            rotate_left
            · (intro w hSw; go_simp; try with_reducible rfl)
            try simp only [Act.put, List.getElem_toArray, List.getElem_cons_succ, List.getElem_cons_zero, List.setIfInBounds_toArray, List.set_cons_zero, List.set_cons_succ]
            refine wpAnyH_take (i := 4) (oi := _) (v := ?_) rfl (by kernel_rfl) (by kernel_rfl) (by kernel_rfl) (fun _ _ _ h => h) (Or.inl ⟨by kernel_rfl, ?_⟩) hHeld ?_
            rotate_left
            · (intro w hSw; go_simp; try with_reducible rfl)
            try simp only [Act.put, List.getElem_toArray, List.getElem_cons_succ, List.getElem_cons_zero, List.setIfInBounds_toArray, List.set_cons_zero, List.set_cons_succ]
            refine wpAnyH_take (i := 5) (oi := _) (v := ?_) rfl (by kernel_rfl) (by kernel_rfl) (by kernel_rfl) (fun _ _ _ h => h) (Or.inl ⟨by kernel_rfl, ?_⟩) hHeld ?_
            rotate_left
            · (intro w hSw; go_simp; try with_reducible rfl)
            try simp only [Act.put, List.getElem_toArray, List.getElem_cons_succ, List.getElem_cons_zero, List.setIfInBounds_toArray, List.set_cons_zero, List.set_cons_succ]
            refine wpAnyH_take (i := 6) (oi := _) (v := ?_) rfl (by kernel_rfl) (by kernel_rfl) (by kernel_rfl) (fun _ _ _ h => h) (Or.inl ⟨by kernel_rfl, ?_⟩) hHeld ?_
            rotate_left
            · (intro w hSw; have cq := (Hd.row hSw 1 rfl).c j HCW.out; go_simp; try with_reducible rfl)
            try simp only [Act.put, List.getElem_toArray, List.getElem_cons_succ, List.getElem_cons_zero, List.setIfInBounds_toArray, List.set_cons_zero, List.set_cons_succ]
            refine wpAnyH_ready (rs := [7]) (by kernel_rfl) (by simp) ?_
            refine AllReadyH.cons (o := _) rfl (fun K hK => ?_) AllReadyH.nil
            go_simp
            go_at_call 20
            refine (sector_any cwant _).mono ?_
            rintro e w5 ⟨rfl, g5⟩
            refine hK.out _ _ (Hd.below I hHeld g5) (fun hHeld => ?_)
            clear hK K
            try simp only [Act.put, List.getElem_toArray, List.getElem_cons_succ, List.getElem_cons_zero, List.setIfInBounds_toArray, List.set_cons_zero, List.set_cons_succ]
            refine wpAnyH_take (i := 8) (oi := _) (v := ?_) rfl (by kernel_rfl) (by kernel_rfl) (by kernel_rfl) (fun _ _ _ h => h) (Or.inl ⟨by kernel_rfl, ?_⟩) hHeld ?_
            rotate_left
            · (intro w hSw; go_simp; try with_reducible rfl)
            try simp only [Act.put, List.getElem_toArray, List.getElem_cons_succ, List.getElem_cons_zero, List.setIfInBounds_toArray, List.set_cons_zero, List.set_cons_succ]
            refine wpAnyH_take (i := 9) (oi := _) (v := ?_) rfl (by kernel_rfl) (by kernel_rfl) (by kernel_rfl) (fun _ _ _ h => h) (Or.inl ⟨by kernel_rfl, ?_⟩) hHeld ?_
            rotate_left
            · (intro w hSw; go_simp; try with_reducible rfl)
            try simp only [Act.put, List.getElem_toArray, List.getElem_cons_succ, List.getElem_cons_zero, List.setIfInBounds_toArray, List.set_cons_zero, List.set_cons_succ]
            refine wpAnyH_take (i := 10) (oi := _) (v := ?_) rfl (by kernel_rfl) (by kernel_rfl) (by kernel_rfl) (fun _ _ _ h => h) (Or.inl ⟨by kernel_rfl, ?_⟩) hHeld ?_
            rotate_left
            · (intro w hSw; go_simp; try with_reducible rfl)
            try simp only [Act.put, List.getElem_toArray, List.getElem_cons_succ, List.getElem_cons_zero, List.setIfInBounds_toArray, List.set_cons_zero, List.set_cons_succ]
            refine wpAnyH_take (i := 11) (oi := _) (v := ?_) rfl (by kernel_rfl) (by kernel_rfl) (by kernel_rfl) (fun _ _ _ h => h) (Or.inl ⟨by kernel_rfl, ?_⟩) hHeld ?_
            rotate_left
            · (intro w hSw; go_simp; try with_reducible rfl)
            try simp only [Act.put, List.getElem_toArray, List.getElem_cons_succ, List.getElem_cons_zero, List.setIfInBounds_toArray, List.set_cons_zero, List.set_cons_succ]
            refine wpAnyH_take (i := 12) (oi := _) (v := ?_) rfl (by kernel_rfl) (by kernel_rfl) (by kernel_rfl) (fun _ _ _ h => h) (Or.inl ⟨by kernel_rfl, ?_⟩) hHeld ?_
            rotate_left
            · (intro w hSw; go_simp; try with_reducible rfl)
            try simp only [Act.put, List.getElem_toArray, List.getElem_cons_succ, List.getElem_cons_zero, List.setIfInBounds_toArray, List.set_cons_zero, List.set_cons_succ]
            refine wpAnyH_take (i := 14) (oi := _) (v := ?_) rfl (by kernel_rfl) (by kernel_rfl) (by kernel_rfl) (fun _ _ _ h => h) (Or.inl ⟨by kernel_rfl, ?_⟩) hHeld ?_
            rotate_left
            · (intro w hSw; go_simp; try with_reducible rfl)
            try simp only [Act.put, List.getElem_toArray, List.getElem_cons_succ, List.getElem_cons_zero, List.setIfInBounds_toArray, List.set_cons_zero, List.set_cons_succ]
            refine wpAnyH_take (i := 15) (oi := _) (v := ?_) rfl (by kernel_rfl) (by kernel_rfl) (by kernel_rfl) (fun _ _ _ h => h) (Or.inl ⟨by kernel_rfl, ?_⟩) hHeld ?_
            rotate_left
            · (intro w hSw; go_simp; try with_reducible rfl)
            try simp only [Act.put, List.getElem_toArray, List.getElem_cons_succ, List.getElem_cons_zero, List.setIfInBounds_toArray, List.set_cons_zero, List.set_cons_succ]
            refine wpAnyH_take (i := 16) (oi := _) (v := ?_) rfl (by kernel_rfl) (by kernel_rfl) (by kernel_rfl) (fun _ _ _ h => h) (Or.inl ⟨by kernel_rfl, ?_⟩) hHeld ?_
            rotate_left
            · (intro w hSw; have cq := (Hd.row hSw 0 rfl).c j HCS.out; go_simp; try with_reducible rfl)
            try simp only [Act.put, List.getElem_toArray, List.getElem_cons_succ, List.getElem_cons_zero, List.setIfInBounds_toArray, List.set_cons_zero, List.set_cons_succ]
            refine wpAnyH_ready (rs := [13]) (by kernel_rfl) (by simp) ?_
            refine AllReadyH.cons (o := _) rfl (fun K hK => ?_) AllReadyH.nil
            go_simp
            go_at_call 28
            refine (I.safeH (j : Int) hHeld hf hok).mono ?_
            rw [E2.out]
            rintro e w6 ⟨rfl, h6⟩
            refine hK.out _ _ (h6) (fun hHeld => ?_)
            clear hK K
            try simp only [Act.put, List.getElem_toArray, List.getElem_cons_succ, List.getElem_cons_zero, List.setIfInBounds_toArray, List.set_cons_zero, List.set_cons_succ]
            refine wpAnyH_ready (rs := [17]) (by kernel_rfl) (by simp) ?_
            refine AllReadyH.cons (o := _) rfl (fun K hK => ?_) AllReadyH.nil
            go_simp
            go_at_call 20
            refine (sector_any csafe _).mono ?_
            rintro e w7 ⟨rfl, g7⟩
            refine hK.out _ _ (Hd.below I hHeld g7) (fun hHeld => ?_)
            clear hK K
            try simp only [Act.put, List.getElem_toArray, List.getElem_cons_succ, List.getElem_cons_zero, List.setIfInBounds_toArray, List.set_cons_zero, List.set_cons_succ]
            refine wpAnyH_take (i := 18) (oi := _) (v := ?_) rfl (by kernel_rfl) (by kernel_rfl) (by kernel_rfl) (fun _ _ _ h => h) (Or.inl ⟨by kernel_rfl, ?_⟩) hHeld ?_
            rotate_left
            · (intro w hSw; go_simp; try with_reducible rfl)
            try simp only [Act.put, List.getElem_toArray, List.getElem_cons_succ, List.getElem_cons_zero, List.setIfInBounds_toArray, List.set_cons_zero, List.set_cons_succ]
            refine wpAnyH_take (i := 19) (oi := _) (v := ?_) rfl (by kernel_rfl) (by kernel_rfl) (by kernel_rfl) (fun _ _ _ h => h) (Or.inl ⟨by kernel_rfl, ?_⟩) hHeld ?_
            rotate_left
            · (intro w hSw; go_simp; try with_reducible rfl)
            try simp only [Act.put, List.getElem_toArray, List.getElem_cons_succ, List.getElem_cons_zero, List.setIfInBounds_toArray, List.set_cons_zero, List.set_cons_succ]
            refine wpAnyH_done (by kernel_rfl) ?_ _
            clear h4
            go_wp2
            go_roundw
            case rel => exact ⟨j + 1, by omega, by go_num, hHeld⟩
            case measure => simp [intOf]; omega
          · obtain rfl : j = 4 := by omega
            rw [show ((4 : Nat) : Int) = 4 from rfl]
            have hb := hd.bel
            clear hd
            go_wp2
            go_ret
            exact ⟨rfl, hb⟩
end
end Go.Proofs.Ytmpcfdjpklmfmaa.deviceLast
