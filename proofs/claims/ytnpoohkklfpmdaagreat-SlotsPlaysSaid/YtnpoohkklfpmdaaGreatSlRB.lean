/- The document's marks read. -/
import Derived.Test.YtnpoohkklfpmdaaGreatRows
import Derived.WalkKit
import Derived.Below
import Derived.ProofKit
import Derived.OpenShut
import Derived.ShutString
import Derived.ChangeOld
import Derived.Outline
import Derived.RegionTactic
import Derived.ChangeAlike
import Derived.BigRegion
import Derived.BigQuiet
import Derived.Deep.QuietTactic
import Derived.Deep.RegionWith
import Derived.Deep.RegionLaw
import Derived.Deep.RegionHeld3
import Derived.Deep.AppendLies
import Derived.Deep.Draws
import Derived.StillTailTactics
import Derived.Lib.Hide
import Derived.Lib.SmallJoins
import Derived.Handy
import Derived.WalkSpells
import Derived.WalkLawsBesides
import Derived.Deep.LoopGhost
import Derived.Deep.DeepCutAuto
import Derived.Deep.CutBlock
import Derived.Deep.CutRange
import Derived.Deep.OwnRows
import Derived.Laws.CopyOwn
import Derived.Great.BuildSlice
import Derived.Test.YtnpoohkklfpmdaaGreatSlRA
namespace Go.Proofs.YtnpoohkklfpmdaaGreat
open Go.RowKit
set_option linter.unusedSimpArgs false
set_option linter.unusedVariables false
set_option linter.unnecessarySimpa false
attribute [local go_sem] idx_list ext_list app_list
theorem vat_mid (s : List UInt8) (i : Nat) : (s.take (8 * i + 8)).drop (8 * i) = (s.drop (8 * i)).take 8 := by
  rw [List.drop_take]; congr 1; omega
theorem numR_vat (s : List UInt8) (i : Nat) : numR ((s.drop (8 * i)).take 8) = if vat s i ≤ 1099511627776 then (vat s i : Int) else -1 := by
  unfold numR vat
  rw [List.take_take]
  rfl
/-- What Unpack tells of no mark's sector, or of one. -/
theorem unp_no {s : List UInt8} (h : unpackM s = none) : (Value.tuple #[mkV (mkO s), .bool (unpackM s).isSome]) = .tuple #[.agg #[.int .i64 0, .int .i64 0, .int .i64 0], .bool false] := by
  rw [mkO, h]; rfl
theorem not_ok0 {s : List UInt8} (h : ¬ vat s 0 ≤ 1099511627776) : unpackM s = none := by
  unfold unpackM; rw [if_neg (fun q => h q.2.1.1)]
theorem not_ok1 {s : List UInt8} (h : ¬ vat s 1 ≤ 1099511627776) : unpackM s = none := by
  unfold unpackM; rw [if_neg (fun q => h q.2.1.2.1)]
theorem not_ok2 {s : List UInt8} (h : ¬ vat s 2 ≤ 1099511627776) : unpackM s = none := by
  unfold unpackM; rw [if_neg (fun q => h q.2.1.2.2)]
set_option maxHeartbeats 2000000 in
set_option maxRecDepth 100000 in
/-- The document's Unpack. -/
theorem rUnpack_any (s : List UInt8) (w : World) (hl : (s.length : Int) ≤ 9223372036854775807) :
    Calls Tryz.prog 48 #[.string ⟨s.toArray⟩] w fun e w' => e = .returned (.tuple #[mkV (mkO s), .bool (unpackM s).isSome]) ∧ Below w.heap.size w w' := by
  by_cases h64 : s.length = 64
  · have hlI : (s.length : Int) = 64 := by omega
    have hr0 := fun w => rNumber_any (s.take 8) w (by rw [List.length_take]; omega)
    have hr1 := fun w => rNumber_any ((s.take 16).drop 8) w (by rw [List.length_drop, List.length_take]; omega)
    have hr2 := fun w => rNumber_any ((s.take 24).drop 16) w (by rw [List.length_drop, List.length_take]; omega)
    have e0 := numR_vat s 0
    have e1 := numR_vat s 1
    have e2 := numR_vat s 2
    simp only [Nat.mul_zero, List.drop_zero, Nat.mul_one, Nat.reduceMul] at e0 e1 e2
    rw [← vat_mid s 1] at e1
    rw [show 16 = 8 * 2 from rfl, ← vat_mid s 2] at e2
    simp only [Nat.mul_one, Nat.reduceMul, Nat.reduceAdd] at e1 e2
    generalize numR (s.take 8) = n0 at *
    generalize numR ((s.take 16).drop 8) = n1 at *
    generalize numR ((s.take 24).drop 16) = n2 at *
    have E0 := Lib.hid e0
    have E1 := Lib.hid e1
    have E2 := Lib.hid e2
    have H64 := Lib.hid h64
    have H0 := Lib.hid hr0
    have H1 := Lib.hid hr1
    have H2 := Lib.hid hr2
    have bA : Below w.heap.size w (w.alloc (.cells #[.int .i64 0, .int .i64 0, .int .i64 0] 51)) := (Below.refl _ _).alloc (Nat.le_refl _) _
    have rA : Rw (w.alloc (.cells #[.int .i64 0, .int .i64 0, .int .i64 0] 51)) w.heap.size (ncs 0 0 0) 51 := Rw.new w (ncs 0 0 0) 51
    obtain ⟨wa, hwa⟩ : ∃ wa, wa = w.alloc (.cells #[.int .i64 0, .int .i64 0, .int .i64 0] 51) := ⟨_, rfl⟩
    rw [← hwa] at bA rA
    obtain ⟨g, hg⟩ : ∃ g, g = w.heap.size := ⟨_, rfl⟩
    have RA : Hid (Rw wa g (ncs 0 0 0) 51) := by rw [hg]; exact Lib.hid rA
    have BA := Lib.hid bA
    have GW : Hid (w.heap.size ≤ g) := Lib.hid (by omega)
    clear hr0 hr1 hr2 e0 e1 e2 h64 bA rA
    go_enter Tryz.func48, Tryz.ntmps48
    go_upto_region 3 with (fail)
    rw [← hwa, ← hg]
    clear hwa hg
    go_cut [4] (fun v wx => ∃ t, v = .pointer (some ⟨t, 0, none⟩) ∧ Hid (Rw wx t [.int .i64 n0, .int .i64 n1, .int .i64 n2] 51) ∧ Hid (Rw wx g (ncs 0 0 0) 51) ∧ Hid (Below w.heap.size w wx))
    case first =>
      go_region_held3 (fun _ => True)
        (first | (go_keep; done) | exact trivial)
        (first
          | ((with_reducible go_at_call 69); (with_reducible refine (H0.out _).mono ?_); rintro e w' ⟨rfl, rfl⟩)
          | ((with_reducible go_at_call 69); (with_reducible refine (H1.out _).mono ?_); rintro e w' ⟨rfl, rfl⟩)
          | ((with_reducible go_at_call 69); (with_reducible refine (H2.out _).mono ?_); rintro e w' ⟨rfl, rfl⟩))
      all_goals
        go_wp2_with fail
        go_meet
        exact ⟨_, rfl, Lib.hid (Rw.new wa _ _), Lib.hid (RA.out.alloc _), Lib.hid (BA.out.alloc BA.out.size _).drew⟩
    case rest =>
      obtain ⟨t, rfl, HT, HG, HB⟩ := hcut
      clear H0 H1 H2 RA BA
      have c0 := HT.out.c 0 (v := .int .i64 n0) rfl
      have c1 := HT.out.c 1 (v := .int .i64 n1) rfl
      have c2 := HT.out.c 2 (v := .int .i64 n2) rfl
      have d0 := HG.out.c 0 (v := .int .i64 ((0 : Nat) : Int)) rfl
      have d1 := HG.out.c 1 (v := .int .i64 ((0 : Nat) : Int)) rfl
      have d2 := HG.out.c 2 (v := .int .i64 ((0 : Nat) : Int)) rfl
      have e0 := HG.out.f 0
      have e1 := HG.out.f 1
      have e2 := HG.out.f 2
      by_cases h0 : vat s 0 ≤ 1099511627776
      · have f0 := E0.out
        rw [if_pos h0] at f0
        by_cases h1 : vat s 1 ≤ 1099511627776
        · have f1 := E1.out
          rw [if_pos h1] at f1
          by_cases h2 : vat s 2 ≤ 1099511627776
          · have f2 := E2.out
            rw [if_pos h2] at f2
            have hst := stp_3 H64.out h0 h1 h2
            obtain ⟨x0, hx0⟩ : ∃ x0, x0 = vat s 0 := ⟨_, rfl⟩
            obtain ⟨x1, hx1⟩ : ∃ x1, x1 = vat s 1 := ⟨_, rfl⟩
            obtain ⟨x2, hx2⟩ : ∃ x2, x2 = vat s 2 := ⟨_, rfl⟩
            rw [show Nk s 3 = ⟨vat s 0, vat s 1, vat s 2⟩ from rfl, ← hx0, ← hx1, ← hx2] at hst
            rw [← hx0] at f0
            rw [← hx1] at f1
            rw [← hx2] at f2
            rw [← hx0] at h0
            rw [← hx1] at h1
            rw [← hx2] at h2
            subst f0 f1 f2
            have HS1 := Lib.hid (stp_mk hst)
            have hpk : ∀ w, Calls Tryz.prog 40 #[.agg #[.int .i64 (x0 : Nat), .int .i64 (x1 : Nat), .int .i64 (x2 : Nat)]] w fun e w' => e = .returned (.string ⟨(packM ⟨x0, x1, x2⟩).toArray⟩) ∧ Below w.heap.size w w' := fun w => rPack_any ⟨x0, x1, x2⟩ w (by simp only; omega) (by simp only; omega) (by simp only; omega)
            have g0 : ¬ ((x0 : Int) < 0) := by omega
            have g1 : ¬ ((x1 : Int) < 0) := by omega
            have g2 : ¬ ((x2 : Int) < 0) := by omega
            have HPK := Lib.hid hpk
            clear hst hx0 hx1 hx2 hpk E0 E1 E2 H64 d0 d1 d2 e0 e1 e2
            go_wp2_with fail
            refine (HPK.out _).mono ?_
            rintro e w2 ⟨rfl, q2⟩
            have ht2 := HT.out.below q2
            have hg2 := HG.out.below q2
            have hb2 := HB.out.trans (q2.mono HB.out.size)
            have c0' := ht2.c 0 (v := .int .i64 (x0 : Nat)) rfl
            have c1' := ht2.c 1 (v := .int .i64 (x1 : Nat)) rfl
            have c2' := ht2.c 2 (v := .int .i64 (x2 : Nat)) rfl
            clear HT HPK q2 c0 c1 c2 ht2
            have HG := Lib.hid hg2
            have HB := Lib.hid hb2
            clear hg2 hb2
            have d0 := HG.out.c 0 (v := .int .i64 ((0 : Nat) : Int)) rfl
            have d1 := HG.out.c 1 (v := .int .i64 ((0 : Nat) : Int)) rfl
            have d2 := HG.out.c 2 (v := .int .i64 ((0 : Nat) : Int)) rfl
            have e0 := HG.out.f 0
            have e1 := HG.out.f 1
            have e2 := HG.out.f 2
            obtain ⟨P, hPp⟩ : ∃ P, P = packM ⟨x0, x1, x2⟩ := ⟨_, rfl⟩
            have HPp := Lib.hid hPp
            rw [← hPp]
            clear hPp h0 h1 h2
            by_cases hp : P = s
            · subst hp
              have HU := Lib.hid (HS1.out.1 HPp.out.symm)
              have h3 : (P != P) = false := by simp
              go_wp2
              have q : Rw _ _ [.int .i64 ((x0 : Nat)), .int .i64 ((x1 : Nat)), .int .i64 ((x2 : Nat))] _ := ((HG.out.set 0 (.int .i64 ((x0 : Nat)))).set 1 (.int .i64 ((x1 : Nat)))).set 2 (.int .i64 ((x2 : Nat)))
              exact bodyPost_ret (v := .tuple #[.agg #[.int .i64 ((x0 : Nat)), .int .i64 ((x1 : Nat)), .int .i64 ((x2 : Nat))], .bool true]) (results_cell_tmp Tryz.results48 _ _ g 51 _ _ _ _ rfl rfl q Tryz.underlying51 rfl szMark) rfl ⟨by rw [mkO, HU.out]; rfl, ((HB.out.setCell GW.out _).setCell GW.out _).setCell GW.out _⟩
            · have HU := Lib.hid (HS1.out.2 (fun e => hp (HPp.out.trans e)))
              have h3 : (P == s) = false := by simpa using hp
              have h4 : (P != s) = true := by simpa using hp
              clear hp
              go_wp2
              have q : Rw _ _ [.int .i64 (0), .int .i64 (0), .int .i64 (0)] _ := ((HG.out.set 0 (.int .i64 (0))).set 1 (.int .i64 (0))).set 2 (.int .i64 (0))
              exact bodyPost_ret (v := .tuple #[.agg #[.int .i64 (0), .int .i64 (0), .int .i64 (0)], .bool false]) (results_cell_tmp Tryz.results48 _ _ g 51 _ _ _ _ rfl rfl q Tryz.underlying51 rfl szMark) rfl ⟨by rw [unp_no HU.out], ((HB.out.setCell GW.out _).setCell GW.out _).setCell GW.out _⟩
          · have f2 := E2.out
            rw [if_neg h2] at f2
            have HU := Lib.hid (not_ok2 h2)
            have g0 : ¬ (n0 < 0) := by omega
            have g1 : ¬ (n1 < 0) := by omega
            have g2 : n2 < 0 := by omega
            clear h0 h1 h2 f0 f1 f2 E0 E1 E2
            go_wp2
            have q : Rw _ _ [.int .i64 (0), .int .i64 (0), .int .i64 (0)] _ := ((HG.out.set 0 (.int .i64 (0))).set 1 (.int .i64 (0))).set 2 (.int .i64 (0))
            exact bodyPost_ret (v := .tuple #[.agg #[.int .i64 (0), .int .i64 (0), .int .i64 (0)], .bool false]) (results_cell_tmp Tryz.results48 _ _ g 51 _ _ _ _ rfl rfl q Tryz.underlying51 rfl szMark) rfl ⟨by rw [unp_no HU.out], ((HB.out.setCell GW.out _).setCell GW.out _).setCell GW.out _⟩
        · have f1 := E1.out
          rw [if_neg h1] at f1
          have HU := Lib.hid (not_ok1 h1)
          have g0 : ¬ (n0 < 0) := by omega
          have g1 : n1 < 0 := by omega
          clear h0 h1 f0 f1 E0 E1 E2
          go_wp2
          have q : Rw _ _ [.int .i64 (0), .int .i64 (0), .int .i64 (0)] _ := ((HG.out.set 0 (.int .i64 (0))).set 1 (.int .i64 (0))).set 2 (.int .i64 (0))
          exact bodyPost_ret (v := .tuple #[.agg #[.int .i64 (0), .int .i64 (0), .int .i64 (0)], .bool false]) (results_cell_tmp Tryz.results48 _ _ g 51 _ _ _ _ rfl rfl q Tryz.underlying51 rfl szMark) rfl ⟨by rw [unp_no HU.out], ((HB.out.setCell GW.out _).setCell GW.out _).setCell GW.out _⟩
      · have f0 := E0.out
        rw [if_neg h0] at f0
        have HU := Lib.hid (not_ok0 h0)
        have g0 : n0 < 0 := by omega
        clear h0 f0 E0 E1 E2
        go_wp2
        have q : Rw _ _ [.int .i64 (0), .int .i64 (0), .int .i64 (0)] _ := ((HG.out.set 0 (.int .i64 (0))).set 1 (.int .i64 (0))).set 2 (.int .i64 (0))
        exact bodyPost_ret (v := .tuple #[.agg #[.int .i64 (0), .int .i64 (0), .int .i64 (0)], .bool false]) (results_cell_tmp Tryz.results48 _ _ g 51 _ _ _ _ rfl rfl q Tryz.underlying51 rfl szMark) rfl ⟨by rw [unp_no HU.out], ((HB.out.setCell GW.out _).setCell GW.out _).setCell GW.out _⟩
  · have e1 : unpackM s = none := by unfold unpackM; rw [if_neg (by simp [h64])]
    have e2 : mkO s = mk0 := by rw [mkO, e1]; rfl
    rw [e1, e2]
    have hlI : ((s.length : Int) == 64) = false := by simp; omega
    have hlI2 : ((s.length : Int) != 64) = true := by simp; omega
    clear e1 e2 h64
    go_enter Tryz.func48, Tryz.ntmps48
    go_wp2
    have q : Rw _ _ [.int .i64 0, .int .i64 0, .int .i64 0] _ := Rw.new w (ncs 0 0 0) 51
    exact bodyPost_ret (v := .tuple #[.agg #[.int .i64 0, .int .i64 0, .int .i64 0], .bool false]) (results_cell_tmp Tryz.results48 _ _ w.heap.size 51 _ _ _ _ rfl rfl q Tryz.underlying51 rfl szMark) rfl ⟨rfl, ((Below.refl _ _).alloc (Nat.le_refl _) _)⟩
set_option maxRecDepth 100000 in
set_option maxHeartbeats 1000000 in
/-- Of two sectors the newest mark. -/
theorem rNewest_any (s t : List UInt8) (w : World) (hs : (s.length : Int) ≤ 9223372036854775807) (ht : (t.length : Int) ≤ 9223372036854775807) :
    Calls Tryz.prog 31 #[.string ⟨s.toArray⟩, .string ⟨t.toArray⟩] w fun e w' => e = .returned (mkV (newestM s t)) ∧ Below w.heap.size w w' := by
  rw [newestM_eq]
  have h1 := fun w => rUnpack_any s w hs
  have h2 := fun w => rUnpack_any t w ht
  generalize mkO s = x at *
  generalize mkO t = y at *
  generalize (unpackM s).isSome = i at *
  generalize (unpackM t).isSome = j at *
  obtain ⟨z, hz⟩ : ∃ z, z = (if x.ep < y.ep then y else x) := ⟨_, rfl⟩
  rw [← hz]
  obtain ⟨a, b, c⟩ := x
  obtain ⟨a', b', c'⟩ := y
  have HZ := Lib.hid hz
  clear hz
  rw [show mkV ⟨a, b, c⟩ = .agg #[.int .i64 (a : Nat), .int .i64 (b : Nat), .int .i64 (c : Nat)] from rfl] at h1
  rw [show mkV ⟨a', b', c'⟩ = .agg #[.int .i64 (a' : Nat), .int .i64 (b' : Nat), .int .i64 (c' : Nat)] from rfl] at h2
  have b0 : Below w.heap.size w (w.alloc (.cells (ncs 0 0 0).toArray 51)) := (Below.refl _ _).alloc (Nat.le_refl _) _
  have r0 : Rw (w.alloc (.cells (ncs 0 0 0).toArray 51)) w.heap.size (ncs 0 0 0) 51 := Rw.new _ _ _
  have H1 := Lib.hid h1
  have H2 := Lib.hid h2
  have B0 := Lib.hid b0
  have R0 := Lib.hid r0
  clear h1 h2 b0 r0
  go_enter Tryz.func31, Tryz.ntmps31
  go_wp2_with fail
  refine (H1.out _).mono ?_
  rintro e w1 ⟨rfl, g1⟩
  have r1 := R0.out.below g1
  have b1 := B0.out.trans (g1.mono B0.out.size)
  have z1 : w.heap.size < w1.heap.size := r1.lt
  obtain ⟨wa, hwa⟩ : ∃ wa, wa = w1.alloc (.cells #[.int .i64 (a : Nat), .int .i64 (b : Nat), .int .i64 (c : Nat)] 51) := ⟨_, rfl⟩
  obtain ⟨p, hp⟩ : ∃ p, p = w1.heap.size := ⟨_, rfl⟩
  have RA : Hid (Rw wa w.heap.size (ncs 0 0 0) 51) := by rw [hwa]; exact Lib.hid (r1.alloc _)
  have PA : Hid (Rw wa p (ncs a b c) 51) := by rw [hwa, hp]; exact Lib.hid (Rw.new w1 (ncs a b c) 51)
  have BA : Hid (Below w.heap.size w wa) := by rw [hwa]; exact Lib.hid (b1.alloc b1.size _)
  clear H1 R0 B0 r1 b1 g1
  go_wp2_with fail
  rw [← hwa, ← hp]
  have pne : p ≠ w.heap.size := by omega
  have pge : w.heap.size ≤ p := by omega
  clear hwa hp z1
  refine (H2.out _).mono ?_
  rintro e w2 ⟨rfl, g2⟩
  have r2 := RA.out.below g2
  have p2 := PA.out.below g2
  have b2 := BA.out.trans (g2.mono BA.out.size)
  have z2 : w.heap.size < w2.heap.size := r2.lt
  have z3 : p < w2.heap.size := p2.lt
  obtain ⟨wb, hwb⟩ : ∃ wb, wb = w2.alloc (.cells #[.int .i64 (a' : Nat), .int .i64 (b' : Nat), .int .i64 (c' : Nat)] 51) := ⟨_, rfl⟩
  obtain ⟨q, hq⟩ : ∃ q, q = w2.heap.size := ⟨_, rfl⟩
  have RB : Hid (Rw wb w.heap.size (ncs 0 0 0) 51) := by rw [hwb]; exact Lib.hid (r2.alloc _)
  have PB : Hid (Rw wb p (ncs a b c) 51) := by rw [hwb]; exact Lib.hid (p2.alloc _)
  have QB : Hid (Rw wb q (ncs a' b' c') 51) := by rw [hwb, hq]; exact Lib.hid (Rw.new w2 (ncs a' b' c') 51)
  have BB : Hid (Below w.heap.size w wb) := by rw [hwb]; exact Lib.hid (b2.alloc b2.size _)
  clear H2 RA PA BA r2 p2 b2 g2
  have c0 := PB.out.c 0 (v := .int .i64 (a : Nat)) rfl
  have c1 := PB.out.c 1 (v := .int .i64 (b : Nat)) rfl
  have c2 := PB.out.c 2 (v := .int .i64 (c : Nat)) rfl
  have k0 := QB.out.c 0 (v := .int .i64 (a' : Nat)) rfl
  have k1 := QB.out.c 1 (v := .int .i64 (b' : Nat)) rfl
  have k2 := QB.out.c 2 (v := .int .i64 (c' : Nat)) rfl
  have d0 := RB.out.c 0 (v := .int .i64 ((0 : Nat) : Int)) rfl
  have d1 := RB.out.c 1 (v := .int .i64 ((0 : Nat) : Int)) rfl
  have d2 := RB.out.c 2 (v := .int .i64 ((0 : Nat) : Int)) rfl
  have f0 := RB.out.f 0
  have f1 := RB.out.f 1
  have f2 := RB.out.f 2
  go_upto_region 3 with (fail)
  rw [← hwb, ← hq]
  clear z2 z3 hwb hq
  by_cases hlt : a < a'
  · have hI : (a : Int) < a' := by omega
    have hz := HZ.out
    rw [if_pos hlt] at hz
    subst hz
    clear hlt HZ
    go_wp2
    have q2 : Rw _ _ [.int .i64 (a' : Nat), .int .i64 (b' : Nat), .int .i64 (c' : Nat)] _ := ((RB.out.set 0 (.int .i64 (a' : Nat))).set 1 (.int .i64 (b' : Nat))).set 2 (.int .i64 (c' : Nat))
    exact bodyPost_ret (v := .agg #[.int .i64 (a' : Nat), .int .i64 (b' : Nat), .int .i64 (c' : Nat)]) (results_cell_row Tryz.results31 _ _ w.heap.size 51 _ _ _ rfl q2 Tryz.underlying51 rfl szMark) rfl ⟨rfl, ((BB.out.setCell (Nat.le_refl _) _).setCell (Nat.le_refl _) _).setCell (Nat.le_refl _) _⟩
  · have hI : ¬ ((a : Int) < a') := by omega
    have hz := HZ.out
    rw [if_neg hlt] at hz
    subst hz
    clear hlt HZ
    go_wp2
    have q2 : Rw _ _ [.int .i64 (a : Nat), .int .i64 (b : Nat), .int .i64 (c : Nat)] _ := ((RB.out.set 0 (.int .i64 (a : Nat))).set 1 (.int .i64 (b : Nat))).set 2 (.int .i64 (c : Nat))
    exact bodyPost_ret (v := .agg #[.int .i64 (a : Nat), .int .i64 (b : Nat), .int .i64 (c : Nat)]) (results_cell_row Tryz.results31 _ _ w.heap.size 51 _ _ _ rfl q2 Tryz.underlying51 rfl szMark) rfl ⟨rfl, ((BB.out.setCell (Nat.le_refl _) _).setCell (Nat.le_refl _) _).setCell (Nat.le_refl _) _⟩
end Go.Proofs.YtnpoohkklfpmdaaGreat
