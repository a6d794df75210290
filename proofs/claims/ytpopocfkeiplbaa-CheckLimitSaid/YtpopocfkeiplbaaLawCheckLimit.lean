/- A body of 2^20 bytes may be put, one more not: for every number the law CheckLimit returns true, and its argument reads afterwards as it read before. No condition. -/
import Derived.Test.YtpopocfkeiplbaaRows
import Derived.WalkKit
import Derived.Below
import Derived.ProofKit
import Derived.OpenShut
import Derived.ShutString
import Derived.ChangeOld
import Derived.Outline
import Derived.RegionTactic
import Derived.ChangeAlike
import Derived.BigRegion
import Derived.BigQuiet
import Derived.Deep.QuietTactic
import Derived.Deep.RegionWith
import Derived.Deep.RegionLaw
import Derived.Deep.RegionHeld3
import Derived.Deep.AppendLies
import Derived.Deep.Draws
import Derived.StillTailTactics
import Derived.Lib.Hide
import Derived.Lib.SmallJoins
import Derived.Handy
import Derived.WalkSpells
import Derived.WalkLawsBesides
import Derived.Deep.LoopGhost
import Derived.Deep.DeepCutAuto
import Derived.Laws.CopyOwn
import Derived.Deep.OwnRows
import Derived.Great.BuildSlice
import Derived.Test.YtpopocfkeiplbaaCheckQ
namespace Go.Proofs.Ytpopocfkeiplbaa.checkLimit
open Go.RowKit
set_option linter.unusedSimpArgs false
set_option linter.unusedVariables false
set_option linter.unnecessarySimpa false
section
attribute [local go_sem] idx_list ext_list app_list
set_option maxHeartbeats 4000000 in
set_option maxRecDepth 100000 in
theorem walk (z : Int) (W : World) (z0 : -9223372036854775808 ≤ z) (z1 : z < 9223372036854775808) : Calls Try.prog 7 #[.int .i64 z] W fun e w' => e = .returned (.bool true) ∧ Below W.heap.size W w' := by
  obtain ⟨t, et⟩ : ∃ t, z.tmod 3 = t := ⟨_, rfl⟩
  have t0 : -3 < t := by have := Int.lt_tmod_of_pos z (show (0 : Int) < 3 by omega); omega
  have t1 : t < 3 := by have := Int.tmod_lt_of_pos z (show (0 : Int) < 3 by omega); omega
  obtain ⟨k, hk⟩ : ∃ k : Nat, t % 3 = (k : Int) := ⟨(t % 3).toNat, by omega⟩
  have k3 : k < 3 := by omega
  go_enter Try.func7, Try.ntmps7
  go_wp2_with fail
  refine (awake5_any _).mono ?_
  rintro e w1 ⟨rfl, g1⟩
  clear z0 z1
  obtain ⟨n, hn⟩ : ∃ n : Nat, n = 1048576 + k := ⟨_, rfl⟩
  have en : (1048576 : Int) + k = (n : Int) := by omega
  have nb : (n : Int) ≤ 1048578 := by omega
  obtain ⟨zs, hzs⟩ : ∃ zs : List UInt8, zs = List.replicate n 0 := ⟨_, rfl⟩
  have hzl : zs.length = n := by rw [hzs, List.length_replicate]
  have hmk := fun w : World => run_make_row' (P := Try.prog) 24 5 (.int .u8 0) 1 Try.underlying24 info8c rfl .i64 .i64 n (by omega) (by omega) w
  have hcv := b2s_row (w1.alloc (.cells (madeCells #[Value.int .u8 0] n) 5)) 24 9 5 w1.heap.size n n zs 5 (0, 0) Try.underlying24 Try.underlying5 Try.underlying9 (by rw [made_rep, hzs]; exact heap_alloc_new w1 _) hzl.symm
  have HN := Lib.hid hn
  have HZ := Lib.hid hzl
  clear hn hzs hzl
  go_upto_region 3 with (fail)
  rw [show (t + 3) % 3 = (k : Int) from by omega]
  go_upto_region 4 with (fail)
  clear hmk hcv
  have b2 : Below W.heap.size W (w1.alloc (.cells (madeCells #[Value.int .u8 0] n) 5)) := g1.alloc g1.size _
  generalize World.alloc _ _ = w2 at *
  go_wp2_with fail
  refine (cPut_any zs w2 (by have := HZ.out; omega)).mono ?_
  by_cases hk0 : k = 0
  · have hp := Lib.hid (putP_ok (l := zs) (by have := HZ.out; have := HN.out; omega))
    rw [hp.out]
    rintro e w3 ⟨rfl, g3⟩
    have b3 := b2.trans (g3.mono b2.size)
    have d0 : decide ((0 : Int) < (k : Int)) = false := decide_eq_false (by omega)
    have d1 : decide (0 < k) = false := decide_eq_false (by omega)
    have d2 : ¬ 0 < k := by omega
    obtain ⟨R, hR⟩ : ∃ R, R = recd zs := ⟨_, rfl⟩
    have HRR := Lib.hid hR
    have HRl := Lib.hid (show (R.length : Int) ≤ 16777215 from by rw [hR]; have := (recd_len zs).2; have := HZ.out; omega)
    rw [← hR]
    clear hR hk et en
    go_wp2_with fail
    have hc := cTakeR_any zs w3 (by have := HZ.out; have := HN.out; omega)
    rw [← HRR.out] at hc
    refine hc.mono ?_
    rintro e w4 ⟨rfl, g4⟩
    have b4 := b3.trans (g4.mono b3.size)
    go_wp2
    go_ret
    exact ⟨rfl, b4⟩
  · have hp := Lib.hid (show putP zs = ([], 11) from if_neg (by have := HZ.out; have := HN.out; omega))
    rw [hp.out]
    rintro e w3 ⟨rfl, g3⟩
    have b3 := b2.trans (g3.mono b2.size)
    have d0 : decide ((0 : Int) < (k : Int)) = true := decide_eq_true (by omega)
    have d1 : decide (0 < k) = true := decide_eq_true (by omega)
    have d2 : 0 < k := by omega
    clear hk0 hk et en
    go_wp2
    go_ret
    exact ⟨rfl, b3⟩
end
open Go.ChangeShapes Go.WideShapes Go.ChangeAt
set_option maxRecDepth 100000 in
theorem lifted (os : Os) (started : os.Started) (H : Type) (enc : TypeId × Value → H) :
    ReturnsInHanded {} Try.checked os 7 .any (Rows.checkLimitSpec.pre6 enc Try.prog Try.f7 Rows.checkLimitRow.domain false) (Rows.checkLimitSpec.post enc Try.prog Try.f7 false true false false) := by
  refine returnsInHanded_of_change (C := Try.checked) own started (by kernel_rfl) Try.func7
    (ChangeSpec.witness6 (enc := enc) (C := Try.checked) false ⟨#[], #[.int .i64 0], []⟩ 8 (by kernel_rfl) (by kernel_rfl) (by kernel_rfl) (by kernel_rfl)) ?_
  intro W base args ds gs before hval0 hW hcnd _
  have hval : ∀ (j : Nat) t v, Try.f7.params[j]? = some t → args[j]? = some v → Value.okWide Try.prog W .any base t v := hval0
  have hW' := hW
  obtain ⟨p, q, hA0, hV, rfl, hfz, hnd⟩ := hW
  have hA : DataW.TrodAll enc Try.prog W 0 (fun _ => true) true Try.f7.params.toList args.toList ds p := hA0
  rw [Try.params7] at hA hval
  obtain ⟨v0, vs0, d0, ds0, p0, q0, hargs, rfl, rfl, h0, r0⟩ := trodAll_cons hA
  obtain ⟨rfl, rfl, rfl⟩ := trodAll_nil r0
  obtain rfl : args = #[v0] := by cases args; simp_all
  obtain ⟨rfl, rfl⟩ := trodVars_none hV
  have k0 := h0
  have lt0 : ∀ x ∈ p0, x.block < W.heap.size := by obtain ⟨m, hm⟩ := k0; exact DataW.trod_lt m _ _ _ hm
  obtain ⟨nx0, rfl, lox0, hix0⟩ := op_int (hval 0 3 v0 rfl rfl) h0
  clear hA0 hval0
  refine (walk nx0 W lox0 hix0).mono fun e W' ⟨he, bel⟩ => ?_
  subst he
  exact ⟨_, rfl, _, _, _, [], _, [], hW', trodAll_mk1 (shut_bool Try.underlying4 _), trodAll_cons_mk (Below.trod laidOut (by kernel_rfl) (of_decide_eq_true (by kernel_rfl)) k0 bel lt0) (trodAll_mk0), rfl, bel.frame _, fun h => by cases h⟩

theorem over : Rows.checkLimitRow.holds Try.pinned (OpenSpec.ofChange Rows.checkLimitSpec) :=
  OpenClaim.holds_of_wide 7 Try.f7 rfl rfl rfl rfl rfl rfl rfl ⟨rfl, rfl, rfl, rfl, rfl⟩ rfl rfl rfl rfl rfl (by kernel_rfl) Try.func7 (by kernel_rfl)
    (of_decide_eq_true (by kernel_rfl)) (by unfold Func.isWrapper; first | (rw [if_pos (by decide +kernel)]; kernel_rfl) | (rw [if_neg (by decide +kernel)]; exact ⟨rfl, rfl⟩))
    (fun os started H enc _ => lifted os started H enc)

theorem proved : Rows.CheckLimitSaid := over
end Go.Proofs.Ytpopocfkeiplbaa.checkLimit
