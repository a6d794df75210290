/- Sums and records of texts, long ones too, beside the document's answer: for every text and every number the law CheckSums returns true, and its arguments read afterwards as they read before. No condition. -/
import Derived.Test.YtpopocfkeiplbaaRows
import Derived.WalkKit
import Derived.Below
import Derived.ProofKit
import Derived.OpenShut
import Derived.ShutString
import Derived.ChangeOld
import Derived.Outline
import Derived.RegionTactic
import Derived.ChangeAlike
import Derived.BigRegion
import Derived.BigQuiet
import Derived.Deep.QuietTactic
import Derived.Deep.RegionWith
import Derived.Deep.RegionLaw
import Derived.Deep.RegionHeld3
import Derived.Deep.AppendLies
import Derived.Deep.Draws
import Derived.StillTailTactics
import Derived.Lib.Hide
import Derived.Lib.SmallJoins
import Derived.Handy
import Derived.WalkSpells
import Derived.WalkLawsBesides
import Derived.Deep.LoopGhost
import Derived.Deep.DeepCutAuto
import Derived.Laws.CopyOwn
import Derived.Deep.OwnRows
import Derived.Great.BuildSlice
import Derived.Test.YtpopocfkeiplbaaCheckQ
namespace Go.Proofs.Ytpopocfkeiplbaa.checkSums
open Go.RowKit
set_option linter.unusedSimpArgs false
set_option linter.unusedVariables false
set_option linter.unnecessarySimpa false
theorem i64_and3 (n : Int) : bits .and .i64 n 3 = n % 4 := by
  have h3 : (BitVec.ofInt 64 3).toNat = 2 ^ 2 - 1 := by decide
  have key : (BitVec.ofInt 64 n &&& BitVec.ofInt 64 3).toNat = (n % ((2 ^ 64 : Nat) : Int)).toNat % 2 ^ 2 := by
    rw [BitVec.toNat_and, BitVec.toNat_ofInt, h3, Nat.and_two_pow_sub_one_eq_mod]
  show IntKind.i64.wrap ((BitVec.ofInt 64 n &&& BitVec.ofInt 64 3).toNat : Nat) = n % 4
  rw [key, IntKind.wrap_i64]
  omega
theorem fill_set (n i : Nat) (h : i < n) : (List.replicate i (255 : UInt8) ++ List.replicate (n - i) 0).set i 255 = List.replicate (i + 1) 255 ++ List.replicate (n - (i + 1)) 0 := by
  obtain ⟨m, hm⟩ : ∃ m, n - i = m + 1 := ⟨n - i - 1, by omega⟩
  rw [List.set_append_right _ _ (by simp), hm, show n - (i + 1) = m by omega, List.length_replicate, Nat.sub_self, List.replicate_succ, List.set_cons_zero, List.replicate_succ']
  simp
theorem fill_get (n i : Nat) (h : i < n) : (List.replicate i (255 : UInt8) ++ List.replicate (n - i) 0)[i]? = some 0 := by
  rw [List.getElem?_append_right (by simp), List.length_replicate, Nat.sub_self, List.getElem?_replicate, if_pos (by omega)]
section
attribute [local go_sem] idx_list ext_list app_list
set_option maxHeartbeats 4000000 in
set_option maxRecDepth 100000 in
theorem walk (l : List UInt8) (z : Int) (W : World) (hl : l.length ≤ maxLen) (z0 : -9223372036854775808 ≤ z) (z1 : z < 9223372036854775808) : Calls Try.prog 3 #[.string ⟨l.toArray⟩, .int .i64 z] W fun e w' => e = .returned (.bool true) ∧ Below W.heap.size W w' := by
  obtain ⟨k, hk⟩ : ∃ k : Nat, z % 4 = (k : Int) := ⟨(z % 4).toNat, by omega⟩
  have k3 : k < 4 := by omega
  have hand : bits .and .i64 z 3 = (k : Int) := by rw [i64_and3, hk]
  obtain ⟨n, hn⟩ : ∃ n : Nat, n = 3000 * k := ⟨_, rfl⟩
  have en : (3000 : Int) * k = (n : Int) := by omega
  have nb : (n : Int) ≤ 9000 := by omega
  obtain ⟨x, hx⟩ : ∃ x, x = l.take 300 := ⟨_, rfl⟩
  have xl : (x.length : Int) ≤ 300 := by rw [hx]; have := List.length_take_le 300 l; omega
  have HX := Lib.hid hx
  clear hx hl hk hn z0 z1
  go_enter Try.func3, Try.ntmps3
  go_wp2_with fail
  refine (awake5_any _).mono ?_
  rintro e w1 ⟨rfl, g1⟩
  go_wp2_with fail
  refine (short5_any l 300 _ (by decide)).mono ?_
  rw [show l.take (300 : Int).toNat = x from HX.out.symm]
  rintro e w2 ⟨rfl, rfl⟩
  have hmk := fun w : World => run_make_row' (P := Try.prog) 24 5 (.int .u8 0) 1 Try.underlying24 info8c rfl .i64 .i64 n (by omega) (by omega) w
  go_upto_region 5 with (fail)
  clear hmk hand en k3
  obtain ⟨g, hg⟩ : ∃ g, g = w1.heap.size := ⟨_, rfl⟩
  have r0 : (w1.alloc (.cells (madeCells #[Value.int .u8 0] n) 5)).heap[g]? = some (.cells (bcells (List.replicate 0 255 ++ List.replicate (n - 0) 0)).toArray 5 (0, 0)) := by
    rw [hg, made_rep]; exact heap_alloc_new w1 _
  have b2 : Below W.heap.size W (w1.alloc (.cells (madeCells #[Value.int .u8 0] n) 5)) := g1.alloc g1.size _
  have hgW : W.heap.size ≤ g := by rw [hg]; exact g1.size
  rw [← hg]
  clear g1
  generalize World.alloc _ _ = w2 at *
  have R0 := Lib.hid r0
  clear r0 hg
  go_upto_region 6 with (fail)
  go_wp2
  go_loopw [8] (fun i wr => ∃ j : Nat, j ≤ n ∧ i = .int .i64 (j : Nat) ∧ Hid (wr.heap[g]? = some (.cells (bcells (List.replicate j 255 ++ List.replicate (n - j) 0)).toArray 5 (0, 0))) ∧ Below W.heap.size W wr) (fun i _ => n - (intOf i).toNat)
  case atStart => exact ⟨0, by omega, rfl, R0, b2⟩
  case round =>
    obtain ⟨j, hj, rfl, Q, hb⟩ := hrel
    by_cases hlt : j < n
    · have jI : (j : Int) < n := by omega
      have c0 : wr.cell? ⟨g, j, none⟩ = some (.int .u8 (0 : UInt8).toNat) := cell_row Q.out (by simp only [bcells, List.getElem?_map]; rw [fill_get n j hlt]; rfl)
      have f0 : wr.frozen? ⟨g, j, none⟩ = false := frozen_of_row wr _ _ _ _ Q.out
      have HS := Lib.hid (show (bcells (List.replicate j 255 ++ List.replicate (n - j) 0)).set j (.int .u8 255) = bcells (List.replicate (j + 1) 255 ++ List.replicate (n - (j + 1)) 0) from by rw [← fill_set n j hlt, ← bcells_set]; rfl)
      go_wp2
      go_roundw
      case rel => exact ⟨j + 1, by omega, by go_num, Lib.hid (by rw [← HS.out]; exact set_row Q.out), hb.setCell hgW _⟩
      case measure => simp [intOf]; omega
    · have e : j = n := by omega
      have q := Q.out
      rw [e, Nat.sub_self, List.replicate_zero, List.append_nil] at q
      obtain ⟨zs, hzs⟩ : ∃ zs : List UInt8, zs = List.replicate n 255 := ⟨_, rfl⟩
      have hzl : zs.length = n := by rw [hzs, List.length_replicate]
      rw [← hzs] at q
      have hcv := b2s_row wr 24 9 5 g n n zs 5 (0, 0) Try.underlying24 Try.underlying5 Try.underlying9 q hzl.symm
      have hzi : (zs.length : Int) ≤ 9000 := by omega
      obtain ⟨y, hy⟩ : ∃ y, y = x ++ zs := ⟨_, rfl⟩
      have hyl : (y.length : Int) ≤ 9300 := by rw [hy, List.length_append]; omega
      have HY := Lib.hid hy
      have dj : decide ((j : Int) < n) = false := decide_eq_false (by omega)
      have dj2 : decide (j < n) = false := decide_eq_false (by omega)
      clear e q Q hzs hy hzl
      go_upto_region 10 with (fail)
      rw [← HY.out]
      clear hcv dj dj2
      go_wp2_with fail
      refine (cPut_any y wr (by omega)).mono ?_
      obtain ⟨P, pe, hP⟩ : ∃ P pe, putP y = (P, pe) := ⟨_, _, rfl⟩
      have HP := Lib.hid hP
      clear hP
      rw [HP.out]
      rintro e w4 ⟨rfl, g4⟩
      have b4 := hb.trans (g4.mono hb.size)
      go_wp2_with fail
      refine (refPut5_any y w4 (by omega)).mono ?_
      rw [HP.out]
      rintro e w5 ⟨rfl, g5⟩
      have b5 := b4.trans (g5.mono b4.size)
      go_wp2_with fail
      refine (cSum_any y w5 (by omega)).mono ?_
      rintro e w6 ⟨rfl, g6⟩
      have b6 := b5.trans (g6.mono b5.size)
      go_wp2_with fail
      refine (refSum5_any y w6 (by omega)).mono ?_
      rintro e w7 ⟨rfl, rfl⟩
      go_wp2
      go_ret
      exact ⟨rfl, b6⟩
end
open Go.ChangeShapes Go.WideShapes Go.ChangeAt
set_option maxRecDepth 100000 in
theorem lifted (os : Os) (started : os.Started) (H : Type) (enc : TypeId × Value → H) :
    ReturnsInHanded {} Try.checked os 3 .any (Rows.checkSumsSpec.pre6 enc Try.prog Try.f3 Rows.checkSumsRow.domain false) (Rows.checkSumsSpec.post enc Try.prog Try.f3 false true false false) := by
  refine returnsInHanded_of_change (C := Try.checked) own started (by kernel_rfl) Try.func3
    (ChangeSpec.witness6 (enc := enc) (C := Try.checked) false ⟨#[], #[.string ⟨#[]⟩, .int .i64 0], []⟩ 8 (by kernel_rfl) (by kernel_rfl) (by kernel_rfl) (by kernel_rfl)) ?_
  intro W base args ds gs before hval0 hW hcnd _
  have hval : ∀ (j : Nat) t v, Try.f3.params[j]? = some t → args[j]? = some v → Value.okWide Try.prog W .any base t v := hval0
  have hW' := hW
  obtain ⟨p, q, hA0, hV, rfl, hfz, hnd⟩ := hW
  have hA : DataW.TrodAll enc Try.prog W 0 (fun _ => true) true Try.f3.params.toList args.toList ds p := hA0
  rw [Try.params3] at hA hval
  obtain ⟨v0, vs0, d0, ds0, p0, q0, hargs, rfl, rfl, h0, r0⟩ := trodAll_cons hA
  obtain ⟨v1, vs1, d1, ds1, p1, q1, rfl, rfl, rfl, h1, r1⟩ := trodAll_cons r0
  obtain ⟨rfl, rfl, rfl⟩ := trodAll_nil r1
  obtain rfl : args = #[v0, v1] := by cases args; simp_all
  obtain ⟨rfl, rfl⟩ := trodVars_none hV
  have k0 := h0
  have lt0 : ∀ x ∈ p0, x.block < W.heap.size := by obtain ⟨m, hm⟩ := k0; exact DataW.trod_lt m _ _ _ hm
  have k1 := h1
  have lt1 : ∀ x ∈ p1, x.block < W.heap.size := by obtain ⟨m, hm⟩ := k1; exact DataW.trod_lt m _ _ _ hm
  obtain ⟨lx0, rfl, hlx0⟩ := op_str (hval 0 9 v0 rfl rfl) h0
  obtain ⟨nx1, rfl, lox1, hix1⟩ := op_int (hval 1 3 v1 rfl rfl) h1
  clear hA0 hval0
  refine (walk lx0 nx1 W hlx0 lox1 hix1).mono fun e W' ⟨he, bel⟩ => ?_
  subst he
  exact ⟨_, rfl, _, _, _, [], _, [], hW', trodAll_mk1 (shut_bool Try.underlying4 _), trodAll_cons_mk (Below.trod laidOut (by kernel_rfl) (of_decide_eq_true (by kernel_rfl)) k0 bel lt0) (trodAll_cons_mk (Below.trod laidOut (by kernel_rfl) (of_decide_eq_true (by kernel_rfl)) k1 bel lt1) (trodAll_mk0)), rfl, bel.frame _, fun h => by cases h⟩

theorem over : Rows.checkSumsRow.holds Try.pinned (OpenSpec.ofChange Rows.checkSumsSpec) :=
  OpenClaim.holds_of_wide 3 Try.f3 rfl rfl rfl rfl rfl rfl rfl ⟨rfl, rfl, rfl, rfl, rfl⟩ rfl rfl rfl rfl rfl (by kernel_rfl) Try.func3 (by kernel_rfl)
    (of_decide_eq_true (by kernel_rfl)) (by unfold Func.isWrapper; first | (rw [if_pos (by decide +kernel)]; kernel_rfl) | (rw [if_neg (by decide +kernel)]; exact ⟨rfl, rfl⟩))
    (fun os started H enc _ => lifted os started H enc)

theorem proved : Rows.CheckSumsSaid := over
end Go.Proofs.Ytpopocfkeiplbaa.checkSums
