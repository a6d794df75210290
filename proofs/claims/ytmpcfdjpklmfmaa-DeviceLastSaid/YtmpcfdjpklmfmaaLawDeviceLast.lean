/- DeviceLast: the statement, in full. No condition. -/
import Derived.Test.YtmpcfdjpklmfmaaRows
import Derived.WalkKit
import Derived.Below
import Derived.ProofKit
import Derived.OpenShut
import Derived.ShutString
import Derived.ChangeOld
import Derived.Outline
import Derived.RegionTactic
import Derived.ChangeAlike
import Derived.BigRegion
import Derived.BigQuiet
import Derived.Deep.QuietTactic
import Derived.Deep.RegionWith
import Derived.Deep.RegionLaw
import Derived.Deep.RegionHeld3
import Derived.Deep.AppendLies
import Derived.Deep.Draws
import Derived.StillTailTactics
import Derived.Lib.Hide
import Derived.Lib.SmallJoins
import Derived.Handy
import Derived.WalkSpells
import Derived.WalkLawsBesides
import Derived.Deep.LoopGhost
import Derived.Deep.DeepCutAuto
import Derived.Great.BuildSlice
import Derived.Test.YtmpcfdjpklmfmaaDevP
import Derived.Test.YtmpcfdjpklmfmaaDevO
import Derived.Test.YtmpcfdjpklmfmaaWalkDeviceLast
namespace Go.Proofs.Ytmpcfdjpklmfmaa.deviceLast
open Go.RowKit
set_option linter.unusedSimpArgs false
set_option linter.unusedVariables false
set_option linter.unnecessarySimpa false
open Go.ChangeShapes Go.WideShapes Go.ChangeAt
theorem op_pairs {H : Type} {enc : TypeId × Value → H} {W : World} {base : Nat} {v : Value} {d : DataW H} {ps : List MemPlace} (hv : Value.okWide Try.prog W .any base 57 v) (h : DataW.Trod enc Try.prog W 0 (fun _ => true) true 57 v d ps) :
    ∃ a n c ls, v = .slice a n c ∧ n ≤ c ∧ c ≤ maxLen ∧ PairsAt W W.heap.size a n ls := by
  obtain ⟨a0, len, cap, rfl⟩ := okWide_slice Try.underlying57 hv
  obtain ⟨fuel, hf⟩ := h
  obtain ⟨a, n, c, e, h1, h2, h3⟩ := slice_each Try.underlying57 (show Try.prog.cellsOf 59 = 2 by kernel_rfl) (by omega) hf
  simp [Value.cells] at e
  obtain ⟨rfl, rfl, rfl⟩ := e
  by_cases hn : 0 < len
  · obtain ⟨b, off, rfl, hb, hc⟩ := h3 hn
    have c1 : Try.prog.cellsOf 5 = 1 := by kernel_rfl
    obtain ⟨ls, hl, hx⟩ := choose_list len (fun k (x : UInt8 × UInt8) => W.cell? ⟨b, off + k * 2, none⟩ = some (.int .u8 x.1.toNat) ∧ W.cell? ⟨b, off + k * 2 + 1, none⟩ = some (.int .u8 x.2.toNat)) fun k hk => by
      obtain ⟨us, m, y, hu, hcell, hy⟩ := hc k hk
      obtain ⟨u0, u1, rfl⟩ : ∃ u0 u1, us = [u0, u1] := by
        match us, hu with
        | [u0, u1], _ => exact ⟨u0, u1, rfl⟩
      obtain ⟨xs, m', _, _, _, hxl, hx⟩ := DataW.trod_array Try.underlying59 hy
      have g0 := hx 0 (by omega)
      have g1 := hx 1 (by omega)
      rw [c1, List.getElem?_eq_getElem (by omega)] at g0 g1
      simp at g0 g1
      obtain ⟨x0, e0, _, w0⟩ := DataW.trod_int Try.underlying5 g0
      obtain ⟨x1, e1, _, w1⟩ := DataW.trod_int Try.underlying5 g1
      simp at e0 e1
      subst e0 e1
      have b0 := bounds_u8 w0
      have b1 := bounds_u8 w1
      have k0 := hcell 0 _ rfl
      have k1 := hcell 1 _ rfl
      refine ⟨(UInt8.ofNat x0.toNat, UInt8.ofNat x1.toNat), ?_, ?_⟩
      · rw [Nat.add_zero] at k0; rw [k0]; simp; omega
      · rw [k1]; simp; omega
    exact ⟨_, len, cap, ls, rfl, h1, h2, hl, fun _ => ⟨b, off, rfl, hb, fun k x hk => hx k x hk⟩⟩
  · obtain rfl : len = 0 := by omega
    exact ⟨a0, 0, cap, [], rfl, h1, h2, rfl, fun h => absurd h (by omega)⟩
open Go.ChangeShapes Go.WideShapes Go.ChangeAt
set_option maxRecDepth 100000 in
theorem lifted (os : Os) (started : os.Started) (H : Type) (enc : TypeId × Value → H) :
    ReturnsInHanded {} Try.checked os 7 .any (Rows.deviceLastSpec.pre6 enc Try.prog Try.f7 Rows.deviceLastRow.domain false) (Rows.deviceLastSpec.post enc Try.prog Try.f7 false true false false) := by
  refine returnsInHanded_of_change (C := Try.checked) own started (by kernel_rfl) Try.func7
    (ChangeSpec.witness6 (enc := enc) (C := Try.checked) false ⟨#[], #[.slice none 0 0, .int .i64 0], []⟩ 8 (by kernel_rfl) (by kernel_rfl) (by kernel_rfl) (by kernel_rfl)) ?_
  intro W base args ds gs before hval0 hW hcnd _
  have hval : ∀ (j : Nat) t v, Try.f7.params[j]? = some t → args[j]? = some v → Value.okWide Try.prog W .any base t v := hval0
  have hW' := hW
  obtain ⟨p, q, hA0, hV, rfl, hfz, hnd⟩ := hW
  have hA : DataW.TrodAll enc Try.prog W 0 (fun _ => true) true Try.f7.params.toList args.toList ds p := hA0
  rw [Try.params7] at hA hval
  obtain ⟨v0, vs0, d0, ds0, p0, q0, hargs, rfl, rfl, h0, r0⟩ := trodAll_cons hA
  obtain ⟨v1, vs1, d1, ds1, p1, q1, rfl, rfl, rfl, h1, r1⟩ := trodAll_cons r0
  obtain ⟨rfl, rfl, rfl⟩ := trodAll_nil r1
  obtain rfl : args = #[v0, v1] := by cases args; simp_all
  obtain ⟨rfl, rfl⟩ := trodVars_none hV
  have k0 := h0
  have lt0 : ∀ x ∈ p0, x.block < W.heap.size := by obtain ⟨m, hm⟩ := k0; exact DataW.trod_lt m _ _ _ hm
  have k1 := h1
  have lt1 : ∀ x ∈ p1, x.block < W.heap.size := by obtain ⟨m, hm⟩ := k1; exact DataW.trod_lt m _ _ _ hm
  obtain ⟨ax0, nx0, kx0, lsx0, rfl, hncx0, hcmx0, hsx0⟩ := op_pairs (hval 0 57 v0 rfl rfl) h0
  obtain ⟨nx1, rfl, lox1, hix1⟩ := op_int (hval 1 3 v1 rfl rfl) h1
  clear hA0 hval0
  refine (walk iface ax0 nx0 kx0 lsx0 nx1 W hncx0 hcmx0 hsx0 lox1 hix1).mono fun e W' ⟨he, bel⟩ => ?_
  subst he
  exact ⟨_, rfl, _, _, _, [], _, [], hW', trodAll_mk1 (shut_bool Try.underlying4 _), trodAll_cons_mk (Below.trod laidOut (by kernel_rfl) (of_decide_eq_true (by kernel_rfl)) k0 bel lt0) (trodAll_cons_mk (Below.trod laidOut (by kernel_rfl) (of_decide_eq_true (by kernel_rfl)) k1 bel lt1) (trodAll_mk0)), rfl, bel.frame _, fun h => by cases h⟩

theorem over : Rows.deviceLastRow.holds Try.pinned (OpenSpec.ofChange Rows.deviceLastSpec) :=
  OpenClaim.holds_of_wide 7 Try.f7 rfl rfl rfl rfl rfl rfl rfl ⟨rfl, rfl, rfl, rfl, rfl⟩ rfl rfl rfl rfl rfl (by kernel_rfl) Try.func7 (by kernel_rfl)
    (of_decide_eq_true (by kernel_rfl)) (by unfold Func.isWrapper; first | (rw [if_pos (by decide +kernel)]; kernel_rfl) | (rw [if_neg (by decide +kernel)]; exact ⟨rfl, rfl⟩))
    (fun os started H enc _ => lifted os started H enc)

theorem proved : Rows.DeviceLastSaid := over
end Go.Proofs.Ytmpcfdjpklmfmaa.deviceLast
