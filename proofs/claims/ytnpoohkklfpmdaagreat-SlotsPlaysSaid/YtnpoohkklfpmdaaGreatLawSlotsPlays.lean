/- SlotsPlays: the statement, in full. No condition. -/
import Derived.Test.YtnpoohkklfpmdaaGreatRows
import Derived.WalkKit
import Derived.Below
import Derived.ProofKit
import Derived.OpenShut
import Derived.ShutString
import Derived.ChangeOld
import Derived.Outline
import Derived.RegionTactic
import Derived.ChangeAlike
import Derived.BigRegion
import Derived.BigQuiet
import Derived.Deep.QuietTactic
import Derived.Deep.RegionWith
import Derived.Deep.RegionLaw
import Derived.Deep.RegionHeld3
import Derived.Deep.AppendLies
import Derived.Deep.Draws
import Derived.StillTailTactics
import Derived.Lib.Hide
import Derived.Lib.SmallJoins
import Derived.Handy
import Derived.WalkSpells
import Derived.WalkLawsBesides
import Derived.Deep.LoopGhost
import Derived.Deep.DeepCutAuto
import Derived.Great.BuildSlice
import Derived.Test.YtnpoohkklfpmdaaGreatDevPZ
import Derived.Test.YtnpoohkklfpmdaaGreatDevO
import Derived.Test.YtnpoohkklfpmdaaGreatOpen
import Derived.Test.YtnpoohkklfpmdaaGreatLawX
import Derived.Test.YtnpoohkklfpmdaaGreatWalkSlotsPlays
import Derived.Test.YtnpoohkklfpmdaaGreatSlPZ
namespace Go.Proofs.YtnpoohkklfpmdaaGreat.slotsPlays
open Go.RowKit
set_option linter.unusedSimpArgs false
set_option linter.unusedVariables false
set_option linter.unnecessarySimpa false
set_option maxRecDepth 100000
open Go.ChangeShapes Go.WideShapes Go.ChangeAt
theorem trod_struct6 {H : Type} {enc : TypeId × Value → H} {P : Program} {w : World} {base : Nat} {spare : Nat → Bool} {held : Bool} {t : TypeId} {f0 f1 f2 f3 f4 f5 : Field} {fuel : Nat} {cs : List Value} {x : DataW H × List MemPlace} (ht : P.underlying t = some (.struct #[f0, f1, f2, f3, f4, f5])) (h : DataW.trod enc P w base spare held fuel t cs = some x) :
    ∃ y0 y1 y2 y3 y4 y5 n, DataW.trod enc P w base spare held n f0.type ((cs.drop f0.offset).take (P.cellsOf f0.type)) = some y0 ∧ DataW.trod enc P w base spare held n f1.type ((cs.drop f1.offset).take (P.cellsOf f1.type)) = some y1 ∧ DataW.trod enc P w base spare held n f2.type ((cs.drop f2.offset).take (P.cellsOf f2.type)) = some y2 ∧ DataW.trod enc P w base spare held n f3.type ((cs.drop f3.offset).take (P.cellsOf f3.type)) = some y3 ∧ DataW.trod enc P w base spare held n f4.type ((cs.drop f4.offset).take (P.cellsOf f4.type)) = some y4 ∧ DataW.trod enc P w base spare held n f5.type ((cs.drop f5.offset).take (P.cellsOf f5.type)) = some y5 := by
  obtain ⟨xs, n, _, rfl, hl, hlen, hf⟩ := DataW.trod_struct ht h
  match xs, hlen with
  | [y0, y1, y2, y3, y4, y5], _ => exact ⟨y0, y1, y2, y3, y4, y5, n, by simpa using hf 0 f0 rfl, by simpa using hf 1 f1 rfl, by simpa using hf 2 f2 rfl, by simpa using hf 3 f3 rfl, by simpa using hf 4 f4 rfl, by simpa using hf 5 f5 rfl⟩
theorem op_ops7 {H : Type} {enc : TypeId × Value → H} {W : World} {base : Nat} {v : Value} {d : DataW H} {ps : List MemPlace} (hv : Value.okWide Tryz.prog W .any base 22 v) (h : DataW.Trod enc Tryz.prog W 0 (fun _ => true) true 22 v d ps) :
    ∃ a n c ls, v = .slice a n c ∧ n ≤ c ∧ c ≤ maxLen ∧ OpsAt W W.heap.size a n ls := by
  obtain ⟨a0, len, cap, rfl⟩ := okWide_slice Tryz.underlying22 hv
  obtain ⟨fuel, hf⟩ := h
  obtain ⟨a, n, c, e, h1, h2, h3⟩ := slice_each Tryz.underlying22 (show Tryz.prog.cellsOf 38 = 6 by kernel_rfl) (by omega) hf
  simp [Value.cells] at e
  obtain ⟨rfl, rfl, rfl⟩ := e
  by_cases hn : 0 < len
  · obtain ⟨b, off, rfl, hb, hc⟩ := h3 hn
    have ci : Tryz.prog.cellsOf 3 = 1 := by kernel_rfl
    have cu : Tryz.prog.cellsOf 9 = 1 := by kernel_rfl
    have cs : Tryz.prog.cellsOf 36 = 1 := by kernel_rfl
    obtain ⟨ls, hl, hx⟩ := choose_list len (fun k (o : OpV) => (BoolsAt W o.ka o.kn o.keep ∧ o.kn ≤ o.kc ∧ (o.kn : Int) ≤ 9223372036854775807 ∧ ∀ b off, 0 < o.kn → o.ka = some ⟨b, off, none⟩ → b < W.heap.size) ∧
        W.cell? ⟨b, off + k * 6, none⟩ = some (.int .i64 o.kind) ∧ W.cell? ⟨b, off + k * 6 + 1, none⟩ = some (.int .i64 o.n) ∧ W.cell? ⟨b, off + k * 6 + 2, none⟩ = some (.int .i64 o.torn) ∧ W.cell? ⟨b, off + k * 6 + 3, none⟩ = some (.int .i64 o.cut) ∧ W.cell? ⟨b, off + k * 6 + 4, none⟩ = some (.string ⟨o.s.toArray⟩) ∧ W.cell? ⟨b, off + k * 6 + 5, none⟩ = some (.slice o.ka o.kn o.kc)) fun k hk => by
      obtain ⟨us, m, y, hu, hcell, hy⟩ := hc k hk
      obtain ⟨u0, u1, u2, u3, u4, u5, rfl⟩ : ∃ u0 u1 u2 u3 u4 u5, us = [u0, u1, u2, u3, u4, u5] := by
        match us, hu with
        | [u0, u1, u2, u3, u4, u5], _ => exact ⟨u0, u1, u2, u3, u4, u5, rfl⟩
      obtain ⟨z0, z1, z2, z3, z4, z5, m', g0, g1, g2, g3, g4, g5⟩ := trod_struct6 Tryz.underlying38 hy
      simp [ci, cu, cs] at g0 g1 g2 g3 g4 g5
      obtain ⟨x0, e0, _, w0⟩ := DataW.trod_int Tryz.underlying3 g0
      obtain ⟨x1, e1, _, w1⟩ := DataW.trod_int Tryz.underlying3 g1
      obtain ⟨x2, e2, _, w2⟩ := DataW.trod_int Tryz.underlying3 g2
      obtain ⟨x3, e3, _, w3⟩ := DataW.trod_int Tryz.underlying3 g3
      obtain ⟨s4, e4, _, _⟩ := DataW.trod_string Tryz.underlying9 g4
      obtain ⟨ka, kn, kc, keep, e5, k1, k2, k3, k4⟩ := bools_trod g5
      simp at e0 e1 e2 e3 e4 e5
      subst e0 e1 e2 e3 e4 e5
      have q0 := hcell 0 _ rfl
      have q1 := hcell 1 _ rfl
      have q2 := hcell 2 _ rfl
      have q3 := hcell 3 _ rfl
      have q4 := hcell 4 _ rfl
      have q5 := hcell 5 _ rfl
      rw [Nat.add_zero] at q0
      exact ⟨⟨x0, x1, x2, x3, s4.data.toList, ka, kn, kc, keep⟩, ⟨k3, k1, by unfold maxLen at k2; show (kn : Int) ≤ _; omega, k4⟩, q0, q1, q2, q3, q4, q5⟩
    refine ⟨_, len, cap, ls, rfl, h1, h2, hl, fun o ho => ?_, fun _ => ⟨b, off, rfl, hb, fun k o hk => (hx k o hk).2⟩⟩
    obtain ⟨k, hk⟩ := List.mem_iff_getElem?.1 ho
    exact (hx k o hk).1
  · obtain rfl : len = 0 := by omega
    exact ⟨a0, 0, cap, [], rfl, h1, h2, rfl, (fun o ho => by cases ho), fun h => absurd h (by omega)⟩
open Go.ChangeShapes Go.WideShapes Go.ChangeAt
set_option maxRecDepth 100000 in
theorem lifted (os : Os) (started : os.Started) (H : Type) (enc : TypeId × Value → H) :
    ReturnsInHanded {} Tryz.checked os 3 .any (Rows.slotsPlaysSpec.pre6 enc Tryz.prog Tryz.f3 Rows.slotsPlaysRow.domain false) (Rows.slotsPlaysSpec.post enc Tryz.prog Tryz.f3 false true false false) := by
  refine returnsInHanded_of_change (C := Tryz.checked) own started (by kernel_rfl) Tryz.func3
    (ChangeSpec.witness6 (enc := enc) (C := Tryz.checked) false ⟨#[], #[.int .i64 0, .slice none 0 0], []⟩ 8 (by kernel_rfl) (by kernel_rfl) (by kernel_rfl) (by kernel_rfl)) ?_
  intro W base args ds gs before hval0 hW hcnd _
  have hval : ∀ (j : Nat) t v, Tryz.f3.params[j]? = some t → args[j]? = some v → Value.okWide Tryz.prog W .any base t v := hval0
  have hW' := hW
  obtain ⟨p, q, hA0, hV, rfl, hfz, hnd⟩ := hW
  have hA : DataW.TrodAll enc Tryz.prog W 0 (fun _ => true) true Tryz.f3.params.toList args.toList ds p := hA0
  rw [Tryz.params3] at hA hval
  obtain ⟨v0, vs0, d0, ds0, p0, q0, hargs, rfl, rfl, h0, r0⟩ := trodAll_cons hA
  obtain ⟨v1, vs1, d1, ds1, p1, q1, rfl, rfl, rfl, h1, r1⟩ := trodAll_cons r0
  obtain ⟨rfl, rfl, rfl⟩ := trodAll_nil r1
  obtain rfl : args = #[v0, v1] := by cases args; simp_all
  obtain ⟨rfl, rfl⟩ := trodVars_none hV
  have k0 := h0
  have lt0 : ∀ x ∈ p0, x.block < W.heap.size := by obtain ⟨m, hm⟩ := k0; exact DataW.trod_lt m _ _ _ hm
  have k1 := h1
  have lt1 : ∀ x ∈ p1, x.block < W.heap.size := by obtain ⟨m, hm⟩ := k1; exact DataW.trod_lt m _ _ _ hm
  obtain ⟨nx0, rfl, lox0, hix0⟩ := op_int (hval 0 3 v0 rfl rfl) h0
  obtain ⟨ax1, nx1, kx1, lsx1, rfl, hncx1, hcmx1, hsx1⟩ := op_ops7 (hval 1 22 v1 rfl rfl) h1
  clear hA0 hval0
  refine (walk iface0 iface7 nx0 ax1 nx1 kx1 lsx1 W hncx1 hcmx1 hsx1).mono fun e W' ⟨he, bel⟩ => ?_
  subst he
  exact ⟨_, rfl, _, _, _, [], _, [], hW', trodAll_mk1 (shut_bool Tryz.underlying4 _), trodAll_cons_mk (Below.trod laidOut (by kernel_rfl) (of_decide_eq_true (by kernel_rfl)) k0 bel lt0) (trodAll_cons_mk (Below.trod laidOut (by kernel_rfl) (of_decide_eq_true (by kernel_rfl)) k1 bel lt1) (trodAll_mk0)), rfl, bel.frame _, fun h => by cases h⟩

theorem over : Rows.slotsPlaysRow.holds Tryz.pinned (OpenSpec.ofChange Rows.slotsPlaysSpec) :=
  OpenClaim.holds_of_wide 3 Tryz.f3 rfl rfl rfl rfl rfl rfl rfl ⟨rfl, rfl, rfl, rfl, rfl⟩ rfl rfl rfl rfl rfl (by kernel_rfl) Tryz.func3 (by kernel_rfl)
    (of_decide_eq_true (by kernel_rfl)) (by unfold Func.isWrapper; first | (rw [if_pos (by decide +kernel)]; kernel_rfl) | (rw [if_neg (by decide +kernel)]; exact ⟨rfl, rfl⟩))
    (fun os started H enc _ => lifted os started H enc)

theorem proved : Rows.SlotsPlaysSaid := over
end Go.Proofs.YtnpoohkklfpmdaaGreat.slotsPlays
