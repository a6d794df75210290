import Derived.Test.YtlplgpmadfmjjaaDoorRows
import Derived.WalkKit
import Derived.Below
import Derived.ProofKit
import Derived.OpenShut
import Derived.ShutString
import Derived.ChangeOld
import Derived.Outline
import Derived.RegionTactic
import Derived.ChangeAlike
import Derived.BigRegion
import Derived.BigQuiet
import Derived.Deep.QuietTactic
import Derived.Deep.RegionWith
import Derived.Deep.RegionLaw
import Derived.Deep.RegionHeld3
import Derived.Deep.AppendLies
import Derived.Deep.Draws
import Derived.StillTailTactics
import Derived.Lib.Hide
import Derived.Lib.SmallJoins
import Derived.Handy
import Derived.Stop.BytesEq
import Derived.WalkSpells
import Derived.WalkLawsBesides
import Derived.Deep.LoopGhost
import Derived.Deep.DeepCutAuto
import Derived.Laws.CopyOwn
import Derived.ProofKit
import Derived.LaidMore
import Derived.Stop.Joined
import Derived.Test.YtlplgpmadfmjjaaDoorHashK
namespace Go.Proofs.YtlplgpmadfmjjaaDoor
open Go.RowKit
set_option linter.unusedSimpArgs false
set_option linter.unusedVariables false
open Go.ChangeShapes Go.WideShapes Go.ChangeAt
open Go.ChangeMaps (open_string shut_string)
theorem own : ownKnob Tryd.prog.godebug = none := by kernel_rfl
theorem laidOut : laidOutB Tryd.prog = true := by kernel_rfl
theorem take_drop_one {α : Type} {cs : List α} {i : Nat} {v : α} (hi : i < cs.length) (e : List.take 1 (List.drop (i * 1) cs) = [v]) : cs[i] = v := by
  rw [Nat.mul_one] at e
  have := congrArg (·[0]?) e
  simp only [List.getElem?_take_of_lt (Nat.zero_lt_one), List.getElem?_drop, Nat.add_zero, List.getElem?_eq_getElem hi] at this
  simpa using this
section
variable {H : Type} {enc : TypeId × Value → H} {W : World} {base : Nat}
theorem op_int {v : Value} {d : DataW H} {ps : List MemPlace} (hv : Value.okWide Tryd.prog W .any base 3 v) (h : DataW.Trod enc Tryd.prog W 0 (fun _ => true) true 3 v d ps) :
    ∃ n : Int, v = .int .i64 n ∧ -9223372036854775808 ≤ n ∧ n < 9223372036854775808 := by
  obtain ⟨x, rfl, rfl, rfl, wx⟩ := open_int Tryd.underlying3 hv h
  have hb := bounds_i64 wx
  exact ⟨x, rfl, by omega, by omega⟩
theorem op_str {v : Value} {d : DataW H} {ps : List MemPlace} (hv : Value.okWide Tryd.prog W .any base 9 v) (h : DataW.Trod enc Tryd.prog W 0 (fun _ => true) true 9 v d ps) :
    ∃ l : List UInt8, v = .string ⟨l.toArray⟩ ∧ l.length ≤ maxLen := by
  obtain ⟨s, rfl, rfl, rfl, hs⟩ := open_string Tryd.underlying9 hv h
  exact ⟨s.data.toList, rfl, hs⟩
theorem arr_u8 {n fuel : Nat} {t : TypeId} {cs : List Value} {x : DataW H × List MemPlace} {sp : Nat → Bool} {held : Bool} (ht : Tryd.prog.underlying t = some (.array n 5)) (hc : Tryd.prog.cellsOf t = n)
    (h : DataW.trod enc Tryd.prog W 0 sp held fuel t cs = some x) : ∃ l : List UInt8, l.length = n ∧ cs = bcells l := by
  obtain ⟨xs, m, _, _, hcl, hxl, hx⟩ := DataW.trod_array ht h
  have h1 : Tryd.prog.cellsOf 5 = 1 := by kernel_rfl
  rw [hc] at hcl
  refine ⟨cs.map (fun v => match v with | .int _ k => UInt8.ofNat k.toNat | _ => 0), by simpa using hcl, ?_⟩
  apply List.ext_getElem
  · simp [bcells]
  · intro i hi _
    have hin : i < n := by omega
    have g := hx i hin
    rw [h1, List.getElem?_eq_getElem (by omega)] at g
    obtain ⟨k, e, _, wk⟩ := DataW.trod_int Tryd.underlying5 g
    have e := take_drop_one hi e
    have hb := bounds_u8 wk
    simp [bcells, e]
    omega
theorem arr_u32 {n fuel : Nat} {t : TypeId} {cs : List Value} {sp : Nat → Bool} {held : Bool} {L : List (BitVec 32)} {p : List MemPlace} (ht : Tryd.prog.underlying t = some (.array n 52)) (hc : Tryd.prog.cellsOf t = n) (hL : L.length = n)
    (h : DataW.trod enc Tryd.prog W 0 sp held fuel t cs = some (.agg (L.map fun x => .lit (.int .u32 x.toNat)), p)) : cs = uc L := by
  obtain ⟨xs, m, _, hxe, hcl, hxl, hx⟩ := DataW.trod_array ht h
  have h1 : Tryd.prog.cellsOf 52 = 1 := by kernel_rfl
  rw [hc] at hcl
  simp only [Prod.mk.injEq, DataW.agg.injEq] at hxe
  apply List.ext_getElem
  · simp [uc, hcl, hL]
  · intro i hi hi2
    have hin : i < n := by omega
    have g := hx i hin
    rw [h1, List.getElem?_eq_getElem (by omega)] at g
    obtain ⟨k, e, ex, wk⟩ := DataW.trod_int Tryd.underlying52 g
    have e := take_drop_one hi e
    have e2 := congrArg (·[i]?) hxe.1
    simp only [List.getElem?_map, List.getElem?_eq_getElem (show i < xs.length by omega), List.getElem?_eq_getElem (show i < L.length by omega), Option.map_some, Option.some.injEq, ex] at e2
    simp at e2
    simp [uc, e, ← e2]
theorem op_hash {v : Value} {d : DataW H} {ps : List MemPlace} (hv : Value.okWide Tryd.prog W .any base 23 v) (h : DataW.Trod enc Tryd.prog W 0 (fun _ => true) true 23 v d ps) :
    ∃ x : List UInt8, v = aggB x ∧ x.length = 32 := by
  have hv2 : ∃ cs, v = .agg cs := by
    simp only [Value.okWide, Tryd.underlying23] at hv
    obtain ⟨cs, h1, _⟩ := hv
    exact ⟨cs, h1⟩
  obtain ⟨cs, rfl⟩ := hv2
  obtain ⟨fuel, hf⟩ := h
  obtain ⟨l, hl, e⟩ := arr_u8 Tryd.underlying23 (by kernel_rfl) hf
  refine ⟨l, ?_, hl⟩
  simp [Value.cells] at e
  simp [aggB, ← e]
end

theorem gFirst : Tryd.prog.globalNamed "twinspan/hash.first" = some 1 := by kernel_rfl
theorem gRound : Tryd.prog.globalNamed "twinspan/hash.ofRound" = some 0 := by kernel_rfl
theorem tFirst : (Tryd.prog.globals[1]?).map (·.type) = some 58 := by kernel_rfl
theorem tRound : (Tryd.prog.globals[0]?).map (·.type) = some 66 := by kernel_rfl
abbrev laid2 : List (String × DataW Unit) := [("twinspan/hash.first", Rows.laid_twinspan_hash_first), ("twinspan/hash.ofRound", Rows.laid_twinspan_hash_ofRound)]
theorem door_met (os : Os) (args : Array Value) : laidMetH Tryd.prog laid2 ((World.doorLaid Tryd.prog 19 os).forCall (fun _ _ => 0) ⟨#[], args, []⟩).memory :=
  laidMetH_of_parts3 (fuel := 8) (laidMet_of_run' 8 (by kernel_rfl) (by kernel_rfl)) (by kernel_rfl) (by kernel_rfl)
theorem laid_first_eq : (Rows.laid_twinspan_hash_first : DataW Unit) = .agg (h0s.map fun x => .lit (.int .u32 x.toNat)) := by kernel_rfl
theorem laid_round_eq : (Rows.laid_twinspan_hash_ofRound : DataW Unit) = .agg (ks.map fun x => .lit (.int .u32 x.toNat)) := by kernel_rfl
theorem tabs_of_laid {W : World} (h : laidMetH Tryd.prog laid2 W) : Tabs W := by
  rw [MakeChecks.laidMetH_plain _ _ _ (by kernel_rfl)] at h
  obtain ⟨ps, ⟨g0, t0, cs0, f0, p0, q0, hg0, ht0, hv0, hd0, ⟨g1, t1, cs1, f1, p1, q1, hg1, ht1, hv1, hd1, _, _⟩, _⟩, _, _⟩ := h
  obtain rfl := Option.some.inj (gFirst.symm.trans hg0)
  obtain rfl := Option.some.inj (gRound.symm.trans hg1)
  obtain rfl := Option.some.inj (tFirst.symm.trans ht0)
  obtain rfl := Option.some.inj (tRound.symm.trans ht1)
  rw [laid_first_eq] at hd0
  rw [laid_round_eq] at hd1
  have e0 := arr_u32 Tryd.underlying58 (by kernel_rfl) rfl hd0
  have e1 := arr_u32 Tryd.underlying66 (by kernel_rfl) rfl hd1
  have c0 : ∀ k, k < 8 → W.cell? ⟨1, k, none⟩ = some (.int .u32 (h0s.getD k 0).toNat) := fun k hk => by
    have := World.var?_cell hg0 hv0 k
    rw [this, ← Array.getElem?_toList, e0]
    exact uc_get (by exact hk)
  have c1 : ∀ k, k < 64 → W.cell? ⟨0, k, none⟩ = some (.int .u32 (ks.getD k 0).toNat) := fun k hk => by
    have := World.var?_cell hg1 hv1 k
    rw [this, ← Array.getElem?_toList, e1]
    exact uc_get (by exact hk)
  exact ⟨c1, c0, World.block_lt_of_cell? W _ (c0 0 (by decide))⟩
end Go.Proofs.YtlplgpmadfmjjaaDoor
