/- Openers: what a law's arguments are, out of the row's reading; for all layers. -/
import Derived.Test.YtnpoohkklfpmdaaGreatRows
import Derived.WalkKit
import Derived.Below
import Derived.ProofKit
import Derived.OpenShut
import Derived.ShutString
import Derived.ChangeOld
import Derived.ChangeAlike
import Derived.LaidMore
import Derived.Lib.Hide
import Derived.Lib.SmallJoins
import Derived.Handy
import Derived.Deep.OwnRows
import Derived.Stop.Joined
import Derived.Test.YtnpoohkklfpmdaaGreatKit
namespace Go.Proofs.YtnpoohkklfpmdaaGreat
open Go.RowKit
set_option maxRecDepth 100000
set_option linter.unusedSimpArgs false
set_option linter.unusedVariables false
open Go.ChangeShapes Go.WideShapes Go.ChangeAt
open Go.ChangeMaps (open_string shut_string)
theorem own : ownKnob Tryz.prog.godebug = none := by kernel_rfl
theorem laidOut : laidOutB Tryz.prog = true := by kernel_rfl
theorem take_drop_one {α : Type} {cs : List α} {i : Nat} {v : α} (hi : i < cs.length) (e : List.take 1 (List.drop (i * 1) cs) = [v]) : cs[i] = v := by
  rw [Nat.mul_one] at e
  have := congrArg (·[0]?) e
  simp only [List.getElem?_take_of_lt (Nat.zero_lt_one), List.getElem?_drop, Nat.add_zero, List.getElem?_eq_getElem hi] at this
  simpa using this
section
variable {H : Type} {enc : TypeId × Value → H} {W : World} {base : Nat}
theorem op_u8 {v : Value} {d : DataW H} {ps : List MemPlace} (hv : Value.okWide Tryz.prog W .any base 5 v) (h : DataW.Trod enc Tryz.prog W 0 (fun _ => true) true 5 v d ps) : ∃ c : UInt8, v = .int .u8 c.toNat := by
  obtain ⟨x, rfl, rfl, rfl, wx⟩ := open_int Tryz.underlying5 hv h
  have hb := bounds_u8 wx
  exact ⟨UInt8.ofNat x.toNat, by simp; omega⟩
theorem op_int {v : Value} {d : DataW H} {ps : List MemPlace} (hv : Value.okWide Tryz.prog W .any base 3 v) (h : DataW.Trod enc Tryz.prog W 0 (fun _ => true) true 3 v d ps) :
    ∃ n : Int, v = .int .i64 n ∧ -9223372036854775808 ≤ n ∧ n < 9223372036854775808 := by
  obtain ⟨x, rfl, rfl, rfl, wx⟩ := open_int Tryz.underlying3 hv h
  have hb := bounds_i64 wx
  exact ⟨x, rfl, by omega, by omega⟩
theorem op_u64 {v : Value} {d : DataW H} {ps : List MemPlace} (hv : Value.okWide Tryz.prog W .any base 84 v) (h : DataW.Trod enc Tryz.prog W 0 (fun _ => true) true 84 v d ps) :
    ∃ n : Nat, v = .int .u64 (n : Nat) ∧ n < 18446744073709551616 := by
  obtain ⟨x, rfl, rfl, rfl, wx⟩ := open_int Tryz.underlying84 hv h
  have hb := bounds_u64 wx
  exact ⟨x.toNat, by congr 1; omega, by omega⟩
theorem op_str {v : Value} {d : DataW H} {ps : List MemPlace} (hv : Value.okWide Tryz.prog W .any base 9 v) (h : DataW.Trod enc Tryz.prog W 0 (fun _ => true) true 9 v d ps) :
    ∃ l : List UInt8, v = .string ⟨l.toArray⟩ ∧ l.length ≤ maxLen := by
  obtain ⟨s, rfl, rfl, rfl, hs⟩ := open_string Tryz.underlying9 hv h
  exact ⟨s.data.toList, rfl, hs⟩
theorem op_bool {v : Value} {d : DataW H} {ps : List MemPlace} (hv : Value.okWide Tryz.prog W .any base 4 v) (h : DataW.Trod enc Tryz.prog W 0 (fun _ => true) true 4 v d ps) :
    ∃ b : Bool, v = .bool b := by
  obtain ⟨b, rfl, rfl, rfl⟩ := open_bool Tryz.underlying4 hv h
  exact ⟨b, rfl⟩
theorem strsAt_trod {fuel : Nat} {cs : List Value} {x : DataW H × List MemPlace} (h : DataW.trod enc Tryz.prog W 0 (fun _ => true) true fuel 29 cs = some x) :
    ∃ a n c ls, cs = [.slice a n c] ∧ n ≤ c ∧ c ≤ maxLen ∧ StrsAt W W.heap.size a n ls := by
  rcases open_strings Tryz.underlying29 Tryz.underlying9 (by kernel_rfl) h with ⟨rfl, _⟩ | ⟨a, len, cap, ss, rfl, _, hl, hm, hss, _, hcell, _⟩
  · exact ⟨none, 0, 0, [], rfl, Nat.le_refl _, Nat.zero_le _, rfl, fun h => absurd h (by omega)⟩
  · simp at hss
    refine ⟨some a, len, cap, (ss.take len).map (·.data.toList), rfl, hl, hm, by simp; omega, fun hn => ?_⟩
    have h0 := hcell 0 (by omega)
    obtain ⟨b, off, spot⟩ := a
    have hspot : spot = none := by simpa [Addr.add] using World.cell?_spot h0
    subst hspot
    have hb : b < W.heap.size := by simpa [Addr.add] using World.block_lt_of_cell? W _ h0
    refine ⟨b, off, rfl, hb, fun k l hk => ?_⟩
    have hkl : k < len := by
      rcases Nat.lt_or_ge k len with h | h
      · exact h
      · rw [List.getElem?_eq_none (by simp; omega)] at hk; cases hk
    have h2 := hcell k (by omega)
    rw [show (⟨b, off, none⟩ : Addr).add k = ⟨b, off + k, none⟩ from by unfold Addr.add; split <;> simp_all] at h2
    rw [h2]
    have e : ss.getD k ByteArray.empty = ss[k] := by simp [List.getD, List.getElem?_eq_getElem (by omega : k < ss.length)]
    rw [e]
    simp only [List.getElem?_map, List.getElem?_take_of_lt hkl, List.getElem?_eq_getElem (by omega : k < ss.length), Option.map_some, Option.some.injEq] at hk
    rw [← hk]
theorem op_strs {v : Value} {d : DataW H} {ps : List MemPlace} (hv : Value.okWide Tryz.prog W .any base 29 v) (h : DataW.Trod enc Tryz.prog W 0 (fun _ => true) true 29 v d ps) :
    ∃ a n c ls, v = .slice a n c ∧ n ≤ c ∧ c ≤ maxLen ∧ StrsAt W W.heap.size a n ls := by
  obtain ⟨a0, len, cap, rfl⟩ := okWide_slice Tryz.underlying29 hv
  obtain ⟨fuel, hf⟩ := h
  obtain ⟨a, n, c, ls, hcs, h1, h2, h3⟩ := strsAt_trod hf
  simp [Value.cells] at hcs
  obtain ⟨rfl, rfl, rfl⟩ := hcs
  exact ⟨_, _, _, ls, rfl, h1, h2, h3⟩
/-- An array of integers. -/
theorem arr_u64 {n fuel : Nat} {t : TypeId} {cs : List Value} {x : DataW H × List MemPlace} {sp : Nat → Bool} {held : Bool} (ht : Tryz.prog.underlying t = some (.array n 84)) (hc : Tryz.prog.cellsOf t = n)
    (h : DataW.trod enc Tryz.prog W 0 sp held fuel t cs = some x) : ∃ l : List Nat, l.length = n ∧ cs = l.map (fun z => Value.int .u64 (z : Nat)) ∧ ∀ z ∈ l, z < 18446744073709551616 := by
  obtain ⟨xs, m, _, _, hcl, hxl, hx⟩ := DataW.trod_array ht h
  have h1 : Tryz.prog.cellsOf 84 = 1 := by kernel_rfl
  rw [hc] at hcl
  have each : ∀ i, (hi : i < cs.length) → ∃ z : Nat, cs[i] = .int .u64 (z : Nat) ∧ z < 18446744073709551616 := fun i hi => by
    have g := hx i (by omega)
    rw [h1, List.getElem?_eq_getElem (by omega)] at g
    obtain ⟨k, e, _, wk⟩ := DataW.trod_int Tryz.underlying84 g
    have e := take_drop_one hi e
    have hb := bounds_u64 wk
    exact ⟨k.toNat, by rw [e]; congr 1; omega, by omega⟩
  refine ⟨cs.map (fun v => match v with | .int _ k => k.toNat | _ => 0), by simpa using hcl, ?_, ?_⟩
  · apply List.ext_getElem
    · simp
    · intro i hi _
      obtain ⟨z, e, _⟩ := each i hi
      simp [e]
  · intro z hz
    obtain ⟨v, hv, rfl⟩ := List.mem_map.1 hz
    obtain ⟨i, hi, rfl⟩ := List.mem_iff_getElem.1 hv
    obtain ⟨z, e, hz⟩ := each i hi
    simpa [e] using hz
end
end Go.Proofs.YtnpoohkklfpmdaaGreat
