/- The openers of the laws' arguments: what each argument's reading says of its value. -/
import Derived.Test.YtkhmhffphmkefaaLawY
namespace Go.Proofs.Ytkhmhffphmkefaa
open Go.RowKit
open Go.ChangeShapes Go.WideShapes Go.ChangeAt
open Go.ChangeMaps (open_string shut_string)
variable {H : Type} {enc : TypeId × Value → H} {W : World} {base : Nat}

theorem op_str {v : Value} {d : DataW H} {ps : List MemPlace} (hv : Value.okWide Try.prog W .any base 9 v) (h : DataW.Trod enc Try.prog W 0 (fun _ => true) true 9 v d ps) :
    ∃ l : List UInt8, v = .string ⟨l.toArray⟩ ∧ l.length ≤ maxLen := by
  obtain ⟨s, rfl, rfl, rfl, hs⟩ := open_string Try.underlying9 hv h
  exact ⟨s.data.toList, rfl, hs⟩
theorem op_bool {v : Value} {d : DataW H} {ps : List MemPlace} (hv : Value.okWide Try.prog W .any base 4 v) (h : DataW.Trod enc Try.prog W 0 (fun _ => true) true 4 v d ps) :
    ∃ b : Bool, v = .bool b := by
  obtain ⟨b, rfl, rfl, rfl⟩ := open_bool Try.underlying4 hv h
  exact ⟨b, rfl⟩
theorem strsAt_trod {fuel : Nat} {cs : List Value} {x : DataW H × List MemPlace} (h : DataW.trod enc Try.prog W 0 (fun _ => true) true fuel 25 cs = some x) :
    ∃ a n c ls, cs = [.slice a n c] ∧ n ≤ c ∧ c ≤ maxLen ∧ StrsAt W W.heap.size a n ls := by
  rcases open_strings Try.underlying25 Try.underlying9 (by kernel_rfl) h with ⟨rfl, _⟩ | ⟨a, len, cap, ss, rfl, _, hl, hm, hss, _, hcell, _⟩
  · exact ⟨none, 0, 0, [], rfl, Nat.le_refl _, Nat.zero_le _, rfl, fun h => absurd h (by omega)⟩
  · simp at hss
    refine ⟨some a, len, cap, (ss.take len).map (·.data.toList), rfl, hl, hm, by simp; omega, fun hn => ?_⟩
    have h0 := hcell 0 (by omega)
    obtain ⟨b, off, spot⟩ := a
    have hspot : spot = none := by simpa [Addr.add] using World.cell?_spot h0
    subst hspot
    have hb : b < W.heap.size := by simpa [Addr.add] using World.block_lt_of_cell? W _ h0
    refine ⟨b, off, rfl, hb, fun k l hk => ?_⟩
    have hkl : k < len := by
      rcases Nat.lt_or_ge k len with h | h
      · exact h
      · rw [List.getElem?_eq_none (by simp; omega)] at hk; cases hk
    have h2 := hcell k (by omega)
    rw [show (⟨b, off, none⟩ : Addr).add k = ⟨b, off + k, none⟩ from by unfold Addr.add; split <;> simp_all] at h2
    rw [h2]
    have e : ss.getD k ByteArray.empty = ss[k] := by simp [List.getD, List.getElem?_eq_getElem (by omega : k < ss.length)]
    rw [e]
    simp only [List.getElem?_map, List.getElem?_take_of_lt hkl, List.getElem?_eq_getElem (by omega : k < ss.length), Option.map_some, Option.some.injEq] at hk
    rw [← hk]
theorem op_strs {v : Value} {d : DataW H} {ps : List MemPlace} (hv : Value.okWide Try.prog W .any base 25 v) (h : DataW.Trod enc Try.prog W 0 (fun _ => true) true 25 v d ps) :
    ∃ a n c ls, v = .slice a n c ∧ n ≤ c ∧ c ≤ maxLen ∧ StrsAt W W.heap.size a n ls := by
  obtain ⟨a0, len, cap, rfl⟩ := okWide_slice Try.underlying25 hv
  obtain ⟨fuel, hf⟩ := h
  obtain ⟨a, n, c, ls, hcs, h1, h2, h3⟩ := strsAt_trod hf
  simp [Value.cells] at hcs
  obtain ⟨rfl, rfl, rfl⟩ := hcs
  exact ⟨_, _, _, ls, rfl, h1, h2, h3⟩
theorem op_field {v : Value} {d : DataW H} {ps : List MemPlace} (hv : Value.okWide Try.prog W .any base 24 v) (h : DataW.Trod enc Try.prog W 0 (fun _ => true) true 24 v d ps) :
    ∃ (c : UInt8) (n : Nat) (l : List UInt8), v = .agg #[.int .u8 c.toNat, .int .u64 n, .string ⟨l.toArray⟩] ∧ n < 18446744073709551616 ∧ l.length ≤ maxLen := by
  obtain ⟨v0, v1, v2, y0, y1, y2, n, rfl, rfl, rfl, h0, h1, h2⟩ := Go.Joins.open_agg3 Try.underlying24 (by kernel_rfl) (by kernel_rfl) hv h
  obtain ⟨x0, e0, _, w0⟩ := DataW.trod_int Try.underlying5 h0
  obtain ⟨x1, e1, _, w1⟩ := DataW.trod_int Try.underlying22 h1
  obtain ⟨s, e2, _, hs⟩ := DataW.trod_string Try.underlying9 h2
  simp at e0 e1 e2
  subst e0 e1 e2
  have b0 := bounds_u8 w0
  have b1 := bounds_u64 w1
  exact ⟨UInt8.ofNat x0.toNat, x1.toNat, s.data.toList, by simp; omega, by omega, hs⟩
theorem op_strs2 {v : Value} {d : DataW H} {ps : List MemPlace} (hv : Value.okWide Try.prog W .any base 54 v) (h : DataW.Trod enc Try.prog W 0 (fun _ => true) true 54 v d ps) :
    ∃ a n c ls b m k ms, v = .agg #[.slice a n c, .slice b m k] ∧ n ≤ c ∧ StrsAt W W.heap.size a n ls ∧ m ≤ k ∧ StrsAt W W.heap.size b m ms := by
  have hv2 : ∃ cs, v = .agg cs ∧ cs.size = Try.prog.cellsOf 54 := by
    simp only [Value.okWide, Try.underlying54] at hv
    obtain ⟨cs, h1, h2, _⟩ := hv
    exact ⟨cs, h1, h2⟩
  obtain ⟨cs, rfl, hsz⟩ := hv2
  have h2 : Try.prog.cellsOf 54 = 2 := by kernel_rfl
  have h1 : Try.prog.cellsOf 25 = 1 := by kernel_rfl
  rw [h2] at hsz
  obtain ⟨x, y, rfl⟩ : ∃ x y, cs = #[x, y] := by
    obtain ⟨l⟩ := cs
    match l, hsz with
    | [x, y], _ => exact ⟨x, y, rfl⟩
  obtain ⟨fuel, hf⟩ := h
  obtain ⟨xs, m, _, _, _, hxl, hx⟩ := DataW.trod_array Try.underlying54 hf
  have g0 := hx 0 (by omega)
  have g1 := hx 1 (by omega)
  rw [h1, List.getElem?_eq_getElem (by omega)] at g0 g1
  simp [Value.cells] at g0 g1
  obtain ⟨a, n, c, ls, e0, h3, h4, h5⟩ := strsAt_trod g0
  obtain ⟨b, m', k, ms, e1, h6, h7, h8⟩ := strsAt_trod g1
  simp at e0 e1
  subst e0 e1
  exact ⟨a, n, c, ls, b, m', k, ms, rfl, h3, h5, h6, h8⟩
end Go.Proofs.Ytkhmhffphmkefaa
