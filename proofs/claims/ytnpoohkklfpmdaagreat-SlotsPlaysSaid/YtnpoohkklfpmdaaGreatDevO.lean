/- Slices of the laws' arguments, as they are read. -/
import Derived.Test.YtnpoohkklfpmdaaGreatRows
import Derived.WalkKit
import Derived.Below
import Derived.ProofKit
import Derived.OpenShut
import Derived.ShutString
import Derived.ChangeOld
import Derived.Outline
import Derived.RegionTactic
import Derived.ChangeAlike
import Derived.BigRegion
import Derived.BigQuiet
import Derived.Deep.QuietTactic
import Derived.Deep.RegionWith
import Derived.Deep.RegionLaw
import Derived.Deep.RegionHeld3
import Derived.Deep.AppendLies
import Derived.Deep.Draws
import Derived.StillTailTactics
import Derived.Lib.Hide
import Derived.Lib.SmallJoins
import Derived.Handy
import Derived.WalkSpells
import Derived.WalkLawsBesides
import Derived.Deep.LoopGhost
import Derived.Deep.DeepCutAuto
import Derived.Deep.CutBlock
import Derived.Deep.CutRange
import Derived.Deep.OwnRows
import Derived.Laws.CopyOwn
import Derived.Test.YtnpoohkklfpmdaaGreatOpeners
import Derived.Test.YtnpoohkklfpmdaaGreatDevDoc
namespace Go.Proofs.YtnpoohkklfpmdaaGreat
open Go.RowKit
set_option linter.unusedSimpArgs false
set_option linter.unusedVariables false
set_option linter.unnecessarySimpa false
open Go.ChangeShapes Go.WideShapes Go.ChangeAt
section
variable {H : Type} {enc : TypeId × Value → H} {W : World} {base : Nat}
/-- What a slice of elements of sz cells each has in it, cell by cell, as it is read. -/
theorem slice_each {t e : TypeId} {sz fuel : Nat} {cs : List Value} {x : DataW H × List MemPlace} (ht : Tryz.prog.underlying t = some (.slice e)) (hc : Tryz.prog.cellsOf e = sz) (h0 : 0 < sz) (h : DataW.trod enc Tryz.prog W 0 (fun _ => true) true fuel t cs = some x) :
    ∃ a n c, cs = [.slice a n c] ∧ n ≤ c ∧ c ≤ maxLen ∧ (0 < n → ∃ b off, a = some ⟨b, off, none⟩ ∧ b < W.heap.size ∧ ∀ k, k < n → ∃ (us : List Value) (m : Nat) (y : DataW H × List MemPlace), us.length = sz ∧ (∀ i u, us[i]? = some u → W.cell? ⟨b, off + k * sz + i, none⟩ = some u) ∧ DataW.trod enc Tryz.prog W 0 (fun _ => true) true m e us = some y) := by
  rcases DataW.trod_slice ht h with ⟨hcs, _⟩ | ⟨a, l, c, elems, rest, n, _, hcs, _, _, hl, hm, hlen, hel, _, _⟩
  · exact ⟨none, 0, 0, hcs, Nat.le_refl _, Nat.zero_le _, fun h => absurd h (by omega)⟩
  · refine ⟨some a, l, c, hcs, hl, hm, fun hn => ?_⟩
    have each : ∀ k, k < l → ∃ (us : List Value) (y : DataW H × List MemPlace), us.length = sz ∧ (∀ i u, us[i]? = some u → W.cell? ((a.add (k * sz)).add i) = some u) ∧ DataW.trod enc Tryz.prog W 0 (fun _ => true) true n e us = some y := by
      intro k hk
      have h1 := hel k hk
      rw [hc, List.getElem?_eq_getElem (by omega), Option.bind_eq_some_iff] at h1
      obtain ⟨us, hus, hy⟩ := h1
      obtain ⟨_, g2, g3⟩ := World.cells?_some hus
      refine ⟨us, _, g2, fun i u hi => ?_, hy⟩
      have hil : i < sz := by
        rcases Nat.lt_or_ge i sz with q | q
        · exact q
        · rw [List.getElem?_eq_none (by omega)] at hi; cases hi
      have := g3 i hil
      rw [hi] at this
      exact this
    obtain ⟨us0, _, hu0, hc0, _⟩ := each 0 hn
    obtain ⟨u, hu⟩ : ∃ u, us0[0]? = some u := ⟨us0[0]'(by omega), List.getElem?_eq_getElem _⟩
    have g0 := hc0 0 u hu
    obtain ⟨b, off, spot⟩ := a
    have hspot : spot = none := by simpa [Addr.add] using World.cell?_spot g0
    subst hspot
    have hb : b < W.heap.size := by simpa [Addr.add] using World.block_lt_of_cell? W _ g0
    have ha : ∀ i j, ((⟨b, off, none⟩ : Addr).add i).add j = ⟨b, off + i + j, none⟩ := by
      intro i j; unfold Addr.add; split <;> split <;> simp_all
    refine ⟨b, off, rfl, hb, fun k hk => ?_⟩
    obtain ⟨us, y, h1, h2, h3⟩ := each k hk
    exact ⟨us, n, y, h1, fun i u hi => by rw [← ha]; exact h2 i u hi, h3⟩
/-- A list out of what each place has. -/
theorem choose_list {α : Type} (n : Nat) (P : Nat → α → Prop) (h : ∀ k, k < n → ∃ x, P k x) : ∃ l : List α, l.length = n ∧ ∀ k x, l[k]? = some x → P k x := by
  induction n with
  | zero => exact ⟨[], rfl, fun k x hk => by simp at hk⟩
  | succ n ih =>
    obtain ⟨l, h1, h2⟩ := ih fun k hk => h k (by omega)
    obtain ⟨x, hx⟩ := h n (by omega)
    refine ⟨l ++ [x], by simp [h1], fun k y hk => ?_⟩
    rcases Nat.lt_or_ge k n with q | q
    · rw [List.getElem?_append_left (by omega)] at hk; exact h2 k y hk
    · rw [List.getElem?_append_right (by omega)] at hk
      rcases Nat.lt_or_ge (k - l.length) 1 with q2 | q2
      · have : k = n := by omega
        subst this
        have e : k - l.length = 0 := by omega
        rw [e] at hk
        simp at hk
        rw [← hk]; exact hx
      · rw [List.getElem?_eq_none (by simpa using q2)] at hk; cases hk
theorem cells_bool : Tryz.prog.cellsOf 4 = 1 := by kernel_rfl
theorem one_of {α : Type} {l : List α} (h : l.length = 1) : ∃ x, l = [x] := by
  match l, h with
  | [x], _ => exact ⟨x, rfl⟩
/-- A slice of truths, as it is read. -/
theorem bools_trod {fuel : Nat} {cs : List Value} {x : DataW H × List MemPlace} (h : DataW.trod enc Tryz.prog W 0 (fun _ => true) true fuel 36 cs = some x) :
    ∃ a n c ls, cs = [.slice a n c] ∧ n ≤ c ∧ c ≤ maxLen ∧ BoolsAt W a n ls ∧ ∀ b off, 0 < n → a = some ⟨b, off, none⟩ → b < W.heap.size := by
  obtain ⟨a, n, c, rfl, h1, h2, h3⟩ := slice_each Tryz.underlying36 cells_bool (by omega) h
  by_cases hn : 0 < n
  · obtain ⟨b, off, rfl, hb, hc⟩ := h3 hn
    obtain ⟨ls, hl, hx⟩ := choose_list n (fun k (x : Bool) => W.cell? ⟨b, off + k, none⟩ = some (.bool x)) fun k hk => by
      obtain ⟨us, m, y, hu, hcell, hy⟩ := hc k hk
      obtain ⟨z, e, _⟩ := DataW.trod_bool Tryz.underlying4 hy
      subst e
      exact ⟨z, by have := hcell 0 _ rfl; rwa [Nat.mul_one, Nat.add_zero] at this⟩
    exact ⟨_, n, c, ls, rfl, h1, h2, ⟨hl, fun _ => ⟨b, off, rfl, hb, fun k x hk => hx k x hk⟩⟩, fun b' off' _ e => by simp at e; rw [← e.1]; exact hb⟩
  · obtain rfl : n = 0 := by omega
    exact ⟨a, 0, c, [], rfl, h1, h2, ⟨rfl, fun h => absurd h (by omega)⟩, fun _ _ h => absurd h (by omega)⟩
end
end Go.Proofs.YtnpoohkklfpmdaaGreat
