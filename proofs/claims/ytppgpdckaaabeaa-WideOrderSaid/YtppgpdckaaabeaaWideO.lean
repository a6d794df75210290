/- Openers of numbers. -/
import Derived.Test.YtppgpdckaaabeaaRows
import Derived.WalkKit
import Derived.Below
import Derived.ProofKit
import Derived.OpenShut
import Derived.ShutString
import Derived.ChangeOld
import Derived.Outline
import Derived.RegionTactic
import Derived.ChangeAlike
import Derived.BigRegion
import Derived.BigQuiet
import Derived.Deep.QuietTactic
import Derived.Deep.RegionWith
import Derived.Deep.RegionLaw
import Derived.Deep.RegionHeld3
import Derived.Deep.AppendLies
import Derived.Deep.Draws
import Derived.StillTailTactics
import Derived.Lib.Hide
import Derived.Lib.SmallJoins
import Derived.Handy
import Derived.WalkSpells
import Derived.WalkLawsBesides
import Derived.Deep.LoopGhost
import Derived.Deep.DeepCutAuto
import Derived.Test.YtppgpdckaaabeaaWideK
import Derived.Test.YtppgpdckaaabeaaOpeners
namespace Go.Proofs.Ytppgpdckaaabeaa
open Go.RowKit
set_option linter.unusedSimpArgs false
set_option linter.unusedVariables false
set_option linter.unnecessarySimpa false
open Go.ChangeShapes Go.WideShapes Go.ChangeAt
theorem four {l : List Nat} (h : l.length = 4) : ∃ a b c d, l = [a, b, c, d] := by
  match l, h with
  | [a, b, c, d], _ => exact ⟨a, b, c, d, rfl⟩
theorem of_limbs (a b c d : Nat) (ha : a < 18446744073709551616) (hb : b < 18446744073709551616) (hc : c < 18446744073709551616) (hd : d < 18446744073709551616) :
    ∃ N, N < 2 ^ 256 ∧ wcells N = [.int .u64 (a : Nat), .int .u64 (b : Nat), .int .u64 (c : Nat), .int .u64 (d : Nat)] := by
  refine ⟨a + 2 ^ 64 * b + 2 ^ 128 * c + 2 ^ 192 * d, ?_, ?_⟩
  · simp only [Nat.reducePow]; omega
  · have e0 : limb (a + 2 ^ 64 * b + 2 ^ 128 * c + 2 ^ 192 * d) 0 = a := by unfold limb; simp only [Nat.reducePow, Nat.reduceMul]; omega
    have e1 : limb (a + 2 ^ 64 * b + 2 ^ 128 * c + 2 ^ 192 * d) 1 = b := by unfold limb; simp only [Nat.reducePow, Nat.reduceMul]; omega
    have e2 : limb (a + 2 ^ 64 * b + 2 ^ 128 * c + 2 ^ 192 * d) 2 = c := by unfold limb; simp only [Nat.reducePow, Nat.reduceMul]; omega
    have e3 : limb (a + 2 ^ 64 * b + 2 ^ 128 * c + 2 ^ 192 * d) 3 = d := by unfold limb; simp only [Nat.reducePow, Nat.reduceMul]; omega
    unfold wcells wints
    rw [e0, e1, e2, e3]
    rfl
section
variable {H : Type} {enc : TypeId × Value → H} {W : World} {base : Nat}
theorem wide_cells {fuel : Nat} {cs : List Value} {x : DataW H × List MemPlace} {sp : Nat → Bool} {held : Bool} (h : DataW.trod enc Try.prog W 0 sp held fuel 24 cs = some x) : ∃ N, N < 2 ^ 256 ∧ cs = wcells N := by
  obtain ⟨l, hl, rfl, hb⟩ := arr_u64 Try.underlying24 (by kernel_rfl) h
  obtain ⟨a, b, c, d, rfl⟩ := four hl
  obtain ⟨N, hN, e⟩ := of_limbs a b c d (hb a (by simp)) (hb b (by simp)) (hb c (by simp)) (hb d (by simp))
  exact ⟨N, hN, by rw [e]; rfl⟩
theorem op_wide {v : Value} {d : DataW H} {ps : List MemPlace} (hv : Value.okWide Try.prog W .any base 24 v) (h : DataW.Trod enc Try.prog W 0 (fun _ => true) true 24 v d ps) :
    ∃ N, v = aggN N ∧ N < 2 ^ 256 := by
  have hv2 : ∃ cs, v = .agg cs := by
    simp only [Value.okWide, Try.underlying24] at hv
    obtain ⟨cs, h1, _⟩ := hv
    exact ⟨cs, h1⟩
  obtain ⟨cs, rfl⟩ := hv2
  obtain ⟨fuel, hf⟩ := h
  obtain ⟨N, hN, e⟩ := wide_cells hf
  refine ⟨N, ?_, hN⟩
  simp [Value.cells] at e
  simp [aggN, ← e]
theorem op_u2 {v : Value} {d : DataW H} {ps : List MemPlace} (hv : Value.okWide Try.prog W .any base 47 v) (h : DataW.Trod enc Try.prog W 0 (fun _ => true) true 47 v d ps) :
    ∃ n m : Nat, v = .agg #[.int .u64 (n : Nat), .int .u64 (m : Nat)] ∧ n < 18446744073709551616 ∧ m < 18446744073709551616 := by
  have hv2 : ∃ cs, v = .agg cs := by
    simp only [Value.okWide, Try.underlying47] at hv
    obtain ⟨cs, h1, _⟩ := hv
    exact ⟨cs, h1⟩
  obtain ⟨cs, rfl⟩ := hv2
  obtain ⟨fuel, hf⟩ := h
  obtain ⟨l, hl, e, hb⟩ := arr_u64 Try.underlying47 (by kernel_rfl) hf
  match l, hl with
  | [n, m], _ =>
    simp [Value.cells] at e
    exact ⟨n, m, by simp [← e], hb n (by simp), hb m (by simp)⟩
/-- A slice of numbers, read in w below block B. -/
def WidesAt (w : World) (B : Nat) (a : Option Addr) (n : Nat) (ls : List Nat) : Prop :=
  ls.length = n ∧ (0 < n → ∃ b off, a = some ⟨b, off, none⟩ ∧ b < B ∧ ∀ k N, ls[k]? = some N → w.rangeAt b (off + k * 4) (wcells N)) ∧ ∀ N ∈ ls, N < 2 ^ 256
theorem WidesAt.below {w w' : World} {B B' : Nat} {a : Option Addr} {n : Nat} {ls : List Nat} (h : WidesAt w B a n ls) (hb : Below B w w') (hB : B ≤ B') : WidesAt w' B' a n ls :=
  ⟨h.1, fun hn => by
    obtain ⟨b, off, e, hlt, hc⟩ := h.2.1 hn
    exact ⟨b, off, e, by omega, fun k N hk j v hv => (hb.cell (p := ⟨b, _, none⟩) hlt).trans (hc k N hk j v hv)⟩, h.2.2⟩
theorem op_wides {v : Value} {d : DataW H} {ps : List MemPlace} (hv : Value.okWide Try.prog W .any base 43 v) (h : DataW.Trod enc Try.prog W 0 (fun _ => true) true 43 v d ps) :
    ∃ a n c ls, v = .slice a n c ∧ n ≤ c ∧ c ≤ maxLen ∧ WidesAt W W.heap.size a n ls := by
  obtain ⟨a0, len, cap, rfl⟩ := okWide_slice Try.underlying43 hv
  obtain ⟨fuel, hf⟩ := h
  rcases DataW.trod_slice Try.underlying43 hf with ⟨hcs, _⟩ | ⟨a, l, c, elems, rest, n, _, hcs, _, _, hl, hm, hlen, hel, _, _⟩
  · simp [Value.cells] at hcs
    obtain ⟨rfl, rfl, rfl⟩ := hcs
    exact ⟨_, _, _, [], rfl, Nat.le_refl _, Nat.zero_le _, rfl, fun h => absurd h (by omega), by simp⟩
  · simp [Value.cells] at hcs
    obtain ⟨rfl, rfl, rfl⟩ := hcs
    have hc4 : Try.prog.cellsOf 24 = 4 := by kernel_rfl
    have each : ∀ k, k < len → ∃ N, N < 2 ^ 256 ∧ ∀ j v, (wcells N)[j]? = some v → W.cell? ((a.add (k * 4)).add j) = some v := by
      intro k hk
      have h1 := hel k hk
      rw [hc4, List.getElem?_eq_getElem (by omega), Option.bind_eq_some_iff] at h1
      obtain ⟨cs, hcs, ht⟩ := h1
      obtain ⟨N, hN, rfl⟩ := wide_cells ht
      obtain ⟨_, _, h3⟩ := World.cells?_some hcs
      refine ⟨N, hN, fun j v hj => ?_⟩
      have hj4 : j < 4 := (List.getElem?_eq_some_iff.1 hj).1
      rw [h3 j hj4]; exact hj
    let f : Nat → Nat := fun k => if h : k < len then (each k h).choose else 0
    have hf1 : ∀ k, (h : k < len) → f k < 2 ^ 256 ∧ ∀ j v, (wcells (f k))[j]? = some v → W.cell? ((a.add (k * 4)).add j) = some v := fun k h => by
      simp only [f, h, dif_pos]
      exact (each k h).choose_spec
    refine ⟨some a, len, _, (List.range len).map f, rfl, hl, hm, by simp, fun hn => ?_, fun N hN => ?_⟩
    · have g0 := (hf1 0 hn).2 0 _ rfl
      obtain ⟨b, off, spot⟩ := a
      have hspot : spot = none := by simpa [Addr.add] using World.cell?_spot g0
      subst hspot
      have hb : b < W.heap.size := by simpa [Addr.add] using World.block_lt_of_cell? W _ g0
      have ha : ∀ i j, ((⟨b, off, none⟩ : Addr).add i).add j = ⟨b, off + i + j, none⟩ := by
        intro i j; unfold Addr.add; split <;> split <;> simp_all
      refine ⟨b, off, rfl, hb, fun k N hk j v hj => ?_⟩
      have hkl : k < len := by
        have := (List.getElem?_eq_some_iff.1 hk).1
        simpa using this
      have e : f k = N := by simpa [hkl] using hk
      have := (hf1 k hkl).2 j v (by rw [e]; exact hj)
      rw [ha] at this
      exact this
    · simp at hN
      obtain ⟨k, hk, rfl⟩ := hN
      exact (hf1 k hk).1
end
end Go.Proofs.Ytppgpdckaaabeaa
