import Derived.Test.YtkhmhffphmkefaaPlain
import Derived.Test.YtkhmhffphmkefaaLawX
import Derived.Test.YtkhmhffphmkefaaTlvT
import Derived.Test.YtkhmhffphmkefaaTlvC
import Derived.Outline
import Derived.RegionTactic
import Derived.ChangeAlike
import Derived.BigRegion
import Derived.BigQuiet
import Derived.Deep.QuietTactic
import Derived.Deep.RegionWith
import Derived.Deep.RegionLaw
import Derived.Deep.AppendLies
import Derived.Deep.Draws
import Derived.Lib.Hide
import Derived.Deep.LoopGhost
import Derived.Deep.RegionHeld3
import Derived.StillTactics
import Derived.OwnWalk
namespace Go.Proofs.Ytkhmhffphmkefaa
open Go.RowKit
open Go.ChangeShapes Go.WideShapes Go.ChangeAt
def i64B (n : Int) : Prop := -9223372036854775808 ≤ n ∧ n < 9223372036854775808
/-- A slice of calls, read in w below block B. -/
def CallsAt (w : World) (B : Nat) (a : Option Addr) (n : Nat) : Prop :=
  0 < n → ∃ b off, a = some ⟨b, off, none⟩ ∧ b < B ∧ ∀ k, k < n → ∃ (kind : Int) (lt : UInt8) (many most : Int), i64B most ∧
    w.cell? ⟨b, off + k * 4, none⟩ = some (.int .i64 kind) ∧ w.cell? ⟨b, off + k * 4 + 1, none⟩ = some (.int .u8 lt.toNat) ∧ w.cell? ⟨b, off + k * 4 + 2, none⟩ = some (.int .i64 many) ∧ w.cell? ⟨b, off + k * 4 + 3, none⟩ = some (.int .i64 most)
variable {H : Type} {enc : TypeId × Value → H} {W : World} {base : Nat}
theorem cells4 {w : World} {base : Nat} {a : Addr} {cs : List Value} (h : w.cells? base a 4 = some cs) : ∃ v0 v1 v2 v3, cs = [v0, v1, v2, v3] ∧ w.cell? (a.add 0) = some v0 ∧ w.cell? (a.add 1) = some v1 ∧ w.cell? (a.add 2) = some v2 ∧ w.cell? (a.add 3) = some v3 := by
  have := World.cells?_some h
  obtain ⟨h1, h2, h3⟩ := this
  match cs, h2 with
  | [v0, v1, v2, v3], _ => exact ⟨v0, v1, v2, v3, rfl, by simpa using h3 0 (by omega), by simpa using h3 1 (by omega), by simpa using h3 2 (by omega), by simpa using h3 3 (by omega)⟩
theorem op_calls {v : Value} {d : DataW H} {ps : List MemPlace} (hv : Value.okWide Try.prog W .any base 35 v) (h : DataW.Trod enc Try.prog W 0 (fun _ => true) true 35 v d ps) :
    ∃ a n c, v = .slice a n c ∧ n ≤ c ∧ c ≤ maxLen ∧ CallsAt W W.heap.size a n := by
  obtain ⟨a0, len, cap, rfl⟩ := okWide_slice Try.underlying35 hv
  obtain ⟨fuel, hf⟩ := h
  rcases DataW.trod_slice Try.underlying35 hf with ⟨hcs, _⟩ | ⟨a, l, c, elems, rest, n, _, hcs, _, _, hl, hm, hlen, hel, _, _⟩
  · simp [Value.cells] at hcs
    obtain ⟨rfl, rfl, rfl⟩ := hcs
    exact ⟨_, _, _, rfl, Nat.le_refl _, Nat.zero_le _, fun h => absurd h (by omega)⟩
  · simp [Value.cells] at hcs
    obtain ⟨rfl, rfl, rfl⟩ := hcs
    refine ⟨_, _, _, rfl, hl, hm, fun hn => ?_⟩
    have hc4 : Try.prog.cellsOf 42 = 4 := by kernel_rfl
    have ci : Try.prog.cellsOf 3 = 1 := by kernel_rfl
    have cu : Try.prog.cellsOf 5 = 1 := by kernel_rfl
    have each : ∀ k, k < len → ∃ (kind : Int) (lt : UInt8) (many most : Int), i64B most ∧ W.cell? ((a.add (k * 4)).add 0) = some (.int .i64 kind) ∧ W.cell? ((a.add (k * 4)).add 1) = some (.int .u8 lt.toNat) ∧ W.cell? ((a.add (k * 4)).add 2) = some (.int .i64 many) ∧ W.cell? ((a.add (k * 4)).add 3) = some (.int .i64 most) := by
      intro k hk
      have h1 := hel k hk
      rw [hc4, List.getElem?_eq_getElem (by omega), Option.bind_eq_some_iff] at h1
      obtain ⟨cs, hcs, ht⟩ := h1
      obtain ⟨v0, v1, v2, v3, rfl, g0, g1, g2, g3⟩ := cells4 hcs
      obtain ⟨y0, y1, y2, y3, n', _, _, t0, t1, t2, t3⟩ := Go.Joins.trod_struct4 Try.underlying42 ht
      simp [ci, cu] at t0 t1 t2 t3
      obtain ⟨x0, e0, _, w0⟩ := DataW.trod_int Try.underlying3 t0
      obtain ⟨x1, e1, _, w1⟩ := DataW.trod_int Try.underlying5 t1
      obtain ⟨x2, e2, _, w2⟩ := DataW.trod_int Try.underlying3 t2
      obtain ⟨x3, e3, _, w3⟩ := DataW.trod_int Try.underlying3 t3
      simp at e0 e1 e2 e3
      subst e0 e1 e2 e3
      have b1 := bounds_u8 w1
      have b3 := bounds_i64 w3
      exact ⟨x0, UInt8.ofNat x1.toNat, x2, x3, ⟨by omega, by omega⟩, g0, by rw [g1]; simp; omega, g2, g3⟩
    obtain ⟨_, _, _, _, _, g0, _⟩ := each 0 hn
    obtain ⟨b, off, spot⟩ := a
    have hspot : spot = none := by simpa [Addr.add] using World.cell?_spot g0
    subst hspot
    have hb : b < W.heap.size := by simpa [Addr.add] using World.block_lt_of_cell? W _ g0
    have ha : ∀ i j, ((⟨b, off, none⟩ : Addr).add i).add j = ⟨b, off + i + j, none⟩ := by
      intro i j; unfold Addr.add; split <;> split <;> simp_all
    refine ⟨b, off, rfl, hb, fun k hk => ?_⟩
    obtain ⟨kind, lt, many, most, hb', h0, h1, h2, h3⟩ := each k hk
    rw [ha] at h0 h1 h2 h3
    exact ⟨kind, lt, many, most, hb', by simpa using h0, h1, h2, h3⟩
theorem CallsAt.below {w w' : World} {B B' : Nat} {a : Option Addr} {n : Nat} (h : CallsAt w B a n) (hb : Below B w w') (hB : B ≤ B') : CallsAt w' B' a n := fun hn => by
  obtain ⟨b, off, e, hlt, hc⟩ := h hn
  refine ⟨b, off, e, by omega, fun k hk => ?_⟩
  obtain ⟨kind, lt, many, most, hb', h0, h1, h2, h3⟩ := hc k hk
  exact ⟨kind, lt, many, most, hb', (hb.cell (p := ⟨b, _, none⟩) hlt).trans h0, (hb.cell (p := ⟨b, _, none⟩) hlt).trans h1, (hb.cell (p := ⟨b, _, none⟩) hlt).trans h2, (hb.cell (p := ⟨b, _, none⟩) hlt).trans h3⟩
/-- A call, in a block of its own. -/
def Cb (w : World) (g : Nat) (kind : Int) (lt : UInt8) (many most : Int) : Prop := w.heap[g]? = some (.cells #[.int .i64 kind, .int .u8 lt.toNat, .int .i64 many, .int .i64 most] 42 (0, 0))
section
variable {w w' : World} {g : Nat} {kind many most : Int} {lt : UInt8}
theorem Cb.c0 (h : Cb w g kind lt many most) : w.cell? ⟨g, 0, none⟩ = some (.int .i64 kind) := by
  unfold World.cell?; unfold Cb at h; simp only [h]; rfl
theorem Cb.c1 (h : Cb w g kind lt many most) : w.cell? ⟨g, 1, none⟩ = some (.int .u8 lt.toNat) := by
  unfold World.cell?; unfold Cb at h; simp only [h]; rfl
theorem Cb.c2 (h : Cb w g kind lt many most) : w.cell? ⟨g, 2, none⟩ = some (.int .i64 many) := by
  unfold World.cell?; unfold Cb at h; simp only [h]; rfl
theorem Cb.c3 (h : Cb w g kind lt many most) : w.cell? ⟨g, 3, none⟩ = some (.int .i64 most) := by
  unfold World.cell?; unfold Cb at h; simp only [h]; rfl
theorem Cb.fz (h : Cb w g kind lt many most) (i : Nat) : w.frozen? ⟨g, i, none⟩ = false := by
  unfold World.frozen?; unfold Cb at h; simp [h]
theorem Cb.lt_ (h : Cb w g kind lt many most) : g < w.heap.size := by
  rcases Nat.lt_or_ge g w.heap.size with hlt | hge
  · exact hlt
  · unfold Cb at h; rw [Array.getElem?_eq_none hge] at h; cases h
theorem Cb.fr {ex : List Nat} (h : Cb w g kind lt many most) (hf : Fr ex w w') (hn : g ∉ ex) : Cb w' g kind lt many most := (hf.block g h.lt_ hn).trans h
theorem Cb.set_ (h : Cb w g kind lt many most) (x : UInt8) : Cb (w.setCell ⟨g, 1, none⟩ (.int .u8 x.toNat)) g kind x many most := by
  unfold Cb at h ⊢; rw [heap_set h _]; rfl
end
theorem rdTxt_len (c : UInt8) (most : Int) (l : List UInt8) : ((rdTxt c most l).2.getD []).length ≤ l.length := by
  unfold rdTxt
  cases ht : tkF c l with
  | none => simp
  | some p => have := (tkF_len ht).2; simp only; split <;> simp; exact this
theorem rdNum_len (c : UInt8) (l : List UInt8) : ((rdNum c l).2.getD []).length ≤ l.length := by
  unfold rdNum
  cases ht : tkF c l with
  | none => simp
  | some p => have := (tkF_len ht).2; simp only; split <;> simp; exact this
theorem rdInt_len (c : UInt8) (most : Int) (l : List UInt8) : ((rdInt c most l).2.getD []).length ≤ l.length := by
  unfold rdInt
  cases ht : tkF c l with
  | none => simp
  | some p => have := (tkF_len ht).2; simp only; split <;> simp; exact this
theorem rdAll_len (c : UInt8) (many most : Int) (l : List UInt8) : ((rdAll c many most l).2.getD []).length ≤ l.length := by
  unfold rdAll
  cases ht : tkF c l with
  | none => simp
  | some p => have := (tkF_len ht).2; simp only; split <;> simp; exact this
end Go.Proofs.Ytkhmhffphmkefaa
