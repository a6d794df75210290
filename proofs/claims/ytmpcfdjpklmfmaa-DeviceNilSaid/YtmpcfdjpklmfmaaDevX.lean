/- The document's device: are two rows of what waits the same? -/
import Derived.Test.YtmpcfdjpklmfmaaRows
import Derived.WalkKit
import Derived.Below
import Derived.ProofKit
import Derived.OpenShut
import Derived.ShutString
import Derived.ChangeOld
import Derived.Outline
import Derived.RegionTactic
import Derived.ChangeAlike
import Derived.BigRegion
import Derived.BigQuiet
import Derived.Deep.QuietTactic
import Derived.Deep.RegionWith
import Derived.Deep.RegionLaw
import Derived.Deep.RegionHeld3
import Derived.Deep.AppendLies
import Derived.Deep.Draws
import Derived.StillTailTactics
import Derived.Lib.Hide
import Derived.Lib.SmallJoins
import Derived.Handy
import Derived.WalkSpells
import Derived.WalkLawsBesides
import Derived.Deep.LoopGhost
import Derived.Deep.DeepCutAuto
import Derived.Deep.CutBlock
import Derived.Deep.CutRange
import Derived.Deep.OwnRows
import Derived.Laws.CopyOwn
import Derived.Test.YtmpcfdjpklmfmaaDevV
namespace Go.Proofs.Ytmpcfdjpklmfmaa
open Go.RowKit
set_option linter.unusedSimpArgs false
set_option linter.unusedVariables false
set_option linter.unnecessarySimpa false
/-- What waits, in a slice: from block B on, or below it, wherever. -/
def WritAt (w : World) (a : Option Addr) (n : Nat) (ws : List (Nat × List UInt8)) : Prop :=
  ws.length = n ∧ (0 < n → ∃ b off, a = some ⟨b, off, none⟩ ∧ b < w.heap.size ∧ ∀ k y, ws[k]? = some y → w.cell? ⟨b, off + k * 2, none⟩ = some (.int .i64 (y.1 : Nat)) ∧ w.cell? ⟨b, off + k * 2 + 1, none⟩ = some (.string ⟨y.2.toArray⟩))
theorem WritAt.own {w : World} {base n cp : Nat} {A : Option Addr} {ws : List (Nat × List UInt8)} (hn : ws.length = n) (h : w.ownsRow base 64 2 (.slice A n cp) n (wrs ws)) : WritAt w A n ws := by
  refine ⟨hn, fun h0 => ?_⟩
  obtain ⟨g, cap, e, _, hlt⟩ := h.form h0
  simp only [Value.slice.injEq] at e
  obtain ⟨rfl, _, rfl⟩ := e
  refine ⟨g, 0, rfl, hlt, fun k y hy => ?_⟩
  obtain ⟨a1, a2⟩ := wrs_at ws k y hy
  obtain ⟨g1, c1, e1, _, _, _, h1, _⟩ := own_cell h a1
  obtain ⟨g2, c2, e2, _, _, _, h2, _⟩ := own_cell h a2
  simp only [Value.slice.injEq, Option.some.injEq, Addr.mk.injEq, and_true, true_and] at e1 e2
  rw [← e1.1] at h1
  rw [← e2.1] at h2
  rw [Nat.zero_add]
  exact ⟨h1, h2⟩
theorem WritAt.fr {ex : List Nat} {w w' : World} {a : Option Addr} {n : Nat} {ws : List (Nat × List UInt8)} (h : WritAt w a n ws) (hf : Fr ex w w') (hn : ∀ b off, a = some ⟨b, off, none⟩ → b ∉ ex) : WritAt w' a n ws :=
  ⟨h.1, fun h0 => by
    obtain ⟨b, off, e, hlt, hc⟩ := h.2 h0
    refine ⟨b, off, e, Nat.lt_of_lt_of_le hlt hf.size, fun k y hk => ?_⟩
    obtain ⟨h1, h2⟩ := hc k y hk
    exact ⟨(hf.cell (p := ⟨b, off + k * 2, none⟩) hlt (hn b off e)).trans h1, (hf.cell (p := ⟨b, off + k * 2 + 1, none⟩) hlt (hn b off e)).trans h2⟩⟩
theorem take_ne {α : Type} {xs ys : List α} {k : Nat} {x y : α} (h : xs.take k = ys.take k) (hx : xs[k]? = some x) (hy : ys[k]? = some y) (he : x = y) : xs.take (k + 1) = ys.take (k + 1) := by
  rw [List.take_add_one, List.take_add_one, h, hx, hy, he]
set_option maxHeartbeats 1000000 in
theorem refSame6_any (a b : Option Addr) (n cn m cm : Nat) (xs ys : List (Nat × List UInt8)) (w : World) (hx : WritAt w a n xs) (hy : WritAt w b m ys) (hnc : n ≤ cn) (hmc : m ≤ cm) (hn : n ≤ 1048576) :
    Calls Try.prog 23 #[.slice a n cn, .slice b m cm] w fun e w' => e = .returned (.bool (decide (xs = ys))) ∧ ∃ k, w' = w.drewN k := by
  by_cases hl : n = m
  · subst hl
    obtain ⟨r, hr⟩ : ∃ r, r = decide (xs = ys) := ⟨_, rfl⟩
    have HR := Lib.hid hr
    rw [← hr]
    have d0 : ((n : Int) == (n : Int)) = true := by simp
    have nI : (n : Int) ≤ 1048576 := by omega
    clear hr
    go_enter Try.func23, Try.ntmps23
    go_wp2
    go_loopw [5] (fun i wr => ∃ t : Nat, t ≤ n ∧ i = .int .i64 t ∧ xs.take t = ys.take t ∧ ∃ k, wr = w.drewN k) (fun i _ => n - (intOf i).toNat)
    case atStart => exact ⟨0, by omega, rfl, rfl, 0, rfl⟩
    case round =>
      obtain ⟨t, ht, rfl, htk, kk, rfl⟩ := hrel
      by_cases hlt : t < n
      · have tl : (t : Int) < n := by omega
        obtain ⟨x, ex⟩ : ∃ x, xs[t]? = some x := ⟨xs[t]'(by rw [hx.1]; exact hlt), List.getElem?_eq_getElem _⟩
        obtain ⟨y, ey⟩ : ∃ y, ys[t]? = some y := ⟨ys[t]'(by rw [hy.1]; exact hlt), List.getElem?_eq_getElem _⟩
        obtain ⟨b1, o1, rfl, _, hc1⟩ := hx.2 (by omega)
        obtain ⟨b2, o2, rfl, _, hc2⟩ := hy.2 (by omega)
        obtain ⟨p1, p2⟩ := hc1 t x ex
        obtain ⟨q1, q2⟩ := hc2 t y ey
        obtain ⟨x1, x2⟩ := x
        obtain ⟨y1, y2⟩ := y
        simp only at p1 p2 q1 q2
        by_cases hxy : (x1, x2) = (y1, y2)
        · obtain ⟨rfl, rfl⟩ := Prod.mk.inj hxy
          have hk2 := Lib.hid (take_ne htk ex ey rfl)
          clear ex ey hxy htk hc1 hc2
          go_wp2
          go_region
          all_goals
            go_wp2
            go_roundw
            case rel => exact ⟨t + 1, by omega, by go_num, hk2.out, kk + 1, rfl⟩
            case measure => simp [intOf]; omega
        · have hne : ¬ xs = ys := fun e => hxy (by rw [e, ey] at ex; exact (Option.some.inj ex).symm)
          have hrf : r = false := by rw [HR.out]; exact decide_eq_false hne
          subst hrf
          clear ex ey htk hc1 hc2 hne
          by_cases h1 : x1 = y1
          · subst h1
            have h2 : ¬ (x2 = y2) := fun e => hxy (by rw [e])
            have h3 : ¬ (ByteArray.mk x2.toArray = ByteArray.mk y2.toArray) := fun e => h2 (by simpa using e)
            clear hxy
            go_wp2
            go_region
            all_goals
              go_wp2
              go_ret
              exact ⟨rfl, kk + 1, rfl⟩
          · have h2 : ¬ ((x1 : Int) = y1) := by omega
            clear hxy h1
            go_wp2
            go_region
            all_goals
              go_wp2
              go_ret
              exact ⟨rfl, kk + 1, rfl⟩
      · have tl : ¬ ((t : Int) < n) := by omega
        have hrt : r = true := by
          rw [HR.out]
          refine decide_eq_true ?_
          have h1 : xs.take t = xs := List.take_of_length_le (by rw [hx.1]; omega)
          have h2 : ys.take t = ys := List.take_of_length_le (by rw [hy.1]; omega)
          rw [← h1, ← h2, htk]
        subst hrt
        clear htk
        go_wp2
        go_ret
        exact ⟨rfl, kk, rfl⟩
  · have hne : ¬ xs = ys := fun e => hl (by rw [← hx.1, ← hy.1, e])
    rw [show decide (xs = ys) = false from decide_eq_false hne]
    have d0 : ((n : Int) == (m : Int)) = false := by simp; omega
    have hl2 : ¬ ((n : Int) = (m : Int)) := by omega
    clear hne hl
    go_enter Try.func23, Try.ntmps23
    go_wp2
    go_ret
    exact ⟨rfl, 0, rfl⟩
end Go.Proofs.Ytmpcfdjpklmfmaa
