/- The document's texts of numbers. -/
import Derived.Test.YtppgpdckaaabeaaRows
import Derived.WalkKit
import Derived.Below
import Derived.ProofKit
import Derived.OpenShut
import Derived.ShutString
import Derived.ChangeOld
import Derived.Outline
import Derived.RegionTactic
import Derived.ChangeAlike
import Derived.BigRegion
import Derived.BigQuiet
import Derived.Deep.QuietTactic
import Derived.Deep.RegionWith
import Derived.Deep.RegionLaw
import Derived.Deep.RegionHeld3
import Derived.Deep.AppendLies
import Derived.Deep.Draws
import Derived.StillTailTactics
import Derived.Lib.Hide
import Derived.Lib.SmallJoins
import Derived.Handy
import Derived.WalkSpells
import Derived.WalkLawsBesides
import Derived.Deep.LoopGhost
import Derived.Deep.DeepCutAuto
import Derived.Test.YtppgpdckaaabeaaWideH
namespace Go.Proofs.Ytppgpdckaaabeaa
open Go.RowKit
set_option linter.unusedSimpArgs false
set_option linter.unusedVariables false
set_option linter.unnecessarySimpa false
theorem dec_len (f n : Nat) : (decF f n).length ≤ f := by
  induction f generalizing n with
  | zero => simp [decF]
  | succ f ih =>
    rw [decF]
    split
    · simp
    · have := ih (n / 10); simp; omega
theorem decF_pow (f n : Nat) (h : n < 10 ^ f) : (decF (n + 1) n).length ≤ f ∨ f = 0 := by
  induction f generalizing n with
  | zero => exact Or.inr rfl
  | succ f ih =>
    left
    rw [decF]
    split
    · simp
    · rename_i h0
      have hn : n / 10 < 10 ^ f := by rw [Nat.pow_succ] at h; omega
      rcases ih (n / 10) hn with h1 | h1
      · rw [decF_big (n / 10) (n / 10 + 1) n (by omega) (by omega)]
        simp; omega
      · subst h1; simp at hn; omega
theorem dec_len78 (n : Nat) (h : n < 2 ^ 256) : (dec n).length ≤ 78 := by
  have h78 : n < 10 ^ 78 := Nat.lt_of_lt_of_le h (by decide)
  rcases decF_pow 78 n h78 with h1 | h1
  · exact h1
  · omega
theorem infoW1 (w : World) : (convert 3 5 (.int .i64 48)).run Try.prog w = .ok (.int .u8 48) w := by kernel_rfl
section
attribute [local go_sem] app_list ext_list
set_option maxHeartbeats 2000000 in
set_option maxRecDepth 100000 in
theorem refText_any (N : Nat) (w : World) (hN : N < 2 ^ 256) :
    Calls Try.prog 29 #[aggN N] w fun e w' => e = .returned (.string ⟨(dec N).toArray⟩) ∧ Below w.heap.size w w' := by
  have HN := Lib.hid hN
  have HL := Lib.hid (dec_len78 N hN)
  clear hN
  have hb := fun (w : World) (a : Addr) (c : Nat) => run_b2s1 (P := Try.prog) w 46 9 5 a c Try.underlying46 Try.underlying5 Try.underlying9
  go_enter Try.func29, Try.ntmps29
  go_wp2
  go_loopg [3] (N + 1) (fun k s wr => ∃ (A : Nat) (l : List UInt8), A < k ∧ A ≤ N ∧ s = .string ⟨l.toArray⟩ ∧ Hid (dec N = dec A ++ l) ∧ Hid (wr.heap[w.heap.size]? = some (.cells (wcells A).toArray 24 (0, 0))) ∧ Below w.heap.size w wr)
  case atStart => exact ⟨N, [], by omega, by omega, rfl, Lib.hid (by simp), Lib.hid (heap_alloc_new w _), (Below.refl _ _).alloc (Nat.le_refl _) _⟩
  case round =>
    obtain ⟨A, l, hAk, hAN, rfl, hdec, hr, hbel⟩ := hrel
    have hl78 : l.length ≤ 78 := by
      have h1 := HL.out
      rw [hdec.out, List.length_append] at h1
      omega
    go_wp2_with (refine wpList_load_row rfl 24 (.tmp 1) rfl w.heap.size rfl 24 (wcells A).toArray (0, 0) _ hr.out Try.underlying24 rfl (infoW' _) ?_)
    refine (ten_any A wr (by have := HN.out; omega)).mono ?_
    rintro e w2 ⟨rfl, g2⟩
    have R2 := Lib.hid ((g2.block _ (row_lt hr.out)).trans hr.out)
    have b2 := hbel.trans (g2.mono hbel.size)
    clear g2 hbel hr
    obtain ⟨d, hd⟩ : ∃ d, d = A % 10 := ⟨_, rfl⟩
    obtain ⟨q, hq⟩ : ∃ q, q = A / 10 := ⟨_, rfl⟩
    have hd10 : d < 10 := by rw [hd]; exact Nat.mod_lt _ (by decide)
    rw [← hd, ← hq]
    have ED := Lib.hid hd
    have EQ := Lib.hid hq
    clear hd hq
    obtain ⟨y, hy⟩ : ∃ y, y = UInt8.ofNat (48 + d) := ⟨_, rfl⟩
    have EY := Lib.hid hy
    have hyi : (48 : Int) + d = (y.toNat : Int) := by rw [hy, UInt8.toNat_ofNat']; omega
    have hyn := y.toNat_lt
    clear hy
    have z2 := row_lt R2.out
    have R3 := Lib.hid (heap_alloc_new w2 (.cells (wcells 0).toArray 24))
    go_wp2_with (first
      | (refine wpList_store_row rfl 24 (.tmp 4) (.tmp 9) rfl w2.heap.size (wcells q).toArray rfl rfl 24 (wcells 0).toArray R3.out (infoW' _) rfl (ones_w _) ?_; (generalize hw3 : World.setRow _ _ _ = w3); have Q3 : Hid (w3.heap[w2.heap.size]? = some (.cells (wcells q).toArray 24 (0, 0))) := (by rw [← hw3]; exact Lib.hid (setRow_heap _ _ _ _ _ _ R3.out)); have P3 : Hid (w3.heap[w.heap.size]? = some (.cells (wcells A).toArray 24 (0, 0))) := (by rw [← hw3]; exact Lib.hid ((setRow_other (by omega)).trans ((Below.heap_alloc _ _ _ z2).trans R2.out))); have b3 : Below w.heap.size w w3 := (by rw [← hw3]; exact below_setRow (b2.alloc b2.size _) b2.size _); clear hw3 R3)
      | (refine wpList_load_row rfl 24 (.tmp 4) rfl w2.heap.size rfl 24 (wcells q).toArray (0, 0) _ ((Below.heap_alloc _ _ _ (row_lt Q3.out)).trans Q3.out) Try.underlying24 rfl (infoW' _) ?_)
      | (refine wpList_store_row rfl 24 (.tmp 1) (.tmp 18) rfl w.heap.size (wcells q).toArray rfl rfl 24 (wcells A).toArray ((Below.heap_alloc _ _ _ (row_lt P3.out)).trans P3.out) (infoW' _) rfl (ones_w _) ?_; (generalize hw4 : World.setRow _ _ _ = w4); have Q4 : Hid (w4.heap[w.heap.size]? = some (.cells (wcells q).toArray 24 (0, 0))) := (by rw [← hw4]; exact Lib.hid (setRow_heap _ _ _ _ _ _ ((Below.heap_alloc _ _ _ (row_lt P3.out)).trans P3.out))); have b4 : Below w.heap.size w w4 := (by rw [← hw4]; exact below_setRow (b3.alloc b3.size _) (Nat.le_refl _) _); clear hw4)
      | (refine wpList_load_row rfl 24 (.tmp 1) rfl w.heap.size rfl 24 (wcells q).toArray (0, 0) _ Q4.out Try.underlying24 rfl (infoW' _) ?_))
    refine (compare_any q 0 w4 (by have := HN.out; have := EQ.out; omega) (by decide)).mono ?_
    rintro e w5 ⟨rfl, g5⟩
    have R5 := Lib.hid ((g5.block _ (row_lt Q4.out)).trans Q4.out)
    have b5 := b4.trans (g5.mono b4.size)
    clear g5 Q4 b4 P3 b3 Q3
    by_cases hq0 : q = 0
    · have hd1 : dec N = y :: l := by
        rw [hdec.out, dec_one A (by rw [← EQ.out]; exact hq0), ← ED.out, ← EY.out]; rfl
      have HD := Lib.hid hd1
      have hc : cmpN q 0 = 0 := by rw [hq0]; rfl
      clear hd1 hq0
      go_wp2
      go_ret
      exact ⟨by rw [HD.out]; rfl, b5⟩
    · have hd1 : dec N = dec q ++ (y :: l) := by
        rw [hdec.out, dec_more A (by rw [← EQ.out]; exact hq0), ← ED.out, ← EY.out, ← EQ.out, List.append_assoc]; rfl
      have HD := Lib.hid hd1
      have hc : (cmpN q 0 == 0) = false := by
        have : 0 < q := by omega
        simp [cmpN, this]
      have HQ0 := Lib.hid hq0
      generalize cmpN q 0 = cm at hc
      clear hd1 hq0
      go_wp2
      go_roundg (gk - 1)
      case measure => omega
      case rel => exact ⟨q, y :: l, by have := EQ.out; have := HQ0.out; omega, by have := EQ.out; omega, rfl, HD, R5, b5⟩
end
end Go.Proofs.Ytppgpdckaaabeaa
