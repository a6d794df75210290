/- The document's number of a text. -/
import Derived.Test.YtppgpdckaaabeaaRows
import Derived.WalkKit
import Derived.Below
import Derived.ProofKit
import Derived.OpenShut
import Derived.ShutString
import Derived.ChangeOld
import Derived.Outline
import Derived.RegionTactic
import Derived.ChangeAlike
import Derived.BigRegion
import Derived.BigQuiet
import Derived.Deep.QuietTactic
import Derived.Deep.RegionWith
import Derived.Deep.RegionLaw
import Derived.Deep.RegionHeld3
import Derived.Deep.AppendLies
import Derived.Deep.Draws
import Derived.StillTailTactics
import Derived.Lib.Hide
import Derived.Lib.SmallJoins
import Derived.Handy
import Derived.WalkSpells
import Derived.WalkLawsBesides
import Derived.Deep.LoopGhost
import Derived.Deep.DeepCutAuto
import Derived.Test.YtppgpdckaaabeaaWideJ
import Derived.Test.YtppgpdckaaabeaaRowsAt
namespace Go.Proofs.Ytppgpdckaaabeaa
open Go.RowKit
set_option linter.unusedSimpArgs false
set_option linter.unusedVariables false
set_option linter.unnecessarySimpa false
/-- The number of a text of digits. -/
def dv (l : List UInt8) : Nat := l.foldl (fun n c => n * 10 + (c.toNat - 48)) 0
theorem dv_snoc (l : List UInt8) (c : UInt8) : dv (l ++ [c]) = dv l * 10 + (c.toNat - 48) := by simp [dv]
theorem foldl_ge (l : List UInt8) (n : Nat) : n ≤ l.foldl (fun n c => n * 10 + (c.toNat - 48)) n := by
  induction l generalizing n with
  | nil => simp
  | cons c l ih =>
    have := ih (n * 10 + (c.toNat - 48))
    simp only [List.foldl_cons]
    omega
theorem dv_take_le (l : List UInt8) (k : Nat) : dv (l.take k) ≤ dv l := by
  have e : dv l = (l.drop k).foldl (fun n c => n * 10 + (c.toNat - 48)) (dv (l.take k)) := by
    unfold dv
    rw [← List.foldl_append, List.take_append_drop]
  rw [e]; exact foldl_ge _ _
theorem dig8 (n : Nat) : (UInt8.ofNat (48 + n % 10)).toNat = 48 + n % 10 := by rw [UInt8.toNat_ofNat']; omega
theorem dv_dec (n : Nat) : dv (dec n) = n := by
  induction n using Nat.strongRecOn with
  | _ n ih =>
    by_cases h : n / 10 = 0
    · rw [dec_one n h]
      show 0 * 10 + ((UInt8.ofNat (48 + n % 10)).toNat - 48) = n
      rw [dig8]; omega
    · rw [dec_more n h, dv_snoc, ih (n / 10) (by omega), dig8]; omega
theorem dec_digits (n : Nat) : ∀ c ∈ dec n, 48 ≤ c.toNat ∧ c.toNat ≤ 57 := by
  induction n using Nat.strongRecOn with
  | _ n ih =>
    intro c hc
    by_cases h : n / 10 = 0
    · rw [dec_one n h] at hc
      rw [List.mem_singleton.1 hc, dig8]; omega
    · rw [dec_more n h] at hc
      rcases List.mem_append.1 hc with h1 | h1
      · exact ih (n / 10) (by omega) c h1
      · rw [List.mem_singleton.1 h1, dig8]; omega
/-- What a text's number is: the one whose text it is, or none. -/
def FromT (s : List UInt8) (R : Nat) (e : Int) : Prop := (R < 2 ^ 256 ∧ dec R = s ∧ e = 0) ∨ ((∀ N, N < 2 ^ 256 → dec N ≠ s) ∧ R = 0 ∧ e = 10)
theorem FromT.same {s : List UInt8} {R R' : Nat} {e e' : Int} (h : FromT s R e) (h' : FromT s R' e') : R = R' ∧ e = e' := by
  rcases h with ⟨h1, h2, h3⟩ | ⟨h1, h2, h3⟩ <;> rcases h' with ⟨k1, k2, k3⟩ | ⟨k1, k2, k3⟩
  · have := dv_dec R
    rw [h2, ← k2, dv_dec] at this
    exact ⟨this.symm, by rw [h3, k3]⟩
  · exact absurd h2 (k1 R h1)
  · exact absurd k2 (h1 R' k1)
  · exact ⟨by rw [h2, k2], by rw [h3, k3]⟩
theorem FromT.lt {s : List UInt8} {R : Nat} {e : Int} (h : FromT s R e) : R < 2 ^ 256 := by
  rcases h with ⟨h, _⟩ | ⟨_, h, _⟩
  · exact h
  · rw [h]; decide
theorem no_text (s : List UInt8) (k : Nat) (h : 2 ^ 256 ≤ dv (s.take k)) : FromT s 0 10 := by
  refine Or.inr ⟨fun N hN e => ?_, rfl, rfl⟩
  have h1 := dv_take_le s k
  rw [← e, dv_dec] at h1
  rw [← e] at h
  omega
theorem no_digit (s : List UInt8) (k : Nat) (h : k < s.length) (hc : ¬ (48 ≤ s[k].toNat ∧ s[k].toNat ≤ 57)) : FromT s 0 10 :=
  Or.inr ⟨fun N _ e => hc (by
    subst e
    exact dec_digits N _ (List.getElem_mem h)), rfl, rfl⟩
theorem too_long (s : List UInt8) (h : 100 < s.length) : FromT s 0 10 :=
  Or.inr ⟨fun N hN e => by have := dec_len78 N hN; rw [e] at this; omega, rfl, rfl⟩
theorem not_text (s : List UInt8) (V : Nat) (hV : dv s = V) (h : dec V ≠ s) : FromT s 0 10 :=
  Or.inr ⟨fun N _ e => h (by rw [← hV, ← e, dv_dec]), rfl, rfl⟩
theorem dv_take_succ (s : List UInt8) (k : Nat) (h : k < s.length) : dv (s.take (k + 1)) = dv (s.take k) * 10 + (s[k].toNat - 48) := by
  rw [List.take_add_one, List.getElem?_eq_getElem h]; exact dv_snoc _ _
theorem wcells_small (d : Nat) (h : d < 18446744073709551616) : wcells d = [.int .u64 (d : Nat), .int .u64 0, .int .u64 0, .int .u64 0] := by
  have e0 : limb d 0 = d := by unfold limb; simp only [Nat.mul_zero, Nat.pow_zero, Nat.div_one]; exact Nat.mod_eq_of_lt (by exact h)
  have e1 : ∀ i, limb d (i + 1) = 0 := fun i => by
    unfold limb
    have : 2 ^ 64 ≤ 2 ^ (64 * (i + 1)) := Nat.pow_le_pow_right (by decide) (by omega)
    rw [Nat.div_eq_of_lt (by omega)]
  unfold wcells wints
  rw [e0, e1 0, e1 1, e1 2]
  rfl
/-- What FromText tells. -/
def FromTP (s : List UInt8) (w : World) (e : Ending) (w' : World) : Prop := ∃ R c, e = .returned (.tuple #[aggN R, .int .i64 c]) ∧ FromT s R c ∧ Below w.heap.size w w'
theorem timesR_lt (N n : Nat) : (timesR N n).1 < 2 ^ 256 := by unfold timesR; split <;> simp_all
theorem addR_lt (N n : Nat) : (addR N n).1 < 2 ^ 256 := by unfold addR; split <;> simp_all
section
attribute [local go_sem] idx_list ext_list
set_option maxHeartbeats 4000000 in
set_option maxRecDepth 100000 in
theorem refFromText_any (s : List UInt8) (w : World) (hs : (s.length : Int) ≤ 1000000) :
    Calls Try.prog 27 #[.string ⟨s.toArray⟩] w (FromTP s w) := by
  have HSL := Lib.hid hs
  go_enter Try.func27, Try.ntmps27
  go_wp2_with fail
  generalize hwa : World.alloc _ _ = wa
  have r0 : wa.heap[w.heap.size]? = some (.cells (wcells 0).toArray 24 (0, 0)) := by rw [← hwa]; exact heap_alloc2_old w _ _
  have r1 : wa.heap[w.heap.size + 1]? = some (.cells (wcells 0).toArray 24 (0, 0)) := by rw [← hwa]; exact heap_alloc2_new w _ _
  have ba : Below w.heap.size w wa := by rw [← hwa]; exact ((Below.refl _ _).alloc (Nat.le_refl _) _).alloc (by simp) _
  have R0 := Lib.hid r0
  have R1 := Lib.hid r1
  clear hwa r0 r1
  go_loopw [5] (fun i wr => ∃ (k V : Nat), k ≤ s.length ∧ k ≤ 101 ∧ i = .int .i64 k ∧ V < 2 ^ 256 ∧ Hid (dv (s.take k) = V) ∧ Hid (wr.heap[w.heap.size]? = some (.cells (wcells 0).toArray 24 (0, 0))) ∧ Hid (wr.heap[w.heap.size + 1]? = some (.cells (wcells V).toArray 24 (0, 0))) ∧ Below w.heap.size w wr) (fun i _ => s.length - (intOf i).toNat)
  case atStart => exact ⟨0, 0, by omega, by omega, rfl, by decide, Lib.hid (by simp [dv]), R0, R1, ba⟩
  case round =>
    clear R0 R1 ba
    obtain ⟨k, V, hk, hk101, rfl, hV, hdv, hr0, hr1, hbel⟩ := hrel
    have HV := Lib.hid hV
    clear hV
    by_cases hlt : k < s.length
    · have kl : (k : Int) < s.length := by omega
      obtain ⟨c, hc⟩ : ∃ c, s[k] = c := ⟨_, rfl⟩
      have hcl := c.toNat_lt
      have HC := Lib.hid hc
      have HDS := Lib.hid (dv_take_succ s k hlt)
      by_cases hdig : 48 ≤ c.toNat ∧ c.toNat ≤ 57
      · have HD := Lib.hid hdig
        have d1 : decide ((c.toNat : Int) < 48) = false := by simp; omega
        have d2 : decide ((57 : Int) < c.toNat) = false := by simp; omega
        by_cases h100 : 100 < k
        · have d3 : decide ((100 : Int) < k) = true := by simp; omega
          have FT := Lib.hid (too_long s (by omega))
          clear hdig h100
          go_wp2_with (refine wpList_store_row rfl 24 (.tmp 2) (.tmp 30) rfl w.heap.size (wcells 0).toArray rfl rfl 24 (wcells 0).toArray hr0.out (infoW' 0) rfl (ones_w 0) ?_)
          exact bodyPost_ret (v := .tuple #[aggN 0, .int .i64 10]) (results_cell_tmp Try.results27 _ _ w.heap.size 24 _ _ _ _ rfl rfl (setRow_heap _ _ _ _ _ _ hr0.out) Try.underlying24 rfl (infoW' 0)) rfl ⟨0, 10, rfl, FT.out, below_setRow hbel (Nat.le_refl _) _⟩
        · have d3 : decide ((100 : Int) < k) = false := by simp; omega
          have hk100 : k ≤ 100 := by omega
          clear h100 hdig
          go_wp2_with (refine wpList_load_row rfl 24 (.tmp 4) rfl (w.heap.size + 1) rfl 24 (wcells V).toArray (0, 0) _ hr1.out Try.underlying24 rfl (infoW' _) ?_)
          refine (refTimes_any V 10 wr HV.out (by decide)).mono ?_
          rintro e w2 ⟨rfl, g2⟩
          have h2 : RowsAt [(w.heap.size, wcells 0, 24), (w.heap.size + 1, wcells V, 24)] w w2 := ⟨fun p hp => by
            simp at hp
            rcases hp with rfl | rfl
            · exact (g2.block _ (row_lt hr0.out)).trans hr0.out
            · exact (g2.block _ (row_lt hr1.out)).trans hr1.out, hbel.trans (g2.mono hbel.size)⟩
          clear g2 hr0 hr1 hbel
          obtain ⟨X, hX⟩ : ∃ X, X = (timesR V 10).1 := ⟨_, rfl⟩
          obtain ⟨q, hq⟩ : ∃ q, q = (timesR V 10).2 := ⟨_, rfl⟩
          rw [← hX, ← hq]
          have EX := Lib.hid hX
          have EQ := Lib.hid hq
          clear hX hq
          go_wp2_with (refine wpList_store_row rfl 24 (.tmp 6) (.tmp 34) rfl w2.heap.size (wcells X).toArray rfl rfl 24 (wcells 0).toArray (heap_alloc_new w2 _) (infoW' _) rfl (ones_w _) ?_)
          generalize hw3 : World.setRow _ _ _ = w3
          have hS : RowsAt [(w2.heap.size, wcells X, 24), (w.heap.size, wcells 0, 24), (w.heap.size + 1, wcells V, 24)] w w3 := by
            rw [← hw3]
            exact (h2.newRow _ _).push (setRow_heap _ _ _ _ _ _ (heap_alloc_new w2 _))
          clear hw3 h2
          have hLt := Lib.hid hS.lt
          have hWl := Lib.hid hS.2.size
          obtain ⟨d, hd⟩ : ∃ d, d = c.toNat - 48 := ⟨_, rfl⟩
          have hd10 : d < 10 := by have := HD.out; omega
          have im : (c.toNat : Int) - 48 = (d : Int) := by have := HD.out; omega
          have hwr1 : IntKind.u8.wrap (d : Int) = d := by rw [IntKind.wrap_u8]; omega
          have hwr2 : IntKind.u64.wrap (d : Int) = d := by rw [IntKind.wrap_u64]; omega
          have HW := Lib.hid (wcells_small d (by omega))
          have HX := Lib.hid (show X < 2 ^ 256 from by rw [EX.out]; exact timesR_lt _ _)
          have ED := Lib.hid hd
          have HC2 := Lib.hid (show dv (s.take (k + 1)) = V * 10 + d from by rw [HDS.out, HC.out, hdv.out, ← ED.out])
          obtain ⟨Y, hX2⟩ : ∃ Y, Y = (addR X d).1 := ⟨_, rfl⟩
          obtain ⟨q2, hq2⟩ : ∃ q, q = (addR X d).2 := ⟨_, rfl⟩
          have EX2 := Lib.hid hX2
          have EQ2 := Lib.hid hq2
          clear hd hX2 hq2
          have FTC : (q = true ∧ q2 = true ∧ Y = V * 10 + d ∧ Y < 2 ^ 256) ∨ ((q && q2) = false ∧ FromT s 0 10) := by
            have e1 := EX.out
            have e2 := EQ.out
            have e3 := EX2.out
            have e4 := EQ2.out
            unfold timesR at e1 e2
            by_cases h1 : V * 10 < 2 ^ 256
            · rw [if_pos h1] at e1 e2
              unfold addR at e3 e4
              simp only at e1 e2
              rw [e1] at e3 e4
              by_cases h2 : V * 10 + d < 2 ^ 256
              · rw [if_pos h2] at e3 e4
                exact Or.inl ⟨e2, e4, e3, by rw [e3]; exact h2⟩
              · rw [if_neg h2] at e3 e4
                exact Or.inr ⟨by rw [e4]; simp, no_text s (k + 1) (by rw [HC2.out]; omega)⟩
            · rw [if_neg h1] at e2
              exact Or.inr ⟨by rw [e2]; simp, no_text s (k + 1) (by rw [HC2.out]; omega)⟩
          refine wp_region_held_drew (S := RowsAt [(w2.heap.size, wcells X, 24), (w.heap.size, wcells 0, 24), (w.heap.size + 1, wcells V, 24)] w) (by kernel_rfl) hS.drew (fun hHeld => ?_)
          refine wpAnyH_take (i := 0) (oi := _) (v := _) rfl (by kernel_rfl) (by kernel_rfl) (by kernel_rfl) (fun _ _ _ h => h) (yieldsIf_load_mid (by kernel_rfl) _ _ rfl _ _ rfl _ _ (fun w h => h.rng 0 rfl) Try.underlying24 rfl infoW) hHeld ?_
          try simp only [Act.put, List.getElem_toArray, List.getElem_cons_succ, List.getElem_cons_zero, List.setIfInBounds_toArray, List.set_cons_zero, List.set_cons_succ]
          refine wpAnyH_take (i := 1) (oi := _) (v := ?_) rfl (by kernel_rfl) (by kernel_rfl) (by kernel_rfl) (fun _ _ _ h => h) (Or.inl ⟨by kernel_rfl, ?_⟩) hHeld ?_
          rotate_left
          · (intro w hSw; go_simp; try with_reducible rfl)
          try simp only [Act.put, List.getElem_toArray, List.getElem_cons_succ, List.getElem_cons_zero, List.setIfInBounds_toArray, List.set_cons_zero, List.set_cons_succ]
          refine wpAnyH_take (i := 2) (oi := _) (v := ?_) rfl (by kernel_rfl) (by kernel_rfl) (by kernel_rfl) (fun _ _ _ h => h) (Or.inl ⟨by kernel_rfl, ?_⟩) hHeld ?_
          rotate_left
          · (intro w hSw; go_simp; try with_reducible rfl)
          try simp only [Act.put, List.getElem_toArray, List.getElem_cons_succ, List.getElem_cons_zero, List.setIfInBounds_toArray, List.set_cons_zero, List.set_cons_succ]
          refine wpAnyH_take (i := 3) (oi := _) (v := ?_) rfl (by kernel_rfl) (by kernel_rfl) (by kernel_rfl) (fun _ _ _ h => h) (Or.inl ⟨by kernel_rfl, ?_⟩) hHeld ?_
          rotate_left
          · (intro w hSw; go_simp; try with_reducible rfl)
          try simp only [Act.put, List.getElem_toArray, List.getElem_cons_succ, List.getElem_cons_zero, List.setIfInBounds_toArray, List.set_cons_zero, List.set_cons_succ]
          refine wpAnyH_take (i := 4) (oi := _) (v := ?_) rfl (by kernel_rfl) (by kernel_rfl) (by kernel_rfl) (fun _ _ _ h => h) (Or.inl ⟨by kernel_rfl, ?_⟩) hHeld ?_
          rotate_left
          · (intro w hSw; go_simp; try with_reducible rfl)
          try simp only [Act.put, List.getElem_toArray, List.getElem_cons_succ, List.getElem_cons_zero, List.setIfInBounds_toArray, List.set_cons_zero, List.set_cons_succ]
          refine wpAnyH_take (i := 5) (oi := _) (v := ?_) rfl (by kernel_rfl) (by kernel_rfl) (by kernel_rfl) (fun _ _ _ h => h) (Or.inl ⟨by kernel_rfl, ?_⟩) hHeld ?_
          rotate_left
          · (intro w hSw; go_simp; try with_reducible rfl)
          try simp only [Act.put, List.getElem_toArray, List.getElem_cons_succ, List.getElem_cons_zero, List.setIfInBounds_toArray, List.set_cons_zero, List.set_cons_succ]
          refine wpAnyH_take (i := 6) (oi := _) (v := aggN d) rfl (by kernel_rfl) (by kernel_rfl) (by kernel_rfl) (fun _ _ _ h => h) (Or.inl ⟨by kernel_rfl, ?_⟩) hHeld ?_
          · (intro w hSw; show _ = Result.ok (Next.value (.agg (wcells d).toArray)) _; rw [HW.out]; go_simp; try with_reducible rfl)
          try simp only [Act.put, List.getElem_toArray, List.getElem_cons_succ, List.getElem_cons_zero, List.setIfInBounds_toArray, List.set_cons_zero, List.set_cons_succ]
          refine wpAnyH_ready (rs := [7, 11]) (by kernel_rfl) (by simp) ?_
          refine AllReadyH.cons (o := _) rfl (fun K hK => ?_) (AllReadyH.cons (o := _) rfl (fun K hK => ?_) AllReadyH.nil)
          · go_simp
            go_at_call 13
            refine (refAdd_any X d _ HX.out (by omega)).mono ?_
            rw [← EX2.out, ← EQ2.out]
            rintro e v1 ⟨rfl, g1⟩
            refine hK.out _ _ (hHeld.below g1) (fun hHeld => ?_)
            clear hK K
            try simp only [Act.put, List.getElem_toArray, List.getElem_cons_succ, List.getElem_cons_zero, List.setIfInBounds_toArray, List.set_cons_zero, List.set_cons_succ]
            refine wpAnyH_take (i := 8) (oi := _) (v := ?_) rfl (by kernel_rfl) (by kernel_rfl) (by kernel_rfl) (fun _ _ _ h => h) (Or.inl ⟨by kernel_rfl, ?_⟩) hHeld ?_
            rotate_left
            · (intro w hSw; go_simp; try with_reducible rfl)
            try simp only [Act.put, List.getElem_toArray, List.getElem_cons_succ, List.getElem_cons_zero, List.setIfInBounds_toArray, List.set_cons_zero, List.set_cons_succ]
            refine wpAnyH_take (i := 9) (oi := _) (v := ?_) rfl (by kernel_rfl) (by kernel_rfl) (by kernel_rfl) (fun _ _ _ h => h) (Or.inl ⟨by kernel_rfl, ?_⟩) hHeld ?_
            rotate_left
            · (intro w hSw; go_simp; try with_reducible rfl)
            try simp only [Act.put, List.getElem_toArray, List.getElem_cons_succ, List.getElem_cons_zero, List.setIfInBounds_toArray, List.set_cons_zero, List.set_cons_succ]
            refine wpAnyH_take (i := 10) (oi := _) (v := ?_) rfl (by kernel_rfl) (by kernel_rfl) (by kernel_rfl) (fun _ _ _ h => h) (Or.inl ⟨by kernel_rfl, ?_⟩) hHeld ?_
            rotate_left
            · (intro w hSw; go_simp; try with_reducible rfl)
            try simp only [Act.put, List.getElem_toArray, List.getElem_cons_succ, List.getElem_cons_zero, List.setIfInBounds_toArray, List.set_cons_zero, List.set_cons_succ]
            have hz1 : w3.heap.size ≤ v1.heap.size := g1.size
            refine wpAnyH_ready (rs := [11]) (by kernel_rfl) (by simp) ?_
            refine AllReadyH.cons (o := _) rfl (fun K hK => ?_) AllReadyH.nil
            go_simp
            refine hK.out _ _ (hHeld.alloc _) (fun hHeld => ?_)
            clear hK K
            try simp only [Act.put, List.getElem_toArray, List.getElem_cons_succ, List.getElem_cons_zero, List.setIfInBounds_toArray, List.set_cons_zero, List.set_cons_succ]
            refine wpAnyH_ready (rs := [12]) (by kernel_rfl) (by simp) ?_
            refine AllReadyH.cons (o := _) rfl (fun K hK => ?_) AllReadyH.nil
            have r8 := heap_alloc_new v1 (.cells (wcells 0).toArray 24)
            refine step_store_row (by kernel_rfl) 24 (.tmp 8) (.tmp 45) rfl v1.heap.size (wcells Y).toArray rfl rfl 24 (wcells 0).toArray r8 (infoW' _) rfl (ones_w _) ?_
            refine hK.out _ _ (hHeld.setRow (fun p hp => by have := hLt.out p hp; have := hz1; omega) (by have := hWl.out; have := hz1; omega)) (fun hHeld => ?_)
            clear hK K
            try simp only [Act.put, List.getElem_toArray, List.getElem_cons_succ, List.getElem_cons_zero, List.setIfInBounds_toArray, List.set_cons_zero, List.set_cons_succ]
            refine wpAnyH_take (i := 13) (oi := _) (v := ?_) rfl (by kernel_rfl) (by kernel_rfl) (by kernel_rfl) (fun _ _ _ h => h) (Or.inl ⟨by kernel_rfl, ?_⟩) hHeld ?_
            rotate_left
            · (intro w hSw; go_simp; try with_reducible rfl)
            try simp only [Act.put, List.getElem_toArray, List.getElem_cons_succ, List.getElem_cons_zero, List.setIfInBounds_toArray, List.set_cons_zero, List.set_cons_succ]
            refine wpAnyH_done (by kernel_rfl) ?_ _
            generalize hw9 : World.setRow _ _ _ = w9 at *
            have q8 : w9.heap[v1.heap.size]? = some (.cells (wcells Y).toArray 24 (0, 0)) := by rw [← hw9]; exact setRow_heap _ _ _ _ _ _ r8
            generalize hb8 : v1.heap.size = b8 at *
            clear hw9 hb8 r8 hz1
            rcases FTC with ⟨rfl, rfl, hY, hYlt⟩ | ⟨hqq, ft⟩
            · have HY2 := Lib.hid (show dv (s.take (k + 1)) = Y from by rw [HC2.out, hY])
              have HYL := Lib.hid hYlt
              have Q8 := Lib.hid q8
              clear hY hYlt q8
              go_wp2_with (first
                | (refine wpList_load_row rfl 24 (.tmp 8) rfl b8 rfl 24 (wcells Y).toArray (0, 0) _ Q8.out Try.underlying24 rfl (infoW' _) ?_)
                | (refine wpList_store_row rfl 24 (.tmp 4) (.tmp 54) rfl (w.heap.size + 1) (wcells Y).toArray rfl rfl 24 (wcells V).toArray (hHeld.row 2 rfl) (infoW' _) rfl (ones_w _) ?_))
              go_roundw
              case rel => exact ⟨k + 1, Y, by omega, by omega, by go_num, HYL.out, HY2, Lib.hid ((setRow_other (by omega)).trans (hHeld.row 1 rfl)), Lib.hid (setRow_heap _ _ _ _ _ _ (hHeld.row 2 rfl)), below_setRow hHeld.2 (by omega) _⟩
              case measure => simp [intOf]; omega
            · have FT := Lib.hid ft
              clear ft q8
              cases q <;> cases q2 <;> simp at hqq
              all_goals
                go_wp2_with (refine wpList_store_row rfl 24 (.tmp 2) (.tmp 53) rfl w.heap.size (wcells 0).toArray rfl rfl 24 (wcells 0).toArray (hHeld.row 1 rfl) (infoW' 0) rfl (ones_w 0) ?_)
                exact bodyPost_ret (v := .tuple #[aggN 0, .int .i64 10]) (results_cell_tmp Try.results27 _ _ w.heap.size 24 _ _ _ _ rfl rfl (setRow_heap _ _ _ _ _ _ (hHeld.row 1 rfl)) Try.underlying24 rfl (infoW' 0)) rfl ⟨0, 10, rfl, FT.out, below_setRow hHeld.2 (Nat.le_refl _) _⟩
          · go_simp
            refine hK.out _ _ (hHeld.alloc _) (fun hHeld => ?_)
            clear hK K
            try simp only [Act.put, List.getElem_toArray, List.getElem_cons_succ, List.getElem_cons_zero, List.setIfInBounds_toArray, List.set_cons_zero, List.set_cons_succ]
            refine wpAnyH_ready (rs := [7]) (by kernel_rfl) (by simp) ?_
            refine AllReadyH.cons (o := _) rfl (fun K hK => ?_) AllReadyH.nil
            go_simp
            go_at_call 13
            refine (refAdd_any X d _ HX.out (by omega)).mono ?_
            rw [← EX2.out, ← EQ2.out]
            rintro e v1 ⟨rfl, g1⟩
            refine hK.out _ _ (hHeld.below g1) (fun hHeld => ?_)
            clear hK K
            try simp only [Act.put, List.getElem_toArray, List.getElem_cons_succ, List.getElem_cons_zero, List.setIfInBounds_toArray, List.set_cons_zero, List.set_cons_succ]
            refine wpAnyH_take (i := 8) (oi := _) (v := ?_) rfl (by kernel_rfl) (by kernel_rfl) (by kernel_rfl) (fun _ _ _ h => h) (Or.inl ⟨by kernel_rfl, ?_⟩) hHeld ?_
            rotate_left
            · (intro w hSw; go_simp; try with_reducible rfl)
            try simp only [Act.put, List.getElem_toArray, List.getElem_cons_succ, List.getElem_cons_zero, List.setIfInBounds_toArray, List.set_cons_zero, List.set_cons_succ]
            refine wpAnyH_take (i := 9) (oi := _) (v := ?_) rfl (by kernel_rfl) (by kernel_rfl) (by kernel_rfl) (fun _ _ _ h => h) (Or.inl ⟨by kernel_rfl, ?_⟩) hHeld ?_
            rotate_left
            · (intro w hSw; go_simp; try with_reducible rfl)
            try simp only [Act.put, List.getElem_toArray, List.getElem_cons_succ, List.getElem_cons_zero, List.setIfInBounds_toArray, List.set_cons_zero, List.set_cons_succ]
            refine wpAnyH_take (i := 10) (oi := _) (v := ?_) rfl (by kernel_rfl) (by kernel_rfl) (by kernel_rfl) (fun _ _ _ h => h) (Or.inl ⟨by kernel_rfl, ?_⟩) hHeld ?_
            rotate_left
            · (intro w hSw; go_simp; try with_reducible rfl)
            try simp only [Act.put, List.getElem_toArray, List.getElem_cons_succ, List.getElem_cons_zero, List.setIfInBounds_toArray, List.set_cons_zero, List.set_cons_succ]
            have hz1 : w3.heap.size ≤ w3.heap.size := Nat.le_refl _
            refine wpAnyH_ready (rs := [12]) (by kernel_rfl) (by simp) ?_
            refine AllReadyH.cons (o := _) rfl (fun K hK => ?_) AllReadyH.nil
            have r8 := (g1.block w3.heap.size (by simp)).trans (heap_alloc_new w3 (.cells (wcells 0).toArray 24))
            refine step_store_row (by kernel_rfl) 24 (.tmp 8) (.tmp 45) rfl w3.heap.size (wcells Y).toArray rfl rfl 24 (wcells 0).toArray r8 (infoW' _) rfl (ones_w _) ?_
            refine hK.out _ _ (hHeld.setRow (fun p hp => by have := hLt.out p hp; have := hz1; omega) (by have := hWl.out; have := hz1; omega)) (fun hHeld => ?_)
            clear hK K
            try simp only [Act.put, List.getElem_toArray, List.getElem_cons_succ, List.getElem_cons_zero, List.setIfInBounds_toArray, List.set_cons_zero, List.set_cons_succ]
            refine wpAnyH_take (i := 13) (oi := _) (v := ?_) rfl (by kernel_rfl) (by kernel_rfl) (by kernel_rfl) (fun _ _ _ h => h) (Or.inl ⟨by kernel_rfl, ?_⟩) hHeld ?_
            rotate_left
            · (intro w hSw; go_simp; try with_reducible rfl)
            try simp only [Act.put, List.getElem_toArray, List.getElem_cons_succ, List.getElem_cons_zero, List.setIfInBounds_toArray, List.set_cons_zero, List.set_cons_succ]
            refine wpAnyH_done (by kernel_rfl) ?_ _
            generalize hw9 : World.setRow _ _ _ = w9 at *
            have q8 : w9.heap[w3.heap.size]? = some (.cells (wcells Y).toArray 24 (0, 0)) := by rw [← hw9]; exact setRow_heap _ _ _ _ _ _ r8
            generalize hb8 : w3.heap.size = b8 at *
            clear hw9 hb8 r8 hz1
            rcases FTC with ⟨rfl, rfl, hY, hYlt⟩ | ⟨hqq, ft⟩
            · have HY2 := Lib.hid (show dv (s.take (k + 1)) = Y from by rw [HC2.out, hY])
              have HYL := Lib.hid hYlt
              have Q8 := Lib.hid q8
              clear hY hYlt q8
              go_wp2_with (first
                | (refine wpList_load_row rfl 24 (.tmp 8) rfl b8 rfl 24 (wcells Y).toArray (0, 0) _ Q8.out Try.underlying24 rfl (infoW' _) ?_)
                | (refine wpList_store_row rfl 24 (.tmp 4) (.tmp 54) rfl (w.heap.size + 1) (wcells Y).toArray rfl rfl 24 (wcells V).toArray (hHeld.row 2 rfl) (infoW' _) rfl (ones_w _) ?_))
              go_roundw
              case rel => exact ⟨k + 1, Y, by omega, by omega, by go_num, HYL.out, HY2, Lib.hid ((setRow_other (by omega)).trans (hHeld.row 1 rfl)), Lib.hid (setRow_heap _ _ _ _ _ _ (hHeld.row 2 rfl)), below_setRow hHeld.2 (by omega) _⟩
              case measure => simp [intOf]; omega
            · have FT := Lib.hid ft
              clear ft q8
              cases q <;> cases q2 <;> simp at hqq
              all_goals
                go_wp2_with (refine wpList_store_row rfl 24 (.tmp 2) (.tmp 53) rfl w.heap.size (wcells 0).toArray rfl rfl 24 (wcells 0).toArray (hHeld.row 1 rfl) (infoW' 0) rfl (ones_w 0) ?_)
                exact bodyPost_ret (v := .tuple #[aggN 0, .int .i64 10]) (results_cell_tmp Try.results27 _ _ w.heap.size 24 _ _ _ _ rfl rfl (setRow_heap _ _ _ _ _ _ (hHeld.row 1 rfl)) Try.underlying24 rfl (infoW' 0)) rfl ⟨0, 10, rfl, FT.out, below_setRow hHeld.2 (Nat.le_refl _) _⟩
      · have FT := Lib.hid (no_digit s k hlt (by rw [HC.out]; exact hdig))
        by_cases h48 : c.toNat < 48
        · have d1 : decide ((c.toNat : Int) < 48) = true := by simp; omega
          go_wp2_with (refine wpList_store_row rfl 24 (.tmp 2) (.tmp 30) rfl w.heap.size (wcells 0).toArray rfl rfl 24 (wcells 0).toArray hr0.out (infoW' 0) rfl (ones_w 0) ?_)
          exact bodyPost_ret (v := .tuple #[aggN 0, .int .i64 10]) (results_cell_tmp Try.results27 _ _ w.heap.size 24 _ _ _ _ rfl rfl (setRow_heap _ _ _ _ _ _ hr0.out) Try.underlying24 rfl (infoW' 0)) rfl ⟨0, 10, rfl, FT.out, below_setRow hbel (Nat.le_refl _) _⟩
        · have d1 : decide ((c.toNat : Int) < 48) = false := by simp; omega
          have d2 : decide ((57 : Int) < c.toNat) = true := by simp; omega
          go_wp2_with (refine wpList_store_row rfl 24 (.tmp 2) (.tmp 30) rfl w.heap.size (wcells 0).toArray rfl rfl 24 (wcells 0).toArray hr0.out (infoW' 0) rfl (ones_w 0) ?_)
          exact bodyPost_ret (v := .tuple #[aggN 0, .int .i64 10]) (results_cell_tmp Try.results27 _ _ w.heap.size 24 _ _ _ _ rfl rfl (setRow_heap _ _ _ _ _ _ hr0.out) Try.underlying24 rfl (infoW' 0)) rfl ⟨0, 10, rfl, FT.out, below_setRow hbel (Nat.le_refl _) _⟩
    · obtain rfl : k = s.length := by omega
      have hds : Hid (dv s = V) := Lib.hid (by have := hdv.out; rwa [List.take_length] at this)
      clear hdv
      go_wp2_with (refine wpList_load_row rfl 24 (.tmp 4) rfl (w.heap.size + 1) rfl 24 (wcells V).toArray (0, 0) _ hr1.out Try.underlying24 rfl (infoW' _) ?_)
      refine (refText_any V wr HV.out).mono ?_
      rintro e w2 ⟨rfl, g2⟩
      have h0 := Lib.hid ((g2.block _ (row_lt hr0.out)).trans hr0.out)
      have h1 := Lib.hid ((g2.block _ (row_lt hr1.out)).trans hr1.out)
      have b2 := hbel.trans (g2.mono hbel.size)
      clear g2 hr0 hr1 hbel
      by_cases hds2 : dec V = s
      · have FT := Lib.hid (show FromT s V 0 from Or.inl ⟨HV.out, hds2, rfl⟩)
        go_wp2_with (first
          | (refine wpList_load_row rfl 24 (.tmp 4) rfl (w.heap.size + 1) rfl 24 (wcells V).toArray (0, 0) _ h1.out Try.underlying24 rfl (infoW' _) ?_)
          | (refine wpList_store_row rfl 24 (.tmp 2) (.tmp 60) rfl w.heap.size (wcells V).toArray rfl rfl 24 (wcells 0).toArray h0.out (infoW' _) rfl (ones_w _) ?_))
        exact bodyPost_ret (v := .tuple #[aggN V, .int .i64 0]) (results_cell_tmp Try.results27 _ _ w.heap.size 24 _ _ _ _ rfl rfl (setRow_heap _ _ _ _ _ _ h0.out) Try.underlying24 rfl (infoW' _)) rfl ⟨V, 0, rfl, FT.out, below_setRow b2 (Nat.le_refl _) _⟩
      · have FT := Lib.hid (not_text s V hds.out hds2)
        have hq1 : (dec V == s) = false := by simpa using hds2
        have hq2 : (dec V != s) = true := by simpa using hds2
        have hq3 : decide (dec V = s) = false := by simpa using hds2
        go_wp2_with (refine wpList_store_row rfl 24 (.tmp 2) (.tmp 59) rfl w.heap.size (wcells 0).toArray rfl rfl 24 (wcells 0).toArray h0.out (infoW' _) rfl (ones_w _) ?_)
        exact bodyPost_ret (v := .tuple #[aggN 0, .int .i64 10]) (results_cell_tmp Try.results27 _ _ w.heap.size 24 _ _ _ _ rfl rfl (setRow_heap _ _ _ _ _ _ h0.out) Try.underlying24 rfl (infoW' _)) rfl ⟨0, 10, rfl, FT.out, below_setRow b2 (Nat.le_refl _) _⟩
end
end Go.Proofs.Ytppgpdckaaabeaa
