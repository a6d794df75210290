/- The numbers that texts are. -/
import Derived.Test.YtppgpdckaaabeaaRows
import Derived.WalkKit
import Derived.Below
import Derived.ProofKit
import Derived.OpenShut
import Derived.ShutString
import Derived.ChangeOld
import Derived.Outline
import Derived.RegionTactic
import Derived.ChangeAlike
import Derived.BigRegion
import Derived.BigQuiet
import Derived.Deep.QuietTactic
import Derived.Deep.RegionWith
import Derived.Deep.RegionLaw
import Derived.Deep.RegionHeld3
import Derived.Deep.AppendLies
import Derived.Deep.Draws
import Derived.StillTailTactics
import Derived.Lib.Hide
import Derived.Lib.SmallJoins
import Derived.Handy
import Derived.WalkSpells
import Derived.WalkLawsBesides
import Derived.Deep.LoopGhost
import Derived.Deep.DeepCutAuto
import Derived.Deep.CutBlock
import Derived.Deep.CutRange
import Derived.Test.YtppgpdckaaabeaaWideS
namespace Go.Proofs.Ytppgpdckaaabeaa
open Go.RowKit
set_option linter.unusedSimpArgs false
set_option linter.unusedVariables false
set_option linter.unnecessarySimpa false
theorem dec_head (n : Nat) : n ≠ 0 → (dec n).head? ≠ some 48 := by
  induction n using Nat.strongRecOn with
  | ind n ih =>
    intro hn
    by_cases h : n / 10 = 0
    · rw [dec_one n h]
      simp only [List.head?_cons, ne_eq, Option.some.injEq]
      intro e
      have := congrArg UInt8.toNat e
      rw [dig8] at this
      have : (48 : UInt8).toNat = 48 := rfl
      omega
    · have h2 := ih (n / 10) (by omega) h
      rw [dec_more n h]
      cases hd : dec (n / 10) with
      | nil => exact absurd hd (dec_ne_nil _)
      | cons a l => rw [hd] at h2; simpa using h2
/-- Digits, the first of which is no 0: the text of the number that they are. -/
theorem dec_dv (r : List UInt8) (c : UInt8) (hc : c.toNat ≠ 48) (hd : ∀ x ∈ c :: r, 48 ≤ x.toNat ∧ x.toNat ≤ 57) : dec (dv (c :: r)) = c :: r ∧ dv (c :: r) ≠ 0 := by
  suffices H : ∀ (n : Nat) (r : List UInt8), r.length = n → (∀ x ∈ c :: r, 48 ≤ x.toNat ∧ x.toNat ≤ 57) → dec (dv (c :: r)) = c :: r ∧ dv (c :: r) ≠ 0 from H _ r rfl hd
  intro n
  induction n with
  | zero =>
    intro r hr hd
    obtain rfl := List.eq_nil_of_length_eq_zero hr
    have h := hd c (by simp)
    have e : dv [c] = c.toNat - 48 := by simp [dv]
    rw [e, dec_small _ (by omega)]
    refine ⟨?_, by omega⟩
    congr 1
    apply UInt8.toNat_inj.1
    rw [UInt8.toNat_ofNat']; omega
  | succ n ih =>
    intro r0 hr hd
    obtain ⟨r, x, rfl⟩ : ∃ r x, r0 = r ++ [x] := ⟨r0.dropLast, r0.getLast (by intro e; rw [e] at hr; cases hr), (List.dropLast_concat_getLast _).symm⟩
    have h := hd x (by simp)
    obtain ⟨h1, h2⟩ := ih r (by simpa using hr) (fun y hy => hd y (by simp at hy ⊢; rcases hy with rfl | hy <;> simp [*]))
    have e : dv (c :: (r ++ [x])) = dv (c :: r) * 10 + (x.toNat - 48) := dv_snoc (c :: r) x
    refine ⟨?_, by omega⟩
    rw [e, dec_more _ (by omega), show (dv (c :: r) * 10 + (x.toNat - 48)) / 10 = dv (c :: r) by omega, h1]
    rw [show (dv (c :: r) * 10 + (x.toNat - 48)) % 10 = x.toNat - 48 by omega]
    have : UInt8.ofNat (48 + (x.toNat - 48)) = x := by
      apply UInt8.toNat_inj.1
      rw [UInt8.toNat_ofNat']
      have := x.toNat_lt
      omega
    rw [this]; rfl
theorem no_empty : FromT [] 0 10 := Or.inr ⟨fun N _ h => dec_ne_nil N h, rfl, rfl⟩
theorem no_zero (x : UInt8) (r : List UInt8) : FromT (48 :: x :: r) 0 10 := Or.inr ⟨fun N _ h => by
  by_cases h0 : N = 0
  · subst h0
    rw [dec_small 0 (by decide)] at h
    simp at h
  · exact dec_head N h0 (by rw [h]; rfl), rfl, rfl⟩
theorem Held.tail {x : Nat × List Value × TypeId} {l : List (Nat × List Value × TypeId)} {W w : World} (h : Held (x :: l) W w) : Held l W w :=
  ⟨⟨fun p hp => h.rows.1 p (List.mem_cons_of_mem _ hp), h.rows.2⟩, fun p hp => h.new p (List.mem_cons_of_mem _ hp), (List.pairwise_cons.1 h.apart).2⟩
section
attribute [local go_sem] idx_list
set_option maxHeartbeats 2000000 in
theorem fromText_empty (w : World) : Calls Try.prog 24 #[.string ⟨([] : List UInt8).toArray⟩] w (FromTP [] w) := by
  go_enter Try.func24, Try.ntmps24
  go_wp2
  exact bodyPost_ret (v := .tuple #[aggN 0, .int .i64 10]) (results_cell_tmp Try.results24 _ _ w.heap.size 24 (wcells 0).toArray (0, 0) _ _ rfl rfl (heap_alloc_new w _) Try.underlying24 rfl (infoW' 0)) rfl ⟨0, 10, rfl, no_empty, (Below.refl _ _).alloc (Nat.le_refl _) _⟩
set_option maxHeartbeats 2000000 in
theorem fromText_zero (x : UInt8) (r : List UInt8) (w : World) : Calls Try.prog 24 #[.string ⟨(48 :: x :: r).toArray⟩] w (FromTP (48 :: x :: r) w) := by
  go_enter Try.func24, Try.ntmps24
  go_wp2
  exact bodyPost_ret (v := .tuple #[aggN 0, .int .i64 10]) (results_cell_tmp Try.results24 _ _ w.heap.size 24 (wcells 0).toArray (0, 0) _ _ rfl rfl (heap_alloc_new w _) Try.underlying24 rfl (infoW' 0)) rfl ⟨0, 10, rfl, no_zero x r, (Below.refl _ _).alloc (Nat.le_refl _) _⟩
/-- What is so of a text's first k bytes. -/
structure Sofar (s : List UInt8) (k V : Nat) : Prop where
  val : V = dv (s.take k)
  lt : V < 2 ^ 256
  digits : ∀ j, (h : j < s.length) → j < k → 48 ≤ (s[j]'h).toNat ∧ (s[j]'h).toNat ≤ 57
theorem Sofar.step {s : List UInt8} {k V V' : Nat} (h : Sofar s k V) (hk : k < s.length) (hb : behR V (s[k]'hk) = (V', true)) : Sofar s (k + 1) V' := by
  unfold behR at hb
  split at hb
  · rename_i hc
    obtain ⟨rfl, _⟩ := Prod.mk.inj hb
    refine ⟨by rw [dv_take_succ s k hk, ← h.val], hc.2.2, fun j hj hjk => ?_⟩
    rcases Nat.lt_or_ge j k with h1 | h1
    · exact h.digits j hj h1
    · obtain rfl : j = k := by omega
      exact ⟨hc.1, hc.2.1⟩
  · cases hb
theorem Sofar.no {s : List UInt8} {k V V' : Nat} (h : Sofar s k V) (hk : k < s.length) (hb : behR V (s[k]'hk) = (V', false)) : FromT s 0 10 := by
  unfold behR at hb
  split at hb
  · cases hb
  · rename_i hc
    by_cases hd : 48 ≤ (s[k]'hk).toNat ∧ (s[k]'hk).toNat ≤ 57
    · refine no_text s (k + 1) ?_
      rw [dv_take_succ s k hk, ← h.val]
      have : ¬ (V * 10 + ((s[k]'hk).toNat - 48) < 2 ^ 256) := fun h3 => hc ⟨hd.1, hd.2, h3⟩
      exact Nat.le_of_not_lt this
    · exact no_digit s k hk hd
theorem Sofar.done {c : UInt8} {r : List UInt8} {V : Nat} (h : Sofar (c :: r) (r.length + 1) V) (hc : c.toNat ≠ 48 ∨ r = []) : FromT (c :: r) V 0 := by
  refine Or.inl ⟨h.lt, ?_, rfl⟩
  have hv := h.val
  rw [List.take_of_length_le (by simp)] at hv
  have hd : ∀ x ∈ c :: r, 48 ≤ x.toNat ∧ x.toNat ≤ 57 := fun x hx => by
    obtain ⟨j, hj, rfl⟩ := List.mem_iff_getElem.1 hx
    exact h.digits j hj (by simpa using hj)
  by_cases h48 : c.toNat = 48
  · rcases hc with hc | rfl
    · exact absurd h48 hc
    · have e : c = 48 := UInt8.toNat_inj.1 h48
      subst e
      rw [hv]
      exact dec_small 0 (by decide)
  · rw [hv]
    exact (dec_dv r c h48 hd).1
set_option maxHeartbeats 4000000 in
set_option maxRecDepth 100000 in
theorem fromText_other (c : UInt8) (r : List UInt8) (w : World) (h : c.toNat ≠ 48 ∨ r = []) (hs : ((c :: r).length : Int) ≤ 1000000) : Calls Try.prog 24 #[.string ⟨(c :: r).toArray⟩] w (FromTP (c :: r) w) := by
  have hS := Held.start w
  have HC := Lib.hid h
  go_enter Try.func24, Try.ntmps24
  go_upto_region 1 with (refine wpList_alloc_at hS rfl 24 rfl (wcells 0) (zeroWd _) ?_; clear hS; intro wn hS hz; clear hz)
  clear h
  go_cut [18] (fun v w' => v = .bool false ∧ w' = wn)
  case first =>
    by_cases h48 : c.toNat = 48
    · have hr : r = [] := by
        rcases HC.out with h1 | h1
        · exact absurd h48 h1
        · exact h1
      have e : c = 48 := UInt8.toNat_inj.1 h48
      subst hr e
      clear h48
      go_wp2_with fail
      go_meet
      case rel => exact ⟨rfl, rfl⟩
    · have hc : ((c.toNat : Int) == 48) = false := by simp; omega
      clear h48
      go_wp2_with fail
      go_meet
      case rel => exact ⟨rfl, rfl⟩
  case rest =>
  obtain ⟨rfl, rfl⟩ := hcut
  obtain ⟨s, hsd⟩ : ∃ s, s = c :: r := ⟨_, rfl⟩
  have HSD := Lib.hid hsd
  rw [← hsd] at hs ⊢
  clear hsd
  apply_assumption
  go_wp2_with (refine wpList_alloc_at hS rfl 24 rfl (wcells 0) (zeroWd _) ?_; clear hS; intro wn hS hz; clear hz)
  obtain ⟨b4, hb4⟩ : ∃ b, b = wc.heap.size := ⟨_, rfl⟩
  rw [← hb4] at hS ⊢
  have HN := Lib.hid (show b4 ≠ w.heap.size from fun e => (List.pairwise_cons.1 hS.apart).1 _ List.mem_cons_self (by simpa using e))
  clear hb4
  go_loopg [5, 6, 7, 22] s.length (fun n _ _ _ i wr => ∃ k V, k ≤ s.length ∧ Hid (n + k = s.length) ∧ i = .int .i64 (k : Nat) ∧ Hid (Sofar s k V) ∧ Held [(b4, wcells V, 24), (w.heap.size, wcells 0, 24)] w wr)
  case atStart => exact ⟨0, 0, by omega, Lib.hid (by omega), rfl, Lib.hid ⟨rfl, by decide, fun j _ h => absurd h (by omega)⟩, hS⟩
  case round =>
    clear hS
    obtain ⟨k, V, hk, hg, rfl, HV, hS⟩ := hrel
    by_cases hlt : k < s.length
    · have hkI : (k : Int) < s.length := by omega
      obtain ⟨V', q, hB⟩ : ∃ V' q, behR V (s[k]'hlt) = (V', q) := ⟨_, _, rfl⟩
      have HB := Lib.hid hB
      have VB := HV.out.lt
      clear hB
      go_upto_region 7 with (fail)
      try simp only [Act.put, List.getElem_toArray, List.getElem_cons_succ, List.getElem_cons_zero, List.setIfInBounds_toArray, List.set_cons_zero, List.set_cons_succ]
      obtain ⟨LL, eL, hSL⟩ := hS.named
      clear hS
      go_cut [6, 7] (fun u v w' => ∃ b : Nat, u = .pointer (some ⟨b, 0, none⟩) ∧ v = .bool q ∧ Held ((b, wcells V', 24) :: LL) w w')
      case first =>
        subst eL
        refine wp_region_held_drew (S := Held _ w) (by kernel_rfl) hSL.drew (fun hHeld => ?_)
        refine wpAnyH_take (i := 0) (oi := _) (v := _) rfl (by kernel_rfl) (by kernel_rfl) (by kernel_rfl) (fun _ _ _ h => h) (yieldsIf_load_mid (by kernel_rfl) _ _ rfl _ _ rfl _ _ (fun w h => h.rng 0 rfl) Try.underlying24 rfl infoW) hHeld ?_
        try simp only [Act.put, List.getElem_toArray, List.getElem_cons_succ, List.getElem_cons_zero, List.setIfInBounds_toArray, List.set_cons_zero, List.set_cons_succ]
        refine wpAnyH_take (i := 1) (oi := _) (v := ?_) rfl (by kernel_rfl) (by kernel_rfl) (by kernel_rfl) (fun _ _ _ h => h) (Or.inl ⟨by kernel_rfl, ?_⟩) hHeld ?_
        rotate_left
        · (intro w hSw; go_simp; try with_reducible rfl)
        try simp only [Act.put, List.getElem_toArray, List.getElem_cons_succ, List.getElem_cons_zero, List.setIfInBounds_toArray, List.set_cons_zero, List.set_cons_succ]
        refine wpAnyH_take (i := 2) (oi := _) (v := ?_) rfl (by kernel_rfl) (by kernel_rfl) (by kernel_rfl) (fun _ _ _ h => h) (Or.inl ⟨by kernel_rfl, ?_⟩) hHeld ?_
        rotate_left
        · (intro w hSw; go_simp; try with_reducible rfl)
        try simp only [Act.put, List.getElem_toArray, List.getElem_cons_succ, List.getElem_cons_zero, List.setIfInBounds_toArray, List.set_cons_zero, List.set_cons_succ]
        refine wpAnyH_take (i := 3) (oi := _) (v := ?_) rfl (by kernel_rfl) (by kernel_rfl) (by kernel_rfl) (fun _ _ _ h => h) (Or.inl ⟨by kernel_rfl, ?_⟩) hHeld ?_
        rotate_left
        · (intro w hSw; go_simp; try with_reducible rfl)
        try simp only [Act.put, List.getElem_toArray, List.getElem_cons_succ, List.getElem_cons_zero, List.setIfInBounds_toArray, List.set_cons_zero, List.set_cons_succ]
        refine wpAnyH_ready (rs := [4, 8]) (by kernel_rfl) (by simp) ?_
        refine AllReadyH.cons (o := _) rfl (fun K hK => ?_) (AllReadyH.cons (o := _) rfl (fun K hK => ?_) AllReadyH.nil)
        · go_simp
          go_at_call 39
          refine (behind_any _ _ _ VB).mono ?_
          rw [HB.out]
          rintro e w3 ⟨rfl, g3⟩
          refine hK.out _ _ (hHeld.below g3) (fun hHeld => ?_)
          clear hK K
          try simp only [Act.put, List.getElem_toArray, List.getElem_cons_succ, List.getElem_cons_zero, List.setIfInBounds_toArray, List.set_cons_zero, List.set_cons_succ]
          refine wpAnyH_take (i := 5) (oi := _) (v := ?_) rfl (by kernel_rfl) (by kernel_rfl) (by kernel_rfl) (fun _ _ _ h => h) (Or.inl ⟨by kernel_rfl, ?_⟩) hHeld ?_
          rotate_left
          · (intro w hSw; go_simp; try with_reducible rfl)
          try simp only [Act.put, List.getElem_toArray, List.getElem_cons_succ, List.getElem_cons_zero, List.setIfInBounds_toArray, List.set_cons_zero, List.set_cons_succ]
          refine wpAnyH_take (i := 6) (oi := _) (v := ?_) rfl (by kernel_rfl) (by kernel_rfl) (by kernel_rfl) (fun _ _ _ h => h) (Or.inl ⟨by kernel_rfl, ?_⟩) hHeld ?_
          rotate_left
          · (intro w hSw; go_simp; try with_reducible rfl)
          try simp only [Act.put, List.getElem_toArray, List.getElem_cons_succ, List.getElem_cons_zero, List.setIfInBounds_toArray, List.set_cons_zero, List.set_cons_succ]
          refine wpAnyH_take (i := 7) (oi := _) (v := ?_) rfl (by kernel_rfl) (by kernel_rfl) (by kernel_rfl) (fun _ _ _ h => h) (Or.inl ⟨by kernel_rfl, ?_⟩) hHeld ?_
          rotate_left
          · (intro w hSw; go_simp; try with_reducible rfl)
          try simp only [Act.put, List.getElem_toArray, List.getElem_cons_succ, List.getElem_cons_zero, List.setIfInBounds_toArray, List.set_cons_zero, List.set_cons_succ]
          refine wpAnyH_ready (rs := [8]) (by kernel_rfl) (by simp) ?_
          refine AllReadyH.cons (o := _) rfl (fun K hK => ?_) AllReadyH.nil
          go_simp
          have hF := hHeld.fresh (wcells 0) 24
          refine hK.out _ _ (hHeld.alloc _) (fun hHeld => ?_)
          clear hK K
          try simp only [Act.put, List.getElem_toArray, List.getElem_cons_succ, List.getElem_cons_zero, List.setIfInBounds_toArray, List.set_cons_zero, List.set_cons_succ]
          refine wpAnyH_ready (rs := [9]) (by kernel_rfl) (by simp) ?_
          refine AllReadyH.cons (o := _) rfl (fun K hK => ?_) AllReadyH.nil
          refine step_store_row (by kernel_rfl) 24 (.tmp 6) (.tmp 31) rfl _ (wcells _).toArray rfl rfl 24 (wcells 0).toArray hF.row (infoW' _) rfl (ones_w _) ?_
          have hP := hHeld.more hF (wcells V')
          refine hK.out _ _ (hHeld.stored hF (wcells V')) (fun hHeld => ?_)
          clear hK K
          try simp only [Act.put, List.getElem_toArray, List.getElem_cons_succ, List.getElem_cons_zero, List.setIfInBounds_toArray, List.set_cons_zero, List.set_cons_succ]
          refine wpAnyH_take (i := 10) (oi := _) (v := ?_) rfl (by kernel_rfl) (by kernel_rfl) (by kernel_rfl) (fun _ _ _ h => h) (Or.inl ⟨by kernel_rfl, ?_⟩) hHeld ?_
          rotate_left
          · (intro w hSw; go_simp; try with_reducible rfl)
          try simp only [Act.put, List.getElem_toArray, List.getElem_cons_succ, List.getElem_cons_zero, List.setIfInBounds_toArray, List.set_cons_zero, List.set_cons_succ]
          refine wpAnyH_done (by kernel_rfl) ?_ _
          go_wp2_with fail
          go_meet
          case rel => exact ⟨_, rfl, rfl, hP⟩
        · go_simp
          have hF := hHeld.fresh (wcells 0) 24
          refine hK.out _ _ (hHeld.alloc _) (fun hHeld => ?_)
          clear hK K
          try simp only [Act.put, List.getElem_toArray, List.getElem_cons_succ, List.getElem_cons_zero, List.setIfInBounds_toArray, List.set_cons_zero, List.set_cons_succ]
          refine wpAnyH_ready (rs := [4]) (by kernel_rfl) (by simp) ?_
          refine AllReadyH.cons (o := _) rfl (fun K hK => ?_) AllReadyH.nil
          go_simp
          go_at_call 39
          refine (behind_any _ _ _ VB).mono ?_
          rw [HB.out]
          rintro e w3 ⟨rfl, g3⟩
          have hF := hF.below g3
          refine hK.out _ _ (hHeld.below g3) (fun hHeld => ?_)
          clear hK K
          try simp only [Act.put, List.getElem_toArray, List.getElem_cons_succ, List.getElem_cons_zero, List.setIfInBounds_toArray, List.set_cons_zero, List.set_cons_succ]
          refine wpAnyH_take (i := 5) (oi := _) (v := ?_) rfl (by kernel_rfl) (by kernel_rfl) (by kernel_rfl) (fun _ _ _ h => h) (Or.inl ⟨by kernel_rfl, ?_⟩) hHeld ?_
          rotate_left
          · (intro w hSw; go_simp; try with_reducible rfl)
          try simp only [Act.put, List.getElem_toArray, List.getElem_cons_succ, List.getElem_cons_zero, List.setIfInBounds_toArray, List.set_cons_zero, List.set_cons_succ]
          refine wpAnyH_take (i := 6) (oi := _) (v := ?_) rfl (by kernel_rfl) (by kernel_rfl) (by kernel_rfl) (fun _ _ _ h => h) (Or.inl ⟨by kernel_rfl, ?_⟩) hHeld ?_
          rotate_left
          · (intro w hSw; go_simp; try with_reducible rfl)
          try simp only [Act.put, List.getElem_toArray, List.getElem_cons_succ, List.getElem_cons_zero, List.setIfInBounds_toArray, List.set_cons_zero, List.set_cons_succ]
          refine wpAnyH_take (i := 7) (oi := _) (v := ?_) rfl (by kernel_rfl) (by kernel_rfl) (by kernel_rfl) (fun _ _ _ h => h) (Or.inl ⟨by kernel_rfl, ?_⟩) hHeld ?_
          rotate_left
          · (intro w hSw; go_simp; try with_reducible rfl)
          try simp only [Act.put, List.getElem_toArray, List.getElem_cons_succ, List.getElem_cons_zero, List.setIfInBounds_toArray, List.set_cons_zero, List.set_cons_succ]
          refine wpAnyH_ready (rs := [9]) (by kernel_rfl) (by simp) ?_
          refine AllReadyH.cons (o := _) rfl (fun K hK => ?_) AllReadyH.nil
          refine step_store_row (by kernel_rfl) 24 (.tmp 6) (.tmp 31) rfl _ (wcells _).toArray rfl rfl 24 (wcells 0).toArray hF.row (infoW' _) rfl (ones_w _) ?_
          have hP := hHeld.more hF (wcells V')
          refine hK.out _ _ (hHeld.stored hF (wcells V')) (fun hHeld => ?_)
          clear hK K
          try simp only [Act.put, List.getElem_toArray, List.getElem_cons_succ, List.getElem_cons_zero, List.setIfInBounds_toArray, List.set_cons_zero, List.set_cons_succ]
          refine wpAnyH_take (i := 10) (oi := _) (v := ?_) rfl (by kernel_rfl) (by kernel_rfl) (by kernel_rfl) (fun _ _ _ h => h) (Or.inl ⟨by kernel_rfl, ?_⟩) hHeld ?_
          rotate_left
          · (intro w hSw; go_simp; try with_reducible rfl)
          try simp only [Act.put, List.getElem_toArray, List.getElem_cons_succ, List.getElem_cons_zero, List.setIfInBounds_toArray, List.set_cons_zero, List.set_cons_succ]
          refine wpAnyH_done (by kernel_rfl) ?_ _
          go_wp2_with fail
          go_meet
          case rel => exact ⟨_, rfl, rfl, hP⟩
      case rest =>
      obtain ⟨b6, rfl, rfl, hS⟩ := hcut
      clear hSL
      subst eL
      cases q with
      | false =>
        have HF := Lib.hid (HV.out.no hlt HB.out)
        apply_assumption
        go_wp2_with (refine wpList_store_at 2 hS rfl 24 _ _ rfl _ rfl (wcells 0) rfl (wcells 0) 24 rfl infoW rfl (ones_w 0) ?_; clear hS; intro wn hS hz; clear hz; simp only [List.set_cons_zero, List.set_cons_succ] at hS)
        exact bodyPost_ret (v := .tuple #[aggN 0, .int .i64 10]) (results_cell_tmp Try.results24 _ _ w.heap.size 24 (wcells 0).toArray (0, 0) _ _ rfl rfl (hS.row 2 rfl) Try.underlying24 rfl (infoW' 0)) rfl ⟨0, 10, rfl, by rw [← HSD.out]; exact HF.out, hS.bel⟩
      | true =>
        have HS := Lib.hid (HV.out.step hlt HB.out)
        have HG := Lib.hid (show gk - 1 + (k + 1) = s.length ∧ gk - 1 < gk from by have := hg.out; omega)
        apply_assumption
        go_wp2_with (first
          | (refine wpList_load_at hS (by rfl) 24 _ rfl _ rfl (wcells _) 24 mem_0 _ Try.underlying24 rfl infoW ?_)
          | (refine wpList_store_at 1 hS rfl 24 _ _ rfl _ rfl (wcells _) rfl (wcells _) 24 rfl infoW rfl (ones_w _) ?_; clear hS; intro wn hS hz; clear hz; simp only [List.set_cons_zero, List.set_cons_succ] at hS))
        go_roundg (gk - 1)
        case measure => exact HG.out.2
        case rel => exact ⟨k + 1, V', by omega, Lib.hid HG.out.1, by go_num, HS, hS.tail⟩
    · have e : k = s.length := by omega
      have HD := Lib.hid (show FromT (c :: r) V 0 from Sofar.done (by rw [← HSD.out, show r.length + 1 = k from by rw [e, HSD.out]; rfl]; exact HV.out) HC.out)
      clear e
      have hdec : decide ((k : Int) < s.length) = false := by simp; omega
      go_wp2_with (first
        | (refine wpList_load_at hS (by rfl) 24 _ rfl _ rfl (wcells _) 24 mem_0 _ Try.underlying24 rfl infoW ?_)
        | (refine wpList_store_at 1 hS rfl 24 _ _ rfl _ rfl (wcells _) rfl (wcells _) 24 rfl infoW rfl (ones_w _) ?_; clear hS; intro wn hS hz; clear hz; simp only [List.set_cons_zero, List.set_cons_succ] at hS))
      exact bodyPost_ret (v := .tuple #[aggN V, .int .i64 0]) (results_cell_tmp Try.results24 _ _ w.heap.size 24 (wcells V).toArray (0, 0) _ _ rfl rfl (hS.row 1 rfl) Try.underlying24 rfl (infoW' _)) rfl ⟨V, 0, rfl, HD.out, hS.bel⟩
theorem wFromText_any (s : List UInt8) (w : World) (hs : (s.length : Int) ≤ 1000000) : Calls Try.prog 24 #[.string ⟨s.toArray⟩] w (FromTP s w) := by
  cases s with
  | nil => exact fromText_empty w
  | cons c t =>
    cases t with
    | nil => exact fromText_other c [] w (Or.inr rfl) hs
    | cons x r =>
      by_cases h : c.toNat = 48
      · obtain rfl : c = 48 := UInt8.toNat_inj.1 h
        exact fromText_zero x r w
      · exact fromText_other c (x :: r) w (Or.inl h) hs
end
theorem subR_lt (N M : Nat) (hN : N < 2 ^ 256) : (subR N M).1 < 2 ^ 256 := by unfold subR; split <;> simp_all <;> omega
theorem partR_lt (N n : Nat) (hN : N < 2 ^ 256) : (partR N n).1 < 2 ^ 256 := by
  unfold partR; split
  · simp
  · exact Nat.lt_of_le_of_lt (Nat.div_le_self _ _) hN
theorem fromB_lt (s : List UInt8) : (fromB s).1 < 2 ^ 256 := by
  unfold fromB; split
  · exact wnum_lt s (by assumption)
  · simp
end Go.Proofs.Ytppgpdckaaabeaa
