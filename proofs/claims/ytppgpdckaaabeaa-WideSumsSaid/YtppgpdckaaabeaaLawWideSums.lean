/- The sum of all, beside adding one by one: for every list of numbers the law WideSums returns true, and its argument reads afterwards as it read before. No condition. -/
import Derived.Test.YtppgpdckaaabeaaRows
import Derived.WalkKit
import Derived.Below
import Derived.ProofKit
import Derived.OpenShut
import Derived.ShutString
import Derived.ChangeOld
import Derived.Outline
import Derived.RegionTactic
import Derived.ChangeAlike
import Derived.BigRegion
import Derived.BigQuiet
import Derived.Deep.QuietTactic
import Derived.Deep.RegionWith
import Derived.Deep.RegionLaw
import Derived.Deep.RegionHeld3
import Derived.Deep.AppendLies
import Derived.Deep.Draws
import Derived.StillTailTactics
import Derived.Lib.Hide
import Derived.Lib.SmallJoins
import Derived.Handy
import Derived.WalkSpells
import Derived.WalkLawsBesides
import Derived.Deep.LoopGhost
import Derived.Deep.DeepCutAuto
import Derived.Great.BuildSlice
import Derived.Deep.CutRange
import Derived.Test.YtppgpdckaaabeaaWideQ
namespace Go.Proofs.Ytppgpdckaaabeaa.wideSums
open Go.RowKit
set_option linter.unusedSimpArgs false
set_option linter.unusedVariables false
set_option linter.unnecessarySimpa false
theorem step_load_mid {P : Program} {ops : Array Oper} {o : Oper} {a : Act} {w : World} {K : Act → World → Prop} {Q : Exit → Act → World → Prop} {E : Prop} (hw : Region.wanted o (yielded ops a.tmps) = true) (ty : TypeId) (x : Operand) (ho : o.op = .load ty x)
    (b off : Nat) (hx : a.eval x = .pointer (some ⟨b, off, none⟩)) (cs : List Value) (d : TypeDesc) (hc : w.rangeAt b off cs)
    (hu : P.underlying ty = some d) (hd : d.isRow = true) (hi : (P.info? ty).map (·.size) = some cs.length)
    (h : K (a.put o.dst (.agg cs.toArray)) w) : if Region.wanted o (yielded ops a.tmps) = true then Oper.wp P o a w K Q else E := by
  rw [if_pos hw]
  exact wp_load_mid ty x ho b off hx cs d hc hu hd hi h
theorem take6 {w : World} {B : Nat} {a : Option Addr} {n : Nat} {ls : List Nat} (h : WidesAt w B a n ls) (hn : 6 ≤ n) : WidesAt w B a 6 (ls.take 6) := by
  refine ⟨by rw [List.length_take, h.1]; omega, fun _ => ?_, fun N hN => h.2.2 N (List.mem_of_mem_take hN)⟩
  obtain ⟨b, off, e, hb, hc⟩ := h.2.1 (by omega)
  refine ⟨b, off, e, hb, fun k N hk => hc k N ?_⟩
  rw [List.getElem?_take] at hk
  split at hk
  · exact hk
  · cases hk
theorem sumR_none {l : List Nat} {V : Nat} (h : sumR l = (V, false)) : V = 0 := by
  suffices H : ∀ (l : List Nat) (a : Nat × Bool), (a.2 = false → a.1 = 0) → ((l.foldl (fun a N => if a.2 then addR a.1 N else a) a).2 = false → (l.foldl (fun a N => if a.2 then addR a.1 N else a) a).1 = 0) by
    have h2 := H l (0, true) (fun _ => rfl)
    have e : sumR l = l.foldl (fun a N => if a.2 then addR a.1 N else a) (0, true) := rfl
    rw [← e, h] at h2
    exact h2 rfl
  intro l
  induction l with
  | nil => exact fun a h => h
  | cons N l ih =>
    intro a h
    rw [List.foldl_cons]
    refine ih _ ?_
    split
    · unfold addR; split <;> simp
    · exact h
section
attribute [local go_sem] eqNum guardW addNum timesNum lit0
set_option maxHeartbeats 8000000 in
set_option maxRecDepth 100000 in
theorem walk (a : Option Addr) (n c : Nat) (ls : List Nat) (W : World) (hnc : n ≤ c) (hcm : c ≤ maxLen) (hs : WidesAt W W.heap.size a n ls) : Calls Try.prog 7 #[.slice a n c] W fun e w' => e = .returned (.bool true) ∧ Below W.heap.size W w' := by
  have hS := Held.start W
  have HW := Lib.hid hs
  have n9 : (n : Int) ≤ 9223372036854775807 := by unfold maxLen at hcm; omega
  have c9 : (c : Int) ≤ 9223372036854775807 := by unfold maxLen at hcm; omega
  clear hs hcm
  go_enter Try.func7, Try.ntmps7
  go_wp2_with fail
  refine (awake4_any _).mono ?_
  rintro e w1 ⟨rfl, gw1⟩
  have hS := hS.below gw1
  clear gw1
  go_upto_if 12 with (fail)
  obtain ⟨LL, eL, hSL⟩ := hS.named
  clear hS
  go_cut [0] (fun v w' => ∃ (a' : Option Addr) (n' c' : Nat) (ls' : List Nat), v = .slice a' n' c' ∧ n' ≤ 6 ∧ Hid (WidesAt W W.heap.size a' n' ls') ∧ w' = w1)
  case first =>
    clear eL hSL
    by_cases h : 6 < n
    · have h1 : (6 : Int) < n := by omega
      have d : decide ((6 : Int) < n) = true := by simpa using h1
      obtain ⟨b, off, rfl, hb, hc⟩ := HW.out.2.1 (by omega)
      have HT := Lib.hid (take6 HW.out (by omega))
      clear HW hc
      go_wp2_with fail
      go_meet
      case rel => exact ⟨_, 6, _, _, rfl, by omega, HT, rfl⟩
    · have h1 : (n : Int) ≤ 6 := by omega
      have d : decide ((6 : Int) < n) = false := by simp; omega
      have HT := HW
      clear HW
      go_wp2_with fail
      go_meet
      case rel => exact ⟨_, n, _, _, rfl, by omega, HT, rfl⟩
  case rest =>
  clear HW hnc n9 c9
  obtain ⟨a, n, c, ls, rfl, hn, HW, rfl⟩ := hcut
  subst eL
  have hS := hSL
  clear hSL
  apply_assumption
  go_wp2_with (refine wpList_alloc_at hS rfl 24 rfl (wcells 0) (zeroW _) ?_; clear hS; intro wn hS hz; clear hz)
  obtain ⟨b4, hb4⟩ : ∃ b, b = wc.heap.size := ⟨_, rfl⟩
  rw [← hb4] at hS ⊢
  clear hb4
  have HL := Lib.hid HW.out.1
  go_wp2
  go_loopg [5, 6] n (fun g q i wr => ∃ k : Nat, k ≤ n ∧ Hid (g + k = n) ∧ i = .int .i64 (k : Nat) ∧ q = .bool (sumR (ls.take k)).2 ∧ Held [(b4, wcells (sumR (ls.take k)).1, 24)] W wr)
  case atStart => exact ⟨0, by omega, Lib.hid (by omega), rfl, rfl, hS⟩
  case round =>
    clear hS
    obtain ⟨k, hk, hg, rfl, rfl, hS⟩ := hrel
    obtain ⟨V, q, hV⟩ : ∃ V q, sumR (ls.take k) = (V, q) := ⟨_, _, rfl⟩
    have hVB := sumR_lt (ls.take k)
    rw [hV] at hS hVB ⊢
    simp only at hS hVB ⊢
    have VB := Lib.hid hVB
    have HV := Lib.hid hV
    clear hV hVB
    by_cases hlt : k < n
    · have kI : (k : Int) < n := by omega
      have d1 : decide ((k : Int) < n) = true := by simpa using kI
      cases q with
      | true =>
        obtain ⟨b, off, rfl, hbl, hc⟩ := HW.out.2.1 (by omega)
        obtain ⟨N, hN⟩ : ∃ N, ls[k]? = some N := ⟨_, List.getElem?_eq_getElem (by rw [HL.out]; exact hlt)⟩
        have HROW := Lib.hid (show wr.rangeAt b (off + k * 4) (wcells N) from fun j v hj => (hS.bel.cell (p := ⟨b, _, none⟩) hbl).trans (hc k N hN j v hj))
        have NB := Lib.hid (HW.out.2.2 N (List.mem_of_getElem? hN))
        obtain ⟨V', q', hA⟩ : ∃ V' q', addR V N = (V', q') := ⟨_, _, rfl⟩
        have HA := Lib.hid hA
        have HS := Lib.hid (show sumR (ls.take (k + 1)) = (V', q') from by rw [List.take_add_one, hN]; exact (sumR_snoc _ N).trans (by rw [HV.out]; exact hA))
        have HG := Lib.hid (show gk - 1 + (k + 1) = n ∧ gk - 1 < gk from by have := hg.out; omega)
        have hb4 := hS.new _ List.mem_cons_self
        have hR4 := Lib.hid (hS.row 0 rfl)
        have hB0 := hS.bel
        clear hc hN hA hbl
        go_upto_region 9 with (fail)
        try simp only [Act.put, List.getElem_toArray, List.getElem_cons_succ, List.getElem_cons_zero, List.setIfInBounds_toArray, List.set_cons_zero, List.set_cons_succ]
        clear hS d1
        refine wp_region_held_drew (S := fun w' => Below W.heap.size W w') (by kernel_rfl) hB0.drew (fun hHeld => ?_)
        refine wpAnyH_take (i := 1) (oi := _) (v := ?_) rfl (by kernel_rfl) (by kernel_rfl) (by kernel_rfl) (fun _ _ _ h => h) (Or.inl ⟨by kernel_rfl, ?_⟩) hHeld ?_
        rotate_left
        · (intro w hSw; go_simp; try with_reducible rfl)
        try simp only [Act.put, List.getElem_toArray, List.getElem_cons_succ, List.getElem_cons_zero, List.setIfInBounds_toArray, List.set_cons_zero, List.set_cons_succ]
        refine wpAnyH_take (i := 2) (oi := _) (v := ?_) rfl (by kernel_rfl) (by kernel_rfl) (by kernel_rfl) (fun _ _ _ h => h) (Or.inl ⟨by kernel_rfl, ?_⟩) hHeld ?_
        rotate_left
        · (intro w hSw; go_simp; try with_reducible rfl)
        try simp only [Act.put, List.getElem_toArray, List.getElem_cons_succ, List.getElem_cons_zero, List.setIfInBounds_toArray, List.set_cons_zero, List.set_cons_succ]
        refine wpAnyH_take (i := 3) (oi := _) (v := ?_) rfl (by kernel_rfl) (by kernel_rfl) (by kernel_rfl) (fun _ _ _ h => h) (Or.inl ⟨by kernel_rfl, ?_⟩) hHeld ?_
        rotate_left
        · (intro w hSw; go_simp; try with_reducible rfl)
        try simp only [Act.put, List.getElem_toArray, List.getElem_cons_succ, List.getElem_cons_zero, List.setIfInBounds_toArray, List.set_cons_zero, List.set_cons_succ]
        refine wpAnyH_ready (rs := [0, 4]) (by kernel_rfl) (by simp) ?_
        refine AllReadyH.cons (o := _) rfl (fun K hK => ?_) (AllReadyH.cons (o := _) rfl (fun K hK => ?_) AllReadyH.nil)
        · refine step_load_mid (by kernel_rfl) 24 (.tmp 4) rfl b4 0 rfl (wcells V) _ (range_cells hR4.out) Try.underlying24 rfl infoW ?_
          refine hK.out _ _ hHeld (fun _ => ?_)
          clear hK K
          try simp only [Act.put, List.getElem_toArray, List.getElem_cons_succ, List.getElem_cons_zero, List.setIfInBounds_toArray, List.set_cons_zero, List.set_cons_succ]
          refine wpAnyH_ready (rs := [4]) (by kernel_rfl) (by simp) ?_
          refine AllReadyH.cons (o := _) rfl (fun K hK => ?_) AllReadyH.nil
          refine step_load_mid (by kernel_rfl) 24 (.tmp 28) rfl b (off + k * 4) rfl (wcells N) _ HROW.out Try.underlying24 rfl infoW ?_
          refine hK.out _ _ hHeld (fun _ => ?_)
          clear hK K
          try simp only [Act.put, List.getElem_toArray, List.getElem_cons_succ, List.getElem_cons_zero, List.setIfInBounds_toArray, List.set_cons_zero, List.set_cons_succ]
          refine wpAnyH_ready (rs := [5]) (by kernel_rfl) (by simp) ?_
          refine AllReadyH.cons (o := _) rfl (fun K hK => ?_) AllReadyH.nil
          go_simp
          have hF := hR4
          go_at_call 13
          refine (refAdd_any _ _ _ VB.out NB.out).mono ?_
          rw [HA.out]
          rintro e w3 ⟨rfl, g3⟩
          have hR5 := Lib.hid ((g3.block _ (row_lt hF.out)).trans hF.out)
          refine hK.out _ _ (hHeld.trans (g3.mono hHeld.size)) (fun hHeld => ?_)
          clear hK K
          try simp only [Act.put, List.getElem_toArray, List.getElem_cons_succ, List.getElem_cons_zero, List.setIfInBounds_toArray, List.set_cons_zero, List.set_cons_succ]
          refine wpAnyH_take (i := 6) (oi := _) (v := ?_) rfl (by kernel_rfl) (by kernel_rfl) (by kernel_rfl) (fun _ _ _ h => h) (Or.inl ⟨by kernel_rfl, ?_⟩) hHeld ?_
          rotate_left
          · (intro w hSw; go_simp; try with_reducible rfl)
          try simp only [Act.put, List.getElem_toArray, List.getElem_cons_succ, List.getElem_cons_zero, List.setIfInBounds_toArray, List.set_cons_zero, List.set_cons_succ]
          refine wpAnyH_take (i := 7) (oi := _) (v := ?_) rfl (by kernel_rfl) (by kernel_rfl) (by kernel_rfl) (fun _ _ _ h => h) (Or.inl ⟨by kernel_rfl, ?_⟩) hHeld ?_
          rotate_left
          · (intro w hSw; go_simp; try with_reducible rfl)
          try simp only [Act.put, List.getElem_toArray, List.getElem_cons_succ, List.getElem_cons_zero, List.setIfInBounds_toArray, List.set_cons_zero, List.set_cons_succ]
          refine wpAnyH_take (i := 8) (oi := _) (v := ?_) rfl (by kernel_rfl) (by kernel_rfl) (by kernel_rfl) (fun _ _ _ h => h) (Or.inl ⟨by kernel_rfl, ?_⟩) hHeld ?_
          rotate_left
          · (intro w hSw; go_simp; try with_reducible rfl)
          try simp only [Act.put, List.getElem_toArray, List.getElem_cons_succ, List.getElem_cons_zero, List.setIfInBounds_toArray, List.set_cons_zero, List.set_cons_succ]
          refine wpAnyH_ready (rs := [9]) (by kernel_rfl) (by simp) ?_
          refine AllReadyH.cons (o := _) rfl (fun K hK => ?_) AllReadyH.nil
          refine step_store_row (by kernel_rfl) 24 (.tmp 4) (.tmp 31) rfl _ (wcells _).toArray rfl rfl 24 (wcells V).toArray hR5.out (infoW' _) rfl (ones_w _) ?_
          have hP := Lib.hid (setRow_heap _ _ _ (wcells V').toArray _ _ hR5.out)
          refine hK.out _ _ (below_setRow hHeld hb4 _) (fun hHeld => ?_)
          clear hK K
          try simp only [Act.put, List.getElem_toArray, List.getElem_cons_succ, List.getElem_cons_zero, List.setIfInBounds_toArray, List.set_cons_zero, List.set_cons_succ]
          refine wpAnyH_take (i := 10) (oi := _) (v := ?_) rfl (by kernel_rfl) (by kernel_rfl) (by kernel_rfl) (fun _ _ _ h => h) (Or.inl ⟨by kernel_rfl, ?_⟩) hHeld ?_
          rotate_left
          · (intro w hSw; go_simp; try with_reducible rfl)
          try simp only [Act.put, List.getElem_toArray, List.getElem_cons_succ, List.getElem_cons_zero, List.setIfInBounds_toArray, List.set_cons_zero, List.set_cons_succ]
          refine wpAnyH_done (by kernel_rfl) ?_ _
          have hS2 : Held [(b4, wcells V', 24)] W _ := ⟨⟨fun p hp => by rw [List.mem_singleton.1 hp]; exact hP.out, hHeld⟩, fun p hp => by rw [List.mem_singleton.1 hp]; exact hb4, List.pairwise_singleton _ _⟩
          clear hP hHeld hR4 hR5 hF HROW hB0 g3
          go_wp2
          go_roundg (gk - 1)
          case measure => exact HG.out.2
          case rel => exact ⟨k + 1, by omega, Lib.hid HG.out.1, by go_num, by rw [HS.out], by rw [HS.out]; exact hS2⟩
        · refine step_load_mid (by kernel_rfl) 24 (.tmp 28) rfl b (off + k * 4) rfl (wcells N) _ HROW.out Try.underlying24 rfl infoW ?_
          refine hK.out _ _ hHeld (fun _ => ?_)
          clear hK K
          try simp only [Act.put, List.getElem_toArray, List.getElem_cons_succ, List.getElem_cons_zero, List.setIfInBounds_toArray, List.set_cons_zero, List.set_cons_succ]
          refine wpAnyH_ready (rs := [0]) (by kernel_rfl) (by simp) ?_
          refine AllReadyH.cons (o := _) rfl (fun K hK => ?_) AllReadyH.nil
          refine step_load_mid (by kernel_rfl) 24 (.tmp 4) rfl b4 0 rfl (wcells V) _ (range_cells hR4.out) Try.underlying24 rfl infoW ?_
          refine hK.out _ _ hHeld (fun _ => ?_)
          clear hK K
          try simp only [Act.put, List.getElem_toArray, List.getElem_cons_succ, List.getElem_cons_zero, List.setIfInBounds_toArray, List.set_cons_zero, List.set_cons_succ]
          refine wpAnyH_ready (rs := [5]) (by kernel_rfl) (by simp) ?_
          refine AllReadyH.cons (o := _) rfl (fun K hK => ?_) AllReadyH.nil
          go_simp
          have hF := hR4
          go_at_call 13
          refine (refAdd_any _ _ _ VB.out NB.out).mono ?_
          rw [HA.out]
          rintro e w3 ⟨rfl, g3⟩
          have hR5 := Lib.hid ((g3.block _ (row_lt hF.out)).trans hF.out)
          refine hK.out _ _ (hHeld.trans (g3.mono hHeld.size)) (fun hHeld => ?_)
          clear hK K
          try simp only [Act.put, List.getElem_toArray, List.getElem_cons_succ, List.getElem_cons_zero, List.setIfInBounds_toArray, List.set_cons_zero, List.set_cons_succ]
          refine wpAnyH_take (i := 6) (oi := _) (v := ?_) rfl (by kernel_rfl) (by kernel_rfl) (by kernel_rfl) (fun _ _ _ h => h) (Or.inl ⟨by kernel_rfl, ?_⟩) hHeld ?_
          rotate_left
          · (intro w hSw; go_simp; try with_reducible rfl)
          try simp only [Act.put, List.getElem_toArray, List.getElem_cons_succ, List.getElem_cons_zero, List.setIfInBounds_toArray, List.set_cons_zero, List.set_cons_succ]
          refine wpAnyH_take (i := 7) (oi := _) (v := ?_) rfl (by kernel_rfl) (by kernel_rfl) (by kernel_rfl) (fun _ _ _ h => h) (Or.inl ⟨by kernel_rfl, ?_⟩) hHeld ?_
          rotate_left
          · (intro w hSw; go_simp; try with_reducible rfl)
          try simp only [Act.put, List.getElem_toArray, List.getElem_cons_succ, List.getElem_cons_zero, List.setIfInBounds_toArray, List.set_cons_zero, List.set_cons_succ]
          refine wpAnyH_take (i := 8) (oi := _) (v := ?_) rfl (by kernel_rfl) (by kernel_rfl) (by kernel_rfl) (fun _ _ _ h => h) (Or.inl ⟨by kernel_rfl, ?_⟩) hHeld ?_
          rotate_left
          · (intro w hSw; go_simp; try with_reducible rfl)
          try simp only [Act.put, List.getElem_toArray, List.getElem_cons_succ, List.getElem_cons_zero, List.setIfInBounds_toArray, List.set_cons_zero, List.set_cons_succ]
          refine wpAnyH_ready (rs := [9]) (by kernel_rfl) (by simp) ?_
          refine AllReadyH.cons (o := _) rfl (fun K hK => ?_) AllReadyH.nil
          refine step_store_row (by kernel_rfl) 24 (.tmp 4) (.tmp 31) rfl _ (wcells _).toArray rfl rfl 24 (wcells V).toArray hR5.out (infoW' _) rfl (ones_w _) ?_
          have hP := Lib.hid (setRow_heap _ _ _ (wcells V').toArray _ _ hR5.out)
          refine hK.out _ _ (below_setRow hHeld hb4 _) (fun hHeld => ?_)
          clear hK K
          try simp only [Act.put, List.getElem_toArray, List.getElem_cons_succ, List.getElem_cons_zero, List.setIfInBounds_toArray, List.set_cons_zero, List.set_cons_succ]
          refine wpAnyH_take (i := 10) (oi := _) (v := ?_) rfl (by kernel_rfl) (by kernel_rfl) (by kernel_rfl) (fun _ _ _ h => h) (Or.inl ⟨by kernel_rfl, ?_⟩) hHeld ?_
          rotate_left
          · (intro w hSw; go_simp; try with_reducible rfl)
          try simp only [Act.put, List.getElem_toArray, List.getElem_cons_succ, List.getElem_cons_zero, List.setIfInBounds_toArray, List.set_cons_zero, List.set_cons_succ]
          refine wpAnyH_done (by kernel_rfl) ?_ _
          have hS2 : Held [(b4, wcells V', 24)] W _ := ⟨⟨fun p hp => by rw [List.mem_singleton.1 hp]; exact hP.out, hHeld⟩, fun p hp => by rw [List.mem_singleton.1 hp]; exact hb4, List.pairwise_singleton _ _⟩
          clear hP hHeld hR4 hR5 hF HROW hB0 g3
          go_wp2
          go_roundg (gk - 1)
          case measure => exact HG.out.2
          case rel => exact ⟨k + 1, by omega, Lib.hid HG.out.1, by go_num, by rw [HS.out], by rw [HS.out]; exact hS2⟩
      | false =>
        have HR := Lib.hid (show sumR ls = (V, false) from by rw [sumR_over ls k (by rw [HV.out]), HV.out])
        have hz : V = 0 := sumR_none HR.out
        subst hz
        clear hlt hg
        go_wp2_with (refine wpList_store_at 0 hS rfl 24 _ _ rfl _ rfl (wcells _) rfl (wcells _) 24 rfl infoW rfl (ones_w _) ?_; clear hS; intro wn hS hz; clear hz; simp only [List.set_cons_zero, List.set_cons_succ] at hS)
        go_wp2_with fail
        refine (wSum_any a n c ls _ (HW.out.below hS.bel hS.bel.size) (by omega)).mono ?_
        rw [HR.out]
        rintro e w5 ⟨rfl, g5⟩
        have hS := hS.below g5
        clear g5
        go_wp2_with (first
          | (refine wpList_alloc_at hS rfl 24 rfl (wcells 0) (zeroW _) ?_; clear hS; intro wn hS hz; clear hz)
          | (refine wpList_store_at 0 hS rfl 24 _ _ rfl _ rfl (wcells _) rfl (wcells _) 24 rfl infoW rfl (ones_w _) ?_; clear hS; intro wn hS hz; clear hz; simp only [List.set_cons_zero, List.set_cons_succ] at hS)
          | (refine wpList_load_at hS (by rfl) 24 _ rfl _ rfl (wcells _) 24 (by first | exact mem_0 | exact mem_1 | exact mem_2) _ Try.underlying24 rfl infoW ?_))
        go_ret
        exact ⟨rfl, hS.bel⟩
    · have d1 : decide ((k : Int) < n) = false := by simp; omega
      have HR := Lib.hid (show sumR ls = (V, q) from by rw [← HV.out, List.take_of_length_le (by rw [HL.out]; omega)])
      have e : n = k := by omega
      subst e
      have kV := num VB.out
      clear hlt hg d1
      cases q with
      | true =>
        go_wp2_with fail
        refine (wSum_any a n c ls _ (HW.out.below hS.bel hS.bel.size) (by omega)).mono ?_
        rw [HR.out]
        rintro e w5 ⟨rfl, g5⟩
        have hS := hS.below g5
        clear g5
        go_wp2_with (first
          | (refine wpList_alloc_at hS rfl 24 rfl (wcells 0) (zeroW _) ?_; clear hS; intro wn hS hz; clear hz)
          | (refine wpList_store_at 0 hS rfl 24 _ _ rfl _ rfl (wcells _) rfl (wcells _) 24 rfl infoW rfl (ones_w _) ?_; clear hS; intro wn hS hz; clear hz; simp only [List.set_cons_zero, List.set_cons_succ] at hS)
          | (refine wpList_load_at hS (by rfl) 24 _ rfl _ rfl (wcells _) 24 (by first | exact mem_0 | exact mem_1 | exact mem_2) _ Try.underlying24 rfl infoW ?_))
        go_ret
        exact ⟨rfl, hS.bel⟩
      | false =>
        have hz : V = 0 := sumR_none HR.out
        subst hz
        go_wp2_with (refine wpList_store_at 0 hS rfl 24 _ _ rfl _ rfl (wcells _) rfl (wcells _) 24 rfl infoW rfl (ones_w _) ?_; clear hS; intro wn hS hz; clear hz; simp only [List.set_cons_zero, List.set_cons_succ] at hS)
        go_wp2_with fail
        refine (wSum_any a n c ls _ (HW.out.below hS.bel hS.bel.size) (by omega)).mono ?_
        rw [HR.out]
        rintro e w5 ⟨rfl, g5⟩
        have hS := hS.below g5
        clear g5
        go_wp2_with (first
          | (refine wpList_alloc_at hS rfl 24 rfl (wcells 0) (zeroW _) ?_; clear hS; intro wn hS hz; clear hz)
          | (refine wpList_store_at 0 hS rfl 24 _ _ rfl _ rfl (wcells _) rfl (wcells _) 24 rfl infoW rfl (ones_w _) ?_; clear hS; intro wn hS hz; clear hz; simp only [List.set_cons_zero, List.set_cons_succ] at hS)
          | (refine wpList_load_at hS (by rfl) 24 _ rfl _ rfl (wcells _) 24 (by first | exact mem_0 | exact mem_1 | exact mem_2) _ Try.underlying24 rfl infoW ?_))
        go_ret
        exact ⟨rfl, hS.bel⟩
end
open Go.ChangeShapes Go.WideShapes Go.ChangeAt
set_option maxRecDepth 100000 in
theorem lifted (os : Os) (started : os.Started) (H : Type) (enc : TypeId × Value → H) :
    ReturnsInHanded {} Try.checked os 7 .any (Rows.wideSumsSpec.pre6 enc Try.prog Try.f7 Rows.wideSumsRow.domain false) (Rows.wideSumsSpec.post enc Try.prog Try.f7 false true false false) := by
  refine returnsInHanded_of_change (C := Try.checked) own started (by kernel_rfl) Try.func7
    (ChangeSpec.witness6 (enc := enc) (C := Try.checked) false ⟨#[], #[.slice none 0 0], []⟩ 8 (by kernel_rfl) (by kernel_rfl) (by kernel_rfl) (by kernel_rfl)) ?_
  intro W base args ds gs before hval0 hW hcnd _
  have hval : ∀ (j : Nat) t v, Try.f7.params[j]? = some t → args[j]? = some v → Value.okWide Try.prog W .any base t v := hval0
  have hW' := hW
  obtain ⟨p, q, hA0, hV, rfl, hfz, hnd⟩ := hW
  have hA : DataW.TrodAll enc Try.prog W 0 (fun _ => true) true Try.f7.params.toList args.toList ds p := hA0
  rw [Try.params7] at hA hval
  obtain ⟨v0, vs0, d0, ds0, p0, q0, hargs, rfl, rfl, h0, r0⟩ := trodAll_cons hA
  obtain ⟨rfl, rfl, rfl⟩ := trodAll_nil r0
  obtain rfl : args = #[v0] := by cases args; simp_all
  obtain ⟨rfl, rfl⟩ := trodVars_none hV
  have k0 := h0
  have lt0 : ∀ x ∈ p0, x.block < W.heap.size := by obtain ⟨m, hm⟩ := k0; exact DataW.trod_lt m _ _ _ hm
  obtain ⟨ax0, nx0, kx0, lsx0, rfl, hncx0, hcmx0, hsx0⟩ := op_wides (hval 0 43 v0 rfl rfl) h0
  clear hA0 hval0
  refine (walk ax0 nx0 kx0 lsx0 W hncx0 hcmx0 hsx0).mono fun e W' ⟨he, bel⟩ => ?_
  subst he
  exact ⟨_, rfl, _, _, _, [], _, [], hW', trodAll_mk1 (shut_bool Try.underlying4 _), trodAll_cons_mk (Below.trod laidOut (by kernel_rfl) (of_decide_eq_true (by kernel_rfl)) k0 bel lt0) (trodAll_mk0), rfl, bel.frame _, fun h => by cases h⟩

theorem over : Rows.wideSumsRow.holds Try.pinned (OpenSpec.ofChange Rows.wideSumsSpec) :=
  OpenClaim.holds_of_wide 7 Try.f7 rfl rfl rfl rfl rfl rfl rfl ⟨rfl, rfl, rfl, rfl, rfl⟩ rfl rfl rfl rfl rfl (by kernel_rfl) Try.func7 (by kernel_rfl)
    (of_decide_eq_true (by kernel_rfl)) (by unfold Func.isWrapper; first | (rw [if_pos (by decide +kernel)]; kernel_rfl) | (rw [if_neg (by decide +kernel)]; exact ⟨rfl, rfl⟩))
    (fun os started H enc _ => lifted os started H enc)

theorem proved : Rows.WideSumsSaid := over
end Go.Proofs.Ytppgpdckaaabeaa.wideSums
