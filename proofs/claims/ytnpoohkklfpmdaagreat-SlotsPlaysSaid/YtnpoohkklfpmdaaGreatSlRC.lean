/- The document's log. -/
import Derived.Test.YtnpoohkklfpmdaaGreatRows
import Derived.WalkKit
import Derived.Below
import Derived.ProofKit
import Derived.OpenShut
import Derived.ShutString
import Derived.ChangeOld
import Derived.Outline
import Derived.RegionTactic
import Derived.ChangeAlike
import Derived.BigRegion
import Derived.BigQuiet
import Derived.Deep.QuietTactic
import Derived.Deep.RegionWith
import Derived.Deep.RegionLaw
import Derived.Deep.RegionHeld3
import Derived.Deep.AppendLies
import Derived.Deep.Draws
import Derived.StillTailTactics
import Derived.Lib.Hide
import Derived.Lib.SmallJoins
import Derived.Handy
import Derived.WalkSpells
import Derived.WalkLawsBesides
import Derived.Deep.LoopGhost
import Derived.Deep.DeepCutAuto
import Derived.Deep.CutBlock
import Derived.Deep.CutRange
import Derived.Deep.OwnRows
import Derived.Laws.CopyOwn
import Derived.Great.BuildSlice
import Derived.Test.YtnpoohkklfpmdaaGreatSlRB
import Derived.Test.YtnpoohkklfpmdaaGreatCheckR
namespace Go.Proofs.YtnpoohkklfpmdaaGreat
open Go.RowKit
set_option linter.unusedSimpArgs false
set_option linter.unusedVariables false
set_option linter.unnecessarySimpa false
attribute [local go_sem] idx_list ext_list app_list
/-- The cells of the document's log. -/
def rs7 (q : Nat) (S : Sg) : List Value := [.pointer (some ⟨q, 0, none⟩), .int .i64 (S.m.ep : Nat), .int .i64 (S.m.sz : Nat), .int .i64 (S.m.ct : Nat), .string ⟨S.log.toArray⟩, .bool S.br]
theorem rRoom_any {y q n : Nat} {us uw : Value} {d : Dv} {S : Sg} (w : World) (hr : R6 w us uw q d) (h : Rw w y (rs7 q S) 54) (hn : n = d.safe.length) (hf : S.Fits n) (hn4 : n ≤ 4096) :
    Calls Tryz.prog 22 #[.pointer (some ⟨y, 0, none⟩)] w fun e w' => e = .returned (.int .i64 ((64 * (n - 2) - S.log.length : Nat) : Int)) ∧ ∃ m, w' = w.drewN m := by
  have hft := hf.fit
  have hn3 := hf.n3
  obtain ⟨A, cp, rfl⟩ := own_form hr.safe
  have c1 := h.c 0 (v := .pointer (some ⟨q, 0, none⟩)) rfl
  have c2 := h.c 4 (v := .string ⟨S.log.toArray⟩) rfl
  have c3 := hr.row.c 0 (v := .slice A d.safe.length cp) rfl
  rw [← hn] at c3
  obtain ⟨L, hL⟩ : ∃ L, L = S.log := ⟨_, rfl⟩
  rw [← hL] at c2 hft ⊢
  have nI : (n : Int) ≤ 4096 := by omega
  have n3I : (3 : Int) ≤ n := by omega
  have lI : (L.length : Int) ≤ 262144 := by omega
  have e : ((64 * (n - 2) - L.length : Nat) : Int) = ((n : Int) - 2) * 64 - (L.length : Int) := by omega
  rw [e]
  clear e h hr hn hf hL hft hn3 hn4
  go_enter Tryz.func22, Tryz.ntmps22
  go_wp2
  go_quiet (fail)
  go_wp2
  go_ret
  exact ⟨rfl, _, rfl⟩
/-- What the document's Open tells. -/
def OpenPostR (q : Nat) (o : Option (Mk × List UInt8 × Secs)) (W : World) (e : Ending) (w' : World) : Prop :=
  match o with
  | none => e = .returned (.tuple #[.pointer none, .slice none 0 0, .int .i64 10])
  | some (m, Lg, rs) => ∃ y a k cap, e = .returned (.tuple #[.pointer (some ⟨y, 0, none⟩), .slice a k cap, .int .i64 0]) ∧ k ≤ cap ∧ StrsAt w' y a k rs ∧ Rw w' y (rs7 q ⟨m, Lg, false⟩) 54 ∧ W.heap.size ≤ y
set_option maxHeartbeats 4000000 in
set_option maxRecDepth 100000 in
theorem rOpen_on {q : Nat} {us uw : Value} {d : Dv} (w : World) (h : R6 w us uw q d) (hf : d.Few7) (ho : d.Ok) (h3 : 3 ≤ d.safe.length) (hon : d.on = true) :
    Calls Tryz.prog 8 #[.pointer (some ⟨q, 0, none⟩)] w fun e w' => OpenPostR q (openM (vis d)) w e w' ∧ Below w.heap.size w w' := by
  obtain ⟨A, cp, rfl⟩ := own_form h.safe
  have k0 := h.row.c 0 (v := .slice A d.safe.length cp) rfl
  have h64 := vis_64 ho
  have hvl := vis_len d
  obtain ⟨s0, hs0⟩ : ∃ s0, s0 = (vis d).getD 0 [] := ⟨_, rfl⟩
  obtain ⟨s1, hs1⟩ : ∃ s1, s1 = (vis d).getD 1 [] := ⟨_, rfl⟩
  have hr0 : ∀ w, R6 w (.slice A d.safe.length cp) uw q d → Calls Tryz.prog 30 #[.pointer (some ⟨q, 0, none⟩), .int .i64 0] w fun e w' => e = .returned (.tuple #[.string ⟨s0.toArray⟩, .int .i64 0]) ∧ w' = w := fun w h => by
    have := refRead_any _ _ _ _ ((0 : Nat) : Int) w h hf.few
    rw [readD_vis hon (by omega), ← hs0] at this
    exact this
  have hr1 : ∀ w, R6 w (.slice A d.safe.length cp) uw q d → Calls Tryz.prog 30 #[.pointer (some ⟨q, 0, none⟩), .int .i64 1] w fun e w' => e = .returned (.tuple #[.string ⟨s1.toArray⟩, .int .i64 0]) ∧ w' = w := fun w h => by
    have := refRead_any _ _ _ _ ((1 : Nat) : Int) w h hf.few
    rw [readD_vis hon (by omega), ← hs1] at this
    exact this
  have hrk : ∀ k w, k < d.safe.length → R6 w (.slice A d.safe.length cp) uw q d → Calls Tryz.prog 30 #[.pointer (some ⟨q, 0, none⟩), .int .i64 (k : Nat)] w fun e w' => e = .returned (.tuple #[.string ⟨((vis d).getD k []).toArray⟩, .int .i64 0]) ∧ w = w' := fun k w hk h => by
    have := refRead_any _ _ _ _ (k : Int) w h hf.few
    rw [readD_vis hon hk] at this
    exact this.mono fun e w' ⟨he, hw⟩ => ⟨he, hw.symm⟩
  have gl : ∀ k, ((vis d).getD k []).length ≤ 64 := fun k => by
    rw [List.getD_eq_getElem?_getD]
    cases hk : (vis d)[k]? with
    | none => simp
    | some s => have := h64 s (List.mem_of_getElem? hk); simp; omega
  have hnw := fun w => rNewest_any s0 s1 w (by have := gl 0; rw [← hs0] at this; omega) (by have := gl 1; rw [← hs1] at this; omega)
  obtain ⟨Nn, hN⟩ : ∃ Nn, Nn = newestM ((vis d).getD 0 []) ((vis d).getD 1 []) := ⟨_, rfl⟩
  rw [hs0, hs1, ← hN, ← hs0, ← hs1] at hnw
  obtain ⟨a, b, c⟩ := Nn
  obtain ⟨n, hn⟩ : ∃ n, n = d.safe.length := ⟨_, rfl⟩
  obtain ⟨O, hO⟩ : ∃ O, O = openM (vis d) := ⟨_, rfl⟩
  have hOO : O = if b ≤ 64 * (n - 2) then (if (allP ((logF (vis d)).take b)).2 = b ∧ (allP ((logF (vis d)).take b)).1.length = c then some (⟨a, b, c⟩, (logF (vis d)).take b, (allP ((logF (vis d)).take b)).1) else none) else none := by
    rw [hO, openM, ← hN, vis_len, ← hn]
  rw [← hO]
  have hn4 : n ≤ 4096 := by rw [hn]; exact hf.safe
  rw [← hn] at h3 k0 hr0 hr1 hrk h hvl
  have hnI : (n : Int) ≤ 4096 := by omega
  have h3I : (3 : Int) ≤ n := by omega
  rw [show mkV ⟨a, b, c⟩ = .agg #[.int .i64 (a : Nat), .int .i64 (b : Nat), .int .i64 (c : Nat)] from rfl] at hnw
  have HR0 := Lib.hid hr0
  have HR1 := Lib.hid hr1
  have HRK := Lib.hid hrk
  have HNW := Lib.hid hnw
  have HOO := Lib.hid hOO
  have H := Lib.hid h
  have H64 := Lib.hid h64
  have HVL := Lib.hid hvl
  have GL := Lib.hid gl
  have hlt := h.row.lt
  clear hr0 hr1 hrk hnw hO hOO hs0 hs1 hN hn h hf ho hon h3 hn4 h64 hvl gl
  go_enter Tryz.func8, Tryz.ntmps8
  go_wp2_with fail
  refine (HR0.out w H.out).mono ?_
  rintro e w' ⟨rfl, rfl⟩
  go_wp2_with fail
  refine (HR1.out w' H.out).mono ?_
  rintro e w ⟨rfl, rfl⟩
  clear HR0 HR1
  go_wp2_with fail
  refine (HNW.out w).mono ?_
  rintro e w1 ⟨rfl, g1⟩
  clear HNW
  obtain ⟨t, ht⟩ : ∃ t, t = w1.heap.size := ⟨_, rfl⟩
  have ba : Below w1.heap.size w1 (w1.alloc (.cells (ncs a b c).toArray 51)) := (Below.refl _ _).alloc (Nat.le_refl _) _
  obtain ⟨wa, hwa⟩ : ∃ wa, wa = w1.alloc (.cells #[.int .i64 (a : Nat), .int .i64 (b : Nat), .int .i64 (c : Nat)] 51) := ⟨_, rfl⟩
  have T1 : Hid (Rw wa t (ncs a b c) 51) := by rw [hwa, ht]; exact Lib.hid (Rw.new w1 (ncs a b c) 51)
  have B1 : Hid (Below w.heap.size w wa) := by rw [hwa]; exact Lib.hid (g1.trans (ba.mono g1.size))
  have D1 : Hid (R6 wa (.slice A n cp) uw q d) := by
    have hb := B1.out
    exact Lib.hid ⟨H.out.row.below hb, own_below H.out.safe hb, own_below H.out.waits hb⟩
  clear ba g1 k0 H
  have k0 := D1.out.row.c 0 (v := .slice A n cp) rfl
  have c0 := T1.out.c 0 (v := .int .i64 (a : Nat)) rfl
  have c1 := T1.out.c 1 (v := .int .i64 (b : Nat)) rfl
  have c2 := T1.out.c 2 (v := .int .i64 (c : Nat)) rfl
  go_upto_region 8 with (fail)
  rw [← hwa, ← ht]
  clear hwa ht
  by_cases hb : b ≤ 64 * (n - 2)
  · have hbI : ¬ ((((n : Int) - 2) * 64) < b) := by omega
    obtain ⟨L, hL⟩ : ∃ L, L = (logF (vis d)).take b := ⟨_, rfl⟩
    have hO := HOO.out
    rw [if_pos hb, ← hL] at hO
    have hLl : L.length = b := by
      rw [hL, List.length_take, logF_len H64.out, HVL.out]; omega
    have hal := fun w => refAll5_any L w (by omega)
    obtain ⟨rs, nn, hA⟩ : ∃ rs nn, allP L = (rs, nn) := ⟨_, _, rfl⟩
    rw [hA] at hal hO
    simp only at hO hal
    have HAL := Lib.hid hal
    have HO2 := Lib.hid hO
    have HLL := Lib.hid hLl
    have HL := Lib.hid hL
    have HB := Lib.hid hb
    have bI : (b : Int) ≤ 262144 := by omega
    clear hal hO hL hA HOO hLl hb
    go_quiet (fail)
    rename_i nq
    obtain ⟨wb, hwb⟩ : ∃ wb, wb = wa.drewN nq := ⟨_, rfl⟩
    have T2 : Hid (Rw wb t (ncs a b c) 51) := by rw [hwb]; exact T1
    have B2 : Hid (Below w.heap.size w wb) := by rw [hwb]; exact Lib.hid (below_drewN B1.out nq)
    have D2 : Hid (R6 wb (.slice A n cp) uw q d) := by rw [hwb]; exact Lib.hid ⟨D1.out.row, D1.out.safe, D1.out.waits⟩
    rw [← hwb]
    clear T1 B1 D1 hwb k0 c0 c1 c2
    have c0 := T2.out.c 0 (v := .int .i64 (a : Nat)) rfl
    have c1 := T2.out.c 1 (v := .int .i64 (b : Nat)) rfl
    have c2 := T2.out.c 2 (v := .int .i64 (c : Nat)) rfl
    go_wp2
    go_loop [10, 11] (fun s at' => ∃ k j m : Nat, ∃ r : List UInt8, Hid (j = 2 + k ∧ 2 + k ≤ n ∧ m = 64 * k ∧ r = rdF (vis d) 2 k ∧ r.length = m) ∧ at' = .int .i64 (j : Nat) ∧ s = .string ⟨r.toArray⟩) (fun _ at' => n - (intOf at').toNat)
    case atStart => exact ⟨0, 2, 0, [], Lib.hid ⟨rfl, by omega, rfl, by simp [rdF], rfl⟩, rfl, rfl⟩
    case round =>
      obtain ⟨k, j, m, r, hK, rfl, rfl⟩ := hrel
      have hrl : (r.length : Int) = (m : Int) := by rw [hK.out.2.2.2.2]
      have hmI : (m : Int) ≤ 262144 := by have := hK.out; omega
      have hjI : (j : Int) ≤ 4096 := by have := hK.out; omega
      by_cases hlt : m < b
      · have hltI : (m : Int) < b := by omega
        have hjn : j < n := by have := hK.out; have := HB.out; omega
        have hc := HRK.out j wb hjn D2.out
        have hgl := GL.out j
        obtain ⟨s, hs⟩ : ∃ s, s = (vis d).getD j [] := ⟨_, rfl⟩
        rw [← hs] at hc hgl
        have hs64 : s.length = 64 := by
          rw [hs, List.getD_eq_getElem?_getD, List.getElem?_eq_getElem (by rw [HVL.out]; exact hjn)]
          exact H64.out _ (List.getElem_mem _)
        have hst : Hid (r ++ s = rdF (vis d) 2 (k + 1)) := Lib.hid (by
          rw [rdF_succ (by rw [HVL.out]; have := hK.out; omega), ← hK.out.2.2.2.1, ← hK.out.1, ← hs])
        have HS := Lib.hid hs64
        have HC := Lib.hid hc
        have HJN := Lib.hid hjn
        have q1 : ¬ (9223372036854775807 < r.length + s.length) := by rw [hK.out.2.2.2.2]; omega
        clear hs hc hs64 hgl hjn
        go_wp2_with fail
        refine HC.out.mono ?_
        rintro e w' ⟨rfl, rfl⟩
        go_wp2
        go_round
        case rel => exact ⟨k + 1, j + 1, m + 64, r ++ s, Lib.hid (by have h1 := hK.out; have h2 := HJN.out; have h3 := HS.out; exact ⟨by omega, by omega, by omega, hst.out, by rw [List.length_append]; omega⟩), by go_num, rfl⟩
        case measure => simp [intOf]; have := HJN.out; omega
      · have hltI : ¬ ((m : Int) < b) := by omega
        have hbm : (b : Int) ≤ r.length := by omega
        have hrb : Hid (r.take b = L) := Lib.hid (by
          rw [hK.out.2.2.2.1, rdF_take H64.out (by rw [HVL.out]; have := hK.out; omega) (by have := hK.out; omega), HL.out, logF])
        clear hK
        go_upto_region 17 with (fail)
        rw [hrb.out]
        go_wp2_with fail
        refine (HAL.out wb).mono ?_
        rintro e w4 ⟨⟨av, kv, cv, rfl, hkc, hsa⟩, g4⟩
        have hkl := hsa.1
        have T4 := Lib.hid (T2.out.below g4)
        have B4 := Lib.hid (B2.out.trans (g4.mono B2.out.size))
        have HSA := Lib.hid hsa
        have HKC := Lib.hid hkc
        have hLI : (L.length : Int) = (b : Int) := by rw [HLL.out]
        clear HAL T2 B2 g4 hsa hkc c0 c1 c2 HRK D2 hrb
        have c0 := T4.out.c 0 (v := .int .i64 (a : Nat)) rfl
        have c1 := T4.out.c 1 (v := .int .i64 (b : Nat)) rfl
        have c2 := T4.out.c 2 (v := .int .i64 (c : Nat)) rfl
        rw [hkl] at HO2
        clear hkl
        by_cases h1 : nn = b
        · have h1I : ((nn : Int) == (b : Int)) = true := by simp; omega
          have h1J : ((nn : Int) != (b : Int)) = false := by simp; omega
          by_cases h2 : kv = c
          · have h2I : ((kv : Int) == (c : Int)) = true := by simp; omega
            have h2J : ((kv : Int) != (c : Int)) = false := by simp; omega
            have hO := HO2.out
            rw [if_pos ⟨h1, h2⟩] at hO
            have HO3 := Lib.hid hO
            clear hO HO2 h1 h2
            go_wp2
            go_ret3
            have row : Rw (w4.alloc (.cells #[.pointer (some ⟨q, 0, none⟩), .int .i64 (a : Nat), .int .i64 (b : Nat), .int .i64 (c : Nat), .string ⟨L.toArray⟩, .bool false] 54)) w4.heap.size (rs7 q ⟨⟨a, b, c⟩, L, false⟩) 54 := Rw.new w4 _ _
            refine ⟨?_, B4.out.alloc B4.out.size _⟩
            rw [HO3.out]
            exact ⟨w4.heap.size, av, kv, cv, rfl, HKC.out, HSA.out.mono (fun k hk => Below.heap_alloc _ _ _ hk) (Nat.le_refl _), row, B4.out.size⟩
          · have h2I : ((kv : Int) == (c : Int)) = false := by simp; omega
            have h2J : ((kv : Int) != (c : Int)) = true := by simp; omega
            have hO := HO2.out
            rw [if_neg (fun q => h2 q.2)] at hO
            subst hO
            clear HO2 h1 h2
            go_wp2
            go_ret3
            exact ⟨rfl, B4.out⟩
        · have h1I : ((nn : Int) == (b : Int)) = false := by simp; omega
          have h1J : ((nn : Int) != (b : Int)) = true := by simp; omega
          have hO := HO2.out
          rw [if_neg (fun q => h1 q.1)] at hO
          subst hO
          clear HO2 h1
          go_wp2
          go_ret3
          exact ⟨rfl, B4.out⟩
  · have hO := HOO.out
    rw [if_neg hb] at hO
    subst hO
    have hbI : (((n : Int) - 2) * 64) < b := by omega
    have HB1 := B1
    clear HOO hb HRK H64 HVL GL
    go_quiet (fail)
    rename_i nq
    have HB2 := Lib.hid (below_drewN HB1.out nq)
    go_wp2
    go_ret3
    exact ⟨rfl, HB2.out⟩
set_option maxHeartbeats 1000000 in
theorem rOpen_few {q : Nat} {us uw : Value} {d : Dv} (w : World) (h : R6 w us uw q d) (h3 : d.safe.length < 3) :
    Calls Tryz.prog 8 #[.pointer (some ⟨q, 0, none⟩)] w fun e w' => e = .returned (.tuple #[.pointer none, .slice none 0 0, .int .i64 1]) ∧ w = w' := by
  obtain ⟨A, cp, rfl⟩ := own_form h.safe
  have k0 := h.row.c 0 (v := .slice A d.safe.length cp) rfl
  obtain ⟨n, hn⟩ : ∃ n, n = d.safe.length := ⟨_, rfl⟩
  rw [← hn] at k0 h3
  have h3I : (n : Int) < 3 := by omega
  clear hn h3 h
  go_enter Tryz.func8, Tryz.ntmps8
  go_wp2
  go_ret3
  exact ⟨rfl, rfl⟩
set_option maxHeartbeats 1000000 in
theorem rOpen_off {q : Nat} {us uw : Value} {d : Dv} (w : World) (h : R6 w us uw q d) (hf : d.Few7) (h3 : 3 ≤ d.safe.length) (hon : d.on = false) :
    Calls Tryz.prog 8 #[.pointer (some ⟨q, 0, none⟩)] w fun e w' => e = .returned (.tuple #[.pointer none, .slice none 0 0, .int .i64 14]) ∧ w = w' := by
  have hr := refRead_any _ _ _ _ (0 : Int) w h hf.few
  rw [show readD d (0 : Int) = ([], 14) from by unfold readD; rw [hon]; rfl] at hr
  obtain ⟨A, cp, rfl⟩ := own_form h.safe
  have k0 := h.row.c 0 (v := .slice A d.safe.length cp) rfl
  have hn4 := hf.safe
  obtain ⟨n, hn⟩ : ∃ n, n = d.safe.length := ⟨_, rfl⟩
  rw [← hn] at k0 h3 hn4
  have h3I : ¬ ((n : Int) < 3) := by omega
  have hr2 : Calls Tryz.prog 30 #[.pointer (some ⟨q, 0, none⟩), .int .i64 0] w fun e w' => e = .returned (.tuple #[.string ⟨([] : List UInt8).toArray⟩, .int .i64 14]) ∧ w = w' := hr.mono fun e w' ⟨he, hw⟩ => ⟨he, hw.symm⟩
  have HR := Lib.hid hr2
  clear hn h3 h hr hr2 hon
  go_enter Tryz.func8, Tryz.ntmps8
  go_wp2_with fail
  refine HR.out.mono ?_
  rintro e w' ⟨rfl, rfl⟩
  go_wp2
  go_ret3
  exact ⟨rfl, rfl⟩
end Go.Proofs.YtnpoohkklfpmdaaGreat
