import Derived.Test.YtkhmhffphmkefaaPlain
import Derived.Test.YtkhmhffphmkefaaTlvR
import Derived.Test.YtkhmhffphmkefaaTlvC
import Derived.Outline
import Derived.RegionTactic
import Derived.ChangeAlike
import Derived.BigRegion
import Derived.BigQuiet
import Derived.Deep.QuietTactic
import Derived.Deep.RegionWith
import Derived.Deep.RegionLaw
import Derived.Deep.AppendLies
import Derived.Deep.Draws
import Derived.Lib.Hide
import Derived.Deep.LoopGhost
import Derived.Deep.RegionHeld3
import Derived.StillTactics
import Derived.OwnWalk
namespace Go.Proofs.Ytkhmhffphmkefaa
open Go.RowKit
theorem rdInt_num (c : UInt8) (most : Int) (l : List UInt8) : rdInt c most l = match rdNum c l with
    | (n, some rest) => if 0 ≤ most ∧ (n : Int) ≤ most then (n, some rest) else (0, none)
    | (_, none) => (0, none) := by
  unfold rdInt rdNum intOk
  cases ht : tkF c l with
  | none => rfl
  | some p =>
    obtain ⟨body, rest⟩ := p
    cases hn : nbr body with
    | none => simp [hn]
    | some n =>
      by_cases h : 0 ≤ most ∧ (n : Int) ≤ most
      · simp [hn, h]
      · simp [hn, h]
theorem rdNum_lt (c : UInt8) (l : List UInt8) : (rdNum c l).1 < 18446744073709551616 := by
  unfold rdNum
  cases tkF c l with
  | none => simp
  | some p =>
    obtain ⟨body, rest⟩ := p
    simp only
    cases hn : nbr body with
    | none => simp
    | some n => exact nbr_lt hn
set_option maxRecDepth 100000 in
set_option maxHeartbeats 1000000 in
theorem refIntR_any (c : UInt8) (most : Int) (st : Option (List UInt8)) (b : Nat) (w : World) (hrd : Rf w b st) (hbl : ((st.getD []).length : Int) ≤ 16777215) (hlo : -9223372036854775808 ≤ most) (hhi : most < 9223372036854775808) :
    Calls Try.prog 28 #[.pointer (some ⟨b, 0, none⟩), .int .u8 c.toNat, .int .i64 most] w fun e w' => e = .returned (.int .i64 (rdInt c most (st.getD [])).1) ∧ Rf w' b (rdInt c most (st.getD [])).2 ∧ Fr [b] w w' := by
  have HT := Lib.hid (refNumR_any c st b w hrd hbl)
  have HI := Lib.hid (rdInt_num c most (st.getD []))
  have hlt := rdNum_lt c (st.getD [])
  clear hbl
  rcases hq : rdNum c (st.getD []) with ⟨n, st1⟩
  rw [hq] at HT HI hlt
  clear hq
  have Hlt : Hid (n < 18446744073709551616) := Lib.hid hlt
  clear hlt
  have Hhi := Lib.hid hhi
  clear hhi hlo
  by_cases h0 : 0 ≤ most
  · obtain ⟨m, rfl⟩ := Int.eq_ofNat_of_zero_le h0
    have d0 : decide ((m : Int) < 0) = false := by simp
    have hw : IntKind.u64.wrap (m : Int) = m := by have := Hhi.out; simp only [IntKind.wrap_u64]; omega
    have hwn : n ≤ m → IntKind.i64.wrap (n : Int) = n := fun hle => by have := Hhi.out; simp only [IntKind.wrap_i64]; omega
    have Hwn := Lib.hid hwn
    clear h0 Hhi Hlt hwn
    cases st1 with
    | none =>
      have e : rdInt c m (st.getD []) = (0, none) := HI.out
      have He := Lib.hid e
      clear e
      by_cases hle : n ≤ m
      · have d1 : decide (m < n) = false := by simp; omega
        clear hle
        go_enter Try.func28, Try.ntmps28
        go_wp2_with fail
        refine HT.out.mono ?_
        rintro e w1 ⟨rfl, ⟨s, hs, hss⟩, h1⟩
        have z1 := rf_c1 hs
        have f1 := rf_fz hs 1
        have Hs := Lib.hid hs
        have Hss := Lib.hid hss
        clear hs hss
        go_wp2
        go_ret
        rw [He.out]
        exact ⟨rfl, ⟨s, Hs.out, fun l h => by cases h⟩, h1⟩
      · have d1 : decide (m < n) = true := by simp; omega
        clear hle
        go_enter Try.func28, Try.ntmps28
        go_wp2_with fail
        refine HT.out.mono ?_
        rintro e w1 ⟨rfl, ⟨s, hs, hss⟩, h1⟩
        have z1 := rf_c1 hs
        have f1 := rf_fz hs 1
        have Hs := Lib.hid hs
        have Hss := Lib.hid hss
        clear hs hss
        go_wp2
        go_ret
        rw [He.out]
        exact ⟨rfl, Rf.bad Hs.out, h1.setCell (.inl (by simp)) _⟩
    | some rest =>
      by_cases hle : n ≤ m
      · have e : rdInt c m (st.getD []) = (n, some rest) := by rw [HI.out]; simp; omega
        have He := Lib.hid e
        have hwn := Hwn.out hle
        have d1 : decide (m < n) = false := by simp; omega
        clear e hle
        go_enter Try.func28, Try.ntmps28
        go_wp2_with fail
        refine HT.out.mono ?_
        rintro e w1 ⟨rfl, ⟨s, hs, hss⟩, h1⟩
        have z1 := rf_c1 hs
        have f1 := rf_fz hs 1
        have Hs := Lib.hid hs
        have Hss := Lib.hid hss
        clear hs hss
        go_wp2
        go_ret
        rw [He.out]
        exact ⟨rfl, ⟨s, Hs.out, Hss.out⟩, h1⟩
      · have e : rdInt c m (st.getD []) = (0, none) := by rw [HI.out]; simp; omega
        have He := Lib.hid e
        have d1 : decide (m < n) = true := by simp; omega
        clear e hle
        go_enter Try.func28, Try.ntmps28
        go_wp2_with fail
        refine HT.out.mono ?_
        rintro e w1 ⟨rfl, ⟨s, hs, hss⟩, h1⟩
        have z1 := rf_c1 hs
        have f1 := rf_fz hs 1
        have Hs := Lib.hid hs
        have Hss := Lib.hid hss
        clear hs hss
        go_wp2
        go_ret
        rw [He.out]
        exact ⟨rfl, Rf.bad Hs.out, h1.setCell (.inl (by simp)) _⟩
  · have d0 : decide (most < 0) = true := by simp; omega
    have e : rdInt c most (st.getD []) = (0, none) := by
      rw [HI.out]
      cases st1 with
      | none => rfl
      | some rest => simp; omega
    have He := Lib.hid e
    clear e h0 Hhi Hlt
    go_enter Try.func28, Try.ntmps28
    go_wp2_with fail
    refine HT.out.mono ?_
    rintro e w1 ⟨rfl, ⟨s, hs, hss⟩, h1⟩
    have z1 := rf_c1 hs
    have f1 := rf_fz hs 1
    have Hs := Lib.hid hs
    have Hss := Lib.hid hss
    clear hs hss
    go_wp2
    go_ret
    rw [He.out]
    exact ⟨rfl, Rf.bad Hs.out, h1.setCell (.inl (by simp)) _⟩

section
attribute [local go_sem] idx_list
theorem refNext_any (st : Option (List UInt8)) (b : Nat) (w : World) (h : Rf w b st) :
    Calls Try.prog 24 #[.pointer (some ⟨b, 0, none⟩)] w fun e w' => e = .returned (.tuple #[.int .u8 ((st.getD []).headD 0).toNat, .bool !(st.getD []).isEmpty]) ∧ w = w' := by
  obtain ⟨s, hs, hss⟩ := h
  have z0 := rf_c0 hs
  have z1 := rf_c1 hs
  clear hs
  rcases st with _ | _ | ⟨x, r⟩
  · clear hss
    go_enter Try.func24, Try.ntmps24
    go_wp2
    go_ret2
    exact ⟨rfl, rfl⟩
  · obtain rfl : s = [] := hss [] rfl
    clear hss
    go_enter Try.func24, Try.ntmps24
    go_wp2
    go_ret2
    exact ⟨rfl, rfl⟩
  · obtain rfl : s = x :: r := hss _ rfl
    clear hss
    go_enter Try.func24, Try.ntmps24
    go_wp2
    go_ret2
    exact ⟨rfl, rfl⟩
theorem refLeft_any (st : Option (List UInt8)) (b : Nat) (w : World) (h : Rf w b st) :
    Calls Try.prog 36 #[.pointer (some ⟨b, 0, none⟩)] w fun e w' => e = .returned (.int .i64 (st.getD []).length) ∧ w = w' := by
  obtain ⟨s, hs, hss⟩ := h
  have z0 := rf_c0 hs
  have z1 := rf_c1 hs
  clear hs
  cases st with
  | none =>
    clear hss
    go_enter Try.func36, Try.ntmps36
    go_wp2
    go_ret
    exact ⟨rfl, rfl⟩
  | some l =>
    obtain rfl : s = l := hss _ rfl
    clear hss
    go_enter Try.func36, Try.ntmps36
    go_wp2
    go_ret
    exact ⟨rfl, rfl⟩
theorem refEnd_any (st : Option (List UInt8)) (b : Nat) (w : World) (h : Rf w b st) :
    Calls Try.prog 38 #[.pointer (some ⟨b, 0, none⟩)] w fun e w' => e = .returned (.int .i64 (endOf st)) ∧ w = w' := by
  obtain ⟨s, hs, hss⟩ := h
  have z0 := rf_c0 hs
  have z1 := rf_c1 hs
  clear hs
  rcases st with _ | _ | ⟨x, r⟩
  · clear hss
    go_enter Try.func38, Try.ntmps38
    go_wp2
    go_ret
    exact ⟨rfl, rfl⟩
  · obtain rfl : s = [] := hss [] rfl
    clear hss
    go_enter Try.func38, Try.ntmps38
    go_wp2
    go_ret
    exact ⟨rfl, rfl⟩
  · obtain rfl : s = x :: r := hss _ rfl
    clear hss
    go_enter Try.func38, Try.ntmps38
    go_wp2
    go_ret
    exact ⟨rfl, rfl⟩
end
end Go.Proofs.Ytkhmhffphmkefaa
