import Derived.Test.YtjabbddgjbejbaaDoorRows
import Derived.WalkKit
import Derived.Below
import Derived.ProofKit
import Derived.OpenShut
import Derived.ShutString
import Derived.ChangeOld
import Derived.Outline
import Derived.RegionTactic
import Derived.ChangeAlike
import Derived.BigRegion
import Derived.BigQuiet
import Derived.Deep.QuietTactic
import Derived.Deep.RegionWith
import Derived.Deep.RegionLaw
import Derived.Deep.RegionHeld3
import Derived.Deep.AppendLies
import Derived.Deep.Draws
import Derived.StillTailTactics
import Derived.Lib.Hide
import Derived.Lib.SmallJoins
import Derived.Handy
import Derived.Stop.BytesEq
import Derived.WalkSpells
import Derived.WalkLawsBesides
import Derived.Deep.LoopGhost
import Derived.Deep.DeepCutAuto
import Derived.Laws.CopyOwn
import Derived.Test.YtjabbddgjbejbaaDoorRefA
namespace Go.Proofs.YtjabbddgjbejbaaDoor
open Go.RowKit
set_option linter.unusedSimpArgs false
set_option linter.unusedVariables false
theorem nat_shr16 (n : Nat) : ((n : Int) / 65536) = ((n / 65536 : Nat) : Int) := by simp
set_option maxHeartbeats 2000000 in
set_option maxRecDepth 100000 in
theorem times_any (va vb : Value) (a b : List Nat) (w : World) (ha : NumAt w va a) (hb : NumAt w vb b) (da : Dig a) (db : Dig b) (la : a.length ≤ 20) (lb : b.length ≤ 20) :
    Calls Tryd.prog 29 #[va, vb] w fun e w' => (∃ v o, e = .returned v ∧ NumAt w' v o ∧ Dig o ∧ o.length = a.length + b.length + 1 ∧ val o = val a * val b) ∧ Below w.heap.size w w' := by
  obtain ⟨i0, hi, hz0, hz1, hz2⟩ := info_parts info61
  obtain ⟨ba, ca, rfl, hba, hca⟩ := ha
  obtain ⟨bb, cb, rfl, hbb, hcb⟩ := hb
  obtain ⟨n, hn⟩ : ∃ n, n = a.length := ⟨_, rfl⟩
  obtain ⟨m, hm⟩ : ∃ m, m = b.length := ⟨_, rfl⟩
  rw [← hn] at la hca
  rw [← hm] at lb hcb
  rw [← hn, ← hm]
  have HN := Lib.hid hn
  have HM := Lib.hid hm
  have HCA := Lib.hid hca
  have HCB := Lib.hid hcb
  have la' : (n : Int) ≤ 20 := by omega
  have lb' : (m : Int) ≤ 20 := by omega
  clear hn hm hca hcb
  go_enter Tryd.func29, Tryd.ntmps29
  go_wp2_with (refine wpList_make_full _ rfl _ _ 58 rfl w.heap.size 61 i0 (.int .u64 0) 1 Tryd.underlying58 hi hz0 hz1 .i64 .i64 _ _ (n + m + 1) rfl rfl (by simp) (by simp) (by rw [hz2]; omega) (by unfold maxLen; omega) (Nat.le_refl _) ?_)
  intro w1 hown hgrow
  have hrow := made_row hown
  have hb1 : Below w.heap.size w w1 := (Below.refl _ _).grown hgrow (Nat.le_refl _) (by intro k hk; cases hk)
  clear hown hgrow
  have R1 := Lib.hid hrow
  clear hrow
  go_wp2
  go_loopw [6] (fun u wr => ∃ i : Nat, ∃ o : List Nat, i ≤ n ∧ u = .int .i64 i ∧ o.length = n + m + 1 ∧ Dig o ∧ Hid (val o = val (a.take i) * val b) ∧ Hid (wr.heap[w.heap.size]? = some (.cells (nc o).toArray 61 (0, 0))) ∧ Below w.heap.size w wr) (fun u _ => n - (intOf u).toNat)
  case atStart => exact ⟨0, List.replicate (n + m + 1) 0, by omega, rfl, by simp, rep_dig _, Lib.hid (by rw [val_rep]; simp [val]), R1, hb1⟩
  case round =>
    clear R1 hb1
    obtain ⟨i, o, hin, rfl, hol, hod, hov, hrow, hbel⟩ := hrel
    by_cases hlt : i < n
    · obtain ⟨wo, rfl⟩ : ∃ wo : World, wo = wr := ⟨_, rfl⟩
      have ii : (i : Int) < n := by omega
      go_wp2
      go_loopw [7] (fun u wr => ∃ k : Nat, ∃ o : List Nat, k ≤ m ∧ u = .int .i64 k ∧ o.length = n + m + 1 ∧ Dig o ∧ Hid (val o = val (a.take i) * val b + a.getD i 0 * 65536 ^ i * val (b.take k)) ∧ Hid (wr.heap[w.heap.size]? = some (.cells (nc o).toArray 61 (0, 0))) ∧ Below w.heap.size w wr) (fun u _ => m - (intOf u).toNat)
      case atStart => exact ⟨0, o, by omega, rfl, hol, hod, Lib.hid (by rw [hov.out]; simp [val]), hrow, hbel⟩
      case round =>
        clear hol hod hov hrow hbel o
        obtain ⟨k, o, hkm, rfl, hol, hod, hov, hrow, hbel⟩ := hrel
        by_cases hkt : k < m
        · obtain ⟨wo2, rfl⟩ : ∃ wo : World, wo = wr := ⟨_, rfl⟩
          have kk : (k : Int) < m := by omega
          have c0 : wo2.cell? ⟨w.heap.size, i + k, none⟩ = some (.int .u64 (o.getD (i + k) 0 : Nat)) := cell_row hrow.out (nc_get (by omega))
          have c1 : wo2.cell? ⟨ba, i, none⟩ = some (.int .u64 (a.getD i 0 : Nat)) := (hbel.cell (p := ⟨ba, i, none⟩) hba).trans (HCA.out i hlt)
          have c2 : wo2.cell? ⟨bb, k, none⟩ = some (.int .u64 (b.getD k 0 : Nat)) := (hbel.cell (p := ⟨bb, k, none⟩) hbb).trans (HCB.out k hkt)
          have f0 : wo2.frozen? ⟨w.heap.size, i + k, none⟩ = false := frozen_of_row wo2 _ _ _ _ hrow.out
          have d0 := hod (i + k)
          have d1 := da i
          have d2 := db k
          have hT : val (o.set (i + k) ((o.getD (i + k) 0 + a.getD i 0 * b.getD k 0) % 65536)) + (o.getD (i + k) 0 + a.getD i 0 * b.getD k 0) / 65536 * 65536 ^ (i + k + 1) = val (a.take i) * val b + a.getD i 0 * 65536 ^ i * val (b.take (k + 1)) := by
            refine carry_step o (i + k) _ _ (by omega) ?_
            rw [hov.out, val_take_succ b k, Nat.mul_add, Nat.pow_add]
            simp only [Nat.mul_assoc, Nat.mul_comm, Nat.mul_left_comm]
            omega
          have hTl := prod_lt a b i k da db (by rw [← HN.out]; exact hlt)
          rw [← HN.out, ← HM.out] at hTl
          generalize hTT : val (a.take i) * val b + a.getD i 0 * 65536 ^ i * val (b.take (k + 1)) = T at hT hTl
          have HTT := Lib.hid hTT
          clear hTT
          generalize o.getD (i + k) 0 = x at c0 d0 hT
          generalize a.getD i 0 = y at c1 d1 hT HTT
          generalize b.getD k 0 = z at c2 d2 hT
          have hyz : y * z ≤ 65535 * 65535 := Nat.mul_le_mul (by omega) (by omega)
          have eS : (x : Int) + (y : Int) * (z : Int) = ((x + y * z : Nat) : Int) := by simp
          have eY : (y : Int) * (z : Int) = ((y * z : Nat) : Int) := by simp
          obtain ⟨S, hS⟩ : ∃ S, S = x + y * z := ⟨_, rfl⟩
          rw [← hS] at hT
          have hSb : S < 18446744073709551616 := by omega
          have eA := and16 S hSb
          have eW : IntKind.u64.wrap ((y : Int) * (z : Int)) = ((y * z : Nat) : Int) := by rw [eY, IntKind.wrap_u64]; omega
          have eW2 : IntKind.u64.wrap ((x : Int) + ((y * z : Nat) : Int)) = (S : Int) := by rw [IntKind.wrap_u64]; omega
          have eI : IntKind.i64.wrap ((i : Int) + (k : Int)) = ((i + k : Nat) : Int) := by rw [IntWalk.i64_in _ (by omega)]; omega
          have eIb : ((i + k : Nat) : Int) < n + m + 1 := by omega
          have OL := Lib.hid hol
          have OD := Lib.hid hod
          have HT := Lib.hid hT
          have HTL := Lib.hid hTl
          have HS := Lib.hid hS
          have HSB := Lib.hid hSb
          clear hol hod hT hTl hS hSb eS eY hyz d0 d1 d2
          go_wp2
          go_region
          have eW3 : IntKind.u64.wrap ((x : Int) + (y : Int) * (z : Int)) = (S : Int) := by rw [show (y : Int) * (z : Int) = ((y * z : Nat) : Int) from by simp]; exact eW2
          rw [eW3]
          have r3 : (wo2.setCell ⟨w.heap.size, i + k, none⟩ (.int .u64 (S : Int))).drew.heap[w.heap.size]? = some (.cells (nc (o.set (i + k) S)).toArray 61 (0, 0)) := by
            rw [heap_drew, ← nc_set]; exact set_row hrow.out
          have b3 : Below w.heap.size w (wo2.setCell ⟨w.heap.size, i + k, none⟩ (.int .u64 (S : Int))).drew := (hbel.setCell (Nat.le_refl _) _).drew
          clear c0 c1 c2 f0 eW eW2 eW3 eI eIb
          have hlk : i + k < o.length := by rw [OL.out]; omega
          generalize (wo2.setCell ⟨w.heap.size, i + k, none⟩ (.int .u64 (S : Int))).drew = w3 at *
          have c3 : w3.cell? ⟨w.heap.size, i + k, none⟩ = some (.int .u64 (S : Int)) := cell_row r3 (by rw [nc_get (by simpa using hlk)]; simp [hlk])
          have f3 : w3.frozen? ⟨w.heap.size, i + k, none⟩ = false := frozen_of_row w3 _ _ _ _ r3
          have R3 := Lib.hid r3
          have HLK := Lib.hid hlk
          have ik : (i : Int) + k < n + m + 1 := by omega
          have sb : (S : Int) < 18446744073709551616 := by have := HSB.out; omega
          clear r3 hlk
          go_wp2
          have r4 : (w3.setCell ⟨w.heap.size, i + k, none⟩ (.int .u64 ((S % 65536 : Nat) : Int))).heap[w.heap.size]? = some (.cells (nc (o.set (i + k) (S % 65536))).toArray 61 (0, 0)) := by
            have := set_row (k := i + k) (v := .int .u64 ((S % 65536 : Nat) : Int)) R3.out
            rw [nc_set, List.set_set] at this
            exact this
          have b4 : Below w.heap.size w (w3.setCell ⟨w.heap.size, i + k, none⟩ (.int .u64 ((S % 65536 : Nat) : Int))) := b3.setCell (Nat.le_refl _) _
          go_loopw [8, 9] (fun u v wr => ∃ (c j : Nat) (o : List Nat), u = .int .u64 c ∧ v = .int .i64 j ∧ o.length = n + m + 1 ∧ Hid (Dig o) ∧ Hid (val o + c * 65536 ^ j = T) ∧ c < 4503599627370496 ∧ j ≤ n + m + 1 ∧ Hid (wr.heap[w.heap.size]? = some (.cells (nc o).toArray 61 (0, 0))) ∧ Below w.heap.size w wr) (fun _ v _ => n + m + 1 - (intOf v).toNat)
          case atStart => exact ⟨S / 65536, i + k + 1, o.set (i + k) (S % 65536), by simp, by simp, by rw [List.length_set]; exact OL.out, Lib.hid (OD.out.set _ _ (by omega)), HT, by omega, by omega, Lib.hid (by first | exact r4 | simpa using r4), by first | exact b4 | simpa using b4⟩
          case round =>
            clear HT r4 b4 c3 f3 R3 eA HS HSB OD OL HLK b3 hov hbel hrow ik sb
            obtain ⟨c, j, o2, rfl, rfl, hol, hod, hv, hcb, hjb, hrow, hbel⟩ := hrel
            by_cases hc0 : c = 0
            · subst hc0
              have hv0 : val o2 = T := by have := hv.out; simpa using this
              have HV0 := Lib.hid hv0
              clear hv hv0
              go_wp2
              go_roundw
              case rel => exact ⟨k + 1, o2, by omega, by go_num, hol, hod.out, Lib.hid (by rw [HV0.out]; exact HTT.out.symm), hrow, hbel⟩
              case measure => simp [intOf]; omega
            · have hcp : 0 < c := by omega
              have hjn := carry_in o2 j c T (n + m) hcp hv.out HTL.out
              have hdj := hod.out j
              have hst := carry_step o2 j c T (by omega) hv.out
              have cj : wr.cell? ⟨w.heap.size, j, none⟩ = some (.int .u64 (o2.getD j 0 : Nat)) := cell_row hrow.out (nc_get (by omega))
              have fj : wr.frozen? ⟨w.heap.size, j, none⟩ = false := frozen_of_row wr _ _ _ _ hrow.out
              generalize o2.getD j 0 = x at cj hdj hst
              have eB : bits .and .u64 ((x : Int) + (c : Int)) 65535 = (((x + c) % 65536 : Nat) : Int) := by
                have := and16 (x + c) (by omega)
                rw [Int.natCast_add] at this
                exact this
              have jj : (j : Int) < n + m + 1 := by omega
              have cc : (0 : Int) < c := by omega
              have cb : (c : Int) < 4503599627370496 := by omega
              have xb : (x : Int) < 65536 := by omega
              have HST := Lib.hid hst
              have OL := Lib.hid hol
              clear hst hol hv
              go_wp2
              go_roundw
              case rel =>
                refine ⟨(x + c) / 65536, j + 1, o2.set j ((x + c) % 65536), by simp, by go_num, by rw [List.length_set]; exact OL.out, Lib.hid (hod.out.set _ _ (by omega)), HST, by omega, by omega, ?_, ?_⟩
                · refine Lib.hid ?_
                  have := set_row (k := j) (v := .int .u64 (((x + c) % 65536 : Nat) : Int)) (set_row (k := j) (v := .int .u64 ((x : Int) + (c : Int))) hrow.out)
                  rw [List.set_set, nc_set] at this
                  first | exact this | simpa using this
                · exact (hbel.setCell (Nat.le_refl _) _).setCell (Nat.le_refl _) _
              case measure => simp [intOf]; omega
        · obtain rfl : k = m := by omega
          have hv2 : val o = val (a.take (i + 1)) * val b := by
            rw [hov.out, val_take_succ a i, Nat.add_mul, show b.take k = b from List.take_of_length_le (by rw [← HM.out]; exact Nat.le_refl _)]
          have HV2 := Lib.hid hv2
          clear hv2 hov
          go_wp2
          go_roundw
          case rel => exact ⟨i + 1, o, by omega, by go_num, hol, hod, HV2, hrow, hbel⟩
          case measure => simp [intOf]; omega
    · obtain rfl : i = n := by omega
      have hv2 : val o = val a * val b := by
        rw [hov.out, show a.take i = a from List.take_of_length_le (by rw [← HN.out]; exact Nat.le_refl _)]
      have HV2 := Lib.hid hv2
      have OL := Lib.hid hol
      have hna := NumAt.of_row (cap := i + m + 1) hrow.out
      rw [hol] at hna
      have NA := Lib.hid hna
      clear hv2 hov hol hna
      go_wp2
      go_ret
      exact ⟨⟨_, o, rfl, NA.out, hod, OL.out, HV2.out⟩, hbel⟩
end Go.Proofs.YtjabbddgjbejbaaDoor
