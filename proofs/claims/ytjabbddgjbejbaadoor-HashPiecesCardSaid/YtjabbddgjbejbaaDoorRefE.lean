import Derived.Test.YtjabbddgjbejbaaDoorRows
import Derived.WalkKit
import Derived.Below
import Derived.ProofKit
import Derived.OpenShut
import Derived.ShutString
import Derived.ChangeOld
import Derived.Outline
import Derived.RegionTactic
import Derived.ChangeAlike
import Derived.BigRegion
import Derived.BigQuiet
import Derived.Deep.QuietTactic
import Derived.Deep.RegionWith
import Derived.Deep.RegionLaw
import Derived.Deep.RegionHeld3
import Derived.Deep.AppendLies
import Derived.Deep.Draws
import Derived.StillTailTactics
import Derived.Lib.Hide
import Derived.Lib.SmallJoins
import Derived.Handy
import Derived.Stop.BytesEq
import Derived.WalkSpells
import Derived.WalkLawsBesides
import Derived.Deep.LoopGhost
import Derived.Deep.DeepCutAuto
import Derived.Laws.CopyOwn
import Derived.Test.YtjabbddgjbejbaaDoorRefD
namespace Go.Proofs.YtjabbddgjbejbaaDoor
open Go.RowKit
set_option linter.unusedSimpArgs false
set_option linter.unusedVariables false
set_option linter.unnecessarySimpa false
def p64 : List Nat := [2, 3, 5, 7, 11, 13, 17, 19, 23, 29, 31, 37, 41, 43, 47, 53, 59, 61, 67, 71, 73, 79, 83, 89, 97, 101, 103, 107, 109, 113, 127, 131, 137, 139, 149, 151, 157, 163, 167, 173, 179, 181, 191, 193, 197, 199, 211, 223, 227, 229, 233, 239, 241, 251, 257, 263, 269, 271, 277, 281, 283, 293, 307, 311]
/-- How many of them are below k. -/
def cnt (k : Nat) : Nat := (p64.filter (· < k)).length
def isP (k c : Nat) : Bool := (p64.take c).all (fun d => k % d != 0)
theorem cnt_step : ∀ k, k < 312 → 2 ≤ k → (isP k (cnt k) = true → cnt (k + 1) = cnt k + 1 ∧ p64[cnt k]? = some k) ∧ (isP k (cnt k) = false → cnt (k + 1) = cnt k) := by decide +kernel
theorem cnt_64 : ∀ k, k < 313 → (cnt k < 64 ↔ k < 312) ∧ cnt k ≤ 64 := by decide +kernel
theorem p64_two : ∀ i, i < 64 → 2 ≤ p64.getD i 0 := by decide +kernel
theorem p64_len : p64.length = 64 := by decide
theorem isP_succ (k i : Nat) (h : i < 64) : isP k (i + 1) = (isP k i && k % p64.getD i 0 != 0) := by
  have e : p64.take (i + 1) = p64.take i ++ [p64.getD i 0] := by
    rw [List.take_add_one, List.getElem?_eq_getElem (by rw [p64_len]; exact h)]
    simp [List.getD_eq_getElem?_getD, List.getElem?_eq_getElem (show i < p64.length by rw [p64_len]; exact h)]
  unfold isP
  rw [e, List.all_append]
  simp
theorem p64_take_get (c i : Nat) (h : i < c) : (p64.take c).getD i 0 = p64.getD i 0 := by
  rw [List.getD_eq_getElem?_getD, List.getElem?_take_of_lt h, ← List.getD_eq_getElem?_getD]
set_option maxHeartbeats 2000000 in
set_option maxRecDepth 100000 in
theorem primes_any (w : World) :
    Calls Tryd.prog 23 #[.int .i64 64] w fun e w' => (∃ v, e = .returned v ∧ NumAt w' v p64) ∧ Below w.heap.size w w' := by
  obtain ⟨i0, hi, hz0, hz1, hz2⟩ := info_parts info61
  go_enter Tryd.func23, Tryd.ntmps23
  go_wp2
  go_loopw [3, 4] (fun u v wr => ∃ k c : Nat, v = .int .u64 k ∧ 2 ≤ k ∧ k ≤ 312 ∧ Hid (c = cnt k) ∧ wr.ownsRow w.heap.size 61 1 u c (nc (p64.take c)) ∧ Below w.heap.size w wr) (fun _ v _ => 312 - (intOf v).toNat)
  case atStart => exact ⟨2, 0, rfl, by omega, by omega, Lib.hid (by decide), World.ownsRow_nil _ _ _ _, Below.refl _ _⟩
  case round =>
    obtain ⟨k, c, rfl, hk2, hk, hc, hown, hbel⟩ := hrel
    obtain ⟨A, cp, rfl⟩ := own_form hown
    have h64 := cnt_64 k (by omega)
    rw [← hc.out] at h64
    have c64 := h64.2
    by_cases hlt : c < 64
    · have hk3 : k < 312 := h64.1.1 hlt
      have cc : (c : Int) < 64 := by omega
      have kk : (k : Int) < 312 := by omega
      have k2 : (2 : Int) ≤ k := by omega
      have HO := Lib.hid hown
      have st := cnt_step k hk3 hk2
      rw [← hc.out] at st
      have ST := Lib.hid st
      clear h64 st hown
      go_wp2
      go_loopw [5, 6] (fun u v wz => ∃ i : Nat, i ≤ c ∧ v = .int .i64 i ∧ u = .bool (isP k i) ∧ wz = wr) (fun _ v _ => c - (intOf v).toNat)
      case atStart => exact ⟨0, by omega, rfl, rfl, rfl⟩
      case round =>
        obtain ⟨i, hic, rfl, rfl, rfl⟩ := hrel
        by_cases hit : i < c
        · have ii : (i : Int) < c := by omega
          have i64 : i < 64 := by omega
          have hs := isP_succ k i i64
          have h2 := p64_two i i64
          obtain ⟨b, cap, eA, hb, hcell⟩ := NumAt.of_own HO.out (by omega)
          simp only [Value.slice.injEq] at eA
          obtain ⟨rfl, hcl, rfl⟩ := eA
          clear hcl
          have c0 := hcell i (by rw [List.length_take, p64_len]; omega)
          rw [p64_take_get c i hit] at c0
          generalize p64.getD i 0 = d at c0 h2 hs
          have d2 : (1 : Int) ≤ d := by omega
          have HC := Lib.hid hcell
          clear hcell
          cases hf : isP k i with
          | false =>
            rw [hf] at hs
            have HS := Lib.hid hs
            clear hs hf
            go_wp2
            go_roundw
            case rel => exact ⟨i + 1, by omega, by go_num, by first | (rw [HS.out]; simp; done) | (rw [HS.out]; rfl), by first | rfl | trivial⟩
            case measure => simp [intOf] <;> omega
          | true =>
            rw [hf] at hs
            have HS := Lib.hid hs
            clear hs hf
            by_cases hm : k % d = 0
            · have q : ((k : Int) % (d : Int) != 0) = false := by
                have : ((k : Int) % (d : Int)) = 0 := by rw [← Int.natCast_emod, hm]; rfl
                simp [this]
              have HM := Lib.hid hm
              clear hm
              go_wp2
              go_roundw
              case rel => exact ⟨i + 1, by omega, by go_num, by rw [HS.out, HM.out]; simp, by first | rfl | trivial⟩
              case measure => simp [intOf] <;> omega
            · have q : ((k : Int) % (d : Int) != 0) = true := by
                have : ¬ ((k : Int) % (d : Int)) = 0 := by rw [← Int.natCast_emod]; omega
                simp [this]
              have HM := Lib.hid (show (k % d != 0) = true from by simp [hm])
              clear hm
              go_wp2
              go_roundw
              case rel => exact ⟨i + 1, by omega, by go_num, by rw [HS.out, HM.out]; simp, by first | rfl | trivial⟩
              case measure => simp [intOf] <;> omega
        · obtain rfl : i = c := by omega
          have st := ST.out
          cases hf : isP k i with
          | true =>
            rw [hf] at st
            obtain ⟨s1, s2⟩ := st.1 rfl
            have S1 := Lib.hid s1
            have S2 := Lib.hid s2
            have hown := HO.out
            clear st hf s1 s2
            go_wp2_with (at_builtin; refine wpList_append_own _ rfl _ _ 58 rfl w.heap.size 61 i0 (.int .u64 0) 1 8 Tryd.underlying58 hi hz0 hz1 hz2 rfl (by decide) _ _ _ rfl (hown.alloc _) ⟨wr.heap.size, 0, none⟩ 1 1 [.int .u64 (k : Int)] rfl rfl ?c1 ?c2 ?c3 ?c4 ?c5 ?_)
            case c1 =>
              intro j u hj
              match j with
              | 0 => simp at hj; subst hj; exact cell_of_row _ _ _ _ _ _ (heap_alloc_new wr _)
              | j + 1 => simp at hj
            case c2 => intro u hu; simp at hu; subst hu; rfl
            case c3 => unfold maxLen; omega
            case c4 => omega
            case c5 => have := hbel.size; simp; omega
            intro v' w9 hown3 hgrow _
            have hb9 : Below w.heap.size w w9 := (hbel.alloc hbel.size _).grown hgrow (by have := hbel.size; simp; omega) (own_block_ge hown)
            have e9 : nc (p64.take i) ++ [.int .u64 (k : Int)] = nc (p64.take (i + 1)) := by
              rw [List.take_add_one, S2.out]; simp [nc]
            have hown4 : w9.ownsRow w.heap.size 61 1 v' (i + 1) (nc (p64.take (i + 1))) := by rw [← e9]; exact hown3
            clear hown hgrow hown3 e9
            go_wp2
            go_roundw
            case rel => exact ⟨k + 1, i + 1, by go_num, by omega, by omega, Lib.hid (by first | (rw [S1.out, hc.out]; done) | (rw [S1.out]; exact hc.out) | (rw [S1.out, ← hc.out]; done)), hown4, hb9⟩
            case measure => simp [intOf] <;> omega
          | false =>
            rw [hf] at st
            have S1 := Lib.hid (st.2 rfl)
            clear st hf
            go_wp2
            go_roundw
            case rel => exact ⟨k + 1, i, by go_num, by omega, by omega, Lib.hid (by first | (rw [S1.out, hc.out]; done) | (rw [S1.out]; exact hc.out) | (rw [S1.out, ← hc.out]; done)), HO.out, hbel⟩
            case measure => simp [intOf] <;> omega
    · obtain rfl : c = 64 := by omega
      have hna := NumAt.of_own hown (by omega)
      rw [show p64.take 64 = p64 from rfl] at hna
      have NA := Lib.hid hna
      clear hna hown h64
      go_wp2
      go_ret
      exact ⟨⟨_, rfl, NA.out⟩, hbel⟩
end Go.Proofs.YtjabbddgjbejbaaDoor
