/- The program's numbers as bytes. -/
import Derived.Test.YtppgpdckaaabeaaRows
import Derived.WalkKit
import Derived.Below
import Derived.ProofKit
import Derived.OpenShut
import Derived.ShutString
import Derived.ChangeOld
import Derived.Outline
import Derived.RegionTactic
import Derived.ChangeAlike
import Derived.BigRegion
import Derived.BigQuiet
import Derived.Deep.QuietTactic
import Derived.Deep.RegionWith
import Derived.Deep.RegionLaw
import Derived.Deep.RegionHeld3
import Derived.Deep.AppendLies
import Derived.Deep.Draws
import Derived.StillTailTactics
import Derived.Lib.Hide
import Derived.Lib.SmallJoins
import Derived.Handy
import Derived.WalkSpells
import Derived.WalkLawsBesides
import Derived.Deep.LoopGhost
import Derived.Deep.DeepCutAuto
import Derived.Deep.CutBlock
import Derived.Deep.CutRange
import Derived.Test.YtppgpdckaaabeaaWideP
namespace Go.Proofs.Ytppgpdckaaabeaa
open Go.RowKit
set_option linter.unusedSimpArgs false
set_option linter.unusedVariables false
set_option linter.unnecessarySimpa false
theorem wbytes_at (N k : Nat) (h : k < 32) : (wbytes N)[31 - k]? = some (UInt8.ofNat (dg N k)) := by
  unfold wbytes
  rw [List.getElem?_reverse (by simp [dgs_len]; omega), List.length_map, dgs_len, show 32 - 1 - (31 - k) = k by omega, List.getElem?_map, dgs_get N 32 k h]
  rfl
theorem bcells_at {l : List UInt8} {k : Nat} {x : UInt8} (h : l[k]? = some x) : (bcells l)[k]? = some (.int .u8 x.toNat) := by simp [bcells, h]
theorem run_b2s_row {P : Program} (w : World) (src dst e : TypeId) (b n c : Nat) (l : List UInt8) (t : TypeId) (fr : Nat × Nat)
    (hs : P.underlying src = some (.slice e)) (he : P.underlying e = some (.int .u8)) (hd : P.underlying dst = some .string)
    (hb : w.heap[b]? = some (.cells (bcells l).toArray t fr)) (hn : n = l.length) :
    (convert src dst (.slice (some ⟨b, 0, none⟩) n c)).run P w = .ok (.string ⟨l.toArray⟩) w :=
  run_b2s_tail (j := 0) (z := .int .u8 0) w src dst e b n c l t fr hs he hd (by simpa using hb) hn |> fun h => h
set_option maxHeartbeats 2000000 in
set_option maxRecDepth 100000 in
theorem wBytes_any (N : Nat) (w : World) (hN : N < 2 ^ 256) : Calls Try.prog 23 #[aggN N] w fun e w' => e = .returned (.string ⟨(wbytes N).toArray⟩) ∧ Below w.heap.size w w' := by
  clear hN
  go_enter Try.func23, Try.ntmps23
  go_wp2
  generalize hwa : World.alloc _ _ = wa
  have r0 : wa.heap[w.heap.size]? = some (.cells (wcells N).toArray 24 (0, 0)) := by rw [← hwa]; exact heap_alloc2_old w _ _
  have r1 : wa.heap[w.heap.size + 1]? = some (.cells (mix (bcells (List.replicate 32 0)) (bcells (wbytes N)) 32).toArray 56 (0, 0)) := by rw [← hwa, mix_all (k := 32) (by simp [bcells]) (by rw [bcells_len, wbytes_len])]; exact heap_alloc2_new w _ _
  have ba : Below w.heap.size w wa := by rw [← hwa]; exact ((Below.refl _ _).alloc (Nat.le_refl _) _).alloc (by simp) _
  have R0 := Lib.hid r0
  have R1 := Lib.hid r1
  clear hwa r0 r1
  go_loopw [4, 5] (fun _ i wr => ∃ k : Nat, k ≤ 32 ∧ i = .int .i64 k ∧ Hid (wr.heap[w.heap.size]? = some (.cells (wcells N).toArray 24 (0, 0))) ∧ Hid (wr.heap[w.heap.size + 1]? = some (.cells (mix (bcells (List.replicate 32 0)) (bcells (wbytes N)) (32 - k)).toArray 56 (0, 0))) ∧ Below w.heap.size w wr) (fun _ i _ => 32 - (intOf i).toNat)
  case atStart => exact ⟨0, by omega, rfl, R0, R1, ba⟩
  case round =>
    obtain ⟨k, hk, rfl, Q0, Q1, hb⟩ := hrel
    by_cases hlt : k < 32
    · have k32 : (k : Int) < 32 := by omega
      obtain ⟨j, hj⟩ : ∃ j, j = 31 - k := ⟨_, rfl⟩
      have e4 : 32 - k = j + 1 := by omega
      have e5 : 32 - (k + 1) = j := by omega
      have hj32 : j < 32 := by omega
      rw [e4] at Q1
      have E5 := Lib.hid e5
      have ej : (31 : Int) - (k : Int) = (j : Int) := by omega
      have j32 : (j : Int) < 32 := by omega
      have c0 : wr.cell? ⟨w.heap.size, k / 8, none⟩ = some (.int .u64 (limb N (k / 8) : Nat)) := cell_row Q0.out (wcells_get N (k / 8) (by omega))
      have hB : (bcells (wbytes N))[j]? = some (.int .u8 (dg N k : Nat)) := by
        rw [hj, bcells_at (wbytes_at N k hlt)]; congr 2; exact ofNat_dg N k
      have c1 : wr.cell? ⟨w.heap.size + 1, j, none⟩ = some (.int .u8 0) := cell_row Q1.out (by rw [mix_left j (by omega) (by simp [bcells]; omega), bcells_rep, List.getElem?_replicate_of_lt hj32])
      have f1 : wr.frozen? ⟨w.heap.size + 1, j, none⟩ = false := frozen_of_row wr _ _ _ _ Q1.out
      have HS := Lib.hid (mix_back hB (A := bcells (List.replicate 32 0)) (by simp [bcells_len, wbytes_len]))
      have hx := limb_lt N (k / 8)
      have hl := limb_dg N k
      generalize limb N (k / 8) = x at c0 hx hl
      generalize dg N k = y at hl HS
      have hy : (x : Int) / 2 ^ (k % 8 * 8) % 256 = (y : Int) := by rw [← hl, Nat.mul_comm 8]; simp
      clear e4 e5 hj hB hl
      go_wp2
      go_roundw
      case rel => exact ⟨k + 1, by omega, by go_num, Lib.hid ((heap_setCell_other _ _ _ _ (by simp)).trans Q0.out), Lib.hid (by rw [E5.out, ← HS.out]; exact set_row Q1.out), hb.setCell (by simp) _⟩
      case measure => simp [intOf]; omega
    · obtain rfl : k = 32 := by omega
      have q1 := Q1.out
      rw [show 32 - 32 = 0 from rfl, mix_zero] at q1
      have hc := run_b2s_row wr 46 9 5 (w.heap.size + 1) 32 32 _ _ _ Try.underlying46 Try.underlying5 Try.underlying9 q1 (by rw [wbytes_len])
      clear q1
      go_wp2
      go_ret
      exact ⟨rfl, hb⟩
section
attribute [local go_sem] idx_list ext_list
theorem rev_get (s : List UInt8) (k : Nat) (hs : s.length = 32) (h : k < 32) : (s.reverse.map (·.toNat)).getD k 0 = (s.getD (31 - k) 0).toNat := by
  rw [List.getD_eq_getElem?_getD, List.getElem?_map, List.getElem?_reverse (by omega), hs, show 32 - 1 - k = 31 - k by omega, List.getD_eq_getElem?_getD]
  cases hc : s[31 - k]? with
  | none => simp at hc; omega
  | some x => rfl
set_option maxHeartbeats 2000000 in
set_option maxRecDepth 100000 in
theorem wFromBytes_any (s : List UInt8) (w : World) (hs : (s.length : Int) ≤ 1000000) : Calls Try.prog 22 #[.string ⟨s.toArray⟩] w fun e w' => e = .returned (.tuple #[aggN (fromB s).1, .int .i64 (fromB s).2]) ∧ Below w.heap.size w w' := by
  by_cases h32 : s.length = 32
  · obtain ⟨V, hV⟩ : ∃ V, V = wnum s := ⟨_, rfl⟩
    have HF := Lib.hid (show fromB s = (V, 0) from by rw [fromB, if_pos h32, hV])
    rw [HF.out]
    have HL := Lib.hid h32
    have hne : ((s.length : Int) != 32) = false := by rw [h32]; rfl
    obtain ⟨d, hd⟩ : ∃ d, d = s.reverse.map (·.toNat) := ⟨_, rfl⟩
    have dl : d.length = 32 := by rw [hd]; simp [h32]
    have dlt : ∀ x ∈ d, x < 256 := by
      rw [hd]; intro x hx
      obtain ⟨y, _, rfl⟩ := List.mem_map.1 hx
      exact y.toNat_lt
    have HVd := Lib.hid (show V = val (d.take 32) from by rw [hV, wnum, ← hd, List.take_of_length_le (by omega)])
    have HG := fun k h => Lib.hid (show d.getD k 0 = (s.getD (31 - k) 0).toNat from by rw [hd]; exact rev_get s k h32 h)
    have DL := Lib.hid dl
    have DLT := Lib.hid dlt
    clear hV hd dl dlt h32 HF
    go_enter Try.func22, Try.ntmps22
    go_wp2
    generalize hwa : World.alloc _ _ = wa
    have r0 : wa.heap[w.heap.size]? = some (.cells (wcells 0).toArray 24 (0, 0)) := by rw [← hwa]; exact heap_alloc2_old w _ _
    have r1 : wa.heap[w.heap.size + 1]? = some (.cells (wcells 0).toArray 24 (0, 0)) := by rw [← hwa]; exact heap_alloc2_new w _ _
    have ba : Below w.heap.size w wa := by rw [← hwa]; exact ((Below.refl _ _).alloc (Nat.le_refl _) _).alloc (by simp) _
    have R0 := Lib.hid r0
    have R1 := Lib.hid r1
    clear hwa r0 r1
    go_loopw [5, 10] (fun _ i wr => ∃ k : Nat, k ≤ 32 ∧ i = .int .i64 k ∧ Hid (wr.heap[w.heap.size]? = some (.cells (wcells 0).toArray 24 (0, 0))) ∧ Hid (wr.heap[w.heap.size + 1]? = some (.cells (wcells (val (d.take k))).toArray 24 (0, 0))) ∧ Below w.heap.size w wr) (fun _ i _ => 32 - (intOf i).toNat)
    case atStart => exact ⟨0, by omega, rfl, R0, R1, ba⟩
    case round =>
      obtain ⟨k, hk, rfl, Q0, Q1, hb⟩ := hrel
      by_cases hlt : k < 32
      · have k32 : (k : Int) < 32 := by omega
        obtain ⟨j, hj⟩ : ∃ j, j = 31 - k := ⟨_, rfl⟩
        have ej : (31 : Int) - (k : Int) = (j : Int) := by omega
        have hsl : (s.length : Int) = 32 := by rw [HL.out]; rfl
        have jl : j < s.length := by rw [HL.out]; omega
        have jI : (j : Int) < s.length := by omega
        have VS := Lib.hid (val_take_succ d k (by rw [DL.out]; exact hlt))
        have VL := val_take_lt d k DLT.out (by rw [DL.out]; omega)
        have hG := (HG k hlt).out
        rw [← hj, show s.getD j 0 = s[j]'jl from by simp [jl]] at hG
        have hlm := limb_lt (val (d.take k)) (k / 8)
        have c0 : wr.cell? ⟨w.heap.size + 1, k / 8, none⟩ = some (.int .u64 (limb (val (d.take k)) (k / 8) : Nat)) := cell_row Q1.out (wcells_get _ _ (by omega))
        have f0 : wr.frozen? ⟨w.heap.size + 1, k / 8, none⟩ = false := frozen_of_row wr _ _ _ _ Q1.out
        have hx := (s[j]'jl).toNat_lt
        obtain ⟨x, ex⟩ : ∃ x, x = (s[j]'jl).toNat := ⟨_, rfl⟩
        rw [← ex] at hG hx
        rw [hG] at VS
        have HOR := or_shlw (limb (val (d.take k)) (k / 8)) x (8 * (k % 8)) hlm (shl_lt x k hx)
        have PUT := Lib.hid (wcells_put (val (d.take k)) x k VL hx hlt)
        have bo := limb_lt (val (d.take k) + x * 256 ^ k) (k / 8)
        rw [limb_put _ _ _ _ VL hx, if_pos rfl] at bo
        generalize limb (val (d.take k)) (k / 8) = y at c0 hlm HOR PUT bo
        rw [Nat.mul_comm 8] at HOR
        obtain ⟨z, hz⟩ : ∃ z, z = y ||| x * 2 ^ (k % 8 * 8) := ⟨_, rfl⟩
        rw [← hz] at HOR
        rw [Nat.mul_comm 8, ← hz] at PUT bo
        have hw : IntKind.u64.wrap (((s[j]'jl).toNat : Nat) : Int) = (x : Int) := by rw [← ex]; exact wrapN x (by omega)
        clear hj VL hG hz ex hsl
        go_upto_region 7 with (fail)
        go_region
        all_goals
          go_wp2
          go_roundw
          case rel => exact ⟨k + 1, by omega, by go_num, Lib.hid ((heap_setCell_other _ _ _ _ (by simp)).trans Q0.out), Lib.hid (by rw [VS.out, ← PUT.out]; exact set_row Q1.out), hb.drew.setCell (by simp) _⟩
          case measure => simp [intOf]; omega
      · obtain rfl : k = 32 := by omega
        have q1 := Q1.out
        rw [← HVd.out] at q1
        have P1 := Lib.hid q1
        clear q1
        go_wp2_with (first
          | (refine wpList_load_row rfl 24 (.tmp 4) rfl (w.heap.size + 1) rfl 24 (wcells V).toArray (0, 0) _ P1.out Try.underlying24 rfl (infoW' _) ?_)
          | (refine wpList_store_row rfl 24 (.tmp 2) (.tmp 29) rfl w.heap.size (wcells V).toArray rfl rfl 24 (wcells 0).toArray Q0.out (infoW' _) rfl (ones_w _) ?_))
        exact bodyPost_ret (v := .tuple #[aggN V, .int .i64 0]) (results_cell_tmp Try.results22 _ _ w.heap.size 24 _ _ _ _ rfl rfl (setRow_heap _ _ _ _ _ _ Q0.out) Try.underlying24 rfl (infoW' _)) rfl ⟨rfl, below_setRow hb (by omega) _⟩
  · have HF := Lib.hid (show fromB s = (0, 10) from by rw [fromB, if_neg h32])
    rw [HF.out]
    have hne : ((s.length : Int) != 32) = true := by simp; omega
    clear h32
    go_enter Try.func22, Try.ntmps22
    go_wp2_with (first
      | (refine wpList_load_row rfl 24 (.tmp 4) rfl (w.heap.size + 1) rfl 24 (wcells 0).toArray (0, 0) _ (heap_alloc2_new w _ _) Try.underlying24 rfl (infoW' _) ?_)
      | (refine wpList_store_row rfl 24 (.tmp 2) (.tmp 9) rfl w.heap.size (wcells 0).toArray rfl rfl 24 (wcells 0).toArray (heap_alloc2_old w _ _) (infoW' _) rfl (ones_w _) ?_))
    exact bodyPost_ret (v := .tuple #[aggN 0, .int .i64 10]) (results_cell_tmp Try.results22 _ _ w.heap.size 24 _ _ _ _ rfl rfl (setRow_heap _ _ _ _ _ _ (heap_alloc2_old w _ _)) Try.underlying24 rfl (infoW' _)) rfl ⟨rfl, below_setRow (((Below.refl _ _).alloc (Nat.le_refl _) _).alloc (by simp) _) (by omega) _⟩
end
end Go.Proofs.Ytppgpdckaaabeaa
