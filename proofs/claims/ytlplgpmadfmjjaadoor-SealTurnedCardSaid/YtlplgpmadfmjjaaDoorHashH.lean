import Derived.Test.YtlplgpmadfmjjaaDoorRows
import Derived.WalkKit
import Derived.Below
import Derived.ProofKit
import Derived.OpenShut
import Derived.ShutString
import Derived.ChangeOld
import Derived.Outline
import Derived.RegionTactic
import Derived.ChangeAlike
import Derived.BigRegion
import Derived.BigQuiet
import Derived.Deep.QuietTactic
import Derived.Deep.RegionWith
import Derived.Deep.RegionLaw
import Derived.Deep.RegionHeld3
import Derived.Deep.AppendLies
import Derived.Deep.Draws
import Derived.StillTailTactics
import Derived.Lib.Hide
import Derived.Lib.SmallJoins
import Derived.Handy
import Derived.Deep.LoopGhost
import Derived.Deep.DeepCutAuto
import Derived.Laws.CopyOwn
import Derived.Test.YtlplgpmadfmjjaaDoorHashG
namespace Go.Proofs.YtlplgpmadfmjjaaDoor
open Go.RowKit
set_option linter.unusedSimpArgs false
set_option linter.unusedVariables false
def padL : List UInt8 := 128 :: List.replicate 63 0
theorem pad_take (few : Nat) (h : few ≤ 63) : padL.take (1 + few) = 128 :: List.replicate few 0 := by
  unfold padL
  rw [Nat.add_comm, List.take_succ_cons, List.take_replicate, Nat.min_eq_left h]
theorem be8_get (N j : Nat) (hj : j < 8) : (be8 N)[7 - j]? = some (UInt8.ofNat (N >>> (8 * j))) := by
  have e : 56 - 8 * (7 - j) = 8 * j := by omega
  have e2 : 7 - j < 8 := by omega
  simp [be8, e2, e]
theorem drop_set {α : Type} (M S : List α) (k : Nat) (x : α) (h : M.drop (k + 1) = S.drop (k + 1)) (hk : k < M.length) (hx : S[k]? = some x) : (M.set k x).drop k = S.drop k := by
  obtain ⟨hS, rfl⟩ := List.getElem?_eq_some_iff.1 hx
  rw [List.drop_eq_getElem_cons (by simpa using hk), List.drop_eq_getElem_cons hS, List.drop_set_of_lt (Nat.lt_succ_self k), h]
  simp
theorem few_eq (n : Nat) (h : n ≤ 1152921504606846976) : (IntKind.u64.wrap (55 - (n : Int))).tmod 64 = (((119 - n % 64) % 64 : Nat) : Int) := by
  rw [IntKind.wrap_u64, Int.tmod_eq_emod_of_nonneg (by omega)]; omega
theorem Has.count {w : World} {b : Nat} {l : List UInt8} (h : Has w b l) : w.cell? ⟨b, 72, none⟩ = some (.int .i64 l.length) := by
  obtain ⟨A, blk, hA, hblk, _, _, hrow⟩ := h
  exact cell_row hrow (hcells_n A blk _ hA hblk)
section
attribute [local go_sem] ext_list
set_option maxHeartbeats 1000000 in
set_option maxRecDepth 100000 in
theorem end_any (b : Nat) (l : List UInt8) (w : World) (ht : Tabs w) (hb1 : 1 < b) (hh : Has w b l) (hlen : (l.length : Int) ≤ 1125899906842624) :
    Calls Tryd.prog 30 #[.pointer (some ⟨b, 0, none⟩)] w fun e w' => e = .returned (.tuple #[]) ∧ Has w' b (l ++ padS l.length) ∧ Fr [b] w w' := by
  have hbs := hh.lt
  have c72 := hh.count
  have HL := Lib.hid hlen
  obtain ⟨n, hn⟩ : ∃ n, n = l.length := ⟨_, rfl⟩
  rw [← hn] at c72 hlen
  have hn64 := few_eq n (by omega)
  have hfew : (119 - n % 64) % 64 ≤ 63 := by omega
  generalize hfw : (119 - n % 64) % 64 = few at hn64 hfew
  have HN := Lib.hid hn
  have HFW := Lib.hid hfw
  have hc8 : w.cell? ⟨b, 72, none⟩ = some (.int .i64 n) := c72
  clear hn hfw c72
  go_enter Tryd.func30, Tryd.ntmps30
  go_wp2
  go_loopw [12] (fun i wr => ∃ k : Nat, ∃ M : List UInt8, k ≤ 8 ∧ i = .int .i64 k ∧ M.length = 8 ∧ M.drop (8 - k) = (be8 (8 * n)).drop (8 - k) ∧ Hid (wr.heap[w.heap.size]? = some (.cells (bcells M).toArray 73 (0, 0))) ∧ Below w.heap.size w wr) (fun i _ => 8 - (intOf i).toNat)
  case atStart => exact ⟨0, List.replicate 8 0, by omega, rfl, rfl, rfl, Lib.hid (heap_alloc_new w _), (Below.refl _ _).alloc (Nat.le_refl _) _⟩
  case round =>
    obtain ⟨k, M, hk, rfl, hM, hT, hr0, hbel⟩ := hrel
    by_cases hlt : k < 8
    · have kk : (k : Int) < 8 := by omega
      have c0 : wr.cell? ⟨w.heap.size, 7 - k, none⟩ = some (.int .u8 (M.getD (7 - k) 0).toNat) := cell_row hr0.out (bcells_get (by omega))
      have f0 : wr.frozen? ⟨w.heap.size, 7 - k, none⟩ = false := frozen_of_row wr _ _ _ _ hr0.out
      have HM := Lib.hid hM
      have HT := Lib.hid hT
      clear hM hT
      generalize M.getD (7 - k) 0 = z at c0
      go_wp2
      go_roundw
      case rel =>
        refine ⟨k + 1, M.set (7 - k) (UInt8.ofNat ((8 * n) >>> (8 * k))), by omega, by go_num, by simpa using HM.out, ?_, ?_, ?_⟩
        · rw [show 8 - (k + 1) = 7 - k from by omega]
          exact drop_set _ _ _ _ (by rw [show 7 - k + 1 = 8 - k from by omega]; exact HT.out) (by rw [HM.out]; omega) (be8_get _ _ hlt)
        · refine Lib.hid ?_; rw [← bcells_set, show (n : Int) * 8 = ((8 * n : Nat) : Int) from by omega, byte_eq]; exact set_row hr0.out
        · exact hbel.setCell (by simp) _
      case measure => simp [intOf]; omega
    · obtain rfl : k = 8 := by omega
      have hM8 : M = be8 (8 * n) := by simpa using hT
      clear hT hM
      rw [hM8] at hr0
      clear hM8
      have ht1 := ht.below hbel
      have hh1 := hh.below hbel
      have hw8 : wr.cell? ⟨b, 72, none⟩ = some (.int .i64 n) := (hbel.cell (p := ⟨b, 72, none⟩) hbs).trans hc8
      have hfe : (few : Int) ≤ 63 := by omega
      go_wp2_with fail
      refine (Write_any b l _ wr ht1 hb1 hh1 ?_).mono ?_
      · have := HL.out; simp; omega
      rintro e w5 ⟨rfl, h5, hf5⟩
      have h5' : Has w5 b (l ++ (128 :: List.replicate few 0)) := by rw [← pad_take few hfew]; exact h5
      clear h5
      have r5 : w5.heap[w.heap.size]? = some (.cells (bcells (be8 (8 * n))).toArray 73 (0, 0)) := (hf5.block _ (by
        rcases Nat.lt_or_ge w.heap.size wr.heap.size with hlt | hge
        · exact hlt
        · have := hr0.out; rw [Array.getElem?_eq_none hge] at this; cases this) (by simp; omega)).trans hr0.out
      have hconv := run_b2s_tail (P := Tryd.prog) w5 45 9 5 w.heap.size 0 8 8 (.int .u8 0) (be8 (8 * n)) 73 (0, 0) Tryd.underlying45 Tryd.underlying5 Tryd.underlying9 (by exact r5) (by rw [be8_len])
      have ht5 := ht1.fr hf5 (fun k hk => by simp at hk; omega)
      go_wp2_with fail
      refine (Write_any b _ (be8 (8 * n)) w5 ht5 hb1 h5' ?_).mono ?_
      · have := HL.out; have := be8_len (8 * n); simp; omega
      rintro e w6 ⟨rfl, h6, hf6⟩
      go_wp2
      go_end0
      refine ⟨rfl, ?_, ?_⟩
      · rw [← HN.out]
        unfold padS
        rw [HFW.out]
        rw [List.append_assoc] at h6
        exact h6
      · exact ((Fr.of_below hbel).trans hf5).trans hf6
end
end Go.Proofs.YtlplgpmadfmjjaaDoor
