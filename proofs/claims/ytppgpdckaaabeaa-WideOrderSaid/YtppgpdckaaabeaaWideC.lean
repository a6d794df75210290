/- Numbers of 256 bits as the program's values; the document's digits, and the number of digits. -/
import Derived.Test.YtppgpdckaaabeaaRows
import Derived.WalkKit
import Derived.Below
import Derived.ProofKit
import Derived.OpenShut
import Derived.ShutString
import Derived.ChangeOld
import Derived.Outline
import Derived.RegionTactic
import Derived.ChangeAlike
import Derived.BigRegion
import Derived.BigQuiet
import Derived.Deep.QuietTactic
import Derived.Deep.RegionWith
import Derived.Deep.RegionLaw
import Derived.Deep.RegionHeld3
import Derived.Deep.AppendLies
import Derived.Deep.Draws
import Derived.StillTailTactics
import Derived.Lib.Hide
import Derived.Lib.SmallJoins
import Derived.Handy
import Derived.WalkSpells
import Derived.WalkLawsBesides
import Derived.Deep.LoopGhost
import Derived.Deep.DeepCutAuto
import Derived.Test.YtppgpdckaaabeaaKit
import Derived.Test.YtppgpdckaaabeaaIntsEq
import Derived.Test.YtppgpdckaaabeaaWideB
namespace Go.Proofs.Ytppgpdckaaabeaa
open Go.RowKit
set_option linter.unusedSimpArgs false
set_option linter.unusedVariables false
set_option linter.unnecessarySimpa false
def wints (N : Nat) : List Int := [(limb N 0 : Int), (limb N 1 : Int), (limb N 2 : Int), (limb N 3 : Int)]
def wcells (N : Nat) : List Value := (wints N).map (Value.int .u64)
/-- A number, as one value. -/
abbrev aggN (N : Nat) : Value := .agg (wcells N).toArray
theorem wcells_len (N : Nat) : (wcells N).length = 4 := rfl
theorem wcells_get (N i : Nat) (h : i < 4) : (wcells N)[i]? = some (.int .u64 (limb N i)) := by
  obtain rfl | rfl | rfl | rfl : i = 0 ∨ i = 1 ∨ i = 2 ∨ i = 3 := by omega
  all_goals rfl
theorem infoW : (Try.prog.info? 24).map (·.size) = some 4 := by kernel_rfl
theorem infoW' (N : Nat) : (Try.prog.info? 24).map (·.size) = some (wcells N).toArray.size := infoW
theorem ones_w (N : Nat) : (wcells N).toArray.all (·.oneCell') = true := by simp [wcells, wints, Value.oneCell']
theorem wints_inj {N M : Nat} (hN : N < 2 ^ 256) (hM : M < 2 ^ 256) : (wints N == wints M) = (N == M) := by
  rw [Bool.eq_iff_iff, beq_iff_eq, beq_iff_eq]
  constructor
  · intro h
    simp [wints] at h
    rw [lt_limbs N hN, lt_limbs M hM]
    omega
  · rintro rfl; rfl
theorem infoU : ∃ i, Try.prog.info? 22 = some i := Option.isSome_iff_exists.1 (by kernel_rfl)
theorem cellsU : Try.prog.cellsOf 22 = 1 := by kernel_rfl
theorem eqInW (w : World) (N M : Nat) (hN : N < 2 ^ 256) (hM : M < 2 ^ 256) : (Op.equalIn 10000 24 (.agg (wcells N).toArray) (.agg (wcells M).toArray)).run Try.prog w = .ok (N == M) w := by
  obtain ⟨i, hi⟩ := infoU
  rw [wcells, wcells, equalIn_ints w .u64 9998 24 22 4 i Try.underlying24 Try.underlying22 hi cellsU _ _ rfl rfl, wints_inj hN hM]
theorem guardW (w : World) (op : BinOp) (a b : Operand) (N M : Nat) : (eqGuard op 24 a b (aggN N) (aggN M)).run Try.prog w = .ok () w :=
  run_eqGuard_agg w op 24 a b _ _ (by kernel_rfl)
/-- A slice of integers, read in w. -/
def NatsAt (w : World) (v : Value) (l : List Nat) : Prop := ∃ b cap, v = .slice (some ⟨b, 0, none⟩) l.length cap ∧ b < w.heap.size ∧ ∀ k, k < l.length → w.cell? ⟨b, k, none⟩ = some (.int .i64 (l.getD k 0 : Nat))
theorem NatsAt.below {w w' : World} {v : Value} {l : List Nat} (h : NatsAt w v l) (hb : Below w.heap.size w w') : NatsAt w' v l := by
  obtain ⟨b, cap, e, hl, hc⟩ := h
  exact ⟨b, cap, e, Nat.lt_of_lt_of_le hl hb.size, fun k hk => (hb.cell (p := ⟨b, k, none⟩) hl).trans (hc k hk)⟩
def ncells (l : List Nat) : List Value := l.map fun n => .int .i64 (n : Nat)
theorem ncells_len (l : List Nat) : (ncells l).length = l.length := by simp [ncells]
theorem ncells_snoc (l : List Nat) (n : Nat) : ncells l ++ [.int .i64 (n : Nat)] = ncells (l ++ [n]) := by simp [ncells]
theorem NatsAt.of_own {w : World} {B n : Nat} {v : Value} {l : List Nat} (h : w.ownsRow B 3 1 v n (ncells l)) (hn : 0 < n) : NatsAt w v l := by
  have hl : l.length = n := by have := h.1; rw [ncells_len] at this; omega
  obtain ⟨g, cap, rfl, _, hg⟩ := h.form hn
  refine ⟨g, cap, by rw [hl], hg, fun k hk => ?_⟩
  have := h.cells (g := g) rfl k (.int .i64 (l.getD k 0 : Nat)) (by simp [ncells, hk])
  rw [← this]
  congr 1
  unfold Addr.add; split <;> simp_all
theorem infoI : (Try.prog.info? 3).map (fun i => (i.zero, i.size, i.bytes)) = some (some (.int .i64 0), 1, 8) := by kernel_rfl
theorem shr_and (x s : Nat) (hx : x < 18446744073709551616) : bits .and .u64 ((x : Int) / 2 ^ s) 255 = ((x / 2 ^ s % 256 : Nat) : Int) := by
  have e : (x : Int) / 2 ^ s = ((x / 2 ^ s : Nat) : Int) := by simp
  rw [e, show (255 : Int) = ((255 : Nat) : Int) from rfl, u64_and_nat _ _ (Nat.lt_of_le_of_lt (Nat.div_le_self _ _) hx) (by decide), nat_mask8]
theorem dgs_snoc (N k : Nat) : ncells (dgs N k) ++ [.int .i64 (dg N k : Nat)] = ncells (dgs N (k + 1)) := by rw [ncells_snoc, dgs_succ]
set_option maxHeartbeats 1000000 in
set_option maxRecDepth 100000 in
theorem digits_any (N : Nat) (w : World) :
    Calls Try.prog 35 #[aggN N] w fun e w' => (∃ v, e = .returned v ∧ NatsAt w' v (dgs N 32)) ∧ Below w.heap.size w w' := by
  obtain ⟨i0, hi, hz0, hz1, hz2⟩ := info_parts infoI
  go_enter Try.func35, Try.ntmps35
  go_wp2_with fail
  generalize hwa : World.alloc _ _ = wa
  have r0 : wa.heap[w.heap.size]? = some (.cells (wcells N).toArray 24 (0, 0)) := by rw [← hwa]; exact heap_alloc_new w _
  have ba : Below w.heap.size w wa := by rw [← hwa]; exact (Below.refl _ _).alloc (Nat.le_refl _) _
  have za := row_lt r0
  clear hwa
  go_loopw [3, 4] (fun v i wr => ∃ k : Nat, k ≤ 32 ∧ i = .int .i64 k ∧ wr.ownsRow wa.heap.size 3 1 v k (ncells (dgs N k)) ∧ Below wa.heap.size wa wr) (fun _ i _ => 32 - (intOf i).toNat)
  case atStart => exact ⟨0, by omega, rfl, by simpa [dgs, ncells] using World.ownsRow_nil wa wa.heap.size 3 1, Below.refl _ _⟩
  case round =>
    obtain ⟨k, hk, rfl, hown, hbel⟩ := hrel
    obtain ⟨A, cp, rfl⟩ := own_form hown
    have hz := hbel.size
    by_cases hlt : k < 32
    · have kk : (k : Int) < 32 := by omega
      have c0 : wr.cell? ⟨w.heap.size, k / 8, none⟩ = some (.int .u64 (limb N (k / 8))) := (hbel.cell (p := ⟨w.heap.size, k / 8, none⟩) za).trans (cell_row r0 (wcells_get N (k / 8) (by omega)))
      have hl := limb_lt N (k / 8)
      have h255 := shr_and (limb N (k / 8)) (8 * (k % 8)) hl
      rw [limb_dg N k] at h255
      have hy := dg_lt N k
      have HS := Lib.hid (dgs_snoc N k)
      generalize limb N (k / 8) = x at c0 hl h255
      generalize dg N k = y at h255 hy HS
      clear hl
      go_wp2_with (at_builtin; refine wpList_append_own _ rfl (.tmp 9) (.tmp 21) 51 rfl wa.heap.size 3 i0 (.int .i64 0) 1 8 Try.underlying51 hi hz0 hz1 hz2 rfl (by decide) (.slice A k cp) k (ncells (dgs N k)) rfl (hown.alloc _) ⟨wr.heap.size, 0, none⟩ 1 1 [.int .i64 (y : Nat)] rfl rfl (World.news_of_block (cs := #[.int .i64 (y : Nat)]) (t := 3) (fr := (0, 0)) (heap_alloc_new wr _)) (by simp [Value.oneCell']) (by unfold maxLen; omega) (by omega) (by simp; omega) ?_; intro v' w6 hown6 hgrow _; have b6 : Below wa.heap.size wa w6 := (hbel.alloc hz _).grown hgrow (by simp; omega) (own_block_ge hown); rw [HS.out] at hown6; clear hgrow hown hbel)
      go_roundw
      case rel => exact ⟨k + 1, by omega, by go_num, hown6, b6⟩
      case measure => simp [intOf]; omega
    · obtain rfl : k = 32 := by omega
      have hv := NatsAt.of_own hown (by omega)
      have hb := ba.trans (hbel.mono ba.size)
      clear hown hbel
      go_wp2
      go_ret
      exact ⟨⟨_, rfl, hv⟩, hb⟩
/-- The 32 digits of N, as a slice. -/
def DigAt (w : World) (v : Value) (N : Nat) : Prop := ∃ b cap, v = .slice (some ⟨b, 0, none⟩) 32 cap ∧ b < w.heap.size ∧ ∀ k, k < 32 → w.cell? ⟨b, k, none⟩ = some (.int .i64 (dg N k : Nat))
theorem DigAt.below {w w' : World} {v : Value} {N : Nat} (h : DigAt w v N) (hb : Below w.heap.size w w') : DigAt w' v N := by
  obtain ⟨b, cap, e, hl, hc⟩ := h
  exact ⟨b, cap, e, Nat.lt_of_lt_of_le hl hb.size, fun k hk => (hb.cell (p := ⟨b, k, none⟩) hl).trans (hc k hk)⟩
theorem NatsAt.dig {w : World} {v : Value} {N : Nat} (h : NatsAt w v (dgs N 32)) : DigAt w v N := by
  obtain ⟨b, cap, e, hl, hc⟩ := h
  rw [dgs_len] at e hc
  exact ⟨b, cap, e, hl, fun k hk => by rw [hc k hk]; simp [dgs, hk]⟩
theorem digs_any (N : Nat) (w : World) :
    Calls Try.prog 35 #[aggN N] w fun e w' => (∃ v, e = .returned v ∧ DigAt w' v N) ∧ Below w.heap.size w w' :=
  (digits_any N w).mono fun _ _ ⟨⟨v, h1, h2⟩, h3⟩ => ⟨⟨v, h1, h2.dig⟩, h3⟩
end Go.Proofs.Ytppgpdckaaabeaa
