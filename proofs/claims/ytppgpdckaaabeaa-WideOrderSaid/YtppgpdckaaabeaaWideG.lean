/- The document's bytes of numbers. -/
import Derived.Test.YtppgpdckaaabeaaRows
import Derived.WalkKit
import Derived.Below
import Derived.ProofKit
import Derived.OpenShut
import Derived.ShutString
import Derived.ChangeOld
import Derived.Outline
import Derived.RegionTactic
import Derived.ChangeAlike
import Derived.BigRegion
import Derived.BigQuiet
import Derived.Deep.QuietTactic
import Derived.Deep.RegionWith
import Derived.Deep.RegionLaw
import Derived.Deep.RegionHeld3
import Derived.Deep.AppendLies
import Derived.Deep.Draws
import Derived.StillTailTactics
import Derived.Lib.Hide
import Derived.Lib.SmallJoins
import Derived.Handy
import Derived.WalkSpells
import Derived.WalkLawsBesides
import Derived.Deep.LoopGhost
import Derived.Deep.DeepCutAuto
import Derived.Test.YtppgpdckaaabeaaWideF
namespace Go.Proofs.Ytppgpdckaaabeaa
open Go.RowKit
set_option linter.unusedSimpArgs false
set_option linter.unusedVariables false
set_option linter.unnecessarySimpa false
/-- A number's bytes, the greatest first; the number of 32 bytes. -/
def wbytes (N : Nat) : List UInt8 := ((dgs N 32).map UInt8.ofNat).reverse
theorem wbytes_len (N : Nat) : (wbytes N).length = 32 := by simp [wbytes, dgs_len]
theorem infoB : (Try.prog.info? 5).map (fun i => (i.zero, i.size, i.bytes)) = some (some (.int .u8 0), 1, 1) := by kernel_rfl
theorem wbytes_drop (N k : Nat) (h : k < 32) : (wbytes N).take (32 - (k + 1)) ++ [UInt8.ofNat (dg N k)] = (wbytes N).take (32 - k) := by
  have e : 32 - k = (32 - (k + 1)) + 1 := by omega
  rw [e, List.take_add_one]
  congr 1
  unfold wbytes
  rw [List.getElem?_reverse (by simp [dgs_len]; omega)]
  simp only [List.length_map, dgs_len]
  rw [show 32 - 1 - (32 - (k + 1)) = k by omega, List.getElem?_map, dgs_get N 32 k h]
  rfl
theorem ofNat_dg (N k : Nat) : ((UInt8.ofNat (dg N k)).toNat : Int) = (dg N k : Int) := by
  rw [UInt8.toNat_ofNat', Nat.mod_eq_of_lt (dg_lt N k)]
set_option maxHeartbeats 1000000 in
set_option maxRecDepth 100000 in
theorem refBytes_any (N : Nat) (w : World) :
    Calls Try.prog 28 #[aggN N] w fun e w' => e = .returned (.string ⟨(wbytes N).toArray⟩) ∧ Below w.heap.size w w' := by
  obtain ⟨i0, hi, hz0, hz1, hz2⟩ := info_parts infoB
  go_enter Try.func28, Try.ntmps28
  go_wp2_with (refine wpList_load_row rfl 24 (.tmp 1) rfl w.heap.size rfl 24 (wcells N).toArray (0, 0) _ (heap_alloc_new w _) Try.underlying24 rfl (infoW' _) ?_)
  generalize hwa : World.alloc _ _ = wa
  have ba : Below w.heap.size w wa := by rw [← hwa]; exact (Below.refl _ _).alloc (Nat.le_refl _) _
  clear hwa
  refine (digs_any N wa).mono ?_
  rintro e w2 ⟨⟨vx, rfl, hx⟩, g1⟩
  have b2 := ba.trans (g1.mono ba.size)
  clear g1 ba
  obtain ⟨bx, cx, rfl, hbx, hcx⟩ := hx
  have HX := Lib.hid hcx
  clear hcx
  go_wp2
  go_loopw [4, 5] (fun v i wr => ∃ k : Nat, k ≤ 32 ∧ i = .int .i64 ((k : Int) - 1) ∧ wr.ownsRow w2.heap.size 5 1 v (32 - k) (bcells ((wbytes N).take (32 - k))) ∧ Below w2.heap.size w2 wr) (fun _ i _ => (intOf i + 1).toNat)
  case atStart => exact ⟨32, by omega, rfl, by simpa [bcells] using World.ownsRow_nil w2 w2.heap.size 5 1, Below.refl _ _⟩
  case round =>
    obtain ⟨k, hk, rfl, hown, hbel⟩ := hrel
    obtain ⟨A, cp, rfl⟩ := own_form hown
    have hz := hbel.size
    cases k with
    | zero =>
      have hconv := run_b2s_own (P := Try.prog) wr 46 9 5 _ ((wbytes N).take (32 - 0)) w2.heap.size (32 - 0) Try.underlying46 Try.underlying5 Try.underlying9 hown
      rw [show (wbytes N).take (32 - 0) = wbytes N from List.take_of_length_le (by rw [wbytes_len]; omega)] at hconv
      have hb := b2.trans (hbel.mono b2.size)
      clear hown hbel
      go_wp2
      go_ret
      exact ⟨rfl, hb⟩
    | succ k =>
      have ek : ((k + 1 : Nat) : Int) - 1 = (k : Int) := by omega
      rw [ek]
      have k32 : (k : Int) < 32 := by omega
      have cx0 : wr.cell? ⟨bx, k, none⟩ = some (.int .i64 (dg N k : Nat)) := (hbel.cell (p := ⟨bx, k, none⟩) hbx).trans (HX.out k (by omega))
      have hd := dg_lt N k
      have HS := Lib.hid (wbytes_drop N k (by omega))
      have HO := Lib.hid (ofNat_dg N k)
      have HL := Lib.hid (show 32 - (k + 1) + 1 = 32 - k by omega)
      obtain ⟨x, ex⟩ : ∃ x, x = dg N k := ⟨_, rfl⟩
      obtain ⟨y, ey⟩ : ∃ y, y = UInt8.ofNat (dg N k) := ⟨_, rfl⟩
      rw [← ey] at HS HO
      rw [← ex] at HO cx0 hd
      have hxy : (x : Int) = (y.toNat : Int) := HO.out.symm
      rw [hxy] at cx0
      have hy := y.toNat_lt
      clear ex ey hxy ek
      have HK := Lib.hid hk
      generalize hn : 32 - (k + 1) = n at *
      have hn32 : n ≤ 32 := by omega
      have HN := Lib.hid hn
      clear hn
      go_wp2_with (at_builtin; refine wpList_append_own _ rfl (.tmp 12) (.tmp 18) 46 rfl w2.heap.size 5 i0 (.int .u8 0) 1 1 Try.underlying46 hi hz0 hz1 hz2 rfl (by decide) (.slice A n cp) n (bcells ((wbytes N).take n)) rfl (hown.alloc _) ⟨wr.heap.size, 0, none⟩ 1 1 [.int .u8 (y.toNat : Nat)] rfl rfl (World.news_of_block (cs := #[.int .u8 (y.toNat : Nat)]) (t := 5) (fr := (0, 0)) (heap_alloc_new wr _)) (by simp [Value.oneCell']) (by unfold maxLen; omega) (by omega) (by simp; omega) ?_; intro v' w6 hown6 hgrow _; rw [bcells_snoc, HS.out, HL.out] at hown6; have b6 : Below w2.heap.size w2 w6 := (hbel.alloc hz _).grown hgrow (by simp; omega) (own_block_ge hown))
      go_roundw
      case rel => exact ⟨k, by omega, rfl, hown6, b6⟩
      case measure => simp [intOf]
theorem int_u8 (y : UInt8) : ((y.toNat : Nat) : Int) = (y.toNat : Int) := rfl
/-- The number whose bytes these are. -/
def wnum (l : List UInt8) : Nat := val (l.reverse.map (·.toNat))
theorem wnum_lt (l : List UInt8) (h : l.length = 32) : wnum l < 2 ^ 256 := by
  have := val_lt (l.reverse.map (·.toNat)) (fun d hd => by
    obtain ⟨x, _, rfl⟩ := List.mem_map.1 hd
    exact x.toNat_lt)
  rw [show (l.reverse.map (·.toNat)).length = 32 from by simp [h], show (256 : Nat) ^ 32 = 2 ^ 256 from by decide] at this
  exact this
theorem map_ofNat_back (l : List Nat) (h : ∀ d ∈ l, d < 256) : (l.map UInt8.ofNat).map (·.toNat) = l := by
  rw [List.map_map]
  conv => rhs; rw [← List.map_id l]
  exact List.map_congr_left (fun d hd => by simp [Nat.mod_eq_of_lt (h d hd)])
theorem wnum_wbytes (N : Nat) (h : N < 2 ^ 256) : wnum (wbytes N) = N := by
  unfold wnum wbytes
  rw [List.reverse_reverse, map_ofNat_back _ (dgs_lt N 32), dgs_val]
  exact Nat.mod_eq_of_lt h
/-- What FromBytes tells. -/
def fromB (s : List UInt8) : Nat × Int := if s.length = 32 then (wnum s, 0) else (0, 10)
theorem rev_take (s : List UInt8) (k : Nat) (hs : s.length = 32) (h : k < 32) : (s.reverse.map (·.toNat)).take (32 - (k + 1)) ++ [(s.getD k 0).toNat] = (s.reverse.map (·.toNat)).take (32 - k) := by
  have e : 32 - k = (32 - (k + 1)) + 1 := by omega
  rw [e, List.take_add_one]
  congr 1
  rw [List.getElem?_map, List.getElem?_reverse (by omega), hs, show 32 - 1 - (32 - (k + 1)) = k by omega, List.getElem?_eq_getElem (by omega)]
  simp [show k < s.length by omega]
section
attribute [local go_sem] idx_list ext_list
set_option maxHeartbeats 1000000 in
set_option maxRecDepth 100000 in
theorem refFromBytes_any (s : List UInt8) (w : World) :
    Calls Try.prog 26 #[.string ⟨s.toArray⟩] w fun e w' => e = .returned (.tuple #[aggN (fromB s).1, .int .i64 (fromB s).2]) ∧ Below w.heap.size w w' := by
  obtain ⟨i0, hi, hz0, hz1, hz2⟩ := info_parts infoI
  by_cases h32 : s.length = 32
  · have hne : ((s.length : Int) != 32) = false := by simp [h32]
    have FB := Lib.hid (show fromB s = (wnum s, 0) from by rw [fromB, if_pos h32])
    have HS := Lib.hid h32
    have hsl : (s.length : Int) ≤ 32 := by omega
    clear h32
    go_enter Try.func26, Try.ntmps26
    go_wp2_with fail
    generalize hwa : World.alloc _ _ = wa
    have R0 := Lib.hid (show wa.heap[w.heap.size]? = some (.cells (wcells 0).toArray 24 (0, 0)) by rw [← hwa]; exact heap_alloc_new w _)
    have ba : Below w.heap.size w wa := by rw [← hwa]; exact (Below.refl _ _).alloc (Nat.le_refl _) _
    clear hwa
    go_loopw [4, 5] (fun v i wr => ∃ k : Nat, k ≤ 32 ∧ i = .int .i64 ((k : Int) - 1) ∧ wr.ownsRow wa.heap.size 3 1 v (32 - k) (ncells ((s.reverse.map (·.toNat)).take (32 - k))) ∧ Below wa.heap.size wa wr) (fun _ i _ => (intOf i + 1).toNat)
    case atStart => exact ⟨32, by omega, rfl, by simpa [ncells] using World.ownsRow_nil wa wa.heap.size 3 1, Below.refl _ _⟩
    case round =>
      obtain ⟨k, hk, rfl, hown, hbel⟩ := hrel
      obtain ⟨A, cp, rfl⟩ := own_form hown
      have hz := hbel.size
      cases k with
      | zero =>
        rw [show (s.reverse.map (·.toNat)).take (32 - 0) = s.reverse.map (·.toNat) from List.take_of_length_le (by simp [HS.out])] at hown
        have hv := NatsAt.of_own hown (by omega)
        have R2 := Lib.hid ((hbel.block _ (row_lt R0.out)).trans R0.out)
        have b2 := ba.trans (hbel.mono ba.size)
        clear hown hbel R0 ba
        go_wp2_with fail
        refine (number_any _ _ wr hv (fun d hd => by
          obtain ⟨x, _, rfl⟩ := List.mem_map.1 hd
          exact x.toNat_lt) (by simp [HS.out])).mono ?_
        have hn : numR (s.reverse.map (·.toNat)) = (wnum s, true) := by
          have h := wnum_lt s HS.out
          show (if wnum s < 2 ^ 256 then (wnum s, true) else (0, false)) = _
          rw [if_pos h]
        rw [hn]
        rintro e w8 ⟨rfl, g8⟩
        have R8 := Lib.hid ((g8.block _ (row_lt R2.out)).trans R2.out)
        have b8 := b2.trans (g8.mono b2.size)
        clear g8 hv b2 R2 hn
        obtain ⟨X, hX⟩ : ∃ X, X = wnum s := ⟨_, rfl⟩
        rw [← hX]
        have EX := Lib.hid hX
        clear hX
        have z8 := row_lt R8.out
        have r9 := heap_alloc_new w8 (.cells (wcells 0).toArray 24)
        have q9 : ((w8.alloc (.cells (wcells 0).toArray 24)).setRow w8.heap.size (wcells X).toArray).heap[w.heap.size]? = some (.cells (wcells 0).toArray 24 (0, 0)) := (setRow_other (by omega)).trans ((Below.heap_alloc _ _ _ z8).trans R8.out)
        have R9 := Lib.hid r9
        have Q9 := Lib.hid q9
        clear r9 q9
        go_wp2_with (first
          | (refine wpList_store_row rfl 24 (.tmp 6) (.tmp 26) rfl w8.heap.size (wcells X).toArray rfl rfl 24 (wcells 0).toArray R9.out (infoW' _) rfl (ones_w _) ?_)
          | (refine wpList_load_row rfl 24 (.tmp 6) rfl w8.heap.size rfl 24 (wcells X).toArray (0, 0) _ (setRow_heap _ _ _ _ _ _ R9.out) Try.underlying24 rfl (infoW' _) ?_)
          | (refine wpList_store_row rfl 24 (.tmp 2) (.tmp 28) rfl w.heap.size (wcells X).toArray rfl rfl 24 (wcells 0).toArray Q9.out (infoW' _) rfl (ones_w _) ?_))
        rw [FB.out, ← EX.out]
        exact bodyPost_ret (v := .tuple #[aggN X, .int .i64 0]) (results_cell_tmp Try.results26 _ _ w.heap.size 24 _ _ _ _ rfl rfl (setRow_heap _ _ _ _ _ _ Q9.out) Try.underlying24 rfl (infoW' _)) rfl ⟨rfl, below_setRow (below_setRow (b8.alloc b8.size _) b8.size _) (Nat.le_refl _) _⟩
      | succ k =>
        have ek : ((k + 1 : Nat) : Int) - 1 = (k : Int) := by omega
        rw [ek]
        have ks : (k : Int) < s.length := by have := HS.out; omega
        have RT := Lib.hid (rev_take s k HS.out (by omega))
        have HL := Lib.hid (show 32 - (k + 1) + 1 = 32 - k by omega)
        have kl : k < s.length := by have := HS.out; omega
        obtain ⟨x, hx⟩ : ∃ x, s[k] = x := ⟨_, rfl⟩
        have ex : s.getD k 0 = x := by rw [← hx]; simp [kl]
        rw [ex] at RT
        have lx := x.toNat_lt
        clear ex ek
        generalize hn : 32 - (k + 1) = n at *
        have hn32 : n ≤ 32 := by omega
        clear hn
        obtain ⟨L, hL⟩ : ∃ L, L = (s.reverse.map (·.toNat)) := ⟨_, rfl⟩
        rw [← hL] at RT hown
        have EL := Lib.hid hL
        clear hL
        go_wp2_with (at_builtin; refine wpList_append_own _ rfl (.tmp 16) (.tmp 21) 51 rfl wa.heap.size 3 i0 (.int .i64 0) 1 8 Try.underlying51 hi hz0 hz1 hz2 rfl (by decide) (.slice A n cp) n (ncells (L.take n)) rfl (hown.alloc _) ⟨wr.heap.size, 0, none⟩ 1 1 [.int .i64 (x.toNat : Nat)] rfl rfl (World.news_of_block (cs := #[.int .i64 (x.toNat : Nat)]) (t := 3) (fr := (0, 0)) (heap_alloc_new wr _)) (by simp [Value.oneCell']) (by unfold maxLen; omega) (by omega) (by simp; omega) ?_; intro v' w6 hown6 hgrow _; rw [ncells_snoc, RT.out, HL.out] at hown6; have b6 : Below wa.heap.size wa w6 := (hbel.alloc hz _).grown hgrow (by simp; omega) (own_block_ge hown))
        go_roundw
        case rel => exact ⟨k, by omega, rfl, by rw [← EL.out]; exact hown6, b6⟩
        case measure => simp [intOf]
  · have hne : ((s.length : Int) != 32) = true := by simp; omega
    have FB := Lib.hid (show fromB s = (0, 10) from by rw [fromB, if_neg h32])
    go_enter Try.func26, Try.ntmps26
    have R0 := Lib.hid (heap_alloc_new w (.cells (wcells 0).toArray 24))
    go_wp2_with (refine wpList_store_row rfl 24 (.tmp 2) (.tmp 11) rfl w.heap.size (wcells 0).toArray rfl rfl 24 (wcells 0).toArray R0.out (infoW' _) rfl (ones_w _) ?_)
    rw [FB.out]
    exact bodyPost_ret (v := .tuple #[aggN 0, .int .i64 10]) (results_cell_tmp Try.results26 _ _ w.heap.size 24 _ _ _ _ rfl rfl (setRow_heap _ _ _ _ _ _ R0.out) Try.underlying24 rfl (infoW' _)) rfl ⟨rfl, below_setRow ((Below.refl _ _).alloc (Nat.le_refl _) _) (Nat.le_refl _) _⟩
end
end Go.Proofs.Ytppgpdckaaabeaa
