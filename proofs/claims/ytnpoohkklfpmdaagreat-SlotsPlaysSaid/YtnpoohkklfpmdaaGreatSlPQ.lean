/- SlPA: The program's marks: numbers in eight bytes.
   SlPB: The program's marks.
   SlPC: The program's marks read.
   SlPD: The program's log: sectors read. -/
import Derived.Test.YtnpoohkklfpmdaaGreatRows
import Derived.WalkKit
import Derived.Below
import Derived.ProofKit
import Derived.OpenShut
import Derived.ShutString
import Derived.ChangeOld
import Derived.Outline
import Derived.RegionTactic
import Derived.ChangeAlike
import Derived.BigRegion
import Derived.BigQuiet
import Derived.Deep.QuietTactic
import Derived.Deep.RegionWith
import Derived.Deep.RegionLaw
import Derived.Deep.RegionHeld3
import Derived.Deep.AppendLies
import Derived.Deep.Draws
import Derived.StillTailTactics
import Derived.Lib.Hide
import Derived.Lib.SmallJoins
import Derived.Handy
import Derived.WalkSpells
import Derived.WalkLawsBesides
import Derived.Deep.LoopGhost
import Derived.Deep.DeepCutAuto
import Derived.Deep.CutBlock
import Derived.Deep.CutRange
import Derived.Deep.OwnRows
import Derived.Laws.CopyOwn
import Derived.Great.BuildSlice
import Derived.Test.YtnpoohkklfpmdaaGreatRw
import Derived.Test.YtnpoohkklfpmdaaGreatSlPure
import Derived.Test.YtnpoohkklfpmdaaGreatSlI
import Derived.Test.YtnpoohkklfpmdaaGreatClone
import Derived.Test.YtnpoohkklfpmdaaGreatTlvK
/- SlPA -/
namespace Go.Proofs.YtnpoohkklfpmdaaGreat
open Go.RowKit
set_option linter.unusedSimpArgs false
set_option linter.unusedVariables false
set_option linter.unnecessarySimpa false
attribute [local go_sem] idx_list ext_list app_list
theorem beK_get : ∀ (k n i : Nat), i < k → (beK k n)[i]? = some (UInt8.ofNat (n >>> (8 * (k - 1 - i))))
  | 0, n, i, h => by omega
  | k + 1, n, i, h => by
    rw [beK]
    rcases Nat.lt_or_ge i k with q | q
    · rw [List.getElem?_append_left (by rw [beK_len]; exact q), beK_get k (n / 256) i q]
      congr 2
      rw [show n / 256 = n >>> 8 from by rw [Nat.shiftRight_eq_div_pow], ← Nat.shiftRight_add]
      congr 1; omega
    · obtain rfl : i = k := by omega
      rw [List.getElem?_append_right (by rw [beK_len]; exact Nat.le_refl _), beK_len]
      simp
theorem byte7_eq (n k : Nat) : (n : Int) / 2 ^ k % 256 = ((UInt8.ofNat (n >>> k)).toNat : Int) := by
  rw [UInt8.toNat_ofNat', Nat.shiftRight_eq_div_pow]; simp
theorem put_step {M B : List UInt8} {off k : Nat} {x : UInt8} (hM : off + k < M.length) (hx : B[k]? = some x) : (M.take off ++ (B.take k ++ M.drop (off + k))).set (off + k) x = M.take off ++ (B.take (k + 1) ++ M.drop (off + (k + 1))) := by
  have hk : k < B.length := (List.getElem?_eq_some_iff.1 hx).1
  have hl : (M.take off).length = off := by rw [List.length_take]; omega
  have hb : (B.take k).length = k := by rw [List.length_take]; omega
  rw [List.set_append_right _ _ (by omega), hl, List.set_append_right _ _ (by omega), hb, show off + k - off - k = 0 from by omega, List.drop_eq_getElem_cons hM, List.set_cons_zero, List.take_add_one, hx, show off + (k + 1) = off + k + 1 from rfl]
  simp
theorem put_len {M B : List UInt8} {off k : Nat} (hM : off + k ≤ M.length) (hk : k ≤ B.length) : (M.take off ++ (B.take k ++ M.drop (off + k))).length = M.length := by
  simp [List.length_take]; omega
/-- 'put(s, n)': eight bytes. -/
theorem pPut_any (b off c : Nat) (M : List UInt8) (n : Nat) (w : World) (hr : Rw w b (bcells M) 79) (hM : M.length = 64) (ho : off + 8 ≤ 64) (hn : n < 4611686018427387904) :
    Calls Tryz.prog 42 #[.slice (some ⟨b, off, none⟩) (64 - off) c, .int .i64 n] w fun e w' => e = .returned (.tuple #[]) ∧ Rw w' b (bcells (M.take off ++ (beK 8 n ++ M.drop (off + 8)))) 79 ∧ Fr [b] w w' := by
  obtain ⟨ln, hln⟩ : ∃ ln : Nat, ln = 64 - off := ⟨_, rfl⟩
  have hl8 : 8 ≤ ln := by omega
  have hlI : (8 : Int) ≤ ln := by omega
  have hlI2 : (ln : Int) ≤ 64 := by omega
  rw [← hln]
  have hnI : (n : Int) < 4611686018427387904 := by omega
  have e0 : M.take off ++ ((beK 8 n).take 0 ++ M.drop (off + 0)) = M := by simp
  have h0 : Rw w b (bcells (M.take off ++ ((beK 8 n).take 0 ++ M.drop (off + 0)))) 79 := by rw [e0]; exact hr
  have HM := Lib.hid hM
  have H0 := Lib.hid h0
  clear hln e0 hM h0 hr
  go_enter Tryz.func42, Tryz.ntmps42
  go_wp2
  go_loopw [5] (fun i wr => ∃ k : Nat, k ≤ 8 ∧ i = .int .i64 k ∧ Hid (Rw wr b (bcells (M.take off ++ ((beK 8 n).take k ++ M.drop (off + k)))) 79) ∧ Fr [b] w wr) (fun i _ => 8 - (intOf i).toNat)
  case atStart => exact ⟨0, by omega, rfl, H0, Fr.refl _ _⟩
  case round =>
    obtain ⟨k, hk, rfl, hR, hF⟩ := hrel
    have hbl := beK_len 8 n
    by_cases hlt : k < 8
    · have kk : (k : Int) < 8 := by omega
      have hlen : (M.take off ++ ((beK 8 n).take k ++ M.drop (off + k))).length = 64 := by rw [put_len (by rw [HM.out]; omega) (by omega)]; exact HM.out
      have c0 := hR.out.c (off + k) (bcells_get (by rw [hlen]; omega))
      have f0 := hR.out.f (off + k)
      have hst := put_step (M := M) (B := beK 8 n) (off := off) (k := k) (by rw [HM.out]; omega) (beK_get 8 n k hlt)
      have HS := Lib.hid hst
      have h3 : (k : Int) < ln := by omega
      generalize (M.take off ++ ((beK 8 n).take k ++ M.drop (off + k))).getD (off + k) 0 = z at c0
      clear hst hlen hbl
      go_wp2
      go_roundw
      case rel =>
        refine ⟨k + 1, by omega, by go_num, Lib.hid ?_, hF.setCell (.inl (by simp)) _⟩
        rw [← HS.out, ← bcells_set, ← byte7_eq]
        exact hR.out.set _ _
      case measure => simp [intOf]; omega
    · obtain rfl : k = 8 := by omega
      rw [show (beK 8 n).take 8 = beK 8 n from List.take_of_length_le (by omega)] at hR
      clear hbl
      go_wp2
      go_end0
      exact ⟨rfl, hR.out, hF⟩
end Go.Proofs.YtnpoohkklfpmdaaGreat
/- SlPB -/
namespace Go.Proofs.YtnpoohkklfpmdaaGreat
open Go.RowKit
set_option linter.unusedSimpArgs false
set_option linter.unusedVariables false
set_option linter.unnecessarySimpa false
attribute [local go_sem] idx_list ext_list app_list
theorem run_max0 {P : Program} (ts : Array TypeId) (t : TypeId) (x : Nat) (w : World) : (Builtin.max_ ts t #[.int .i64 (x : Nat), .int .i64 0]).run P w = .ok (.int .i64 (x : Nat)) w := by
  rw [run_max_int2, if_neg (by omega)]
theorem ix3 (a b c : Nat) (w : World) : (Instr.index 81 (.agg #[.int .i64 (a : Nat), .int .i64 (b : Nat), .int .i64 (c : Nat)]) (.int .i64 0)).run Tryz.prog w = .ok (.int .i64 (a : Nat)) w := by kernel_rfl
theorem ix3b (a b c : Nat) (w : World) : (Instr.index 81 (.agg #[.int .i64 (a : Nat), .int .i64 (b : Nat), .int .i64 (c : Nat)]) (.int .i64 1)).run Tryz.prog w = .ok (.int .i64 (b : Nat)) w := by kernel_rfl
theorem ix3c (a b c : Nat) (w : World) : (Instr.index 81 (.agg #[.int .i64 (a : Nat), .int .i64 (b : Nat), .int .i64 (c : Nat)]) (.int .i64 2)).run Tryz.prog w = .ok (.int .i64 (c : Nat)) w := by kernel_rfl
theorem szNums : (Tryz.prog.info? 81).map (·.size) = some 3 := by kernel_rfl
theorem szMark : (Tryz.prog.info? 51).map (·.size) = some 3 := by kernel_rfl
def ncs (a b c : Nat) : List Value := [.int .i64 (a : Nat), .int .i64 (b : Nat), .int .i64 (c : Nat)]
set_option maxHeartbeats 1000000 in
theorem pNums_any (m : Mk) (w : World) (h1 : m.ep < 4611686018427387904) (h2 : m.sz < 4611686018427387904) (h3 : m.ct < 4611686018427387904) :
    Calls Tryz.prog 41 #[mkV m] w fun e w' => e = .returned (mkV m) ∧ Below w.heap.size w w' := by
  obtain ⟨a, b, c⟩ := m
  simp only at h1 h2 h3
  rw [show mkV ⟨a, b, c⟩ = .agg #[.int .i64 (a : Nat), .int .i64 (b : Nat), .int .i64 (c : Nat)] from rfl]
  have ha : (a : Int) < 4611686018427387904 := by omega
  have hb : (b : Int) < 4611686018427387904 := by omega
  have hc : (c : Int) < 4611686018427387904 := by omega
  clear h1 h2 h3
  have hmx := fun ts t (x : Nat) w => run_max0 (P := Tryz.prog) ts t x w
  have i0 := ix3 a b c
  have i1 := ix3b a b c
  have i2 := ix3c a b c
  go_enter Tryz.func41, Tryz.ntmps41
  go_wp2
  have hr0 : Rw (((w.alloc (.cells #[.int .i64 (a : Nat), .int .i64 (b : Nat), .int .i64 (c : Nat)] 51)).alloc (.cells #[.int .i64 0, .int .i64 0, .int .i64 0] 81)).alloc (.cells #[.int .i64 (a : Nat), .int .i64 (b : Nat), .int .i64 (c : Nat)] 81)) (w.heap.size + 1 + 1) (ncs a b c) 81 := by
    have := Rw.new ((w.alloc (.cells #[.int .i64 (a : Nat), .int .i64 (b : Nat), .int .i64 (c : Nat)] 51)).alloc (.cells #[.int .i64 0, .int .i64 0, .int .i64 0] 81)) (ncs a b c) 81
    simpa [ncs] using this
  have hr1 : Rw (((w.alloc (.cells #[.int .i64 (a : Nat), .int .i64 (b : Nat), .int .i64 (c : Nat)] 51)).alloc (.cells #[.int .i64 0, .int .i64 0, .int .i64 0] 81)).alloc (.cells #[.int .i64 (a : Nat), .int .i64 (b : Nat), .int .i64 (c : Nat)] 81)) (w.heap.size + 1) (ncs 0 0 0) 81 := by
    have := (Rw.new (w.alloc (.cells #[.int .i64 (a : Nat), .int .i64 (b : Nat), .int .i64 (c : Nat)] 51)) (ncs 0 0 0) 81).alloc (.cells #[.int .i64 (a : Nat), .int .i64 (b : Nat), .int .i64 (c : Nat)] 81)
    simpa [ncs] using this
  have hb0 : Below w.heap.size w (((w.alloc (.cells #[.int .i64 (a : Nat), .int .i64 (b : Nat), .int .i64 (c : Nat)] 51)).alloc (.cells #[.int .i64 0, .int .i64 0, .int .i64 0] 81)).alloc (.cells #[.int .i64 (a : Nat), .int .i64 (b : Nat), .int .i64 (c : Nat)] 81)) := (((Below.refl _ _).alloc (Nat.le_refl _) _).alloc (by simp) _).alloc (by simp; omega) _
  go_loopw [14] (fun i wr => ∃ k : Nat, k ≤ 3 ∧ i = .int .i64 k ∧ Hid (Rw wr (w.heap.size + 1 + 1) (ncs a b c) 81) ∧ Hid (Rw wr (w.heap.size + 1) (ncs 0 0 0) 81) ∧ Below w.heap.size w wr) (fun i _ => 3 - (intOf i).toNat)
  case atStart => exact ⟨0, by omega, rfl, Lib.hid hr0, Lib.hid hr1, hb0⟩
  case round =>
    clear hr0 hr1 hb0
    obtain ⟨k, hk, rfl, hR, hR1, hB⟩ := hrel
    have c0 := hR.out.c 0 (v := .int .i64 (a : Nat)) rfl
    have c1 := hR.out.c 1 (v := .int .i64 (b : Nat)) rfl
    have c2 := hR.out.c 2 (v := .int .i64 (c : Nat)) rfl
    have f0 := hR.out.f 0
    have f1 := hR.out.f 1
    have f2 := hR.out.f 2
    by_cases hlt : k < 3
    · obtain rfl | rfl | rfl : k = 0 ∨ k = 1 ∨ k = 2 := by omega
      · go_wp2
        go_roundw
        case rel => exact ⟨1, by omega, rfl, Lib.hid (hR.out.set 0 (.int .i64 (a : Nat))), Lib.hid (hR1.out.other (by simp) _), hB.setCell (by simp; omega) _⟩
        case measure => simp [intOf]
      · go_wp2
        go_roundw
        case rel => exact ⟨2, by omega, rfl, Lib.hid (hR.out.set 1 (.int .i64 (b : Nat))), Lib.hid (hR1.out.other (by simp) _), hB.setCell (by simp; omega) _⟩
        case measure => simp [intOf]
      · go_wp2
        go_roundw
        case rel => exact ⟨3, by omega, rfl, Lib.hid (hR.out.set 2 (.int .i64 (c : Nat))), Lib.hid (hR1.out.other (by simp) _), hB.setCell (by simp; omega) _⟩
        case measure => simp [intOf]
    · obtain rfl : k = 3 := by omega
      have d0 := hR1.out.c 0 (v := .int .i64 ((0 : Nat) : Int)) rfl
      have d1 := hR1.out.c 1 (v := .int .i64 ((0 : Nat) : Int)) rfl
      have d2 := hR1.out.c 2 (v := .int .i64 ((0 : Nat) : Int)) rfl
      have g0 := hR1.out.f 0
      have g1 := hR1.out.f 1
      have g2 := hR1.out.f 2
      go_wp2
      have q0 : Rw _ _ [.int .i64 (a : Nat), .int .i64 (b : Nat), .int .i64 (c : Nat)] _ := ((hR1.out.set 0 (.int .i64 (a : Nat))).set 1 (.int .i64 (b : Nat))).set 2 (.int .i64 (c : Nat))
      exact bodyPost_ret (v := .agg #[.int .i64 (a : Nat), .int .i64 (b : Nat), .int .i64 (c : Nat)]) (results_cell_row Tryz.results41 _ _ (w.heap.size + 1) 81 _ _ _ rfl q0 Tryz.underlying81 rfl szNums) rfl ⟨rfl, ((hB.setCell (by simp) _).setCell (by simp) _).setCell (by simp) _⟩
theorem pMark_any (a b c : Nat) (w : World) :
    Calls Tryz.prog 44 #[.agg #[.int .i64 (a : Nat), .int .i64 (b : Nat), .int .i64 (c : Nat)]] w fun e w' => e = .returned (.agg #[.int .i64 (a : Nat), .int .i64 (b : Nat), .int .i64 (c : Nat)]) ∧ Below w.heap.size w w' := by
  go_enter Tryz.func44, Tryz.ntmps44
  go_wp2
  exact bodyPost_ret (v := .agg #[.int .i64 (a : Nat), .int .i64 (b : Nat), .int .i64 (c : Nat)]) (by simp [results, Tryz.results44, go_sem]) rfl ⟨rfl, ((Below.refl _ _).alloc (Nat.le_refl _) _).alloc (by simp) _⟩
/-- A mark's sector as it fills. -/
def XP (a b c : Nat) : Nat → List UInt8
  | 0 => List.replicate 64 0
  | 1 => beK 8 a ++ List.replicate 56 0
  | 2 => beK 8 a ++ (beK 8 b ++ List.replicate 48 0)
  | _ => beK 8 a ++ (beK 8 b ++ (beK 8 c ++ List.replicate 40 0))
theorem XP_len (a b c k : Nat) : (XP a b c k).length = 64 := by
  unfold XP; split <;> simp [beK_len]
theorem XP_0 (a b c : Nat) : (XP a b c 0).take 0 ++ (beK 8 a ++ (XP a b c 0).drop (0 + 8)) = XP a b c 1 := by simp [XP]
theorem XP_1 (a b c : Nat) : (XP a b c 1).take 8 ++ (beK 8 b ++ (XP a b c 1).drop (8 + 8)) = XP a b c 2 := by
  have h := beK_len 8 a
  simp [XP, List.take_append, List.drop_append, h, List.take_of_length_le, List.drop_of_length_le]
theorem XP_2 (a b c : Nat) : (XP a b c 2).take 16 ++ (beK 8 c ++ (XP a b c 2).drop (16 + 8)) = XP a b c 3 := by
  have h := beK_len 8 a
  have h2 := beK_len 8 b
  simp [XP, List.take_append, List.drop_append, h, h2, List.take_of_length_le, List.drop_of_length_le]
theorem XP_3 (a b c : Nat) : (XP a b c 3).take 56 ++ (beK 8 a ++ (XP a b c 3).drop (56 + 8)) = packM ⟨a, b, c⟩ := by
  have h := beK_len 8 a
  have h2 := beK_len 8 b
  have h3 := beK_len 8 c
  simp [XP, packM, List.take_append, List.drop_append, h, h2, h3, List.take_of_length_le, List.drop_of_length_le]
set_option maxHeartbeats 1000000 in
set_option maxRecDepth 100000 in
theorem pPack_any (m : Mk) (w : World) (h1 : m.ep < 4611686018427387904) (h2 : m.sz < 4611686018427387904) (h3 : m.ct < 4611686018427387904) :
    Calls Tryz.prog 23 #[mkV m] w fun e w' => e = .returned (.string ⟨(packM m).toArray⟩) ∧ Below w.heap.size w w' := by
  obtain ⟨a, b, c⟩ := m
  have hn := fun w => pNums_any ⟨a, b, c⟩ w h1 h2 h3
  simp only at h1 h2 h3
  rw [show mkV ⟨a, b, c⟩ = .agg #[.int .i64 (a : Nat), .int .i64 (b : Nat), .int .i64 (c : Nat)] from rfl] at hn ⊢
  have i0 := ix3 a b c
  have i1 := ix3b a b c
  have i2 := ix3c a b c
  obtain ⟨w0, hw0⟩ : ∃ w0, w0 = (w.alloc (.cells #[.int .i64 (a : Nat), .int .i64 (b : Nat), .int .i64 (c : Nat)] 51)).alloc (.cells (bcells (XP a b c 0)).toArray 79) := ⟨_, rfl⟩
  have b0 : Below w.heap.size w w0 := by rw [hw0]; exact ((Below.refl _ _).alloc (Nat.le_refl _) _).alloc (by simp) _
  have r0 : Rw w0 (w.heap.size + 1) (bcells (XP a b c 0)) 79 := by
    have := Rw.new (w.alloc (.cells #[.int .i64 (a : Nat), .int .i64 (b : Nat), .int .i64 (c : Nat)] 51)) (bcells (XP a b c 0)) 79
    rw [hw0]; simpa using this
  have z0 : w.heap.size + 1 < w0.heap.size := r0.lt
  have HN := Lib.hid hn
  have B0 := Lib.hid b0
  have R0 := Lib.hid r0
  have HW := Lib.hid hw0
  clear b0 r0 hn hw0
  go_enter Tryz.func23, Tryz.ntmps23
  go_wp2_with fail
  refine (HN.out _).mono ?_
  rintro e w1 ⟨rfl, g1⟩
  have g1' : Below w0.heap.size w0 w1 := by rw [HW.out]; exact g1
  have R1 := Lib.hid (R0.out.below g1')
  have B1 := Lib.hid (B0.out.trans (g1'.mono B0.out.size))
  have z1 : w.heap.size + 1 < w1.heap.size := Nat.lt_of_lt_of_le z0 g1'.size
  clear g1 g1' HN R0 B0 HW z0
  obtain ⟨g, hg⟩ : ∃ g, g = w1.heap.size := ⟨_, rfl⟩
  have RG := Lib.hid (Rw.new w1 (ncs a b c) 81)
  have RP := Lib.hid (R1.out.alloc (.cells (ncs a b c).toArray 81))
  have BA := Lib.hid (B1.out.alloc B1.out.size (.cells (ncs a b c).toArray 81))
  go_wp2_with fail
  rw [← hg] at RG ⊢
  have gne : g ≠ w.heap.size + 1 := by omega
  have gge : w.heap.size ≤ g := by have := B1.out.size; omega
  clear R1 B1 z1 hg
  go_loopw [10] (fun i wr => ∃ k : Nat, k ≤ 3 ∧ i = .int .i64 k ∧ Hid (Rw wr (w.heap.size + 1) (bcells (XP a b c k)) 79) ∧ Hid (Rw wr g (ncs a b c) 81) ∧ Below w.heap.size w wr) (fun i _ => 3 - (intOf i).toNat)
  case atStart => exact ⟨0, by omega, rfl, RP, RG, BA.out⟩
  case round =>
    clear RG RP BA
    obtain ⟨k, hk, rfl, hR, hG, hB⟩ := hrel
    by_cases hlt : k < 3
    · obtain rfl | rfl | rfl : k = 0 ∨ k = 1 ∨ k = 2 := by omega
      · go_wp2_with fail
        refine (pPut_any (w.heap.size + 1) 0 _ (XP a b c 0) a wr hR.out (XP_len _ _ _ _) (by omega) h1).mono ?_
        rintro e w2 ⟨rfl, t2, f2⟩
        rw [XP_0] at t2
        have T2 := Lib.hid t2
        clear t2
        go_wp2
        go_roundw
        case rel => exact ⟨1, by omega, rfl, T2, Lib.hid (hG.out.fr f2 (by simpa using gne)), hB.trans (f2.below hB.size (by simp))⟩
        case measure => simp [intOf]
      · go_wp2_with fail
        refine (pPut_any (w.heap.size + 1) 8 _ (XP a b c 1) b wr hR.out (XP_len _ _ _ _) (by omega) h2).mono ?_
        rintro e w2 ⟨rfl, t2, f2⟩
        rw [XP_1] at t2
        have T2 := Lib.hid t2
        clear t2
        go_wp2
        go_roundw
        case rel => exact ⟨2, by omega, rfl, T2, Lib.hid (hG.out.fr f2 (by simpa using gne)), hB.trans (f2.below hB.size (by simp))⟩
        case measure => simp [intOf]
      · go_wp2_with fail
        refine (pPut_any (w.heap.size + 1) 16 _ (XP a b c 2) c wr hR.out (XP_len _ _ _ _) (by omega) h3).mono ?_
        rintro e w2 ⟨rfl, t2, f2⟩
        rw [XP_2] at t2
        have T2 := Lib.hid t2
        clear t2
        go_wp2
        go_roundw
        case rel => exact ⟨3, by omega, rfl, T2, Lib.hid (hG.out.fr f2 (by simpa using gne)), hB.trans (f2.below hB.size (by simp))⟩
        case measure => simp [intOf]
    · obtain rfl : k = 3 := by omega
      have c0 := hG.out.c 0 (v := .int .i64 (a : Nat)) rfl
      go_wp2
      go_still_tail 3, (by kernel_rfl)
      change wpList _ _ _ _ _ wr.drew
      have hb4 : Below w.heap.size w wr.drew := hB.drew
      have hR4 : Rw wr.drew (w.heap.size + 1) (bcells (XP a b c 3)) 79 := hR.out
      generalize wr.drew = w4 at *
      clear c0 hG hR hB
      go_wp2_with fail
      refine (pPut_any (w.heap.size + 1) 56 _ (XP a b c 3) a w4 hR4 (XP_len _ _ _ _) (by omega) h1).mono ?_
      rintro e w5 ⟨rfl, t5, f5⟩
      rw [XP_3] at t5
      have hconv := run_b2s_tail (P := Tryz.prog) w5 43 9 5 (w.heap.size + 1) 0 64 64 (.int .u8 0) (packM ⟨a, b, c⟩) 79 (0, 0) Tryz.underlying43 Tryz.underlying5 Tryz.underlying9 (by exact t5) (by rw [packM_len])
      have b5 := hb4.trans (f5.below hb4.size (by simp))
      have B5 := Lib.hid b5
      clear t5 hb4 b5 hR4
      go_wp2
      go_ret
      exact ⟨rfl, B5.out⟩
end Go.Proofs.YtnpoohkklfpmdaaGreat
/- SlPC -/
namespace Go.Proofs.YtnpoohkklfpmdaaGreat
open Go.RowKit
set_option linter.unusedSimpArgs false
set_option linter.unusedVariables false
set_option linter.unnecessarySimpa false
attribute [local go_sem] idx_list ext_list app_list
theorem be7_lt (s : List UInt8) (k : Nat) (h : k < 8) : be (s.take k) < 72057594037927936 := by
  have h1 := be_lt (s.take k)
  have h2 : (s.take k).length ≤ 7 := by rw [List.length_take]; omega
  have h3 := Nat.pow_le_pow_right (n := 256) (by decide) h2
  have : (256 : Nat) ^ 7 = 72057594037927936 := by decide
  omega
/-- 'take(s)': the number in the first eight bytes. -/
theorem pTake_any (s : List UInt8) (w : World) (h8 : 8 ≤ s.length) (hl : (s.length : Int) ≤ 9223372036854775807) :
    Calls Tryz.prog 43 #[.string ⟨s.toArray⟩] w fun e w' => e = .returned (.int .u64 (be (s.take 8) : Nat)) ∧ w = w' := by
  have h8I : (8 : Int) ≤ s.length := by omega
  go_enter Tryz.func43, Tryz.ntmps43
  go_wp2
  go_loop [3, 5] (fun n i => ∃ k : Nat, k ≤ 8 ∧ i = .int .i64 k ∧ n = .int .u64 (be (s.take k) : Nat)) (fun _ i => 8 - (intOf i).toNat)
  case atStart => exact ⟨0, by omega, rfl, rfl⟩
  case round =>
    obtain ⟨k, hk, rfl, rfl⟩ := hrel
    by_cases hlt : k < 8
    · have kk : (k : Int) < 8 := by omega
      have hks : k < s.length := by omega
      have hkI : (k : Int) < s.length := by omega
      have hb := be7_lt s k hlt
      have e := be_take_succ s k s[k] (List.getElem?_eq_getElem hks)
      have hx := s[k].toNat_lt
      have ho := lor_u64 (be (s.take k)) s[k].toNat hb hx
      have E := Lib.hid e
      obtain ⟨B, hB⟩ : ∃ B, B = be (s.take k) := ⟨_, rfl⟩
      rw [← hB] at ho hb ⊢
      have HB := Lib.hid hB
      have hbI : (B : Int) < 72057594037927936 := by omega
      clear e hB
      go_wp2
      go_round
      case rel => exact ⟨k + 1, by omega, by go_num, by rw [E.out, ← HB.out]; go_num⟩
      case measure => simp [intOf]; omega
    · obtain rfl : k = 8 := by omega
      go_wp2
      go_ret
      exact ⟨rfl, rfl⟩
/-- The number in a mark's sector with number i. -/
def vat (s : List UInt8) (i : Nat) : Nat := be ((s.drop (8 * i)).take 8)
theorem readM_vat (s : List UInt8) : readM s = ⟨vat s 0, vat s 1, vat s 2⟩ := rfl
def Nk (s : List UInt8) : Nat → Mk
  | 0 => ⟨0, 0, 0⟩
  | 1 => ⟨vat s 0, 0, 0⟩
  | 2 => ⟨vat s 0, vat s 1, 0⟩
  | _ => ⟨vat s 0, vat s 1, vat s 2⟩
theorem be0 : be (beK 8 0) = 0 := by decide
def Stp (s : List UInt8) (N : Mk) : Prop := N.Ok ∧ unpackM s = if packM N = s then some N else none
theorem stp_no {s : List UInt8} {N : Mk} (h : ¬ (readM s).Ok) (ho : N.Ok) (hp : packM N ≠ s) : Stp s N := by
  refine ⟨ho, ?_⟩
  rw [if_neg hp]
  unfold unpackM
  rw [if_neg (fun q => h q.2.1)]
theorem stp_0 {s : List UInt8} (h : 1099511627776 < vat s 0) : Stp s (Nk s 0) := by
  refine stp_no (fun q => by have := q.1; rw [readM_vat] at this; simp only at this; omega) ⟨by simp [Nk], by simp [Nk], by simp [Nk]⟩ (fun e => ?_)
  have h1 := congrArg (fun l => be (l.take 8)) e
  simp only [packM_ep, Nk, be0] at h1
  have : vat s 0 = be (s.take 8) := rfl
  omega
theorem stp_1 {s : List UInt8} (h0 : vat s 0 ≤ 1099511627776) (h : 1099511627776 < vat s 1) : Stp s (Nk s 1) := by
  refine stp_no (fun q => by have := q.2.1; rw [readM_vat] at this; simp only at this; omega) ⟨by simp [Nk]; omega, by simp [Nk], by simp [Nk]⟩ (fun e => ?_)
  have h1 := congrArg (fun l => be ((l.drop 8).take 8)) e
  simp only [packM_sz, Nk, be0] at h1
  have : vat s 1 = be ((s.drop 8).take 8) := rfl
  omega
theorem stp_2 {s : List UInt8} (h0 : vat s 0 ≤ 1099511627776) (h1 : vat s 1 ≤ 1099511627776) (h : 1099511627776 < vat s 2) : Stp s (Nk s 2) := by
  refine stp_no (fun q => by have := q.2.2; rw [readM_vat] at this; simp only at this; omega) ⟨by simp [Nk]; omega, by simp [Nk]; omega, by simp [Nk]⟩ (fun e => ?_)
  have h1 := congrArg (fun l => be ((l.drop 16).take 8)) e
  simp only [packM_ct, Nk, be0] at h1
  have : vat s 2 = be ((s.drop 16).take 8) := rfl
  omega
theorem stp_3 {s : List UInt8} (hs : s.length = 64) (h0 : vat s 0 ≤ 1099511627776) (h1 : vat s 1 ≤ 1099511627776) (h2 : vat s 2 ≤ 1099511627776) : Stp s (Nk s 3) := by
  have ho : (readM s).Ok := ⟨h0, h1, h2⟩
  refine ⟨ho, ?_⟩
  unfold unpackM
  rw [show Nk s 3 = readM s from rfl]
  by_cases hp : packM (readM s) = s
  · rw [if_pos ⟨hs, ho, hp⟩, if_pos hp]
  · rw [if_neg (fun q => hp q.2.2), if_neg hp]
theorem stp_mk {s : List UInt8} {N : Mk} (h : Stp s N) : (packM N = s → unpackM s = some N) ∧ (packM N ≠ s → unpackM s = none) := ⟨fun e => by rw [h.2, if_pos e], fun e => by rw [h.2, if_neg e]⟩
set_option maxRecDepth 100000 in
set_option maxHeartbeats 1000000 in
theorem pUnpack_any (s : List UInt8) (w : World) (hl : (s.length : Int) ≤ 9223372036854775807) :
    Calls Tryz.prog 24 #[.string ⟨s.toArray⟩] w fun e w' => e = .returned (.tuple #[mkV (mkO s), .bool (unpackM s).isSome]) ∧ Below w.heap.size w w' := by
  by_cases h64 : s.length = 64
  · have hlI : (s.length : Int) = 64 := by omega
    have HT : Hid (s.take 64 = s) := Lib.hid (List.take_of_length_le (by omega))
    go_enter Tryz.func24, Tryz.ntmps24
    go_wp2
    go_step3
    go_wp2
    go_step3
    go_upto_block 0 with (fail)
    go_cut [] (fun wx => ∃ N : Mk, Hid (Rw wx (w.heap.size + 1) (ncs N.ep N.sz N.ct) 81) ∧ Hid (Rw wx w.heap.size (ncs 0 0 0) 51) ∧ Below w.heap.size w wx ∧ Hid (Stp s N))
    case first =>
      have hR0 : Rw ((w.alloc (.cells #[.int .i64 0, .int .i64 0, .int .i64 0] 51)).alloc (.cells #[.int .i64 0, .int .i64 0, .int .i64 0] 81)) (w.heap.size + 1) (ncs (Nk s 0).ep (Nk s 0).sz (Nk s 0).ct) 81 := by
        have := Rw.new (w.alloc (.cells #[.int .i64 0, .int .i64 0, .int .i64 0] 51)) (ncs 0 0 0) 81
        rw [World.size_alloc] at this
        exact this
      have hM0 : Rw ((w.alloc (.cells #[.int .i64 0, .int .i64 0, .int .i64 0] 51)).alloc (.cells #[.int .i64 0, .int .i64 0, .int .i64 0] 81)) w.heap.size (ncs 0 0 0) 51 := (Rw.new w (ncs 0 0 0) 51).alloc _
      have hb0 : Below w.heap.size w ((w.alloc (.cells #[.int .i64 0, .int .i64 0, .int .i64 0] 51)).alloc (.cells #[.int .i64 0, .int .i64 0, .int .i64 0] 81)) := ((Below.refl _ _).alloc (Nat.le_refl _) _).alloc (by simp) _
      have HR0 := Lib.hid hR0
      have HM0 := Lib.hid hM0
      clear hR0 hM0
      go_wp2
      go_loopw [12] (fun i wr => ∃ k : Nat, k ≤ 3 ∧ i = .int .i64 k ∧ Hid (Rw wr (w.heap.size + 1) (ncs (Nk s k).ep (Nk s k).sz (Nk s k).ct) 81) ∧ Hid (Rw wr w.heap.size (ncs 0 0 0) 51) ∧ Below w.heap.size w wr ∧ Hid (∀ j, j < k → vat s j ≤ 1099511627776)) (fun i _ => 3 - (intOf i).toNat)
      case atStart => exact ⟨0, by omega, rfl, HR0, HM0, hb0, Lib.hid (fun j hj => by omega)⟩
      case round =>
        clear HR0 HM0 hb0
        obtain ⟨k, hk, rfl, hR, hM, hB, hO⟩ := hrel
        obtain rfl | rfl | rfl | rfl : k = 0 ∨ k = 1 ∨ k = 2 ∨ k = 3 := by omega
        · have c0 := hR.out.c 0 (v := .int .i64 ((0 : Nat) : Int)) rfl
          have f0 := hR.out.f 0
          obtain ⟨V, hV⟩ : ∃ V, V = vat s 0 := ⟨_, rfl⟩
          have hc : Calls Tryz.prog 43 #[.string ⟨(s.drop 0).toArray⟩] wr fun e w' => e = .returned (.int .u64 (V : Nat)) ∧ wr = w' := by
            rw [hV]; exact pTake_any (s.drop 0) wr (by rw [List.length_drop, h64]; omega) (by rw [List.length_drop]; omega)
          have HV := Lib.hid hV
          clear hV
          go_wp2_with fail
          rw [List.drop_zero] at hc
          rw [HT.out]
          with_reducible refine hc.mono ?_
          rintro e w' ⟨rfl, rfl⟩
          by_cases hle : V ≤ 1099511627776
          · have hI : (V : Int) ≤ 1099511627776 := by omega
            go_wp2
            go_roundw
            case rel => exact ⟨1, by omega, rfl, Lib.hid (by rw [HV.out]; exact hR.out.set 0 _), Lib.hid (hM.out.other (by simp) _), hB.setCell (by simp) _, Lib.hid (fun j hj => by
              rcases Nat.lt_or_ge j 0 with q | q
              · exact hO.out j q
              · obtain rfl : j = 0 := by omega
                rw [← HV.out]; exact hle)⟩
            case measure => simp [intOf]
          · have hI : ¬ ((V : Int) ≤ 1099511627776) := by omega
            have hI2 : (1099511627776 : Int) < V := by omega
            go_wp2
            go_meet
            exact ⟨Nk s 0, hR, hM, hB, Lib.hid (stp_0 (by rw [← HV.out]; omega))⟩
        · have c1 := hR.out.c 1 (v := .int .i64 ((0 : Nat) : Int)) rfl
          have f1 := hR.out.f 1
          obtain ⟨V, hV⟩ : ∃ V, V = vat s 1 := ⟨_, rfl⟩
          have hc : Calls Tryz.prog 43 #[.string ⟨(s.drop 8).toArray⟩] wr fun e w' => e = .returned (.int .u64 (V : Nat)) ∧ wr = w' := by
            rw [hV]; exact pTake_any (s.drop 8) wr (by rw [List.length_drop, h64]; omega) (by rw [List.length_drop]; omega)
          have HV := Lib.hid hV
          clear hV
          go_wp2_with fail
          rw [HT.out]
          with_reducible refine hc.mono ?_
          rintro e w' ⟨rfl, rfl⟩
          by_cases hle : V ≤ 1099511627776
          · have hI : (V : Int) ≤ 1099511627776 := by omega
            go_wp2
            go_roundw
            case rel => exact ⟨2, by omega, rfl, Lib.hid (by rw [HV.out]; exact hR.out.set 1 _), Lib.hid (hM.out.other (by simp) _), hB.setCell (by simp) _, Lib.hid (fun j hj => by
              rcases Nat.lt_or_ge j 1 with q | q
              · exact hO.out j q
              · obtain rfl : j = 1 := by omega
                rw [← HV.out]; exact hle)⟩
            case measure => simp [intOf]
          · have hI : ¬ ((V : Int) ≤ 1099511627776) := by omega
            have hI2 : (1099511627776 : Int) < V := by omega
            go_wp2
            go_meet
            exact ⟨Nk s 1, hR, hM, hB, Lib.hid (stp_1 (by have := hO.out 0 (by omega); exact this) (by rw [← HV.out]; omega))⟩
        · have c2 := hR.out.c 2 (v := .int .i64 ((0 : Nat) : Int)) rfl
          have f2 := hR.out.f 2
          obtain ⟨V, hV⟩ : ∃ V, V = vat s 2 := ⟨_, rfl⟩
          have hc : Calls Tryz.prog 43 #[.string ⟨(s.drop 16).toArray⟩] wr fun e w' => e = .returned (.int .u64 (V : Nat)) ∧ wr = w' := by
            rw [hV]; exact pTake_any (s.drop 16) wr (by rw [List.length_drop, h64]; omega) (by rw [List.length_drop]; omega)
          have HV := Lib.hid hV
          clear hV
          go_wp2_with fail
          rw [HT.out]
          with_reducible refine hc.mono ?_
          rintro e w' ⟨rfl, rfl⟩
          by_cases hle : V ≤ 1099511627776
          · have hI : (V : Int) ≤ 1099511627776 := by omega
            go_wp2
            go_roundw
            case rel => exact ⟨3, by omega, rfl, Lib.hid (by rw [HV.out]; exact hR.out.set 2 _), Lib.hid (hM.out.other (by simp) _), hB.setCell (by simp) _, Lib.hid (fun j hj => by
              rcases Nat.lt_or_ge j 2 with q | q
              · exact hO.out j q
              · obtain rfl : j = 2 := by omega
                rw [← HV.out]; exact hle)⟩
            case measure => simp [intOf]
          · have hI : ¬ ((V : Int) ≤ 1099511627776) := by omega
            have hI2 : (1099511627776 : Int) < V := by omega
            go_wp2
            go_meet
            exact ⟨Nk s 2, hR, hM, hB, Lib.hid (stp_2 (by have := hO.out 0 (by omega); exact this) (by have := hO.out 1 (by omega); exact this) (by rw [← HV.out]; omega))⟩
        · go_wp2
          go_meet
          exact ⟨Nk s 3, hR, hM, hB, Lib.hid (stp_3 h64 (hO.out 0 (by omega)) (hO.out 1 (by omega)) (hO.out 2 (by omega)))⟩
    case rest =>
      obtain ⟨N, hN, hM, hB, hU⟩ := hcut
      obtain ⟨a, b, c⟩ := N
      have hs1 := stp_mk hU.out
      have hok := hU.out.1
      have c0 := hN.out.c 0 (v := .int .i64 (a : Nat)) rfl
      have c1 := hN.out.c 1 (v := .int .i64 (b : Nat)) rfl
      have c2 := hN.out.c 2 (v := .int .i64 (c : Nat)) rfl
      have HS1 := Lib.hid hs1
      have HOK := Lib.hid hok
      clear hs1 hok hU HT
      go_wp2_with fail
      refine (pMark_any a b c wc).mono ?_
      rintro e w1 ⟨rfl, g1⟩
      have hM1 := hM.out.below g1
      have hb1 := hB.trans (g1.mono hB.size)
      obtain ⟨g, hg⟩ : ∃ g, g = w1.heap.size := ⟨_, rfl⟩
      have RG := Lib.hid (Rw.new w1 (ncs a b c) 51)
      have RM := Lib.hid (hM1.alloc (.cells (ncs a b c).toArray 51))
      have BA := Lib.hid (hb1.alloc hb1.size (.cells (ncs a b c).toArray 51))
      have zz : w.heap.size < w1.heap.size := hM1.lt
      clear c0 c1 c2 hN hM hB hM1 hb1 g1
      go_wp2_with fail
      obtain ⟨wa, hwa⟩ : ∃ wa, wa = w1.alloc (.cells #[.int .i64 (a : Nat), .int .i64 (b : Nat), .int .i64 (c : Nat)] 51) := ⟨_, rfl⟩
      have RG' : Hid (Rw wa g (ncs a b c) 51) := by rw [hwa, hg]; exact RG
      have RM' : Hid (Rw wa w.heap.size (ncs 0 0 0) 51) := by rw [hwa]; exact RM
      have BA' : Hid (Below w.heap.size w wa) := by rw [hwa]; exact BA
      rw [← hwa, ← hg]
      have gne : g ≠ w.heap.size := by omega
      clear RG RM BA hwa zz hg
      have hP : Calls Tryz.prog 23 #[.agg #[.int .i64 (a : Nat), .int .i64 (b : Nat), .int .i64 (c : Nat)]] wa fun e w' => e = .returned (.string ⟨(packM ⟨a, b, c⟩).toArray⟩) ∧ Below wa.heap.size wa w' := pPack_any ⟨a, b, c⟩ wa (Nat.lt_of_le_of_lt HOK.out.1 (by decide)) (Nat.lt_of_le_of_lt HOK.out.2.1 (by decide)) (Nat.lt_of_le_of_lt HOK.out.2.2 (by decide))
      refine hP.mono ?_
      rintro e w2 ⟨rfl, g2⟩
      have r0 := RG'.out.below g2
      have m0 := RM'.out.below g2
      have b2 := BA'.out.trans (g2.mono BA'.out.size)
      have c0 := r0.c 0 (v := .int .i64 (a : Nat)) rfl
      have c1 := r0.c 1 (v := .int .i64 (b : Nat)) rfl
      have c2 := r0.c 2 (v := .int .i64 (c : Nat)) rfl
      have d0 := m0.c 0 (v := .int .i64 ((0 : Nat) : Int)) rfl
      have d1 := m0.c 1 (v := .int .i64 ((0 : Nat) : Int)) rfl
      have d2 := m0.c 2 (v := .int .i64 ((0 : Nat) : Int)) rfl
      have e0 := m0.f 0
      have e1 := m0.f 1
      have e2 := m0.f 2
      have M0 := Lib.hid m0
      have B2 := Lib.hid b2
      clear hP g2 r0 m0 b2 RG' RM' BA'
      obtain ⟨P, hPp⟩ : ∃ P, P = packM ⟨a, b, c⟩ := ⟨_, rfl⟩
      have HPp := Lib.hid hPp
      rw [← hPp]
      clear hPp
      by_cases hp : P = s
      · subst hp
        have hu := HS1.out.1 HPp.out.symm
        have HU := Lib.hid hu
        clear hu
        go_wp2
        rw [Exit.noGoto_ret]
        have q : Rw _ _ [.int .i64 ((a : Nat)), .int .i64 ((b : Nat)), .int .i64 ((c : Nat))] _ := ((M0.out.set 0 (.int .i64 ((a : Nat)))).set 1 (.int .i64 ((b : Nat)))).set 2 (.int .i64 ((c : Nat)))
        exact bodyPost_ret (v := .tuple #[.agg #[.int .i64 ((a : Nat)), .int .i64 ((b : Nat)), .int .i64 ((c : Nat))], .bool true]) (results_cell_tmp Tryz.results24 _ _ w.heap.size 51 _ _ _ _ rfl rfl q Tryz.underlying51 rfl szMark) rfl ⟨by rw [mkO, HU.out]; rfl, ((B2.out.setCell (Nat.le_refl _) _).setCell (Nat.le_refl _) _).setCell (Nat.le_refl _) _⟩
      · have hu := HS1.out.2 (fun e => hp (HPp.out.trans e))
        have h3 : (P == s) = false := by simpa using hp
        have HU := Lib.hid hu
        clear hu hp
        go_wp2
        rw [Exit.noGoto_ret]
        have q : Rw _ _ [.int .i64 (0), .int .i64 (0), .int .i64 (0)] _ := ((M0.out.set 0 (.int .i64 (0))).set 1 (.int .i64 (0))).set 2 (.int .i64 (0))
        exact bodyPost_ret (v := .tuple #[.agg #[.int .i64 (0), .int .i64 (0), .int .i64 (0)], .bool false]) (results_cell_tmp Tryz.results24 _ _ w.heap.size 51 _ _ _ _ rfl rfl q Tryz.underlying51 rfl szMark) rfl ⟨by rw [mkO, HU.out]; rfl, ((B2.out.setCell (Nat.le_refl _) _).setCell (Nat.le_refl _) _).setCell (Nat.le_refl _) _⟩
  · have e1 : unpackM s = none := by unfold unpackM; rw [if_neg (by simp [h64])]
    have e2 : mkO s = mk0 := by rw [mkO, e1]; rfl
    rw [e1, e2]
    have hlI : ((s.length : Int) == 64) = false := by simp; omega
    have hlI2 : ((s.length : Int) != 64) = true := by simp; omega
    clear e1 e2 h64
    go_enter Tryz.func24, Tryz.ntmps24
    go_wp2
    go_step3
    go_wp2
    rw [Exit.noGoto_ret]
    have q : Rw _ _ [.int .i64 0, .int .i64 0, .int .i64 0] _ := Rw.new w (ncs 0 0 0) 51
    exact bodyPost_ret (v := .tuple #[.agg #[.int .i64 0, .int .i64 0, .int .i64 0], .bool false]) (results_cell_tmp Tryz.results24 _ _ w.heap.size 51 _ _ _ _ rfl rfl q Tryz.underlying51 rfl szMark) rfl ⟨rfl, ((Below.refl _ _).alloc (Nat.le_refl _) _)⟩
set_option maxRecDepth 100000 in
set_option maxHeartbeats 1000000 in
/-- Of two sectors the newest mark. -/
theorem pNewest_any (s t : List UInt8) (w : World) (hs : (s.length : Int) ≤ 9223372036854775807) (ht : (t.length : Int) ≤ 9223372036854775807) :
    Calls Tryz.prog 27 #[.string ⟨s.toArray⟩, .string ⟨t.toArray⟩] w fun e w' => e = .returned (mkV (newestM s t)) ∧ Below w.heap.size w w' := by
  rw [newestM_eq]
  have h1 := fun w => pUnpack_any s w hs
  have h2 := fun w => pUnpack_any t w ht
  generalize mkO s = x at *
  generalize mkO t = y at *
  generalize (unpackM s).isSome = i at *
  generalize (unpackM t).isSome = j at *
  obtain ⟨z, hz⟩ : ∃ z, z = (if x.ep < y.ep then y else x) := ⟨_, rfl⟩
  rw [← hz]
  obtain ⟨a, b, c⟩ := x
  obtain ⟨a', b', c'⟩ := y
  have HZ := Lib.hid hz
  clear hz
  rw [show mkV ⟨a, b, c⟩ = .agg #[.int .i64 (a : Nat), .int .i64 (b : Nat), .int .i64 (c : Nat)] from rfl] at h1
  rw [show mkV ⟨a', b', c'⟩ = .agg #[.int .i64 (a' : Nat), .int .i64 (b' : Nat), .int .i64 (c' : Nat)] from rfl] at h2
  have b0 : Below w.heap.size w (w.alloc (.cells (ncs 0 0 0).toArray 51)) := (Below.refl _ _).alloc (Nat.le_refl _) _
  have r0 : Rw (w.alloc (.cells (ncs 0 0 0).toArray 51)) w.heap.size (ncs 0 0 0) 51 := Rw.new _ _ _
  have H1 := Lib.hid h1
  have H2 := Lib.hid h2
  have B0 := Lib.hid b0
  have R0 := Lib.hid r0
  clear h1 h2 b0 r0
  go_enter Tryz.func27, Tryz.ntmps27
  go_wp2_with fail
  refine (H1.out _).mono ?_
  rintro e w1 ⟨rfl, g1⟩
  have r1 := R0.out.below g1
  have b1 := B0.out.trans (g1.mono B0.out.size)
  have z1 : w.heap.size < w1.heap.size := r1.lt
  obtain ⟨wa, hwa⟩ : ∃ wa, wa = w1.alloc (.cells #[.int .i64 (a : Nat), .int .i64 (b : Nat), .int .i64 (c : Nat)] 51) := ⟨_, rfl⟩
  obtain ⟨p, hp⟩ : ∃ p, p = w1.heap.size := ⟨_, rfl⟩
  have RA : Hid (Rw wa w.heap.size (ncs 0 0 0) 51) := by rw [hwa]; exact Lib.hid (r1.alloc _)
  have PA : Hid (Rw wa p (ncs a b c) 51) := by rw [hwa, hp]; exact Lib.hid (Rw.new w1 (ncs a b c) 51)
  have BA : Hid (Below w.heap.size w wa) := by rw [hwa]; exact Lib.hid (b1.alloc b1.size _)
  clear H1 R0 B0 r1 b1 g1
  go_wp2_with fail
  rw [← hwa, ← hp]
  have pne : p ≠ w.heap.size := by omega
  have pge : w.heap.size ≤ p := by omega
  clear hwa hp z1
  refine (H2.out _).mono ?_
  rintro e w2 ⟨rfl, g2⟩
  have r2 := RA.out.below g2
  have p2 := PA.out.below g2
  have b2 := BA.out.trans (g2.mono BA.out.size)
  have z2 : w.heap.size < w2.heap.size := r2.lt
  have z3 : p < w2.heap.size := p2.lt
  obtain ⟨wb, hwb⟩ : ∃ wb, wb = w2.alloc (.cells #[.int .i64 (a' : Nat), .int .i64 (b' : Nat), .int .i64 (c' : Nat)] 51) := ⟨_, rfl⟩
  obtain ⟨q, hq⟩ : ∃ q, q = w2.heap.size := ⟨_, rfl⟩
  have RB : Hid (Rw wb w.heap.size (ncs 0 0 0) 51) := by rw [hwb]; exact Lib.hid (r2.alloc _)
  have PB : Hid (Rw wb p (ncs a b c) 51) := by rw [hwb]; exact Lib.hid (p2.alloc _)
  have QB : Hid (Rw wb q (ncs a' b' c') 51) := by rw [hwb, hq]; exact Lib.hid (Rw.new w2 (ncs a' b' c') 51)
  have BB : Hid (Below w.heap.size w wb) := by rw [hwb]; exact Lib.hid (b2.alloc b2.size _)
  clear H2 RA PA BA r2 p2 b2 g2
  have c0 := PB.out.c 0 (v := .int .i64 (a : Nat)) rfl
  have c1 := PB.out.c 1 (v := .int .i64 (b : Nat)) rfl
  have c2 := PB.out.c 2 (v := .int .i64 (c : Nat)) rfl
  have k0 := QB.out.c 0 (v := .int .i64 (a' : Nat)) rfl
  have k1 := QB.out.c 1 (v := .int .i64 (b' : Nat)) rfl
  have k2 := QB.out.c 2 (v := .int .i64 (c' : Nat)) rfl
  have d0 := RB.out.c 0 (v := .int .i64 ((0 : Nat) : Int)) rfl
  have d1 := RB.out.c 1 (v := .int .i64 ((0 : Nat) : Int)) rfl
  have d2 := RB.out.c 2 (v := .int .i64 ((0 : Nat) : Int)) rfl
  have f0 := RB.out.f 0
  have f1 := RB.out.f 1
  have f2 := RB.out.f 2
  go_upto_region 3 with (fail)
  rw [← hwb, ← hq]
  clear z2 z3 hwb hq
  by_cases hlt : a < a'
  · have hI : (a : Int) < a' := by omega
    have hz := HZ.out
    rw [if_pos hlt] at hz
    subst hz
    clear hlt HZ
    go_wp2
    have q2 : Rw _ _ [.int .i64 (a' : Nat), .int .i64 (b' : Nat), .int .i64 (c' : Nat)] _ := ((RB.out.set 0 (.int .i64 (a' : Nat))).set 1 (.int .i64 (b' : Nat))).set 2 (.int .i64 (c' : Nat))
    exact bodyPost_ret (v := .agg #[.int .i64 (a' : Nat), .int .i64 (b' : Nat), .int .i64 (c' : Nat)]) (results_cell_row Tryz.results27 _ _ w.heap.size 51 _ _ _ rfl q2 Tryz.underlying51 rfl szMark) rfl ⟨rfl, ((BB.out.setCell (Nat.le_refl _) _).setCell (Nat.le_refl _) _).setCell (Nat.le_refl _) _⟩
  · have hI : ¬ ((a : Int) < a') := by omega
    have hz := HZ.out
    rw [if_neg hlt] at hz
    subst hz
    clear hlt HZ
    go_wp2
    have q2 : Rw _ _ [.int .i64 (a : Nat), .int .i64 (b : Nat), .int .i64 (c : Nat)] _ := ((RB.out.set 0 (.int .i64 (a : Nat))).set 1 (.int .i64 (b : Nat))).set 2 (.int .i64 (c : Nat))
    exact bodyPost_ret (v := .agg #[.int .i64 (a : Nat), .int .i64 (b : Nat), .int .i64 (c : Nat)]) (results_cell_row Tryz.results27 _ _ w.heap.size 51 _ _ _ rfl q2 Tryz.underlying51 rfl szMark) rfl ⟨rfl, ((BB.out.setCell (Nat.le_refl _) _).setCell (Nat.le_refl _) _).setCell (Nat.le_refl _) _⟩
end Go.Proofs.YtnpoohkklfpmdaaGreat
/- SlPD -/
namespace Go.Proofs.YtnpoohkklfpmdaaGreat
open Go.RowKit
set_option linter.unusedSimpArgs false
set_option linter.unusedVariables false
set_option linter.unnecessarySimpa false
attribute [local go_sem] idx_list ext_list app_list
theorem own_prefix {w : World} {base n n' cp : Nat} {e : TypeId} {A : Option Addr} {xs : List Value} (h : w.ownsRow base e 1 (.slice A n' cp) n' xs) (hn : n ≤ n') (h0 : 0 < n) : w.ownsRow base e 1 (.slice A n cp) n (xs.take n) := by
  refine ⟨by have := h.1; rw [List.length_take]; omega, .inr ?_⟩
  rcases h.2 with ⟨h1, h2⟩ | ⟨g, cap, cur, hv, hb, hg, hc, hm, hs, ht⟩
  · omega
  · simp only [Value.slice.injEq] at hv
    obtain ⟨rfl, _, rfl⟩ := hv
    refine ⟨g, cp, cur, rfl, hb, hg, by omega, hm, hs, ?_⟩
    rw [← ht, List.take_take]
    congr 1; omega
theorem run_b2s_nil {P : Program} (w : World) (src dst e : TypeId) (hs : P.underlying src = some (.slice e)) (he : P.underlying e = some (.int .u8)) (hd : P.underlying dst = some .string) :
    (convert src dst (.slice none 0 0)).run P w = .ok (.string ⟨([] : List UInt8).toArray⟩) w := by
  rw [run_convert_bytes_string w src dst e none 0 0 hs he hd]
  simp [Conv.bytesToString]
  rfl
def rdF (ss : Secs) (at_ k : Nat) : List UInt8 := ((ss.drop at_).take k).flatten
theorem rdF_0 (ss : Secs) (at_ : Nat) : rdF ss at_ 0 = [] := by simp [rdF]
theorem rdF_succ {ss : Secs} {at_ k : Nat} (h : at_ + k < ss.length) : rdF ss at_ (k + 1) = rdF ss at_ k ++ ss.getD (at_ + k) [] := by
  unfold rdF
  rw [List.take_add_one, List.flatten_append, List.getElem?_drop, List.getElem?_eq_getElem h, List.getD_eq_getElem?_getD, List.getElem?_eq_getElem h]
  simp
theorem rdF_len {ss : Secs} {at_ k : Nat} (h : L64 ss) (hk : at_ + k ≤ ss.length) : (rdF ss at_ k).length = 64 * k := by
  unfold rdF
  rw [flat_len (fun s hs => h s (List.mem_of_mem_drop (List.mem_of_mem_take hs))), List.length_take, List.length_drop]
  congr 1; omega
theorem rdF_take {ss : Secs} {at_ k n : Nat} (h : L64 ss) (hk : at_ + k ≤ ss.length) (hn : n ≤ 64 * k) : (rdF ss at_ k).take n = ((ss.drop at_).flatten).take n := by
  have e : (ss.drop at_).flatten = rdF ss at_ k ++ ((ss.drop at_).drop k).flatten := by
    unfold rdF
    rw [← List.flatten_append, List.take_append_drop]
  rw [e, List.take_append_of_le_length (by rw [rdF_len h hk]; exact hn)]
theorem info5s : (Tryz.prog.info? 5).map (fun i => (i.zero, i.size, i.bytes)) = some (some (.int .u8 0), 1, 1) := by kernel_rfl
section
variable {PD : World → List Nat → Nat → Dv → Prop} (I : Iface0 PD)
include I
set_option maxHeartbeats 1000000 in
theorem sRead_pos {ex : List Nat} {p : Nat} {d : Dv} (at_ n : Nat) (w : World) (h0 : 0 < n) (h : PD w ex p d) (hf : d.Few) (ho : d.Ok) (hon : d.on = true) (hat : at_ ≤ d.safe.length) (hn : n ≤ 64 * (d.safe.length - at_)) :
    Calls Tryz.prog 26 #[.pointer (some ⟨p, 0, none⟩), .int .i64 at_, .int .i64 n] w fun e w' => e = .returned (.tuple #[.string ⟨(((vis d).drop at_).flatten.take n).toArray⟩, .int .i64 0]) ∧ Below w.heap.size w w' := by
  obtain ⟨i0, hi, hz0, hz1, hz2⟩ := info_parts info5s
  have h64 := vis_64 ho
  have hvl := vis_len d
  obtain ⟨N, hN⟩ : ∃ N, N = d.safe.length := ⟨_, rfl⟩
  have hsl := hf.safe
  rw [← hN] at hn hvl hsl hat
  have hrd := fun (k : Nat) (hk : k < N) => readD_vis (d := d) hon (k := k) (by rw [← hN]; exact hk)
  have HRD := Lib.hid hrd
  have H64 := Lib.hid h64
  have HVL := Lib.hid hvl
  have HF := Lib.hid hf
  clear hrd h64 hvl hN hf
  have hnI : (n : Int) ≤ 262144 := by omega
  have haI : (at_ : Int) ≤ 4096 := by omega
  go_enter Tryz.func26, Tryz.ntmps26
  go_wp2
  go_loopw [1, 8] (fun a v wr => ∃ k j m : Nat, Hid (j = at_ + k ∧ m = 64 * k ∧ at_ + k ≤ N) ∧ a = .int .i64 (j : Nat) ∧ wr.ownsRow w.heap.size 5 1 v m (bcells (rdF (vis d) at_ k)) ∧ PD wr ex p d ∧ Below w.heap.size w wr) (fun a _ _ => N - (intOf a).toNat)
  case atStart => exact ⟨0, at_, 0, Lib.hid ⟨rfl, rfl, hat⟩, rfl, World.ownsRow_nil _ _ _ _, h, Below.refl _ _⟩
  case round =>
    obtain ⟨k, j, m, hK, rfl, hown, hP, hB⟩ := hrel
    obtain ⟨A, cp, rfl⟩ := own_form hown
    have hmI : (m : Int) ≤ 262144 := by have := hK.out; omega
    have hjI : (j : Int) ≤ 4096 := by have := hK.out; omega
    by_cases hlt : m < n
    · have hak : j < N := by have := hK.out; omega
      have hc := I.read (j : Int) wr hP HF.out ho
      rw [HRD.out j hak] at hc
      obtain ⟨s, hs⟩ : ∃ s, s = (vis d).getD j [] := ⟨_, rfl⟩
      have hst := rdF_succ (ss := vis d) (at_ := at_) (k := k) (by rw [HVL.out, ← hK.out.1]; exact hak)
      have hs64 : s.length = 64 := by
        rw [hs, List.getD_eq_getElem?_getD, List.getElem?_eq_getElem (by rw [HVL.out]; exact hak)]
        exact H64.out _ (List.getElem_mem _)
      rw [← hK.out.1, ← hs] at hst
      rw [← hs] at hc
      have HST := Lib.hid hst
      have HS64 := Lib.hid hs64
      have HAK := Lib.hid hak
      clear hs hst hs64 hak
      go_wp2_with fail
      refine hc.mono ?_
      rintro e w1 ⟨rfl, g1⟩
      have own1 := own_below hown g1
      have P1 := I.below hP g1
      have b1 := hB.trans (g1.mono hB.size)
      have bz := b1.size
      have hsz : (⟨s.toArray⟩ : ByteArray).size = 64 := by show s.toArray.size = 64; rw [List.size_toArray]; exact HS64.out
      have HSZ := Lib.hid hsz
      clear hc hown hP hB g1 hsz
      go_wp2_with (at_builtin; refine Lib.wpList_append_own_string _ rfl _ _ 43 9 rfl w.heap.size 5 i0 Tryz.underlying43 Tryz.underlying9 hi hz0 hz1 hz2 _ m _ rfl own1 _ rfl ?c1 ?c2 bz ?_)
      case c1 => rw [HSZ.out]; unfold maxLen; omega
      case c2 => rw [HSZ.out]; omega
      intro v' w2 own2 grow2 _
      have e2 : bcells (rdF (vis d) at_ k) ++ Lib.strCells ⟨s.toArray⟩ = bcells (rdF (vis d) at_ (k + 1)) := by rw [HST.out, bcells_append, strCells_list]
      rw [e2, HS64.out] at own2
      have B2 : Below w.heap.size w w2 := b1.grown grow2 bz (own_block_ge own1)
      have P2 : PD w2 ex p d := by
        refine I.keep P1 fun b hb => grow2.block b (I.lt P1 b hb) fun e => ?_
        have h1 := I.lt h b hb
        have h2 := own_block_ge own1 b (by rw [e])
        omega
      have HKN : Hid (j + 1 = at_ + (k + 1) ∧ m + 64 = 64 * (k + 1) ∧ at_ + (k + 1) ≤ N) := Lib.hid (by have := hK.out; have := HAK.out; omega)
      clear e2 own1 grow2 b1 bz P1 h
      go_wp2
      go_roundw
      case rel => exact ⟨k + 1, j + 1, m + 64, HKN, by go_num, own2, P2, B2⟩
      case measure => simp [intOf]; have := HAK.out; omega
    · have hmn : n ≤ m := by omega
      have hres := rdF_take (ss := vis d) (at_ := at_) (k := k) (n := n) H64.out (by rw [HVL.out]; exact hK.out.2.2) (by rw [← hK.out.2.1]; exact hmn)
      have HRES := Lib.hid hres
      have hmnI : (n : Int) ≤ m := by omega
      clear hres
      obtain ⟨g, c2, e1, _, _⟩ := hown.form (by omega)
      simp only [Value.slice.injEq, true_and] at e1
      obtain ⟨rfl, rfl⟩ := e1
      have hcI : (n : Int) ≤ cp := by have := own_cap hown; omega
      have own3 := own_prefix hown hmn h0
      rw [show (bcells (rdF (vis d) at_ k)).take n = bcells ((rdF (vis d) at_ k).take n) from by simp [bcells, List.map_take], HRES.out] at own3
      have hconv := run_b2s_own (P := Tryz.prog) wr 43 9 5 _ _ w.heap.size n Tryz.underlying43 Tryz.underlying5 Tryz.underlying9 own3
      clear hown hP own3
      go_wp2
      go_ret2
      exact ⟨rfl, hB⟩
omit I in
theorem sRead_0 (p : Nat) (at_ : Nat) (w : World) : Calls Tryz.prog 26 #[.pointer (some ⟨p, 0, none⟩), .int .i64 at_, .int .i64 0] w fun e w' => e = .returned (.tuple #[.string ⟨([] : List UInt8).toArray⟩, .int .i64 0]) ∧ Below w.heap.size w w' := by
  have hconv := run_b2s_nil (P := Tryz.prog) w 43 9 5 Tryz.underlying43 Tryz.underlying5 Tryz.underlying9
  go_enter Tryz.func26, Tryz.ntmps26
  go_wp2
  refine wp_loop_rounds 1 ?_
  rw [rounds_succ]
  go_wp2
  go_ret2
  exact ⟨rfl, Below.refl _ _⟩
theorem sRead_ok {ex : List Nat} {p : Nat} {d : Dv} (at_ n : Nat) (w : World) (h : PD w ex p d) (hf : d.Few) (ho : d.Ok) (hon : d.on = true) (hat : at_ ≤ d.safe.length) (hn : n ≤ 64 * (d.safe.length - at_)) :
    Calls Tryz.prog 26 #[.pointer (some ⟨p, 0, none⟩), .int .i64 at_, .int .i64 n] w fun e w' => e = .returned (.tuple #[.string ⟨(((vis d).drop at_).flatten.take n).toArray⟩, .int .i64 0]) ∧ Below w.heap.size w w' := by
  rcases Nat.eq_zero_or_pos n with h0 | h0
  · subst h0
    rw [List.take_zero]
    exact sRead_0 p at_ w
  · exact sRead_pos I at_ n w h0 h hf ho hon hat hn
theorem sRead_off {ex : List Nat} {p : Nat} {d : Dv} (at_ n : Nat) (w : World) (h0 : 0 < n) (hn : n ≤ 1000000) (h : PD w ex p d) (hf : d.Few) (ho : d.Ok) (hon : d.on = false) :
    Calls Tryz.prog 26 #[.pointer (some ⟨p, 0, none⟩), .int .i64 at_, .int .i64 n] w fun e w' => e = .returned (.tuple #[.string ⟨([] : List UInt8).toArray⟩, .int .i64 14]) ∧ Below w.heap.size w w' := by
  have hc := I.read (at_ : Int) w h hf ho
  rw [show readD d (at_ : Int) = ([], 14) from by unfold readD; rw [hon]; rfl] at hc
  have hnI : (0 : Int) < n := by omega
  clear hn h0 hon
  go_enter Tryz.func26, Tryz.ntmps26
  go_wp2
  refine wp_loop_rounds 1 ?_
  rw [rounds_succ]
  go_wp2_with fail
  refine hc.mono ?_
  rintro e w1 ⟨rfl, g1⟩
  clear hc
  go_wp2
  go_ret2
  exact ⟨rfl, g1⟩
end
/-- What a text that begins with a sector has behind its last full one. -/
def tailM (l : List UInt8) : List UInt8 := l.drop (l.length / 64 * 64)
theorem sTail_any (l : List UInt8) (w : World) (hl : (l.length : Int) ≤ 281474976710656) : Calls Tryz.prog 29 #[.string ⟨l.toArray⟩] w fun e w' => e = .returned (.string ⟨(tailM l).toArray⟩) ∧ Below w.heap.size w w' := by
  have hc := clone_any (l.drop (l.length / 64 * 64)) w (by rw [List.length_drop]; omega)
  have HC := Lib.hid hc
  clear hc
  unfold tailM
  go_enter Tryz.func29, Tryz.ntmps29
  go_wp2_with fail
  refine HC.out.mono ?_
  rintro e w1 ⟨rfl, g1⟩
  go_wp2
  go_ret
  exact ⟨rfl, g1⟩
end Go.Proofs.YtnpoohkklfpmdaaGreat
