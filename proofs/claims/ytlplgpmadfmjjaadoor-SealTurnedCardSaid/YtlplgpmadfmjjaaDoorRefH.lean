import Derived.Test.YtlplgpmadfmjjaaDoorRows
import Derived.WalkKit
import Derived.Below
import Derived.ProofKit
import Derived.OpenShut
import Derived.ShutString
import Derived.ChangeOld
import Derived.Outline
import Derived.RegionTactic
import Derived.ChangeAlike
import Derived.BigRegion
import Derived.BigQuiet
import Derived.Deep.QuietTactic
import Derived.Deep.RegionWith
import Derived.Deep.RegionLaw
import Derived.Deep.RegionHeld3
import Derived.Deep.AppendLies
import Derived.Deep.Draws
import Derived.StillTailTactics
import Derived.Lib.Hide
import Derived.Lib.SmallJoins
import Derived.Handy
import Derived.Stop.BytesEq
import Derived.WalkSpells
import Derived.WalkSpells
import Derived.WalkLawsBesides
import Derived.Deep.LoopGhost
import Derived.Deep.DeepCutAuto
import Derived.Laws.CopyOwn
import Derived.Test.YtlplgpmadfmjjaaDoorRefG
import Derived.Test.YtlplgpmadfmjjaaDoorMark
namespace Go.Proofs.YtlplgpmadfmjjaaDoor
open Go.RowKit
set_option linter.unusedSimpArgs false
set_option linter.unusedVariables false
set_option linter.unnecessarySimpa false
theorem info8b : (Tryd.prog.info? 5).map (fun i => (i.zero, i.size, i.bytes)) = some (some (.int .u8 0), 1, 1) := by kernel_rfl
theorem cut24 (g n len c : Nat) (w : World) (h : 64 * n + 64 ≤ c) : (Instr.slice 45 (.slice (some ⟨g, 0, none⟩) len c) (some (.int .i64 (64 * (n : Int)))) (some (.int .i64 (64 * (n : Int) + 64))) none).run Tryd.prog w = .ok (.slice (some ⟨g, 64 * n, none⟩) 64 (c - 64 * n)) w := by
  have he : Tryd.prog.elem 45 = 5 := by kernel_rfl
  have hz : (sizeOf 5).run Tryd.prog w = .ok 1 w := by kernel_rfl
  rw [run_slice_lh w 45 _ _ _ (by rw [he]; exact Tryd.underlying45) .i64 .i64 _ _ (by omega) (by omega) (by omega), he, hz]
  show Result.ok (sliced _ _ _ _ _) w = _
  unfold sliced
  rw [show (64 * (n : Int)).toNat = 64 * n by omega, show (64 * (n : Int) + 64).toNat = 64 * n + 64 by omega, if_neg (by omega)]
  simp [Addr.add]
  omega
theorem cut24a (g n len c : Nat) (w : World) (h : 64 * n + 64 ≤ c) : (Instr.sliceAt 45 (.slice (some ⟨g, 0, none⟩) len c) (some (.int .i64 (64 * (n : Int)))) (some (.int .i64 (64 * (n : Int) + 64))) none).run Tryd.prog w = .ok (.slice (some ⟨g, 64 * n, none⟩) 64 (c - 64 * n)) w := by
  have he : Tryd.prog.elem 45 = 5 := by kernel_rfl
  rw [run_sliceAt_slice w 45 _ _ _ _ (by rw [he]; exact Tryd.underlying45)]
  exact cut24 g n len c w h
def slen : Value → Nat | .slice _ n _ => n | _ => 0
theorem be8_take_succ (n j : Nat) (h : j < 8) : (be8 n).take (j + 1) = (be8 n).take j ++ [UInt8.ofNat (n >>> (56 - 8 * j))] := by
  rw [List.take_add_one, show (be8 n)[j]? = some (UInt8.ofNat (n >>> (56 - 8 * j))) from by simp [be8, h]]
  rfl
set_option maxHeartbeats 1000000 in
set_option maxRecDepth 100000 in
theorem tsum_any (vb vk : Value) (l : List UInt8) (w : World) (hb : WordsAt w vb h0s) (hk : WordsAt w vk ks) (hl : l.length ≤ 1099511627776) :
    Calls Tryd.prog 22 #[.agg #[vb, vk], .string ⟨l.toArray⟩] w fun e w' => e = .returned (aggB (sha l)) ∧ Below w.heap.size w w' := by
  obtain ⟨i0, hi, hz0, hz1, hz2⟩ := info_parts info8b
  have hlm : l.length ≤ maxLen := by unfold maxLen; omega
  have HLM := Lib.hid hlm
  obtain ⟨bv, cv, rfl, hbv, hcv⟩ := hb
  rw [show h0s.length = 8 from rfl] at *
  have HCV := Lib.hid hcv
  have HK := Lib.hid hk
  clear hlm hcv hk
  go_enter Tryd.func22, Tryd.ntmps22
  go_wp2_with (refine wpList_bytes rfl 9 45 5 (.tmp 13) rfl Tryd.underlying9 Tryd.underlying45 Tryd.underlying5 l rfl HLM.out ?_)
  generalize hwa : World.alloc _ _ = wa
  intro v w1 own1 b1
  have r0 : row2 wa w.heap.size (.slice (some ⟨bv, 0, none⟩) 8 cv) vk := by rw [← hwa]; exact heap_alloc2_old w _ _
  have r1 : wa.heap[w.heap.size + 1]? = some (.cells (bcells (List.replicate 32 0)).toArray 23 (0, 0)) := by rw [← hwa]; exact heap_alloc2_new w _ _
  have ba : Below w.heap.size w wa := by rw [← hwa]; exact ((Below.refl _ _).alloc (Nat.le_refl _) _).alloc (by simp) _
  have za : wa.heap.size = w.heap.size + 2 := by rw [← hwa]; simp
  clear hwa
  have R0 := Lib.hid r0
  have R1 := Lib.hid r1
  have ZA := Lib.hid za
  rw [show w.heap.size + 1 + 1 = wa.heap.size from za.symm] at own1 b1
  clear r0 r1 za
  obtain ⟨g1, c1, rfl, -, -, -, -, -⟩ := own1.form
  have s1 := b1.size
  go_wp2_with (at_builtin; refine wpList_append_byte rfl (.tmp 15) (.tmp 16) 45 rfl wa.heap.size 5 i0 Tryd.underlying45 hi hz0 hz1 hz2 _ l rfl (own1.alloc _) ⟨w1.heap.size, 0, none⟩ 1 128 rfl (cell_of_row _ _ _ _ _ _ (heap_alloc_new w1 _)) (by omega) (by simp; omega) ?_)
  intro v2 w2 own2 hg2
  have b2 : Below wa.heap.size wa w2 := (b1.alloc s1 _).grown hg2 (by simp; omega) (fun k hk => (own1.lt k hk).1)
  clear own1 b1 hg2 s1
  obtain ⟨K, hK⟩ : ∃ K, K = (119 - l.length % 64) % 64 := ⟨_, rfl⟩
  have HKK := Lib.hid hK
  have hK64 : K < 64 := by omega
  clear hK
  go_wp2_with fail
  go_loopw [5] (fun u wr => ∃ (k : Nat) (x : List UInt8), k ≤ K ∧ Hid (x = l ++ 128 :: List.replicate k 0) ∧ x.length = l.length + 1 + k ∧ OwnB wr wa.heap.size 5 u x ∧ Below wa.heap.size wa wr) (fun u _ => l.length + 200 - slen u)
  case atStart => exact ⟨0, l ++ [128], by omega, Lib.hid rfl, by simp, own2, b2⟩
  case round =>
    clear own2 b2
    obtain ⟨k, x, hk, hx, hxl, own, bel⟩ := hrel
    obtain ⟨g, c, rfl, hbg, -, -, -, -⟩ := own.form
    have hs := bel.size
    by_cases hlt : k < K
    · have hne : ((x.length : Int) % 64 == 56) = false := by
        have e := HKK.out
        simp; omega
      go_wp2_with (at_builtin; refine wpList_append_byte rfl (.tmp 22) (.tmp 23) 45 rfl wa.heap.size 5 i0 Tryd.underlying45 hi hz0 hz1 hz2 _ x rfl (own.alloc _) ⟨wr.heap.size, 0, none⟩ 1 0 rfl (cell_of_row _ _ _ _ _ _ (heap_alloc_new wr _)) (by omega) (by simp; omega) ?_)
      intro v3 w3 own3 hg3
      have b3 : Below wa.heap.size wa w3 := (bel.alloc hs _).grown hg3 (by simp; omega) (fun k hk => (own.lt k hk).1)
      have hl3 : (x ++ [0]).length = x.length + 1 := by simp
      have hx3 : Hid (x ++ [0] = l ++ 128 :: List.replicate (k + 1) 0) := Lib.hid (by rw [hx.out, List.replicate_succ']; simp)
      obtain ⟨y, hy⟩ : ∃ y, y = x ++ [0] := ⟨_, rfl⟩
      rw [← hy] at own3 hl3 hx3
      obtain ⟨g3, c3, rfl, -, -, -, -, -⟩ := own3.form
      clear hg3 own hy
      go_wp2
      go_roundw
      case rel => exact ⟨k + 1, y, by omega, hx3, by omega, own3, b3⟩
      case measure => simp [slen]; omega
    · obtain rfl : k = K := by omega
      have hne : ((x.length : Int) % 64 != 56) = false := by
        have e := HKK.out
        simp; omega
      have HXL := Lib.hid hxl
      have hxb : x.length ≤ 1099511627900 := by omega
      clear hxl
      go_wp2
      go_loopw [5, 7] (fun u v wr => ∃ (j : Nat) (y : List UInt8), j ≤ 8 ∧ v = .int .i64 (7 - (j : Int)) ∧ Hid (y = x ++ (be8 (8 * l.length)).take j) ∧ Hid (y.length = x.length + j) ∧ OwnB wr wa.heap.size 5 u y ∧ Below wa.heap.size wa wr) (fun _ v _ => (intOf v + 1).toNat)
      case atStart => exact ⟨0, x, by omega, rfl, Lib.hid (by simp), Lib.hid rfl, own, bel⟩
      case round =>
        clear own bel hne hbg hs
        obtain ⟨j, y, hj, rfl, hy, hyl, own, bel⟩ := hrel
        obtain ⟨g, c, rfl, hbg, hgw, hyc, hcm, hyk⟩ := own.form
        have HCM := Lib.hid hcm
        have HYK := Lib.hid hyk
        clear hcm hyk
        have hs := bel.size
        by_cases hlt : j < 8
        · have jj : (j : Int) < 8 := by omega
          have hyb : y.length ≤ 1099511628000 := by have := hyl.out; omega
          have HBE := Lib.hid (show ((l.length : Int) * 8) / 2 ^ (8 * (7 - j)) % 256 = ((UInt8.ofNat ((8 * l.length) >>> (56 - 8 * j))).toNat : Int) from by
            rw [← byte_eq, show 56 - 8 * j = 8 * (7 - j) from by omega]; simp [Int.mul_comm])
          go_wp2_with (at_builtin; refine wpList_append_byte rfl (.tmp 33) (.tmp 40) 45 rfl wa.heap.size 5 i0 Tryd.underlying45 hi hz0 hz1 hz2 _ y rfl (own.alloc _) ⟨wr.heap.size, 0, none⟩ 1 (UInt8.ofNat ((8 * l.length) >>> (56 - 8 * j))) rfl ((cell_of_row _ _ _ _ _ _ (heap_alloc_new wr _)).trans (congrArg some (congrArg (Value.int .u8) HBE.out))) (by omega) (by simp; omega) ?_)
          intro v3 w3 own3 hg3
          have b3 : Below wa.heap.size wa w3 := (bel.alloc hs _).grown hg3 (by simp; omega) (fun k hk => (own.lt k hk).1)
          have hl3 : Hid ((y ++ [UInt8.ofNat ((8 * l.length) >>> (56 - 8 * j))]).length = x.length + (j + 1)) := Lib.hid (by have := hyl.out; simp; omega)
          have hy3 : Hid (y ++ [UInt8.ofNat ((8 * l.length) >>> (56 - 8 * j))] = x ++ (be8 (8 * l.length)).take (j + 1)) := Lib.hid (by rw [hy.out, be8_take_succ _ _ hlt]; simp)
          obtain ⟨z, hz⟩ : ∃ z, z = y ++ [UInt8.ofNat ((8 * l.length) >>> (56 - 8 * j))] := ⟨_, rfl⟩
          rw [← hz] at own3 hl3 hy3
          obtain ⟨g3, c3, rfl, -, -, -, -, -⟩ := own3.form
          clear hg3 own hz
          go_wp2
          go_roundw
          case rel => exact ⟨j + 1, z, by omega, by go_num, hy3, hl3, own3, b3⟩
          case measure => simp [intOf]; omega
        · obtain rfl : j = 8 := by omega
          rw [show (7 : Int) - ((8 : Nat) : Int) = -1 from rfl]
          have hyL : y = l ++ padS l.length := by
            rw [hy.out, hx.out, HKK.out, List.take_of_length_le (by rw [be8_len]; omega)]; simp [padS]
          have hmod : y.length % 64 = 0 := by rw [hyL, List.length_append]; exact pad_mod _
          obtain ⟨N, hN⟩ : ∃ N, y.length = 64 * N := ⟨y.length / 64, by omega⟩
          have hyb : N ≤ 1099511628000 := by have := hyl.out; omega
          have HYL := Lib.hid hyL
          have HYN := Lib.hid hN
          obtain ⟨wq, hwq⟩ : ∃ wq : World, wq = wr := ⟨_, rfl⟩
          rw [← hwq] at own bel hs hgw HYK
          rw [← hwq]
          rw [hN]
          have OWN := Lib.hid own
          have q0 : row2 wq w.heap.size (.slice (some ⟨bv, 0, none⟩) 8 cv) vk := (bel.block _ (by rw [ZA.out]; omega)).trans R0.out
          have q1 : wq.heap[w.heap.size + 1]? = some (.cells (bcells (List.replicate 32 0)).toArray 23 (0, 0)) := (bel.block _ (by rw [ZA.out]; omega)).trans R1.out
          have bbq := Lib.hid hs
          have bq : Below w.heap.size w wq := ba.trans (bel.mono ba.size)
          have Q0 := Lib.hid q0
          have Q1 := Lib.hid q1
          have hNc : 64 * N ≤ c := by rw [← hN]; exact hyc
          clear own hyL hmod hN hwq hxb q0 q1 hs bel hbg hyc
          go_wp2_with fail
          generalize hwx : World.alloc wq _ = wx
          obtain ⟨X, hX⟩ : ∃ X, X = wq.heap.size := ⟨_, rfl⟩
          have rx : wx.heap[X]? = some (.cells (uc (List.replicate 8 0)).toArray 58 (0, 0)) := by rw [hX, ← hwx]; exact heap_alloc_new wq _
          have bx : Below X wq wx := by rw [hX, ← hwx]; exact (Below.refl _ _).alloc (Nat.le_refl _) _
          have hTX : w.heap.size + 1 < X := by rw [hX]; exact Nat.lt_of_lt_of_le (by rw [ZA.out]; omega) (bbq.out)
          rw [← hX]
          have HXE := Lib.hid hX
          clear hwx hX
          go_loopw [9] (fun i wr => ∃ (k : Nat) (M : List (BitVec 32)), k ≤ 8 ∧ i = .int .i64 k ∧ Hid (M.length = 8) ∧ Hid (M.take k = h0s.take k) ∧ Hid (wr.heap[X]? = some (.cells (uc M).toArray 58 (0, 0))) ∧ Below X wq wr) (fun i _ => 8 - (intOf i).toNat)
          case atStart => exact ⟨0, List.replicate 8 0, by omega, rfl, Lib.hid rfl, Lib.hid rfl, Lib.hid rx, bx⟩
          case round =>
            clear rx bx
            obtain ⟨k, M, hk, rfl, hM, hT, hrx, hbx⟩ := hrel
            by_cases hlt : k < 8
            · have kk : (k : Int) < 8 := by omega
              have r2 : row2 wr w.heap.size (.slice (some ⟨bv, 0, none⟩) 8 cv) vk := (hbx.block _ (by omega)).trans Q0.out
              have d0 := row2_0 r2
              have c0 : wr.cell? ⟨bv, k, none⟩ = some (.int .u32 (h0s.getD k 0).toNat) := (hbx.cell (p := ⟨bv, k, none⟩) (by show bv < X; omega)).trans ((bq.cell (p := ⟨bv, k, none⟩) hbv).trans (HCV.out k hlt))
              have c1 : wr.cell? ⟨X, k, none⟩ = some (.int .u32 (M.getD k 0).toNat) := cell_row hrx.out (uc_get (by rw [hM.out]; exact hlt))
              have f1 : wr.frozen? ⟨X, k, none⟩ = false := frozen_of_row wr X k _ _ hrx.out
              have hxk : Hid (h0s[k]? = some (h0s.getD k 0)) := Lib.hid (by rw [List.getD_eq_getElem?_getD, List.getElem?_eq_getElem (by simpa [h0s] using hlt)]; rfl)
              generalize h0s.getD k 0 = x0 at c0 hxk
              generalize M.getD k 0 = x1 at c1
              have R2 := Lib.hid r2
              clear r2
              go_wp2
              go_roundw
              case rel =>
                refine ⟨k + 1, M.set k x0, by omega, by go_num, Lib.hid (by rw [List.length_set]; exact hM.out), Lib.hid (take_set _ _ _ _ hT.out (by rw [hM.out]; exact hlt) hxk.out), Lib.hid ?_, hbx.setCell (by exact Nat.le_refl _) _⟩
                rw [← uc_set]; exact set_row hrx.out
              case measure => simp [intOf]; omega
            · obtain rfl : k = 8 := by omega
              rw [show ((8 : Nat) : Int) = 8 from rfl]
              have e := take_all _ _ 8 hT.out hM.out rfl
              subst e
              have RX := hrx
              have hb9 := hbx
              clear hrx hT hM hbx
              go_wp2
              go_loopw [10] (fun i wr => ∃ n : Nat, n ≤ N ∧ i = .int .i64 (64 * (n : Int)) ∧ Hid (wr.heap[X]? = some (.cells (uc (blks y n)).toArray 58 (0, 0))) ∧ Below X wq wr) (fun i _ => 64 * N - (intOf i).toNat)
              case atStart => exact ⟨0, by omega, rfl, RX, hb9⟩
              case round =>
                clear RX hb9
                obtain ⟨n, hn, rfl, hrx, hbx⟩ := hrel
                by_cases hlt : n < N
                · have nn : 64 * (n : Int) < 64 * (N : Int) := by omega
                  have nn2 : 64 * (n : Int) + 64 ≤ c := by omega
                  have r2 : row2 wr w.heap.size (.slice (some ⟨bv, 0, none⟩) 8 cv) vk := (hbx.block _ (by omega)).trans Q0.out
                  have d0 := row2_0 r2
                  have d1 := row2_1 r2
                  obtain ⟨S, hS⟩ : ∃ S : S8, blks y n = S.list := ⟨s8 _, list8 _ (blks_len _ _)⟩
                  obtain ⟨S', hS'⟩ : ∃ S' : S8, compress S.list ((y.drop (64 * n)).take 64) = S'.list := ⟨s8 _, list8 _ (compress_len _ _ rfl)⟩
                  have hr := hrx.out
                  rw [hS] at hr
                  have c0 : wr.cell? ⟨X, 0, none⟩ = some (.int .u32 S.a.toNat) := cell_row hr rfl
                  have c1 : wr.cell? ⟨X, 1, none⟩ = some (.int .u32 S.b.toNat) := cell_row hr rfl
                  have c2 : wr.cell? ⟨X, 2, none⟩ = some (.int .u32 S.c.toNat) := cell_row hr rfl
                  have c3 : wr.cell? ⟨X, 3, none⟩ = some (.int .u32 S.d.toNat) := cell_row hr rfl
                  have c4 : wr.cell? ⟨X, 4, none⟩ = some (.int .u32 S.e.toNat) := cell_row hr rfl
                  have c5 : wr.cell? ⟨X, 5, none⟩ = some (.int .u32 S.f.toNat) := cell_row hr rfl
                  have c6 : wr.cell? ⟨X, 6, none⟩ = some (.int .u32 S.g.toNat) := cell_row hr rfl
                  have c7 : wr.cell? ⟨X, 7, none⟩ = some (.int .u32 S.h.toNat) := cell_row hr rfl
                  have hXr : X < wr.heap.size := by
                    rcases Nat.lt_or_ge X wr.heap.size with h | h
                    · exact h
                    · rw [Array.getElem?_eq_none h] at hr; cases hr
                  have hgX : g < X := by rw [HXE.out]; exact hgw
                  have HBLK := Lib.hid (show ∀ w' : World, Below X wq w' → Calls Tryd.prog 28 #[.agg #[.slice (some ⟨bv, 0, none⟩) 8 cv, vk], .agg #[.int .u32 S.a.toNat, .int .u32 S.b.toNat, .int .u32 S.c.toNat, .int .u32 S.d.toNat, .int .u32 S.e.toNat, .int .u32 S.f.toNat, .int .u32 S.g.toNat, .int .u32 S.h.toNat], .slice (some ⟨g, 64 * n, none⟩) 64 (c - 64 * n)] w' fun e w'' => e = .returned (.agg #[.int .u32 S'.a.toNat, .int .u32 S'.b.toNat, .int .u32 S'.c.toNat, .int .u32 S'.d.toNat, .int .u32 S'.e.toNat, .int .u32 S'.f.toNat, .int .u32 S'.g.toNat, .int .u32 S'.h.toNat]) ∧ Below w'.heap.size w' w'' from fun w' h => by
                    have hb := block_any (.slice (some ⟨bv, 0, none⟩) 8 cv) vk S.list g (64 * n) (c - 64 * n) ((y.drop (64 * n)).take 64) w' (HK.out.below (bq.trans (h.mono (Nat.le_trans (Nat.le_succ _) (Nat.le_of_lt hTX))))) rfl ⟨by rw [List.length_take, List.length_drop, HYN.out]; omega, Nat.lt_of_lt_of_le hgX (Nat.le_trans (by rw [HXE.out]; exact Nat.le_refl _) h.size), fun k hk => by
                      rw [h.cell (p := ⟨g, 64 * n + k, none⟩) hgX, HYK.out _ (by rw [HYN.out]; omega)]
                      simp [List.getElem?_take_of_lt hk]⟩
                    rw [hS'] at hb
                    exact hb)
                  have HS' := Lib.hid (show blks y (n + 1) = S'.list from by rw [← hS', ← hS]; rfl)
                  have HR := Lib.hid hr
                  have hww : IntKind.i64.wrap (64 * (n : Int) + 64) = 64 * (n : Int) + 64 := IntWalk.i64_in _ (by omega)
                  have hsl := fun w => cut24a g n (64 * N) c w (by omega)
                  clear hS hS' r2 hr hrx
                  go_wp2
                  go_region_with (go_at_call 28; refine (HBLK.out _ hbx.drew).mono ?_; rintro e w3 ⟨rfl, g3'⟩; have g3 := below_undrew g3'; have h3 := (g3.block X hXr).trans HR.out; have e0 : w3.cell? ⟨X, 0, none⟩ = some (.int .u32 S.a.toNat) := cell_row h3 rfl; have f0 : w3.frozen? ⟨X, 0, none⟩ = false := frozen_of_row w3 X 0 _ _ h3; have e1 : w3.cell? ⟨X, 1, none⟩ = some (.int .u32 S.b.toNat) := cell_row h3 rfl; have f1 : w3.frozen? ⟨X, 1, none⟩ = false := frozen_of_row w3 X 1 _ _ h3; have e2 : w3.cell? ⟨X, 2, none⟩ = some (.int .u32 S.c.toNat) := cell_row h3 rfl; have f2 : w3.frozen? ⟨X, 2, none⟩ = false := frozen_of_row w3 X 2 _ _ h3; have e3 : w3.cell? ⟨X, 3, none⟩ = some (.int .u32 S.d.toNat) := cell_row h3 rfl; have f3 : w3.frozen? ⟨X, 3, none⟩ = false := frozen_of_row w3 X 3 _ _ h3; have e4 : w3.cell? ⟨X, 4, none⟩ = some (.int .u32 S.e.toNat) := cell_row h3 rfl; have f4 : w3.frozen? ⟨X, 4, none⟩ = false := frozen_of_row w3 X 4 _ _ h3; have e5 : w3.cell? ⟨X, 5, none⟩ = some (.int .u32 S.f.toNat) := cell_row h3 rfl; have f5 : w3.frozen? ⟨X, 5, none⟩ = false := frozen_of_row w3 X 5 _ _ h3; have e6 : w3.cell? ⟨X, 6, none⟩ = some (.int .u32 S.g.toNat) := cell_row h3 rfl; have f6 : w3.frozen? ⟨X, 6, none⟩ = false := frozen_of_row w3 X 6 _ _ h3; have e7 : w3.cell? ⟨X, 7, none⟩ = some (.int .u32 S.h.toNat) := cell_row h3 rfl; have f7 : w3.frozen? ⟨X, 7, none⟩ = false := frozen_of_row w3 X 7 _ _ h3; have h3' := Lib.hid h3; clear h3)
                  all_goals
                    go_wp2
                    go_roundw
                    case rel =>
                      refine ⟨n + 1, by omega, by go_num, Lib.hid ?_, ?_⟩
                      · rw [HS'.out]
                        exact set_row (set_row (set_row (set_row (set_row (set_row (set_row (set_row h3'.out)))))))
                      · iterate 8 refine Below.setCell ?_ (by exact Nat.le_refl _) _
                        exact hbx.trans (g3.mono (Nat.le_of_lt hXr))
                    case measure => simp [intOf]; omega
                · obtain rfl : n = N := by omega
                  have hyn : y.length / 64 = n := by rw [HYN.out]; omega
                  obtain ⟨H, hH⟩ : ∃ H, H = blks y n := ⟨_, rfl⟩
                  have hsha : outB H = sha l := by rw [hH]; unfold sha; rw [← HYL.out, hyn]
                  have hH8 : H.length = 8 := by rw [hH]; exact blks_len _ _
                  rw [← hH] at hrx
                  have hbb := bq.trans (hbx.mono (Nat.le_trans (Nat.le_succ _) (Nat.le_of_lt hTX)))
                  have r1 : wr.heap[w.heap.size + 1]? = some (.cells (bcells (List.replicate 32 0)).toArray 23 (0, 0)) := (hbx.block _ hTX).trans Q1.out
                  have hXr : X < wr.heap.size := by
                    rcases Nat.lt_or_ge X wr.heap.size with h | h
                    · exact h
                    · have := hrx.out; rw [Array.getElem?_eq_none h] at this; cases this
                  have HSHA := Lib.hid hsha
                  have HH8 := Lib.hid hH8
                  have R2 := Lib.hid r1
                  clear hyn hH hsha hH8 r1 hbx
                  obtain ⟨wz, hwz⟩ : ∃ wz : World, wz = wr := ⟨_, rfl⟩
                  rw [← hwz] at hrx hbb R2 hXr
                  rw [← hwz]
                  clear hwz
                  go_wp2_with fail
                  generalize hwo : World.alloc wz _ = wo
                  obtain ⟨O, hO⟩ : ∃ O, O = wz.heap.size := ⟨_, rfl⟩
                  have ro : wo.heap[O]? = some (.cells (bcells (List.replicate 32 0)).toArray 23 (0, 0)) := by rw [hO, ← hwo]; exact heap_alloc_new wz _
                  have bo : Below O wz wo := by rw [hO, ← hwo]; exact (Below.refl _ _).alloc (Nat.le_refl _) _
                  rw [← hO] at hXr
                  rw [← hO]
                  have HO := Lib.hid hO
                  clear hwo hO
                  go_loopw [12] (fun i wr => ∃ (k : Nat) (M : List UInt8), k ≤ 32 ∧ i = .int .i64 k ∧ Hid (M.length = 32) ∧ Hid (M.take k = (outB H).take k) ∧ Hid (wr.heap[O]? = some (.cells (bcells M).toArray 23 (0, 0))) ∧ Below O wz wr) (fun i _ => 32 - (intOf i).toNat)
                  case atStart => exact ⟨0, List.replicate 32 0, by omega, rfl, Lib.hid rfl, Lib.hid rfl, Lib.hid ro, bo⟩
                  case round =>
                    clear ro bo
                    obtain ⟨k, M, hk, rfl, hM, hT, hro, hbo⟩ := hrel
                    by_cases hlt : k < 32
                    · have kk : (k : Int) < 32 := by omega
                      have c0 : wr.cell? ⟨X, k / 4, none⟩ = some (.int .u32 (H.getD (k / 4) 0).toNat) := (hbo.cell (p := ⟨X, k / 4, none⟩) hXr).trans (cell_row hrx.out (uc_get (by rw [HH8.out]; omega)))
                      have c1 : wr.cell? ⟨O, k, none⟩ = some (.int .u8 (M.getD k 0).toNat) := cell_row hro.out (bcells_get (by rw [hM.out]; exact hlt))
                      have f1 : wr.frozen? ⟨O, k, none⟩ = false := frozen_of_row wr O k _ _ hro.out
                      have hok : Hid ((outB H)[k]? = some (UInt8.ofNat ((H.getD (k / 4) 0).toNat >>> (24 - 8 * (k % 4))))) := Lib.hid (by simp [outB, hlt])
                      generalize H.getD (k / 4) 0 = x0 at c0 hok
                      generalize M.getD k 0 = x1 at c1
                      go_wp2
                      go_roundw
                      case rel =>
                        refine ⟨k + 1, M.set k _, by omega, by go_num, Lib.hid (by rw [List.length_set]; exact hM.out), Lib.hid (take_set _ _ _ _ hT.out (by rw [hM.out]; exact hlt) hok.out), Lib.hid ?_, hbo.setCell (by exact Nat.le_refl _) _⟩
                        rw [← bcells_set, ← byte_eq]; exact set_row hro.out
                      case measure => simp [intOf]; omega
                    · obtain rfl : k = 32 := by omega
                      have e := take_all _ _ 32 hT.out hM.out (outB_len H)
                      subst e
                      have r2 : wr.heap[w.heap.size + 1]? = some (.cells (bcells (List.replicate 32 0)).toArray 23 (0, 0)) := (hbo.block _ (by omega)).trans R2.out
                      have R3 := Lib.hid r2
                      have SZ := Lib.hid (show ((bcells (List.replicate 32 (0 : UInt8))).toArray).size = (bcells (outB H)).toArray.size from by simp [bcells, outB_len])
                      have SZ2 := Lib.hid (show (Tryd.prog.info? 23).map (·.size) = some (bcells (outB H)).toArray.size from by simp [bcells, outB_len, info26])
                      have hbb2 := hbb.trans (hbo.mono (by omega))
                      clear r2 hM hT
                      go_wp2_with (first
                        | (refine wpList_load_row rfl 23 (.tmp 11) rfl O rfl 23 (bcells (outB H)).toArray (0, 0) _ hro.out Tryd.underlying23 rfl SZ2.out ?_)
                        | (refine wpList_store_row rfl 23 (.tmp 4) (.tmp 84) rfl (w.heap.size + 1) (bcells (outB H)).toArray rfl rfl 23 (bcells (List.replicate 32 0)).toArray R3.out SZ2.out SZ.out (ones_bc _) ?_))
                      exact bodyPost_ret (v := aggB (outB H)) (results_cell_row Tryd.results22 _ _ (w.heap.size + 1) 23 _ _ _ rfl (setRow_heap _ _ _ _ _ _ R3.out) Tryd.underlying23 rfl SZ2.out) rfl ⟨by rw [HSHA.out], below_setRow hbb2 (Nat.le_succ _) _⟩
end Go.Proofs.YtlplgpmadfmjjaaDoor
