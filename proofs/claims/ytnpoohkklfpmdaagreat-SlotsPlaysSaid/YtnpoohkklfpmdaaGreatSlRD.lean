/- The document's Commit. -/
import Derived.Test.YtnpoohkklfpmdaaGreatRows
import Derived.WalkKit
import Derived.Below
import Derived.ProofKit
import Derived.OpenShut
import Derived.ShutString
import Derived.ChangeOld
import Derived.Outline
import Derived.RegionTactic
import Derived.ChangeAlike
import Derived.BigRegion
import Derived.BigQuiet
import Derived.Deep.QuietTactic
import Derived.Deep.RegionWith
import Derived.Deep.RegionLaw
import Derived.Deep.RegionHeld3
import Derived.Deep.AppendLies
import Derived.Deep.Draws
import Derived.StillTailTactics
import Derived.Lib.Hide
import Derived.Lib.SmallJoins
import Derived.Handy
import Derived.WalkSpells
import Derived.WalkLawsBesides
import Derived.Deep.LoopGhost
import Derived.Deep.DeepCutAuto
import Derived.Deep.CutBlock
import Derived.Deep.CutRange
import Derived.Deep.OwnRows
import Derived.Laws.CopyOwn
import Derived.Great.BuildSlice
import Derived.Test.YtnpoohkklfpmdaaGreatSlRC
import Derived.Test.YtnpoohkklfpmdaaGreatSlPX
import Derived.Test.YtnpoohkklfpmdaaGreatCheckR
namespace Go.Proofs.YtnpoohkklfpmdaaGreat
open Go.RowKit
set_option linter.unusedSimpArgs false
set_option linter.unusedVariables false
set_option linter.unnecessarySimpa false
theorem app_zero (l : List UInt8) : ByteArray.mk l.toArray ++ ByteArray.mk #[0] = ⟨(l ++ [0]).toArray⟩ := app_list l [0]
attribute [local go_sem] idx_list ext_list app_list app_zero
def strLen : Value → Nat
  | .string b => b.size
  | _ => 0
theorem zl_snoc (l : List UInt8) (t : Nat) : (l ++ zl t) ++ [0] = l ++ zl (t + 1) := by
  rw [List.append_assoc]; congr 1; simp [zl, List.replicate_succ']
theorem chunk_full (all : List UInt8) (k pad : Nat) (hk : 64 * k < all.length) (hp : (all.length + pad) % 64 = 0) (hp2 : pad < 64) : ((all ++ zl pad).take (k * 64 + 64)).drop (k * 64) = chunk all k := by
  unfold chunk
  have e : (all ++ zsec) = (all ++ zl pad) ++ List.replicate (64 - pad) 0 := by
    rw [List.append_assoc]; congr 1
    unfold zl zsec
    rw [List.replicate_append_replicate]
    congr 1; omega
  have hAl : (all ++ zl pad).length = all.length + pad := by simp [zl]
  rw [e, Nat.mul_comm k 64]
  generalize all ++ zl pad = A at *
  rw [List.drop_append_of_le_length (by omega), List.take_append_of_le_length (by rw [List.length_drop]; omega), List.drop_take]
  congr 1; omega
theorem secsM_get (L s : List UInt8) (k : Nat) (hk : k < (L.length + s.length + 63) / 64 - L.length / 64) : (secsM L s)[k]? = some (2 + (L.length / 64 + k), chunk (L ++ s) (L.length / 64 + k)) := by
  unfold secsM
  rw [List.getElem?_map, List.getElem?_range' hk]
  simp
theorem acts_splitR (L rc : List UInt8) (m : Mk) : actsC L rc m = (wrD (secsM L rc) ++ [.f]) ++ (wrD [(m.ep % 2, packM m)] ++ [.f]) := by simp [actsC, wrD]
theorem ft_uw {us uw uw' : Value} {q y : Nat} {w : World} (hy : y < w.heap.size) (h : y ∉ ft us uw q) (hn : ∀ b ∈ blk uw', b ∈ blk uw ∨ w.heap.size ≤ b) : y ∉ ft us uw' q := fun hin => by
  unfold ft at h hin
  rcases List.mem_cons.1 hin with e | e
  · exact h (by rw [e]; simp)
  · rcases List.mem_append.1 e with e | e
    · exact h (by simp [e])
    · rcases hn y e with q1 | q1
      · exact h (by simp [q1])
      · omega
set_option maxHeartbeats 8000000 in
set_option maxRecDepth 100000 in
theorem rCommit_any {y q : Nat} {us uw : Value} {d : Dv} {S : Sg} (r : List UInt8) (w : World) (h : R6 w us uw q d) (hy : Rw w y (rs7 q S) 54) (hyn : y ∉ ft us uw q) (hf : d.Few7) (ho : d.Ok) (hs : S.Fits d.safe.length) (hr : (r.length : Int) ≤ 16777215) :
    Calls Tryz.prog 16 #[.pointer (some ⟨y, 0, none⟩), .string ⟨r.toArray⟩] w fun e w' => e = .returned (.int .i64 (commitD d S r).2) ∧ ∃ uw', R6 w' us uw' q (commitD d S r).1.1 ∧ Rw w' y (rs7 q (commitD d S r).1.2) 54 ∧ Fr (y :: ft us uw q) w w' ∧ ∀ b ∈ blk uw', b ∈ blk uw ∨ w.heap.size ≤ b := by
  obtain ⟨R, hR⟩ : ∃ R, R = commitD d S r := ⟨_, rfl⟩
  rw [← hR]
  have c5 := hy.c 5 (v := .bool S.br) rfl
  have hyl := hy.lt
  have hlt := h.lt
  have keepR : ∀ w', Below w.heap.size w w' → R6 w' us uw q d := fun w' hb => h.keep fun b hm => hb.block b (hlt b hm)
  have same : R = ((d, S), R.2) → ∀ w', Below w.heap.size w w' → ∃ uw', R6 w' us uw' q R.1.1 ∧ Rw w' y (rs7 q R.1.2) 54 ∧ Fr (y :: ft us uw q) w w' ∧ ∀ b ∈ blk uw', b ∈ blk uw ∨ w.heap.size ≤ b := fun e w' hb => by
    have e1 : R.1 = (d, S) := congrArg Prod.fst e
    rw [e1]
    exact ⟨uw, keepR w' hb, hy.below hb, Fr.of_below hb, fun b hb => .inl hb⟩
  have HR := Lib.hid hR
  have SAME := Lib.hid same
  have KEEP := Lib.hid keepR
  have HY := Lib.hid hy
  have HYN := Lib.hid hyn
  have HF := Lib.hid hf
  have HO := Lib.hid ho
  have HS := Lib.hid hs
  have HLT := Lib.hid hlt
  clear hR same keepR hy hyn hf ho hs hlt h
  cases hbr : S.br with
  | true =>
    rw [hbr] at c5
    have e : R = ((d, S), 13) := by rw [HR.out]; unfold commitD; rw [if_pos hbr]
    have e2 : R.2 = 13 := by rw [e]
    have HE := Lib.hid (show R = ((d, S), R.2) by rw [e])
    have HE2 := Lib.hid e2
    clear e e2 hbr
    go_enter Tryz.func16, Tryz.ntmps16
    go_wp2
    go_ret
    exact ⟨by rw [HE2.out]; rfl, SAME.out HE.out _ (Below.refl _ _)⟩
  | false =>
    rw [hbr] at c5
    have hP := refPut5_any r w (by omega)
    by_cases h20 : r.length ≤ 1048576
    · rw [show putP r = (recd r, 0) from if_pos h20] at hP
      obtain ⟨s, hsr⟩ : ∃ s, s = recd r := ⟨_, rfl⟩
      have hsl := (recd_len r).2
      rw [← hsr] at hP hsl
      have HP := Lib.hid hP
      have HSR := Lib.hid hsr
      have H20 := Lib.hid h20
      have HBR := Lib.hid hbr
      have hslI : (s.length : Int) ≤ 1048600 := by omega
      obtain ⟨M, hM⟩ : ∃ M, M = 64 * (d.safe.length - 2) - S.log.length := ⟨_, rfl⟩
      have hMI : (M : Int) ≤ 262144 := by have := HF.out.safe; omega
      have HM := Lib.hid hM
      have hRoom : ∀ w1, Below w.heap.size w w1 → Calls Tryz.prog 22 #[.pointer (some ⟨y, 0, none⟩)] w1 fun e w' => e = .returned (.int .i64 (M : Nat)) ∧ ∃ m, w' = w1.drewN m := fun w1 hb => by
        rw [hM]
        exact rRoom_any w1 (KEEP.out w1 hb) (HY.out.below hb) rfl HS.out HF.out.safe
      have HROOM := Lib.hid hRoom
      clear hP hsr hbr hM hRoom hsl h20 hr
      go_enter Tryz.func16, Tryz.ntmps16
      go_wp2_with fail
      refine HP.out.mono ?_
      rintro e w1 ⟨rfl, g1⟩
      clear HP
      have G1 := Lib.hid g1
      clear g1
      go_wp2_with fail
      refine (HROOM.out _ G1.out).mono ?_
      rintro e w2 ⟨rfl, m2, rfl⟩
      clear HROOM
      have G2 : Hid (Below w.heap.size w (w1.drewN m2)) := Lib.hid (below_drewN G1.out m2)
      obtain ⟨w2, hw2⟩ : ∃ w2, w2 = w1.drewN m2 := ⟨_, rfl⟩
      rw [← hw2] at G2 ⊢
      clear hw2 c5 G1
      by_cases hfit : s.length ≤ M
      · have fI : ¬ ((M : Int) < s.length) := by omega
        obtain ⟨L, hL⟩ : ∃ L, L = S.log := ⟨_, rfl⟩
        have Y2 := Lib.hid (HY.out.below G2.out)
        have c4 := Y2.out.c 4 (v := .string ⟨S.log.toArray⟩) rfl
        rw [← hL] at c4
        have hLl : L.length ≤ 64 * (d.safe.length - 2) := by rw [hL]; exact HS.out.fit
        have hL4 : L.length + s.length ≤ 64 * (d.safe.length - 2) := by have := HM.out; rw [← hL] at this; omega
        have hd4 := HF.out.safe
        obtain ⟨al, hal⟩ : ∃ al, al = L ++ s := ⟨_, rfl⟩
        have hall : al.length = L.length + s.length := by rw [hal, List.length_append]
        obtain ⟨pad, hpad⟩ : ∃ pad, pad = (64 - al.length % 64) % 64 := ⟨_, rfl⟩
        have HPAD : Hid ((al.length + pad) % 64 = 0 ∧ pad < 64) := Lib.hid (by omega)
        have q1 : ¬ (9223372036854775807 < L.length + s.length) := by omega
        have alI : (al.length : Int) ≤ 262144 := by omega
        have HAL := Lib.hid hal
        have HALL := Lib.hid hall
        have HL := Lib.hid hL
        have HL4 := Lib.hid hL4
        have lI : (L.length : Int) ≤ 262144 := by omega
        obtain ⟨X, hX⟩ : ∃ X, X = runD d (actsC L s (nextM S.m s)) := ⟨_, rfl⟩
        have hR2 : R = if X.2 = 0 then ((X.1, ⟨nextM S.m s, L ++ s, false⟩), 0) else ((X.1, { S with br := true }), X.2) := by
          rw [HR.out, hX]
          unfold commitD
          rw [HBR.out, if_neg (by decide), if_pos H20.out, if_pos (by rw [← HSR.out, ← hL]; omega), ← HSR.out, ← hL]
        have HE1 : Hid (R.1.1 = X.1) := Lib.hid (by rw [hR2]; split <;> rfl)
        have HE2 : Hid (R.2 = X.2) := Lib.hid (by
          rw [hR2]
          split
          · rename_i q; exact q.symm
          · rfl)
        have HE3 : Hid (R.1.2 = if X.2 = 0 then ⟨nextM S.m s, L ++ s, false⟩ else { S with br := true }) := Lib.hid (by rw [hR2]; split <;> rfl)
        have HX := Lib.hid hX
        clear hX hR2 SAME
        clear hpad hal hall hL hLl hL4 hd4 hfit
        go_upto_region 9 with (fail)
        rw [← HAL.out]
        go_wp2
        go_loop [8] (fun f => ∃ (t : Nat) (ff : List UInt8), Hid (t ≤ pad ∧ ff = al ++ zl t ∧ ff.length = al.length + t) ∧ f = .string ⟨ff.toArray⟩) (fun f => al.length + 64 - strLen f)
        case atStart => exact ⟨0, al, Lib.hid ⟨by omega, by simp [zl], rfl⟩, rfl⟩
        case round =>
          obtain ⟨t, ff, hK, rfl⟩ := hrel
          have ffI : (ff.length : Int) ≤ 300000 := by have := hK.out; have := HPAD.out; omega
          by_cases hlt : t < pad
          · have h1 : ((ff.length : Int) % 64 == 0) = false := by have := hK.out; have := HPAD.out; simp; omega
            have h2 : ((ff.length : Int) % 64 != 0) = true := by have := hK.out; have := HPAD.out; simp; omega
            have HLTT := Lib.hid hlt
            clear hlt
            go_wp2
            go_round
            case rel => exact ⟨t + 1, ff ++ [0], Lib.hid (by have h3 := hK.out; have := HLTT.out; exact ⟨by omega, by rw [h3.2.1, zl_snoc], by rw [List.length_append]; simp; omega⟩), rfl⟩
            case measure => have h3 := hK.out; have := HLTT.out; have := HPAD.out; simp [strLen, ByteArray.size]; omega
          · have htp : t = pad := by have := hK.out; omega
            subst htp
            have h1 : ((ff.length : Int) % 64 == 0) = true := by have := hK.out; have := HPAD.out; simp; omega
            have h2 : ((ff.length : Int) % 64 != 0) = false := by have := hK.out; have := HPAD.out; simp; omega
            have HFF := Lib.hid hK.out.2.1
            have HFL := Lib.hid hK.out.2.2
            clear hlt hK
            go_upto_region 12 with (fail)
            clear h1 h2
            go_wp2
            obtain ⟨cnt, hcnt⟩ : ∃ cnt, cnt = (L.length + s.length + 63) / 64 - L.length / 64 := ⟨_, rfl⟩
            have HCNT := Lib.hid hcnt
            clear hcnt
            go_loopw [6, 9] (fun e a wr => ∃ (k j : Nat) (uw' : Value), Hid (j = L.length / 64 + k ∧ k ≤ cnt ∧ (runD d (wrD ((secsM L s).take k))).2 = 0) ∧ a = .int .i64 (j : Nat) ∧ e = .int .i64 0 ∧ Hid (R6 wr us uw' q (runD d (wrD ((secsM L s).take k))).1) ∧ Hid (Rw wr y (rs7 q S) 54) ∧ Hid (Fr (y :: ft us uw q) w wr) ∧ Hid (∀ b ∈ blk uw', b ∈ blk uw ∨ w.heap.size ≤ b)) (fun _ a _ => (L.length + s.length) / 64 + 2 - (intOf a).toNat)
            case atStart => exact ⟨0, L.length / 64, uw, Lib.hid ⟨by omega, by omega, rfl⟩, by go_num, rfl, Lib.hid (KEEP.out _ G2.out), Y2, Lib.hid (Fr.of_below G2.out), Lib.hid (fun b hb => .inl hb)⟩
            case round =>
              obtain ⟨k, j, uw', hK, rfl, rfl, hD, hY, hFr, hU⟩ := hrel
              have jI : (j : Int) ≤ 5000 := by have := hK.out; have := HCNT.out; have := HL4.out; have := HF.out.safe; omega
              by_cases hlt : k < cnt
              · have h1 : (j : Int) * 64 < al.length := by have := hK.out; have := HCNT.out; have := HALL.out; omega
                obtain ⟨D, hDD⟩ : ∃ D, D = runD d (wrD ((secsM L s).take k)) := ⟨_, rfl⟩
                obtain ⟨D', hDD'⟩ : ∃ D', D' = runD d (wrD ((secsM L s).take (k + 1))) := ⟨_, rfl⟩
                have hfew := runD_few (wrD ((secsM L s).take k)) d
                have hlen := runD_len (wrD ((secsM L s).take k)) d
                have hwl : (wrD ((secsM L s).take k)).length ≤ 4100 := by
                  have := HCNT.out
                  have := HF.out.safe
                  simp [wrD]; omega
                have hd := hD.out
                rw [← hDD] at hfew hlen hd
                have hFD : D.1.Few := by
                  obtain ⟨f1, f2, f3, f4⟩ := HF.out
                  exact ⟨by omega, by omega, by omega, by omega⟩
                have hch := chunk_full al j t (by omega) HPAD.out.1 HPAD.out.2
                rw [← HFF.out] at hch
                have hstep : D' = writeD D.1 ((2 + j : Nat) : Int) (chunk al j) := by
                  rw [hDD', List.take_add_one, secsM_get L s k (by have := HCNT.out; omega), ← hK.out.1, ← HAL.out]
                  show runD d (wrD ((secsM L s).take k ++ [(2 + j, chunk al j)])) = _
                  rw [wrD_snoc, runD_snoc_ok _ hK.out.2.2, ← hDD]
                  rfl
                have c0 := hY.out.c 0 (v := .pointer (some ⟨q, 0, none⟩)) rfl
                have hffI : (j : Int) * 64 + 64 ≤ ff.length := by have := HFL.out; have := HPAD.out; omega
                have HW : ∀ w1, w1 = wr.drew → Calls Tryz.prog 38 #[.pointer (some ⟨q, 0, none⟩), .int .i64 (2 + (j : Int)), .string ⟨((ff.take (j * 64 + 64)).drop (j * 64)).toArray⟩] w1 fun e w' => e = .returned (.int .i64 D'.2) ∧ ∃ uw2, R6 w' us uw2 q D'.1 ∧ Fr (q :: blk uw') wr w' ∧ ∀ b ∈ blk uw2, b ∈ blk uw' ∨ wr.heap.size ≤ b := fun w1 e => by
                  rw [e]
                  have hd' : R6 wr.drew us uw' q D.1 := ⟨hd.row, hd.safe, hd.waits⟩
                  have hw := refWrite_any us uw' q D.1 ((2 + j : Nat) : Int) (chunk al j) wr.drew hd' hFD (by rw [chunk_len (by omega)]; omega)
                  rw [← hstep, ← hch, show ((2 + j : Nat) : Int) = 2 + (j : Int) from by omega] at hw
                  exact hw.mono fun e w' ⟨he, uw2, a, b, c⟩ => ⟨he, uw2, a, b.undrew, c⟩
                have HWH := Lib.hid HW
                have HDD' := Lib.hid hDD'
                have HKL := Lib.hid hlt
                clear HW hstep hch hFD hd hfew hlen hwl hDD hDD' hlt
                go_upto_region 15 with (fail)
                have v1 : IntKind.i64.wrap (2 + (j : Int)) = 2 + (j : Int) := IntWalk.i64_in _ (by omega)
                have v2 : IntKind.i64.wrap ((j : Int) * 64) = (j : Int) * 64 := IntWalk.i64_in _ (by omega)
                have v3 : IntKind.i64.wrap ((j : Int) * 64 + 64) = (j : Int) * 64 + 64 := IntWalk.i64_in _ (by omega)
                have v4 : (0 : Int) ≤ (j : Int) * 64 := by omega
                have v5 : (0 : Int) ≤ (j : Int) * 64 + 64 := by omega
                have v6 : (j : Int) * 64 ≤ (j : Int) * 64 + 64 := by omega
                have v7 : ((j : Int) * 64).toNat = j * 64 := by omega
                have v8 : ((j : Int) * 64 + 64).toNat = j * 64 + 64 := by omega
                go_still_tail 13, (by kernel_rfl)
                change wpList _ _ _ _ _ wr.drew
                go_wp2_with fail
                refine (HWH.out _ rfl).mono ?_
                rintro e w3 ⟨rfl, uw2, h3, f3, u3⟩
                have fy : y ∉ q :: blk uw' := fun hin => by
                  rcases List.mem_cons.1 hin with e | e
                  · exact HYN.out (by rw [e]; simp [ft])
                  · rcases hU.out y e with e | e
                    · exact HYN.out (by simp [ft, e])
                    · omega
                have Y3 := Lib.hid (hY.out.fr f3 fy)
                have F3 : Hid (Fr (y :: ft us uw q) w w3) := Lib.hid (hFr.out.then2 f3 fun b hb => by
                  rcases List.mem_cons.1 hb with e | e
                  · left; rw [e]; simp [ft]
                  · exact (hU.out b e).imp (fun e => by simp [ft, e]) id)
                have U3 : Hid (∀ b ∈ blk uw2, b ∈ blk uw ∨ w.heap.size ≤ b) := Lib.hid fun b hb => (u3 b hb).elim (hU.out b) (fun e => .inr (Nat.le_trans hFr.out.size e))
                obtain ⟨dD, eD⟩ := D'
                simp only at h3
                have H3 := Lib.hid h3
                clear h3 u3 f3 fy hY hFr hU hD HWH v1 v2 v3 v4 v5 v6 v7 v8 h1 hffI c0
                by_cases hz : eD = 0
                · subst hz
                  go_wp2
                  go_roundw
                  case rel =>
                    have e1 := HDD'.out
                    exact ⟨k + 1, j + 1, uw2, Lib.hid (by have := hK.out; have := HKL.out; exact ⟨by omega, by omega, by rw [← e1]⟩), by go_num, rfl, Lib.hid (by rw [← e1]; exact H3.out), Y3, F3, U3⟩
                  case measure => simp [intOf]; have := hK.out; have := HKL.out; have := HCNT.out; omega
                · have z1 : (eD == 0) = false := by simpa using hz
                  have z2 : (eD != 0) = true := by simpa using hz
                  have hXX : X = (dD, eD) := by
                    have e1 := HDD'.out
                    rw [HX.out, acts_splitR, List.append_assoc]
                    have e2 : wrD (secsM L s) = wrD ((secsM L s).take (k + 1)) ++ wrD ((secsM L s).drop (k + 1)) := by
                      simp only [wrD]; rw [← List.map_append, List.take_append_drop]
                    rw [e2, List.append_assoc, runD_append, ← e1, if_neg hz]
                  have HXX := Lib.hid hXX
                  have c5 := Y3.out.c 5 (v := .bool S.br) rfl
                  have f5 := Y3.out.f 5
                  have HZ := Lib.hid hz
                  clear hXX hz
                  go_wp2
                  go_ret
                  have r1 : R.1.1 = dD := by rw [HE1.out, HXX.out]
                  have r2 : R.2 = eD := by rw [HE2.out, HXX.out]
                  have r3 : R.1.2 = { S with br := true } := by rw [HE3.out, HXX.out, if_neg HZ.out]
                  rw [r1, r2, r3]
                  have yn2 := ft_uw hyl HYN.out U3.out
                  refine ⟨rfl, uw2, H3.out.keep (fun b hb => Below.heap_setCell _ _ _ _ (by rintro rfl; exact yn2 hb)), Y3.out.set 5 (.bool true), F3.out.setCell (.inl (by simp)) _, U3.out⟩
              · have hkc : k = cnt := by have := hK.out; omega
                subst hkc
                have h1 : ¬ ((j : Int) * 64 < al.length) := by have := hK.out; have := HCNT.out; have := HALL.out; omega
                have hta : (secsM L s).take k = secsM L s := List.take_of_length_le (by rw [secsM_len, ← HCNT.out]; exact Nat.le_refl _)
                obtain ⟨D, hDD⟩ : ∃ D, D = runD d (wrD (secsM L s)) := ⟨_, rfl⟩
                have hd := hD.out
                have hD0 := hK.out.2.2
                rw [hta, ← hDD] at hd hD0
                have hfew := runD_few (wrD (secsM L s)) d
                have hlen := runD_len (wrD (secsM L s)) d
                have hok := runD_ok (wrD (secsM L s)) HO.out
                have hwl : (wrD (secsM L s)).length ≤ 4100 := by
                  have := HF.out.safe
                  have := HL4.out
                  simp only [wrD, List.length_map, secsM_len]; omega
                rw [← hDD] at hfew hlen hok
                have hFD : D.1.Few := by
                  obtain ⟨f1, f2, f3, f4⟩ := HF.out
                  exact ⟨by omega, by omega, by omega, by omega⟩
                have hfl := refFlush_any us uw' q D.1 wr hd hFD hok
                obtain ⟨G, hG⟩ : ∃ G, G = runD d (wrD (secsM L s) ++ [.f]) := ⟨_, rfl⟩
                have hGf : G = flushD D.1 := by rw [hG, runD_snoc_ok _ (by rw [← hDD]; exact hD0), ← hDD]; rfl
                rw [← hGf] at hfl
                have HFL2 := Lib.hid hfl
                have HGG := Lib.hid hG
                have c0 := hY.out.c 0 (v := .pointer (some ⟨q, 0, none⟩)) rfl
                clear hfl hGf hG hFD hwl hok hlen hfew hd hD0 hDD hta hK HFF HFL ffI HPAD hD
                go_upto_region 19 with (fail)
                clear h1 jI
                go_wp2_with fail
                refine HFL2.out.mono ?_
                rintro e w3 ⟨rfl, uw2, h3, f3, u3⟩
                have fy : y ∉ q :: blk us := fun hin => by
                  rcases List.mem_cons.1 hin with e | e
                  · exact HYN.out (by rw [e]; simp [ft])
                  · exact HYN.out (by simp [ft, e])
                have Y3 := Lib.hid (hY.out.fr f3 fy)
                have F3 : Hid (Fr (y :: ft us uw q) w w3) := Lib.hid (hFr.out.then2 f3 fun b hb => by
                  left
                  rcases List.mem_cons.1 hb with e | e
                  · rw [e]; simp [ft]
                  · simp [ft, e])
                have U3 : Hid (∀ b ∈ blk uw2, b ∈ blk uw ∨ w.heap.size ≤ b) := Lib.hid fun b hb => by
                  rcases u3 with e | e
                  · rw [e] at hb; exact hU.out b hb
                  · rw [e] at hb; cases hb
                obtain ⟨gD, eG⟩ := G
                simp only at h3
                have H3 := Lib.hid h3
                clear h3 u3 f3 fy hY hFr hU HFL2 c0
                have brk : ∀ (w9 : World) (uw9 : Value) (dd : Dv) (ee : Int), ee ≠ 0 → X = (dd, ee) → R6 w9 us uw9 q dd → Rw w9 y (rs7 q S) 54 → Fr (y :: ft us uw q) w w9 → (∀ b ∈ blk uw9, b ∈ blk uw ∨ w.heap.size ≤ b) →
                    R.2 = ee ∧ ∃ uw', R6 (w9.setCell ⟨y, 5, none⟩ (.bool true)) us uw' q R.1.1 ∧ Rw (w9.setCell ⟨y, 5, none⟩ (.bool true)) y (rs7 q R.1.2) 54 ∧ Fr (y :: ft us uw q) w (w9.setCell ⟨y, 5, none⟩ (.bool true)) ∧ ∀ b ∈ blk uw', b ∈ blk uw ∨ w.heap.size ≤ b := fun w9 uw9 dd ee hz hX h9 y9 f9 u9 => by
                  have r1 : R.1.1 = dd := by rw [HE1.out, hX]
                  have r2 : R.2 = ee := by rw [HE2.out, hX]
                  have r3 : R.1.2 = { S with br := true } := by rw [HE3.out, hX, if_neg hz]
                  have yn2 := ft_uw hyl HYN.out u9
                  rw [r1, r2, r3]
                  exact ⟨rfl, uw9, h9.keep (fun b hb => Below.heap_setCell _ _ _ _ (by rintro rfl; exact yn2 hb)), y9.set 5 (.bool true), f9.setCell (.inl (by simp)) _, u9⟩
                have BRK := Lib.hid brk
                clear brk
                by_cases hz : eG = 0
                · subst hz
                  have hfewG := runD_few (wrD (secsM L s) ++ [.f]) d
                  have hlenG := runD_len (wrD (secsM L s) ++ [.f]) d
                  have hokG := runD_ok (wrD (secsM L s) ++ [.f]) HO.out
                  have hwlG : (wrD (secsM L s) ++ [DAct.f]).length ≤ 4101 := by
                    have := HF.out.safe
                    have := HL4.out
                    simp only [wrD, List.length_append, List.length_map, secsM_len, List.length_cons, List.length_nil]; omega
                  rw [← HGG.out] at hfewG hlenG hokG
                  simp only at hfewG hlenG hokG
                  have HXg : Hid (X = runD gD (wrD [((nextM S.m s).ep % 2, packM (nextM S.m s))] ++ [.f])) := Lib.hid (by
                    rw [HX.out, acts_splitR, runD_append, ← HGG.out, if_pos rfl])
                  have hFG : gD.Few := by
                    obtain ⟨f1, f2, f3, f4⟩ := HF.out
                    exact ⟨by omega, by omega, by omega, by omega⟩
                  have HFG := Lib.hid (And.intro hFG (And.intro hokG (And.intro hfewG hlenG)))
                  have c1 := Y3.out.c 1 (v := .int .i64 (S.m.ep : Nat)) rfl
                  have c3 := Y3.out.c 3 (v := .int .i64 (S.m.ct : Nat)) rfl
                  have a1 := (Y3.out.alloc (.cells #[.int .i64 0, .int .i64 0, .int .i64 0] 51)).c 1 (v := .int .i64 (S.m.ep : Nat)) rfl
                  have a3 := (Y3.out.alloc (.cells #[.int .i64 0, .int .i64 0, .int .i64 0] 51)).c 3 (v := .int .i64 (S.m.ct : Nat)) rfl
                  have eI : (S.m.ep : Int) < 1152921504606846976 := by have := HS.out.ep; omega
                  have kI : (S.m.ct : Int) < 1152921504606846976 := by have := HS.out.ct; omega
                  obtain ⟨E, hE⟩ : ∃ E, E = S.m.ep := ⟨_, rfl⟩
                  obtain ⟨C, hC⟩ : ∃ C, C = S.m.ct := ⟨_, rfl⟩
                  rw [← hE] at c1 a1 eI
                  rw [← hC] at c3 a3 kI
                  have HE := Lib.hid hE
                  have HC := Lib.hid hC
                  clear hfewG hlenG hokG hwlG hFG hE hC HGG
                  go_upto_region 23 with (fail)
                  go_region
                  obtain ⟨cm, hcm⟩ : ∃ cm, cm = w3.heap.size := ⟨_, rfl⟩
                  obtain ⟨wm, hwm⟩ : ∃ wm, wm = (w3.alloc (.cells #[.int .i64 ((E : Int) + 1), .int .i64 (al.length : Int), .int .i64 ((C : Int) + 1)] 51)).drew := ⟨_, rfl⟩
                  rw [← hwm, ← hcm]
                  have bm : Below w3.heap.size w3 wm := by rw [hwm]; exact ((Below.refl _ _).alloc (Nat.le_refl _) _).drew
                  have hsz := HS.out.sz
                  have rm : Rw wm cm (ncs (nextM S.m s).ep (nextM S.m s).sz (nextM S.m s).ct) 51 := by
                    have : Rw wm cm [.int .i64 ((E : Int) + 1), .int .i64 (al.length : Int), .int .i64 ((C : Int) + 1)] 51 := by rw [hwm, hcm]; exact Rw.new w3 _ _
                    rw [HE.out, HC.out, HALL.out, HL.out, ← hsz] at this
                    exact this
                  obtain ⟨N, hN⟩ : ∃ N, N = nextM S.m s := ⟨_, rfl⟩
                  have hnx : N.ep < 4611686018427387904 ∧ N.sz < 4611686018427387904 ∧ N.ct < 4611686018427387904 := by
                    have := HS.out.ep
                    have := HS.out.ct
                    have := HS.out.fit
                    have := HF.out.safe
                    rw [hN]
                    simp only [nextM]
                    omega
                  rw [← hN] at rm
                  have HN := Lib.hid hN
                  rw [← hN] at HXg
                  obtain ⟨x0, x1, x2⟩ := N
                  simp only at hnx rm HXg
                  have hpk : ∀ w, Calls Tryz.prog 40 #[.agg #[.int .i64 (x0 : Nat), .int .i64 (x1 : Nat), .int .i64 (x2 : Nat)]] w fun e w' => e = .returned (.string ⟨(packM ⟨x0, x1, x2⟩).toArray⟩) ∧ Below w.heap.size w w' := fun w => rPack_any ⟨x0, x1, x2⟩ w hnx.1 hnx.2.1 hnx.2.2
                  have x0I : (x0 : Int) < 4611686018427387904 := by omega
                  have ym := Y3.out.below bm
                  have hm6 : R6 wm us uw2 q gD := H3.out.keep fun b hb => bm.block b (H3.out.lt b hb)
                  have d0 := ym.c 0 (v := .pointer (some ⟨q, 0, none⟩)) rfl
                  have d1 := rm.c 0 (v := .int .i64 (x0 : Nat)) rfl
                  have d2 := rm.c 1 (v := .int .i64 (x1 : Nat)) rfl
                  have d3 := rm.c 2 (v := .int .i64 (x2 : Nat)) rfl
                  have cmy : cm ∉ q :: blk uw2 := fun hin => by
                    have hh : cm ∈ ft us uw2 q := by
                      rcases List.mem_cons.1 hin with e | e
                      · rw [e]; simp [ft]
                      · simp [ft, e]
                    have := H3.out.lt cm hh
                    omega
                  have yn2 := ft_uw hyl HYN.out U3.out
                  have yq : y ∉ q :: blk uw2 := fun hin => yn2 (by
                    rcases List.mem_cons.1 hin with e | e
                    · rw [e]; simp [ft]
                    · simp [ft, e])
                  obtain ⟨V, hV⟩ : ∃ V, V = writeD gD ((x0 % 2 : Nat) : Int) (packM ⟨x0, x1, x2⟩) := ⟨_, rfl⟩
                  have hst : ∀ w5, Below wm.heap.size wm w5 → Calls Tryz.prog 38 #[.pointer (some ⟨q, 0, none⟩), .int .i64 ((x0 : Int).tmod 2), .string ⟨(packM ⟨x0, x1, x2⟩).toArray⟩] w5 fun e w' => e = .returned (.int .i64 V.2) ∧ ∃ uw3, R6 w' us uw3 q V.1 ∧ Fr (q :: blk uw2) wm w' ∧ (∀ b ∈ blk uw3, b ∈ blk uw2 ∨ wm.heap.size ≤ b) ∧ Rw w' y (rs7 q S) 54 ∧ Rw w' cm (ncs x0 x1 x2) 51 := fun w5 hb => by
                    have h5 : R6 w5 us uw2 q gD := hm6.keep fun b hb' => hb.block b (hm6.lt b hb')
                    have := refWrite_any us uw2 q gD ((x0 % 2 : Nat) : Int) (packM ⟨x0, x1, x2⟩) w5 h5 HFG.out.1 (by rw [packM_len]; omega)
                    rw [← hV, show ((x0 % 2 : Nat) : Int) = (x0 : Int).tmod 2 from by rw [Int.tmod_eq_emod_of_nonneg (by omega)]; omega] at this
                    exact this.mono fun e w' ⟨he, uw3, a, b, c⟩ => ⟨he, uw3, a, (Fr.of_below hb).trans b, fun k hk => (c k hk).imp id (fun e => Nat.le_trans hb.size e), (ym.below hb).fr b yq, (rm.below hb).fr b cmy⟩
                  have HST := Lib.hid hst
                  have HPK := Lib.hid hpk
                  have HV := Lib.hid hV
                  have YM := Lib.hid ym
                  have RM := Lib.hid rm
                  have BM := Lib.hid bm
                  have HCM := Lib.hid hcm
                  clear hst hpk hV ym rm bm hm6 hcm hwm hN hnx c1 c3 a1 a3 eI kI cmy yq yn2 hsz Y3 H3
                  go_upto_region 24 with (fail)
                  go_region_held3 (fun w' => w'.cell? ⟨y, 0, none⟩ = some (.pointer (some ⟨q, 0, none⟩)) ∧ w'.cell? ⟨cm, 0, none⟩ = some (.int .i64 (x0 : Nat)) ∧ w'.cell? ⟨cm, 1, none⟩ = some (.int .i64 (x1 : Nat)) ∧ w'.cell? ⟨cm, 2, none⟩ = some (.int .i64 (x2 : Nat)))
                    (first | (go_keep; done) | exact ⟨d0, d1, d2, d3⟩ | exact ⟨k0, k1, k2, k3⟩ | exact ⟨z0, z1, z2, z3⟩)
                    (first
                      | ((with_reducible go_at_call 40); (with_reducible refine (HPK.out _).mono ?_); rintro e w5 ⟨rfl, h5'⟩; have h5 := below_undrew h5'; have k0 := (YM.out.below h5).c 0 (v := .pointer (some ⟨q, 0, none⟩)) rfl; have k1 := (RM.out.below h5).c 0 (v := .int .i64 (x0 : Nat)) rfl; have k2 := (RM.out.below h5).c 1 (v := .int .i64 (x1 : Nat)) rfl; have k3 := (RM.out.below h5).c 2 (v := .int .i64 (x2 : Nat)) rfl)
                      | ((with_reducible go_at_call 38); (with_reducible refine (HST.out _ h5).mono ?_); rintro e w6 ⟨rfl, uw3, h6, f6, u6, y6, m6⟩; have z0 := y6.c 0 (v := .pointer (some ⟨q, 0, none⟩)) rfl; have z1 := m6.c 0 (v := .int .i64 (x0 : Nat)) rfl; have z2 := m6.c 1 (v := .int .i64 (x1 : Nat)) rfl; have z3 := m6.c 2 (v := .int .i64 (x2 : Nat)) rfl))
                  rename_i hh
                  have Y6 := Lib.hid y6
                  have M6 := Lib.hid m6
                  have F6 : Hid (Fr (y :: ft us uw q) w w6) := Lib.hid ((F3.out.trans (Fr.of_below BM.out)).then2 f6 fun b hb => by
                    rcases List.mem_cons.1 hb with e | e
                    · left; rw [e]; simp [ft]
                    · exact (U3.out b e).imp (fun e => by simp [ft, e]) id)
                  have U6 : Hid (∀ b ∈ blk uw3, b ∈ blk uw ∨ w.heap.size ≤ b) := Lib.hid fun b hb => (u6 b hb).elim (U3.out b) (fun e => .inr (by have := F3.out.size; have := BM.out.size; omega))
                  have H6 := Lib.hid h6
                  have hVf := actD_waits gD (.w (x0 % 2) (packM ⟨x0, x1, x2⟩))
                  have hVs := actD_steps gD (.w (x0 % 2) (packM ⟨x0, x1, x2⟩))
                  have hVl := actD_left gD (.w (x0 % 2) (packM ⟨x0, x1, x2⟩))
                  have hVn := actD_len gD (.w (x0 % 2) (packM ⟨x0, x1, x2⟩))
                  have hVo := actD_ok HFG.out.2.1 (.w (x0 % 2) (packM ⟨x0, x1, x2⟩))
                  rw [show actD gD (.w (x0 % 2) (packM ⟨x0, x1, x2⟩)) = V from HV.out.symm] at hVf hVs hVl hVn hVo
                  have hwlG : (wrD (secsM L s) ++ [DAct.f]).length ≤ 4101 := by
                    have := HF.out.safe
                    have := HL4.out
                    simp only [wrD, List.length_append, List.length_map, secsM_len, List.length_cons, List.length_nil]; omega
                  have hFV : V.1.Few := by
                    obtain ⟨f1, f2, f3, f4⟩ := HF.out
                    obtain ⟨_, _, ⟨g1, g2, g3⟩, g4⟩ := HFG.out
                    exact ⟨by omega, by omega, by omega, by omega⟩
                  have HFV := Lib.hid (And.intro hFV hVo)
                  have hX1 : X = if V.2 = 0 then flushD V.1 else V := by
                    have e1 : runD gD (wrD [(x0 % 2, packM ⟨x0, x1, x2⟩)]) = V := by rw [HV.out]; exact runD_one gD (.w (x0 % 2) (packM ⟨x0, x1, x2⟩))
                    rw [HXg.out, runD_append, e1, runD_one]
                    rfl
                  have HX1 := Lib.hid hX1
                  obtain ⟨vD, eV⟩ := V
                  clear hh y6 m6 f6 u6 h6 hVf hVs hVl hVn hVo hwlG hFV hX1 HXg HST HPK d0 d1 d2 d3 k0 k1 k2 k3 z0 z1 z2 z3 h5 h5' YM RM
                  have brk2 : ∀ (hz : eV ≠ 0), X = (vD, eV) := fun hz => by rw [HX1.out]; exact if_neg hz
                  have BRK2 := Lib.hid brk2
                  clear brk2
                  have c5 := Y6.out.c 5 (v := .bool S.br) rfl
                  have f5 := Y6.out.f 5
                  by_cases hz : eV = 0
                  · subst hz
                    have hfl := refFlush_any us uw3 q vD w6 H6.out HFV.out.1 HFV.out.2
                    have hXf : X = flushD vD := by rw [HX1.out]; exact if_pos rfl
                    rw [← hXf] at hfl
                    have HFL3 := Lib.hid hfl
                    have c0 := Y6.out.c 0 (v := .pointer (some ⟨q, 0, none⟩)) rfl
                    have HXf := Lib.hid hXf
                    clear hfl hXf BRK2 c5 f5
                    go_wp2_with fail
                    refine HFL3.out.mono ?_
                    rintro e w7 ⟨rfl, uw4, h7, f7, u7⟩
                    have yn6 := ft_uw hyl HYN.out U6.out
                    have y7 := Y6.out.fr f7 (fun hin => yn6 (by
                      rcases List.mem_cons.1 hin with e | e
                      · rw [e]; simp [ft]
                      · simp [ft, e]))
                    have cmF : cm ∉ q :: blk us := fun hin => by
                      have h1 : cm ∈ ft us uw q := by
                        rcases List.mem_cons.1 hin with e | e
                        · rw [e]; simp [ft]
                        · simp [ft, e]
                      have := HLT.out cm h1
                      have := F3.out.size
                      have := HCM.out
                      omega
                    have m7 := M6.out.fr f7 cmF
                    have F7 : Hid (Fr (y :: ft us uw q) w w7) := Lib.hid (F6.out.then2 f7 fun b hb => by
                      left
                      rcases List.mem_cons.1 hb with e | e
                      · rw [e]; simp [ft]
                      · simp [ft, e])
                    have U7 : Hid (∀ b ∈ blk uw4, b ∈ blk uw ∨ w.heap.size ≤ b) := Lib.hid fun b hb => by
                      rcases u7 with e | e
                      · rw [e] at hb; exact U6.out b hb
                      · rw [e] at hb; cases hb
                    obtain ⟨xD, eX⟩ := X
                    have H7 := Lib.hid h7
                    have Y7 := Lib.hid y7
                    have c5 := y7.c 5 (v := .bool S.br) rfl
                    have f5 := y7.f 5
                    by_cases hzx : eX = 0
                    · subst hzx
                      have j0 := m7.c 0 (v := .int .i64 (x0 : Nat)) rfl
                      have j1 := m7.c 1 (v := .int .i64 (x1 : Nat)) rfl
                      have j2 := m7.c 2 (v := .int .i64 (x2 : Nat)) rfl
                      have l1 := y7.c 1 (v := .int .i64 (S.m.ep : Nat)) rfl
                      have l2 := y7.c 2 (v := .int .i64 (S.m.sz : Nat)) rfl
                      have l3 := y7.c 3 (v := .int .i64 (S.m.ct : Nat)) rfl
                      have l4 := y7.c 4 (v := .string ⟨S.log.toArray⟩) rfl
                      have o1 := y7.f 1
                      have o2 := y7.f 2
                      have o3 := y7.f 3
                      have o4 := y7.f 4
                      clear y7 m7 h7 f7 u7 yn6 cmF c5 f5 HFL3
                      go_wp2
                      go_ret
                      have r1 : R.1.1 = xD := HE1.out
                      have r2 : R.2 = 0 := HE2.out
                      have r3 : R.1.2 = ⟨nextM S.m s, L ++ s, false⟩ := by rw [HE3.out]; simp
                      rw [r1, r2, r3]
                      have yn7 := ft_uw hyl HYN.out U7.out
                      have hk : ∀ b ∈ ft us uw4 q, b ≠ y := fun b hb e => yn7 (e ▸ hb)
                      refine ⟨rfl, uw4, H7.out.keep (fun b hb => ?_), ?_, ?_, U7.out⟩
                      · rw [Below.heap_setCell _ _ _ _ (hk b hb), Below.heap_setCell _ _ _ _ (hk b hb), Below.heap_setCell _ _ _ _ (hk b hb), Below.heap_setCell _ _ _ _ (hk b hb)]
                      · have := (((Y7.out.set 1 (.int .i64 (x0 : Nat))).set 2 (.int .i64 (x1 : Nat))).set 3 (.int .i64 (x2 : Nat))).set 4 (.string ⟨al.toArray⟩)
                        rw [show rs7 q ⟨nextM S.m s, L ++ s, false⟩ = ((((rs7 q S).set 1 (.int .i64 (x0 : Nat))).set 2 (.int .i64 (x1 : Nat))).set 3 (.int .i64 (x2 : Nat))).set 4 (.string ⟨al.toArray⟩) from by rw [← HN.out, HAL.out]; simp [rs7, HBR.out]]
                        exact this
                      · exact ((((F7.out.setCell (.inl (by simp)) _).setCell (.inl (by simp)) _).setCell (.inl (by simp)) _).setCell (.inl (by simp)) _)
                    · have z1 : (eX == 0) = false := by simpa using hzx
                      have z2 : (eX != 0) = true := by simpa using hzx
                      have HB := Lib.hid (BRK.out w7 uw4 xD eX hzx rfl H7.out Y7.out F7.out U7.out)
                      clear hzx y7 m7 h7 f7 u7 yn6 cmF HFL3
                      go_wp2
                      go_ret
                      exact ⟨by rw [HB.out.1]; rfl, HB.out.2⟩
                  · have z1 : (eV == 0) = false := by simpa using hz
                    have z2 : (eV != 0) = true := by simpa using hz
                    have HB := Lib.hid (BRK.out w6 uw3 vD eV hz (BRK2.out hz) H6.out Y6.out F6.out U6.out)
                    clear hz
                    go_wp2
                    go_ret
                    exact ⟨by rw [HB.out.1]; rfl, HB.out.2⟩
                · have z1 : (eG == 0) = false := by simpa using hz
                  have z2 : (eG != 0) = true := by simpa using hz
                  have hXX : X = (gD, eG) := by
                    rw [HX.out, acts_splitR, runD_append, ← HGG.out, if_neg hz]
                  have HB := Lib.hid (BRK.out w3 uw2 gD eG hz hXX H3.out Y3.out F3.out U3.out)
                  have c5 := Y3.out.c 5 (v := .bool S.br) rfl
                  have f5 := Y3.out.f 5
                  clear hXX hz
                  go_wp2
                  go_ret
                  exact ⟨by rw [HB.out.1]; rfl, HB.out.2⟩
      · have e : R = ((d, S), 15) := by
          rw [HR.out]
          unfold commitD
          rw [HBR.out, if_neg (by decide), if_pos H20.out, if_neg (by have := HM.out; have := HS.out.fit; rw [← HSR.out]; omega)]
        have e2 : R.2 = 15 := by rw [e]
        have HE := Lib.hid (show R = ((d, S), R.2) by rw [e])
        have HE2 := Lib.hid e2
        have fI : (M : Int) < s.length := by omega
        clear e e2 hfit
        go_wp2
        go_ret
        exact ⟨by rw [HE2.out]; rfl, SAME.out HE.out _ G2.out⟩
    · rw [show putP r = ([], 11) from if_neg h20] at hP
      have e : R = ((d, S), 11) := by
        rw [HR.out]
        unfold commitD
        rw [hbr, if_neg (by decide), if_neg h20]
      have e2 : R.2 = 11 := by rw [e]
      have HE := Lib.hid (show R = ((d, S), R.2) by rw [e])
      have HE2 := Lib.hid e2
      have HP := Lib.hid hP
      clear e e2 hP hbr h20
      go_enter Tryz.func16, Tryz.ntmps16
      go_wp2_with fail
      refine HP.out.mono ?_
      rintro e w1 ⟨rfl, g1⟩
      clear HP
      have G1 := Lib.hid g1
      clear g1
      go_wp2
      go_ret
      exact ⟨by rw [HE2.out]; rfl, SAME.out HE.out _ G1.out⟩
end Go.Proofs.YtnpoohkklfpmdaaGreat
