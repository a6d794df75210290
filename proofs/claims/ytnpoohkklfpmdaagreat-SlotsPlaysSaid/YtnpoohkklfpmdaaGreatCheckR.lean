/- The document's records with sums: Sum, record, Put, Take. -/
import Derived.Test.YtnpoohkklfpmdaaGreatRows
import Derived.WalkKit
import Derived.Below
import Derived.ProofKit
import Derived.OpenShut
import Derived.ShutString
import Derived.ChangeOld
import Derived.Outline
import Derived.RegionTactic
import Derived.ChangeAlike
import Derived.BigRegion
import Derived.BigQuiet
import Derived.Deep.QuietTactic
import Derived.Deep.RegionWith
import Derived.Deep.RegionLaw
import Derived.Deep.RegionHeld3
import Derived.Deep.AppendLies
import Derived.Deep.Draws
import Derived.StillTailTactics
import Derived.Lib.Hide
import Derived.Lib.SmallJoins
import Derived.Handy
import Derived.WalkSpells
import Derived.WalkLawsBesides
import Derived.Deep.LoopGhost
import Derived.Deep.DeepCutAuto
import Derived.Test.YtnpoohkklfpmdaaGreatAdl
import Derived.Test.YtnpoohkklfpmdaaGreatTlvR
namespace Go.Proofs.YtnpoohkklfpmdaaGreat
open Go.RowKit
set_option linter.unusedSimpArgs false
set_option linter.unusedVariables false
set_option linter.unnecessarySimpa false
section
attribute [local go_sem] idx_list ext_list app_list
set_option maxHeartbeats 1000000 in
theorem refSum5_any (l : List UInt8) (w : World) (hl : (l.length : Int) ≤ 9223372036854775807) : Calls Tryz.prog 79 #[.string ⟨l.toArray⟩] w fun e w' => e = .returned (.int .u32 (sumN l : Nat)) ∧ w' = w := by
  obtain ⟨S, hS⟩ : ∃ S, S = sumN l := ⟨_, rfl⟩
  rw [← hS]
  have HS := Lib.hid hS
  clear hS
  go_enter Tryz.func79, Tryz.ntmps79
  go_wp2
  go_loop [3, 4, 5] (fun a b i => ∃ k : Nat, k ≤ l.length ∧ i = .int .i64 k ∧ a = .int .u32 ((adl (l.take k)).1 : Nat) ∧ b = .int .u32 ((adl (l.take k)).2 : Nat)) (fun _ _ i => l.length - (intOf i).toNat)
  case atStart => exact ⟨0, by omega, rfl, rfl, rfl⟩
  case round =>
    obtain ⟨k, hk, rfl, rfl, rfl⟩ := hrel
    obtain ⟨ha, hb⟩ := adl_lt (l.take k)
    by_cases hlt : k < l.length
    · have kl : (k : Int) < l.length := by omega
      have hs := adl_take l k hlt
      obtain ⟨a, ea⟩ : ∃ a, a = (adl (l.take k)).1 := ⟨_, rfl⟩
      obtain ⟨b, eb⟩ : ∃ b, b = (adl (l.take k)).2 := ⟨_, rfl⟩
      have hc := (l[k]'hlt).toNat_lt
      have e1 : (adl (l.take (k + 1))).1 = (a + (l[k]'hlt).toNat) % 65521 := by rw [hs, ea]; rfl
      have e2 : (adl (l.take (k + 1))).2 = (b + (a + (l[k]'hlt).toNat) % 65521) % 65521 := by rw [hs, ea, eb]; rfl
      rw [← ea] at ha
      rw [← eb] at hb
      rw [← ea, ← eb]
      obtain ⟨x, hx⟩ : ∃ x, x = (l[k]'hlt).toNat := ⟨_, rfl⟩
      rw [← hx] at e1 e2 hc
      obtain ⟨a', ha'⟩ : ∃ a', a' = (a + x) % 65521 := ⟨_, rfl⟩
      obtain ⟨b', hb'⟩ : ∃ b', b' = (b + a') % 65521 := ⟨_, rfl⟩
      rw [← ha'] at e1 e2
      rw [← hb'] at e2
      have w0 : IntKind.u32.wrap (((l[k]'hlt).toNat : Nat) : Int) = (x : Int) := by rw [← hx]; exact IntWalk.u32_in _ (by omega)
      have w1 : ((a : Int) + x) % 65521 = (a' : Int) := by omega
      have w2 : ((b : Int) + a') % 65521 = (b' : Int) := by omega
      have a'b : a' < 65521 := by omega
      have E1 := Lib.hid e1
      have E2 := Lib.hid e2
      clear e1 e2 hs ea eb hx ha' hb'
      go_wp2
      go_round
      case rel => exact ⟨k + 1, by omega, by go_num, by rw [E1.out]; first | rfl | rw [← w1], by rw [E2.out]; first | rfl | rw [← w2]⟩
      case measure => simp [intOf]; omega
    · have e : l.take k = l := List.take_of_length_le (by omega)
      have hs := HS.out
      unfold sumN at hs
      rw [← e] at hs
      generalize (adl (l.take k)).1 = a at *
      generalize (adl (l.take k)).2 = b at *
      have es : (b : Int) * 65536 + a = (S : Int) := by omega
      clear hs e
      go_wp2
      go_ret
      exact ⟨by first | rfl | rw [← es], rfl⟩
set_option maxHeartbeats 1000000 in
theorem record5_any (l : List UInt8) (w : World) (hl : (l.length : Int) ≤ 1048576) : Calls Tryz.prog 57 #[.string ⟨l.toArray⟩] w fun e w' => e = .returned (.string ⟨(recd l).toArray⟩) ∧ Below w.heap.size w w' := by
  obtain ⟨f, hf⟩ : ∃ f, f = fld 82 l := ⟨_, rfl⟩
  have hfl : (f.length : Int) ≤ 1048580 := by rw [hf, fld_len]; omega
  obtain ⟨S, hS⟩ : ∃ S, S = sumN f := ⟨_, rfl⟩
  have hS2 : S < 4294967296 := by rw [hS]; exact sumN_lt _
  obtain ⟨G, hG⟩ : ∃ G, G = fld 83 (digs S) := ⟨_, rfl⟩
  have HR := Lib.hid (show recd l = f ++ G from by rw [recd, ← hf, ← hS, hG])
  have hGl : (G.length : Int) ≤ 12 := by rw [hG, fld_len]; have := digs_len S; omega
  have HG := Lib.hid hG
  have HF := Lib.hid hf
  have HS := Lib.hid hS
  have ws : IntKind.u64.wrap (S : Int) = (S : Int) := IntWalk.u64_in _ (by omega)
  clear hf hS hG
  go_enter Tryz.func57, Tryz.ntmps57
  go_wp2_with fail
  refine (refText_any 82 l w (by simp; omega)).mono ?_
  rw [← HF.out]
  rintro e w1 ⟨rfl, g1⟩
  go_wp2_with fail
  refine (refSum5_any f w1 (by omega)).mono ?_
  rw [← HS.out]
  rintro e w2 ⟨rfl, rfl⟩
  go_wp2_with fail
  refine (refNum_any 83 S w2 (by omega)).mono ?_
  rw [← HG.out]
  rintro e w3 ⟨rfl, g3⟩
  go_wp2
  go_ret
  exact ⟨by rw [HR.out]; rfl, g1.trans (g3.mono g1.size)⟩
set_option maxHeartbeats 1000000 in
theorem refPut5_any (l : List UInt8) (w : World) (hl : (l.length : Int) ≤ 9223372036854775807) : Calls Tryz.prog 37 #[.string ⟨l.toArray⟩] w fun e w' => e = .returned (.tuple #[.string ⟨(putP l).1.toArray⟩, .int .i64 (putP l).2]) ∧ Below w.heap.size w w' := by
  by_cases h : l.length ≤ 1048576
  · have HP := Lib.hid (show putP l = (recd l, 0) from if_pos h)
    rw [HP.out]
    have d : decide ((1048576 : Int) < l.length) = false := decide_eq_false (by omega)
    have h2 : (l.length : Int) ≤ 1048576 := by omega
    go_enter Tryz.func37, Tryz.ntmps37
    go_wp2_with (refine (record5_any l _ h2).mono ?_; rintro e w1 ⟨rfl, g1⟩)
    go_ret2
    exact ⟨rfl, g1⟩
  · have HP := Lib.hid (show putP l = ([], 11) from if_neg h)
    rw [HP.out]
    have d : decide ((1048576 : Int) < l.length) = true := decide_eq_true (by omega)
    go_enter Tryz.func37, Tryz.ntmps37
    go_wp2
    go_ret2
    exact ⟨rfl, Below.refl _ _⟩
theorem rdTxt_le {c : UInt8} {most : Int} {l b r : List UInt8} (h : rdTxt c most l = (b, some r)) : (b.length : Int) ≤ most := by
  unfold rdTxt at h
  split at h
  · cases h
  · split at h
    · rename_i hk
      obtain ⟨rfl, _⟩ := Prod.mk.inj h
      simpa [txtOk] using hk
    · cases h
set_option maxHeartbeats 2000000 in
theorem refTake5_any (s : List UInt8) (w : World) (hl : (s.length : Int) ≤ 16777215) : Calls Tryz.prog 49 #[.string ⟨s.toArray⟩] w fun e w' => e = .returned (.tuple #[.string ⟨(takP s).1.toArray⟩, .int .i64 ((takP s).2.1 : Nat), .int .i64 (takP s).2.2]) ∧ Below w.heap.size w w' := by
  obtain ⟨X, n, c, hP⟩ : ∃ X n c, takP s = (X, n, c) := ⟨_, _, _, rfl⟩
  rw [hP]
  obtain ⟨b, st, hR⟩ : ∃ b st, rdTxt 82 1048576 s = (b, st) := ⟨_, _, rfl⟩
  have HR := Lib.hid hR
  have HP := Lib.hid hP
  clear hR hP
  go_enter Tryz.func49, Tryz.ntmps49
  go_wp2_with fail
  generalize hwa : World.alloc _ _ = wa
  have r0 : Rf wa w.heap.size (some s) := ⟨s, by rw [← hwa]; exact heap_alloc_new w _, fun l h => (Option.some.inj h)⟩
  have ba : Below w.heap.size w wa := by rw [← hwa]; exact (Below.refl _ _).alloc (Nat.le_refl _) _
  clear hwa
  refine (refTxt_any 82 1048576 (some s) w.heap.size wa r0 hl).mono ?_
  rw [show rdTxt 82 1048576 ((some s).getD []) = (b, st) from HR.out]
  rintro e w1 ⟨rfl, hr, g1⟩
  have b1 : Below w.heap.size w w1 := ba.trans (g1.below ba.size (fun k hk => by simp at hk; omega))
  obtain ⟨s2, hr2, _⟩ := hr
  have z1 := rf_c1 hr2
  clear g1 r0 ba hr2
  cases st with
  | none =>
    have h := HP.out
    unfold takP at h
    rw [HR.out] at h
    obtain ⟨rfl, h2⟩ := Prod.mk.inj h
    obtain ⟨rfl, rfl⟩ := Prod.mk.inj h2
    clear h h2
    go_wp2
    go_ret3
    exact ⟨rfl, b1⟩
  | some r =>
    have hb := rdTxt_le HR.out
    obtain ⟨R, hR⟩ : ∃ R, R = recd b := ⟨_, rfl⟩
    have HRR := Lib.hid hR
    have hR16 : (R.length : Int) ≤ 1048592 := by rw [hR]; have := (recd_len b).2; omega
    have h := HP.out
    unfold takP at h
    rw [HR.out] at h
    simp only at h
    rw [← hR] at h
    have H := Lib.hid h
    clear h hR
    go_wp2_with fail
    refine (record5_any b w1 hb).mono ?_
    rw [← HRR.out]
    rintro e w2 ⟨rfl, g2⟩
    have b2 := b1.trans (g2.mono b1.size)
    clear g2 b1 z1
    by_cases h1 : s.length < R.length
    · have d1 : decide (s.length < R.length) = true := decide_eq_true (by omega)
      have h := H.out
      rw [if_neg (fun e => by have := congrArg List.length e; rw [List.length_take] at this; omega)] at h
      obtain ⟨rfl, h2⟩ := Prod.mk.inj h
      obtain ⟨rfl, rfl⟩ := Prod.mk.inj h2
      clear h h2 h1
      go_wp2
      go_ret3
      exact ⟨rfl, b2⟩
    · have d1 : decide (s.length < R.length) = false := decide_eq_false (by omega)
      have h1' : (R.length : Int) ≤ s.length := by omega
      by_cases h2 : s.take R.length = R
      · have h := H.out
        rw [if_pos h2] at h
        obtain ⟨rfl, h3⟩ := Prod.mk.inj h
        obtain ⟨rfl, rfl⟩ := Prod.mk.inj h3
        have H2 := Lib.hid h2
        have hd : (s.take R.length == R) = true := by simpa using h2
        clear h h3 h1 h2
        go_wp2
        go_ret3
        exact ⟨rfl, b2⟩
      · have h := H.out
        rw [if_neg h2] at h
        obtain ⟨rfl, h3⟩ := Prod.mk.inj h
        obtain ⟨rfl, rfl⟩ := Prod.mk.inj h3
        have H2 := Lib.hid h2
        have hd : (s.take R.length == R) = false := by simpa using h2
        clear h h3 h1 h2
        go_wp2
        go_ret3
        exact ⟨rfl, b2⟩
/-- A list of texts and a number. -/
def IsAll (ls : List (List UInt8)) (n : Nat) (e : Ending) (w : World) : Prop := ∃ a m cap, e = .returned (.tuple #[.slice a m cap, .int .i64 (n : Nat)]) ∧ m ≤ cap ∧ StrsAt w w.heap.size a m ls
set_option maxHeartbeats 2000000 in
theorem refAll5_any (s : List UInt8) (w : World) (hl : (s.length : Int) ≤ 16777215) : Calls Tryz.prog 32 #[.string ⟨s.toArray⟩] w fun e w' => IsAll (allP s).1 (allP s).2 e w' ∧ Below w.heap.size w w' := by
  obtain ⟨i0, hi, hz0, hz1, hz2⟩ := info_parts info9
  obtain ⟨L, n, hA⟩ : ∃ L n, allP s = (L, n) := ⟨_, _, rfl⟩
  rw [hA]
  have HA := Lib.hid hA
  clear hA
  go_enter Tryz.func32, Tryz.ntmps32
  go_wp2
  go_loopg [4, 5, 6, 7, 8] s.length (fun g u at' _ _ _ wr => ∃ (k : Nat) (acc : List (List UInt8)), k ≤ s.length ∧ Hid (g + k = s.length) ∧ at' = .int .i64 (k : Nat) ∧ Hid ((L, n) = (acc ++ (allP (s.drop k)).1, k + (allP (s.drop k)).2)) ∧ Hid (acc.length ≤ k) ∧ wr.ownsRow w.heap.size 9 1 u acc.length (strs acc) ∧ Below w.heap.size w wr)
  case atStart => exact ⟨0, [], by omega, Lib.hid (by omega), rfl, Lib.hid (by rw [← HA.out]; simp), Lib.hid (by simp), World.ownsRow_nil _ _ _ _, Below.refl _ _⟩
  case round =>
    obtain ⟨k, acc, hk, hg, rfl, HI, HL, hown, hb⟩ := hrel
    obtain ⟨A, cp, rfl⟩ := own_form hown
    have hkI : (k : Int) ≤ s.length := by omega
    have hd : ((s.drop k).length : Int) ≤ 16777215 := by rw [List.length_drop]; omega
    have HD := Lib.hid hd
    clear hd
    go_wp2_with fail
    refine (refTake5_any (s.drop k) wr HD.out).mono ?_
    rcases takP_cases (s.drop k) with ⟨b, h1, _, _, h8, hn⟩ | h1
    · rw [h1]
      rintro e w1 ⟨rfl, g1⟩
      have own2 := own_below hown g1
      have b2 := hb.trans (g1.mono hb.size)
      have hs2 := allP_step h1
      rw [List.drop_drop] at hs2
      obtain ⟨m, hm⟩ : ∃ m, m = (recd b).length := ⟨_, rfl⟩
      rw [← hm] at hs2 h8 hn ⊢
      rw [List.length_drop] at hn
      have HI2 := Lib.hid (show (L, n) = ((acc ++ [b]) ++ (allP (s.drop (k + m))).1, (k + m) + (allP (s.drop (k + m))).2) from by rw [HI.out, hs2]; simp [Nat.add_assoc])
      have HG := Lib.hid (show gk - m + (k + m) = s.length ∧ gk - m < gk from by have := hg.out; omega)
      have HL2 := Lib.hid (show (acc ++ [b]).length ≤ k + m from by have := HL.out; simp; omega)
      have P1 := Lib.hid (show acc.length + 1 ≤ maxLen from by have := HL.out; unfold maxLen; omega)
      have P2 := Lib.hid (show (acc.length + 1) * 16 ≤ 140737488355328 from by have := HL.out; omega)
      have hsum : (k : Int) + m ≤ s.length := by omega
      have HSN := Lib.hid (strs_snoc acc b)
      have hz := b2.size
      clear h1 hs2 hm h8 hn hg hown hb g1
      go_wp2_with (at_builtin; refine wpList_append_own _ rfl (.tmp 21) (.tmp 23) 29 rfl w.heap.size 9 i0 (.string ⟨#[]⟩) 1 16 Tryz.underlying29 hi hz0 hz1 hz2 rfl (by decide) (.slice A acc.length cp) acc.length (strs acc) rfl (own2.alloc _) ⟨w1.heap.size, 0, none⟩ 1 1 [.string ⟨b.toArray⟩] rfl rfl (World.news_of_block (cs := #[.string ⟨b.toArray⟩]) (t := 9) (fr := (0, 0)) (heap_alloc_new w1 _)) (by simp [Value.oneCell']) P1.out P2.out (by simp; omega) ?_; intro v' w6 hown6 hgrow _; have b6 : Below w.heap.size w w6 := (b2.alloc hz _).grown hgrow (by simp; omega) (own_block_ge own2); rw [← HSN.out] at hown6)
      go_roundg (gk - m)
      case measure => exact HG.out.2
      case rel => exact ⟨k + m, acc ++ [b], by omega, Lib.hid HG.out.1, by go_num, HI2, HL2, by rw [List.length_append]; exact hown6, b6⟩
    · rw [h1]
      rintro e w1 ⟨rfl, g1⟩
      have own2 := own_below hown g1
      have b2 := hb.trans (g1.mono hb.size)
      have h := HI.out
      rw [allP_end h1] at h
      simp only [List.append_nil, Nat.add_zero] at h
      obtain ⟨rfl, rfl⟩ := Prod.mk.inj h
      have hst := strsAt_own own2
      have hcp := own_cap own2
      clear h h1 HI HA
      go_wp2
      go_ret2
      exact ⟨⟨_, _, _, rfl, hcp, hst⟩, b2⟩
end
end Go.Proofs.YtnpoohkklfpmdaaGreat
