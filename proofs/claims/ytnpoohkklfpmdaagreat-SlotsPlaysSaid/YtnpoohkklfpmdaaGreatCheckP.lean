/- Package check: Sum by its closure, Put, Take field by field, All by its labelled loop. -/
import Derived.Test.YtnpoohkklfpmdaaGreatRows
import Derived.WalkKit
import Derived.Below
import Derived.ProofKit
import Derived.OpenShut
import Derived.ShutString
import Derived.ChangeOld
import Derived.Outline
import Derived.RegionTactic
import Derived.ChangeAlike
import Derived.BigRegion
import Derived.BigQuiet
import Derived.Deep.QuietTactic
import Derived.Deep.RegionWith
import Derived.Deep.RegionLaw
import Derived.Deep.RegionHeld3
import Derived.Deep.AppendLies
import Derived.Deep.Draws
import Derived.StillTailTactics
import Derived.Lib.Hide
import Derived.Lib.SmallJoins
import Derived.Handy
import Derived.WalkSpells
import Derived.WalkLawsBesides
import Derived.Deep.LoopGhost
import Derived.Deep.DeepCutAuto
import Derived.WalkMore
import Derived.Test.YtnpoohkklfpmdaaGreatCheckR
import Derived.Test.YtnpoohkklfpmdaaGreatTlvAll
import Derived.Test.YtnpoohkklfpmdaaGreatCheckG
namespace Go.Proofs.YtnpoohkklfpmdaaGreat
open Go.RowKit
set_option linter.unusedSimpArgs false
set_option linter.unusedVariables false
set_option linter.unnecessarySimpa false
attribute [local go_sem] idx_list ext_list app_list
theorem other_setCell {w : World} {b c : Nat} {u : Value} (h : b ≠ c) : (w.setCell ⟨c, 0, none⟩ u).heap[b]? = w.heap[b]? := Below.heap_setCell _ _ _ _ h
theorem alloc_two (w : World) (o p : Obj) : ((w.alloc o).alloc p).heap[w.heap.size + 1]? = some p := by
  have := heap_alloc_new (w.alloc o) p
  rwa [show (w.alloc o).heap.size = w.heap.size + 1 from by simp] at this
theorem or_high32 (b a : Nat) (hb : b < 65536) (ha : a < 65536) : bits .or .u32 ((b : Int) * 65536) (a : Int) = ((b * 65536 + a : Nat) : Int) := by
  have e : (b : Int) * 65536 = ((b * 65536 : Nat) : Int) := by simp
  have o : b * 65536 ||| a = b * 65536 + a := by
    have := Nat.two_pow_add_eq_or_of_lt (i := 16) (b := a) (by omega) b
    rw [Nat.mul_comm b 65536]
    exact this.symm
  have f : ∀ n : Nat, n < 4294967296 → (BitVec.ofInt 32 (n : Int)).toNat = n := by
    intro n hn
    rw [BitVec.ofInt_natCast, BitVec.toNat_ofNat]; exact Nat.mod_eq_of_lt (by omega)
  rw [e]
  show IntKind.u32.wrap ((BitVec.ofInt 32 ((b * 65536 : Nat) : Int) ||| BitVec.ofInt 32 (a : Int)).toNat : Int) = _
  rw [BitVec.toNat_or, f (b * 65536) (by omega), f a (by omega), o]
  exact IntWalk.u32_in _ (by omega)
set_option maxHeartbeats 1000000 in
theorem cAdd_any (c : UInt8) (a b p q : Nat) (w : World) (ha : a < 65521) (hb : b < 65521) (hpq : p ≠ q) (h1 : w.heap[p]? = some (.cells #[.int .u32 (a : Nat)] 91 (0, 0))) (h2 : w.heap[q]? = some (.cells #[.int .u32 (b : Nat)] 91 (0, 0))) :
    Calls Tryz.prog 72 #[.int .u8 (c.toNat : Nat), .pointer (some ⟨p, 0, none⟩), .pointer (some ⟨q, 0, none⟩)] w fun e w' => e = .returned (.tuple #[]) ∧ w'.heap[p]? = some (.cells #[.int .u32 ((adlS (a, b) c).1 : Nat)] 91 (0, 0)) ∧ w'.heap[q]? = some (.cells #[.int .u32 ((adlS (a, b) c).2 : Nat)] 91 (0, 0)) ∧ (∀ B, B ≤ p → B ≤ q → Below B w w') := by
  obtain ⟨x, hx⟩ : ∃ x, x = c.toNat := ⟨_, rfl⟩
  have hc := c.toNat_lt
  obtain ⟨a', ha'⟩ : ∃ a', a' = (a + x) % 65521 := ⟨_, rfl⟩
  obtain ⟨b', hb'⟩ : ∃ b', b' = (b + a') % 65521 := ⟨_, rfl⟩
  have HE := Lib.hid (show adlS (a, b) c = (a', b') from by rw [hb', ha', hx]; rfl)
  rw [HE.out]
  rw [← hx] at hc ⊢
  have w0 : IntKind.u32.wrap ((x : Nat) : Int) = (x : Int) := IntWalk.u32_in _ (by omega)
  have w1 : ((a : Int) + x) % 65521 = (a' : Int) := by omega
  have w2 : ((b : Int) + a') % 65521 = (b' : Int) := by omega
  have a'b : a' < 65521 := by omega
  clear hx ha' hb'
  have c1 := cell_of_one h1
  have c2 := cell_of_one h2
  have f1 := free_of_one h1
  have f2 := free_of_one h2
  have h1' := one_setCell (u := .int .u32 (a' : Nat)) h1
  have h2' : (w.setCell ⟨p, 0, none⟩ (.int .u32 (a' : Nat))).heap[q]? = _ := (other_setCell hpq.symm).trans h2
  have c3 := cell_of_one h1'
  have c4 := cell_of_one h2'
  have f4 := free_of_one h2'
  go_enter Tryz.func72, Tryz.ntmps72
  go_wp2
  go_end0
  exact ⟨rfl, (other_setCell hpq).trans h1', one_setCell h2', fun B hp hq => (Below.refl _ _).setCell hp _ |>.setCell hq _⟩
set_option maxHeartbeats 1000000 in
theorem cSum_any (l : List UInt8) (w : World) (hl : (l.length : Int) ≤ 16777215) : Calls Tryz.prog 52 #[.string ⟨l.toArray⟩] w fun e w' => e = .returned (.int .u32 (sumN l : Nat)) ∧ Below w.heap.size w w' := by
  have hmf : ∀ (fn : Fn) (first cap : Array Value) (w : World), (Instr.makeFunc fn first cap).run Tryz.prog w = .ok (.func fn first cap) w := fun _ _ _ _ => rfl
  obtain ⟨S, hS⟩ : ∃ S, S = sumN l := ⟨_, rfl⟩
  rw [← hS]
  have HS := Lib.hid hS
  clear hS
  go_enter Tryz.func52, Tryz.ntmps52
  go_wp2
  go_loopw [6, 10] (fun _ i wr => ∃ k : Nat, k ≤ l.length ∧ i = .int .i64 k ∧ wr.heap[w.heap.size]? = some (.cells #[.int .u32 ((adl (l.take k)).1 : Nat)] 91 (0, 0)) ∧ wr.heap[w.heap.size + 1]? = some (.cells #[.int .u32 ((adl (l.take k)).2 : Nat)] 91 (0, 0)) ∧ Below w.heap.size w wr) (fun _ i _ => l.length - (intOf i).toNat)
  case atStart => exact ⟨0, by omega, rfl, (heap_alloc_old (w.alloc _) _ (r := w.heap.size) (by simp)).trans (heap_alloc_new w _), alloc_two w _ _, ((Below.refl _ _).alloc (Nat.le_refl _) _).alloc (by simp) _⟩
  case round =>
    obtain ⟨k, hk, rfl, c1, c2, hb⟩ := hrel
    obtain ⟨ha, hbb⟩ := adl_lt (l.take k)
    by_cases hlt : k < l.length
    · have kl : (k : Int) < l.length := by omega
      have hs := Lib.hid (adl_take l k hlt)
      go_wp2_with fail
      refine (cAdd_any (l[k]'hlt) _ _ _ _ wr ha hbb (by omega) c1 c2).mono ?_
      rintro e w1 ⟨rfl, d1, d2, g1⟩
      have b1 := hb.trans (g1 w.heap.size (Nat.le_refl _) (by omega))
      rw [← hs.out] at d1 d2
      go_wp2
      go_round
      case rel => exact ⟨k + 1, by omega, by go_num, d1, d2, b1⟩
      case measure => simp [intOf]; omega
    · have e : l.take k = l := List.take_of_length_le (by omega)
      have hs := HS.out
      unfold sumN at hs
      rw [← e] at hs
      have r1 := cell_of_one c1
      have r2 := cell_of_one c2
      generalize (adl (l.take k)).1 = a at *
      generalize (adl (l.take k)).2 = b at *
      clear e
      go_wp2
      go_ret
      refine ⟨?_, hb⟩
      rw [hs, ← or_high32 b a (by omega) (by omega)]
      rfl
set_option maxHeartbeats 1000000 in
theorem cPut_any (l : List UInt8) (w : World) (hl : (l.length : Int) ≤ 16777215) : Calls Tryz.prog 35 #[.string ⟨l.toArray⟩] w fun e w' => e = .returned (.tuple #[.string ⟨(putP l).1.toArray⟩, .int .i64 (putP l).2]) ∧ Below w.heap.size w w' := by
  by_cases h : l.length ≤ 1048576
  · have HP := Lib.hid (show putP l = (recd l, 0) from if_pos h)
    rw [HP.out]
    have d : decide ((1048576 : Int) < l.length) = false := decide_eq_false (by omega)
    have h2 : (l.length : Int) ≤ 1048576 := by omega
    obtain ⟨f, hf⟩ : ∃ f, f = fld 82 l := ⟨_, rfl⟩
    have hfl : (f.length : Int) ≤ 1048580 := by rw [hf, fld_len]; omega
    obtain ⟨S, hS⟩ : ∃ S, S = sumN f := ⟨_, rfl⟩
    have hS2 : S < 4294967296 := by rw [hS]; exact sumN_lt _
    obtain ⟨G, hG⟩ : ∃ G, G = fld 83 (digs S) := ⟨_, rfl⟩
    have HR := Lib.hid (show recd l = f ++ G from by rw [recd, ← hf, ← hS, hG])
    have hGl : (G.length : Int) ≤ 12 := by rw [hG, fld_len]; have := digs_len S; omega
    have HG := Lib.hid hG
    have HF := Lib.hid hf
    have HS := Lib.hid hS
    have ws : IntKind.u64.wrap (S : Int) = (S : Int) := IntWalk.u64_in _ (by omega)
    clear hf hS hG
    go_enter Tryz.func35, Tryz.ntmps35
    go_wp2_with fail
    refine (Text_any 82 l w (by omega)).mono ?_
    rw [← HF.out]
    rintro e w1 ⟨rfl, g1⟩
    go_wp2_with fail
    refine (cSum_any f w1 (by omega)).mono ?_
    rw [← HS.out]
    rintro e w2 ⟨rfl, g2⟩
    go_wp2_with fail
    refine (Num_any 83 S w2 (by omega)).mono ?_
    rw [← HG.out]
    rintro e w3 ⟨rfl, g3⟩
    have b3 := (g1.trans (g2.mono g1.size)).trans (g3.mono (Nat.le_trans g1.size g2.size))
    go_wp2
    go_ret2
    exact ⟨by rw [HR.out]; rfl, b3⟩
  · have HP := Lib.hid (show putP l = ([], 11) from if_neg h)
    rw [HP.out]
    have d : decide ((1048576 : Int) < l.length) = true := decide_eq_true (by omega)
    go_enter Tryz.func35, Tryz.ntmps35
    go_wp2
    go_ret2
    exact ⟨rfl, Below.refl _ _⟩
theorem rdTxt_rest {c : UInt8} {most : Int} {l b r : List UInt8} (h : rdTxt c most l = (b, some r)) : r.length ≤ l.length := by
  unfold rdTxt at h
  split at h
  · cases h
  · rename_i body rest ht
    split at h
    · obtain ⟨_, h2⟩ := Prod.mk.inj h
      injection h2 with h2
      rw [← h2]
      have := congrArg List.length (tkF_inv ht).1
      rw [List.length_append] at this; omega
    · cases h
theorem rdNum_rest {c : UInt8} {l r : List UInt8} {n : Nat} (h : rdNum c l = (n, some r)) : r.length ≤ l.length := by
  have := congrArg List.length (rdNum_inv h)
  rw [List.length_append] at this; omega
set_option maxHeartbeats 2000000 in
theorem cTake0_any (s : List UInt8) (w : World) (hl : (s.length : Int) ≤ 16777215) : Calls Tryz.prog 46 #[.string ⟨s.toArray⟩] w fun e w' => e = .returned (.tuple #[.string ⟨(takG s).1.toArray⟩, .int .i64 ((takG s).2.1 : Nat), .int .i64 (takG s).2.2]) ∧ Below w.heap.size w w' := by
  obtain ⟨X, n, c, hP⟩ : ∃ X n c, takG s = (X, n, c) := ⟨_, _, _, rfl⟩
  rw [hP]
  obtain ⟨b, st, hR⟩ : ∃ b st, rdTxt 82 s.length s = (b, st) := ⟨_, _, rfl⟩
  have HR := Lib.hid hR
  have HP := Lib.hid hP
  clear hR hP
  go_enter Tryz.func46, Tryz.ntmps46
  go_wp2_with fail
  refine (Read_any s w).mono ?_
  rintro e w0 ⟨p, rfl, hp, r0, g0⟩
  go_wp2_with fail
  refine (rdTxt_any 82 s.length (some s) p w0 r0).mono ?_
  rw [show rdTxt 82 s.length ((some s).getD []) = (b, st) from HR.out]
  rintro e w1 ⟨rfl, r1, g1⟩
  have b1 : Below w.heap.size w w1 := g0.trans (g1.below g0.size (fun k hk => by simp at hk; omega))
  clear g1 r0 g0
  cases st with
  | none =>
    have h := HP.out
    unfold takG at h
    rw [HR.out] at h
    obtain ⟨rfl, h2⟩ := Prod.mk.inj h
    obtain ⟨rfl, rfl⟩ := Prod.mk.inj h2
    clear h h2
    go_wp2_with fail
    refine (Left_any none p w1 r1).mono ?_
    rintro e w1' ⟨rfl, rfl⟩
    go_wp2_with fail
    refine (rdNum_any 83 none p w1 r1).mono ?_
    rw [show rdNum 83 ((none : Option (List UInt8)).getD []) = (0, none) from rfl]
    rintro e w2 ⟨rfl, r2, g2⟩
    have b2 := b1.trans (g2.below b1.size (fun k hk => by simp at hk; omega))
    clear g2 r1 hp b1
    go_wp2_with fail
    refine (Good_any none p w2 r2).mono ?_
    rintro e w2' ⟨rfl, rfl⟩
    clear r2
    go_wp2
    go_ret3
    exact ⟨rfl, b2⟩
  | some r =>
    have hrl := rdTxt_rest HR.out
    obtain ⟨j, hj⟩ : ∃ j, j = s.length - r.length := ⟨_, rfl⟩
    have ej : (s.length : Int) - (r.length : Int) = (j : Int) := by omega
    have jl : (j : Int) ≤ s.length := by omega
    obtain ⟨m, st2, hN⟩ : ∃ m st2, rdNum 83 r = (m, st2) := ⟨_, _, rfl⟩
    have h := HP.out
    unfold takG at h
    rw [HR.out] at h
    simp only at h
    rw [hN, ← hj] at h
    have HN := Lib.hid hN
    have H := Lib.hid h
    have HRL := Lib.hid hrl
    clear h hj hN HP
    go_wp2_with fail
    refine (Left_any (some r) p w1 r1).mono ?_
    rintro e w1' ⟨rfl, rfl⟩
    rw [show ((some r).getD []).length = r.length from rfl]
    go_wp2_with fail
    refine (rdNum_any 83 (some r) p w1 r1).mono ?_
    rw [show rdNum 83 ((some r).getD []) = (m, st2) from HN.out]
    rintro e w2 ⟨rfl, r2, g2⟩
    have b2 := b1.trans (g2.below b1.size (fun k hk => by simp at hk; omega))
    clear g2 r1 hp b1
    go_wp2_with fail
    refine (Good_any st2 p w2 r2).mono ?_
    rintro e w2' ⟨rfl, rfl⟩
    cases st2 with
    | none =>
      have h := H.out
      obtain ⟨rfl, h2⟩ := Prod.mk.inj h
      obtain ⟨rfl, rfl⟩ := Prod.mk.inj h2
      clear h h2 r2
      go_wp2
      go_ret3
      exact ⟨rfl, b2⟩
    | some q =>
      have hql := rdNum_rest HN.out
      have h := H.out
      simp only at h
      obtain ⟨F, hF⟩ : ∃ F, F = s.take j := ⟨_, rfl⟩
      have hFl : (F.length : Int) ≤ 16777215 := by rw [hF, List.length_take]; omega
      rw [← hF] at h ⊢
      obtain ⟨S, hS⟩ : ∃ S, S = sumN F := ⟨_, rfl⟩
      rw [← hS] at h
      have hS2 : S < 4294967296 := by rw [hS]; exact sumN_lt _
      have ws : IntKind.u64.wrap (S : Int) = (S : Int) := IntWalk.u64_in _ (by omega)
      have HS := Lib.hid hS
      have HF := Lib.hid hF
      have HH := Lib.hid h
      clear h hS hF
      go_wp2_with fail
      refine (cSum_any F w2 (by omega)).mono ?_
      rw [← HS.out]
      rintro e w3 ⟨rfl, g3⟩
      have b3 := b2.trans (g3.mono b2.size)
      have r3 : Rd w3 p (some q) := r2.below g3
      clear g3 b2 r2
      by_cases hm : m = S
      · subst hm
        have h := HH.out
        rw [if_pos rfl] at h
        obtain ⟨rfl, h2⟩ := Prod.mk.inj h
        obtain ⟨rfl, rfl⟩ := Prod.mk.inj h2
        have HRL2 := HRL.out
        have eq : (s.length : Int) - (q.length : Int) = ((s.length - q.length : Nat) : Int) := by omega
        clear h h2
        go_wp2_with fail
        refine (Left_any (some q) p w3 r3).mono ?_
        rintro e w3' ⟨rfl, rfl⟩
        rw [show ((some q).getD []).length = q.length from rfl]
        go_wp2
        go_ret3
        exact ⟨rfl, b3⟩
      · have h := HH.out
        rw [if_neg hm] at h
        obtain ⟨rfl, h2⟩ := Prod.mk.inj h
        obtain ⟨rfl, rfl⟩ := Prod.mk.inj h2
        have hmi : ¬ ((m : Int) = (S : Int)) := by omega
        clear h h2
        go_wp2
        go_ret3
        exact ⟨rfl, b3⟩
theorem cTake_any (s : List UInt8) (w : World) (hl : (s.length : Int) ≤ 1048580) : Calls Tryz.prog 46 #[.string ⟨s.toArray⟩] w fun e w' => e = .returned (.tuple #[.string ⟨(takP s).1.toArray⟩, .int .i64 ((takP s).2.1 : Nat), .int .i64 (takP s).2.2]) ∧ Below w.heap.size w w' := by
  rw [← takG_short s (by omega)]
  exact cTake0_any s w (by omega)
/-- A record alone, of any body that can be put. -/
theorem cTakeR_any (b : List UInt8) (w : World) (hb : b.length ≤ 1048576) : Calls Tryz.prog 46 #[.string ⟨(recd b).toArray⟩] w fun e w' => e = .returned (.tuple #[.string ⟨b.toArray⟩, .int .i64 ((recd b).length : Nat), .int .i64 0]) ∧ Below w.heap.size w w' := by
  have h := cTake0_any (recd b) w (by have := (recd_len b).2; omega)
  rw [takG_rec b hb] at h
  exact h
set_option maxHeartbeats 2000000 in
theorem cAll_any (s : List UInt8) (w : World) (hl : (s.length : Int) ≤ 1048580) : Calls Tryz.prog 28 #[.string ⟨s.toArray⟩] w fun e w' => IsAll (allP s).1 (allP s).2 e w' ∧ Below w.heap.size w w' := by
  obtain ⟨i0, hi, hz0, hz1, hz2⟩ := info_parts info9
  obtain ⟨L, n, hA⟩ : ∃ L n, allP s = (L, n) := ⟨_, _, rfl⟩
  rw [hA]
  have HA := Lib.hid hA
  clear hA
  go_enter Tryz.func28, Tryz.ntmps28
  go_wp2
  go_step3
  go_wp2
  go_step3
  go_wp2
  go_loopg [2, 3, 4, 5, 6, 15] s.length (fun g u at' _ _ _ _ wr => ∃ (k : Nat) (acc : List (List UInt8)), k ≤ s.length ∧ Hid (g + k = s.length) ∧ at' = .int .i64 (k : Nat) ∧ Hid ((L, n) = (acc ++ (allP (s.drop k)).1, k + (allP (s.drop k)).2)) ∧ Hid (acc.length ≤ k) ∧ wr.ownsRow w.heap.size 9 1 u acc.length (strs acc) ∧ Below w.heap.size w wr)
  case atStart => exact ⟨0, [], by omega, Lib.hid (by omega), rfl, Lib.hid (by rw [← HA.out]; simp), Lib.hid (by simp), World.ownsRow_nil _ _ _ _, Below.refl _ _⟩
  case round =>
    obtain ⟨k, acc, hk, hg, rfl, HI, HL, hown, hb⟩ := hrel
    obtain ⟨A, cp, rfl⟩ := own_form hown
    have hkI : (k : Int) ≤ s.length := by omega
    have hd : ((s.drop k).length : Int) ≤ 1048580 := by rw [List.length_drop]; omega
    have HD := Lib.hid hd
    clear hd
    go_wp2_with fail
    refine (cTake_any (s.drop k) wr HD.out).mono ?_
    rcases takP_cases (s.drop k) with ⟨b, h1, _, _, h8, hn⟩ | h1
    · rw [h1]
      rintro e w1 ⟨rfl, g1⟩
      have own2 := own_below hown g1
      have b2 := hb.trans (g1.mono hb.size)
      have hs2 := allP_step h1
      rw [List.drop_drop] at hs2
      obtain ⟨m, hm⟩ : ∃ m, m = (recd b).length := ⟨_, rfl⟩
      rw [← hm] at hs2 h8 hn ⊢
      rw [List.length_drop] at hn
      have HI2 := Lib.hid (show (L, n) = ((acc ++ [b]) ++ (allP (s.drop (k + m))).1, (k + m) + (allP (s.drop (k + m))).2) from by rw [HI.out, hs2]; simp [Nat.add_assoc])
      have HG := Lib.hid (show gk - m + (k + m) = s.length ∧ gk - m < gk from by have := hg.out; omega)
      have HL2 := Lib.hid (show (acc ++ [b]).length ≤ k + m from by have := HL.out; simp; omega)
      have P1 := Lib.hid (show acc.length + 1 ≤ maxLen from by have := HL.out; unfold maxLen; omega)
      have P2 := Lib.hid (show (acc.length + 1) * 16 ≤ 140737488355328 from by have := HL.out; omega)
      have hsum : (k : Int) + m ≤ s.length := by omega
      have HSN := Lib.hid (strs_snoc acc b)
      have hz := b2.size
      clear h1 hs2 hm h8 hn hg hown hb g1
      go_wp2_with (at_builtin; refine wpList_append_own _ rfl (.tmp 18) (.tmp 20) 29 rfl w.heap.size 9 i0 (.string ⟨#[]⟩) 1 16 Tryz.underlying29 hi hz0 hz1 hz2 rfl (by decide) (.slice A acc.length cp) acc.length (strs acc) rfl (own2.alloc _) ⟨w1.heap.size, 0, none⟩ 1 1 [.string ⟨b.toArray⟩] rfl rfl (World.news_of_block (cs := #[.string ⟨b.toArray⟩]) (t := 9) (fr := (0, 0)) (heap_alloc_new w1 _)) (by simp [Value.oneCell']) P1.out P2.out (by simp; omega) ?_; intro v' w6 hown6 hgrow _; have b6 : Below w.heap.size w w6 := (b2.alloc hz _).grown hgrow (by simp; omega) (own_block_ge own2); rw [← HSN.out] at hown6)
      go_roundg (gk - m)
      case measure => exact HG.out.2
      case rel => exact ⟨k + m, acc ++ [b], by omega, Lib.hid HG.out.1, by go_num, HI2, HL2, by rw [List.length_append]; exact hown6, b6⟩
    · rw [h1]
      rintro e w1 ⟨rfl, g1⟩
      have own2 := own_below hown g1
      have b2 := hb.trans (g1.mono hb.size)
      have h := HI.out
      rw [allP_end h1] at h
      simp only [List.append_nil, Nat.add_zero] at h
      obtain ⟨rfl, rfl⟩ := Prod.mk.inj h
      have hst := strsAt_own own2
      have hcp := own_cap own2
      clear h h1 HI HA
      go_wp2
      try rw [Exit.noGoto_ret]
      go_ret2
      exact ⟨⟨_, _, _, rfl, hcp, hst⟩, b2⟩
end Go.Proofs.YtnpoohkklfpmdaaGreat
