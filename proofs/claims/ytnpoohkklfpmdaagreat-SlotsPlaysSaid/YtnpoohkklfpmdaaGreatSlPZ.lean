/- SlPI: The program's Commit.
   SlPO: The program's All: its records are the call's own.
   SlPJ: The program's Open.
   SlP: The program's log keeps to all that the laws ask of it. -/
import Derived.Test.YtnpoohkklfpmdaaGreatRows
import Derived.WalkKit
import Derived.Below
import Derived.ProofKit
import Derived.OpenShut
import Derived.ShutString
import Derived.ChangeOld
import Derived.Outline
import Derived.RegionTactic
import Derived.ChangeAlike
import Derived.BigRegion
import Derived.BigQuiet
import Derived.Deep.QuietTactic
import Derived.Deep.RegionWith
import Derived.Deep.RegionLaw
import Derived.Deep.RegionHeld3
import Derived.Deep.AppendLies
import Derived.Deep.Draws
import Derived.StillTailTactics
import Derived.Lib.Hide
import Derived.Lib.SmallJoins
import Derived.Handy
import Derived.WalkSpells
import Derived.WalkLawsBesides
import Derived.Deep.LoopGhost
import Derived.Deep.DeepCutAuto
import Derived.Deep.CutBlock
import Derived.Deep.CutRange
import Derived.Deep.OwnRows
import Derived.Laws.CopyOwn
import Derived.Great.BuildSlice
import Derived.Test.YtnpoohkklfpmdaaGreatSlPH
import Derived.Test.YtnpoohkklfpmdaaGreatCheckP
import Derived.Test.YtnpoohkklfpmdaaGreatSlPX
import Derived.Test.YtnpoohkklfpmdaaGreatDevPZ
/- SlPI -/
namespace Go.Proofs.YtnpoohkklfpmdaaGreat
open Go.RowKit
set_option linter.unusedSimpArgs false
set_option linter.unusedVariables false
set_option linter.unnecessarySimpa false
attribute [local go_sem] idx_list ext_list app_list
section
variable {PD : World → List Nat → Nat → Dv → Prop} (I : Iface0 PD)
include I
set_option maxHeartbeats 1000000 in
theorem sCommit_any {exd exx : List Nat} {p x : Nat} {d : Dv} {S : Sg} (r : List UInt8) (w : World) (h : PD w exd p d) (hx : PO w exx x p d.safe.length S) (ha : ∀ b ∈ exd, b ∉ exx) (hf : d.Few7) (ho : d.Ok) (hs : S.Fits d.safe.length) (hr : (r.length : Int) ≤ 16777215) :
    Calls Tryz.prog 15 #[.pointer (some ⟨x, 0, none⟩), .string ⟨r.toArray⟩] w fun e w' => e = .returned (.int .i64 (commitD d S r).2) ∧ ∃ exd' exx', PD w' exd' p (commitD d S r).1.1 ∧ PO w' exx' x p d.safe.length (commitD d S r).1.2 ∧ (∀ b ∈ exd', b ∉ exx') ∧ Fr (exd ++ exx) w w' ∧ (∀ b ∈ exd', b ∈ exd ∨ w.heap.size ≤ b) ∧ ∀ b ∈ exx', b ∈ exx ∨ w.heap.size ≤ b := by
  obtain ⟨rfl, hx⟩ := hx
  have hxe : x ∉ exd := fun e => ha x e (by simp)
  obtain ⟨R, hR⟩ : ∃ R, R = commitD d S r := ⟨_, rfl⟩
  rw [← hR]
  have hB := sBroken_any w hx
  have hlt := I.lt h
  have hxl := hx.lt
  have same : R = ((d, S), R.2) → ∀ w', Below w.heap.size w w' → ∃ exd' exx', PD w' exd' p R.1.1 ∧ PO w' exx' x p d.safe.length R.1.2 ∧ (∀ b ∈ exd', b ∉ exx') ∧ Fr (exd ++ [x]) w w' ∧ (∀ b ∈ exd', b ∈ exd ∨ w.heap.size ≤ b) ∧ ∀ b ∈ exx', b ∈ [x] ∨ w.heap.size ≤ b := fun e w' hb => by
    have e1 : R.1 = (d, S) := congrArg Prod.fst e
    rw [e1]
    exact ⟨exd, [x], I.below h hb, ⟨rfl, hx.below hb⟩, ha, Fr.of_below hb, fun b hb => .inl hb, fun b hb => .inl hb⟩
  have HR := Lib.hid hR
  have SAME := Lib.hid same
  have HX := Lib.hid hx
  have H := Lib.hid h
  have HXE := Lib.hid hxe
  have HF := Lib.hid hf
  have HO := Lib.hid ho
  have HS := Lib.hid hs
  have HLT := Lib.hid hlt
  clear hR same hx h hxe hf ho hs hlt ha
  cases hbr : S.br with
  | true =>
    rw [hbr] at hB
    have e : R = ((d, S), 13) := by rw [HR.out]; unfold commitD; rw [if_pos hbr]
    have e2 : R.2 = 13 := by rw [e]
    have HE := Lib.hid (show R = ((d, S), R.2) by rw [e])
    have HE2 := Lib.hid e2
    clear e e2 hbr
    go_enter Tryz.func15, Tryz.ntmps15
    go_wp2_with fail
    refine hB.mono ?_
    rintro e w1 ⟨rfl, rfl⟩
    clear hB
    go_wp2
    go_ret
    exact ⟨by rw [HE2.out]; rfl, SAME.out HE.out _ (Below.refl _ _)⟩
  | false =>
    rw [hbr] at hB
    have hP := cPut_any r w hr
    by_cases h20 : r.length ≤ 1048576
    · rw [show putP r = (recd r, 0) from if_pos h20] at hP
      obtain ⟨s, hsr⟩ : ∃ s, s = recd r := ⟨_, rfl⟩
      have hsl := (recd_len r).2
      rw [← hsr] at hP hsl
      have HP := Lib.hid hP
      have HSR := Lib.hid hsr
      have H20 := Lib.hid h20
      have HBR := Lib.hid hbr
      have hslI : (s.length : Int) ≤ 1048600 := by omega
      obtain ⟨M, hM⟩ : ∃ M, M = 64 * (d.safe.length - 2) - S.log.length := ⟨_, rfl⟩
      have hMI : (M : Int) ≤ 262144 := by have := HF.out.safe; omega
      have HM := Lib.hid hM
      have hRoom : ∀ w1, Below w.heap.size w w1 → Calls Tryz.prog 21 #[.pointer (some ⟨x, 0, none⟩)] w1 fun e w' => e = .returned (.int .i64 (M : Nat)) ∧ ∃ m, w' = w1.drewN m := fun w1 hb => by
        rw [hM]
        exact sRoom_any w1 (HX.out.below hb) HS.out HF.out.safe
      have HROOM := Lib.hid hRoom
      clear hP hsr hbr hM hRoom hsl h20 hr
      go_enter Tryz.func15, Tryz.ntmps15
      go_wp2_with fail
      refine hB.mono ?_
      rintro e w1 ⟨rfl, rfl⟩
      clear hB
      go_wp2_with fail
      refine HP.out.mono ?_
      rintro e w1 ⟨rfl, g1⟩
      clear HP
      have G1 := Lib.hid g1
      clear g1
      go_wp2_with fail
      refine (HROOM.out _ G1.out).mono ?_
      rintro e w2 ⟨rfl, m2, rfl⟩
      clear HROOM
      have G2 : Hid (Below w.heap.size w (w1.drewN m2)) := Lib.hid (below_drewN G1.out m2)
      obtain ⟨w2, hw2⟩ : ∃ w2, w2 = w1.drewN m2 := ⟨_, rfl⟩
      rw [← hw2] at G2 ⊢
      clear hw2
      by_cases hfit : s.length ≤ M
      · have hA := sAdd_any I (exd := exd) (p := p) (x := x) (n := d.safe.length) (d := d) (S := S) s w2 (I.below H.out G2.out) (HX.out.below G2.out) HXE.out HF.out HO.out rfl HS.out (by have := HS.out.fit; have := HM.out; omega) HBR.out
        have hR2 : R = if (runD d (actsC S.log s (nextM S.m s))).2 = 0 then (((runD d (actsC S.log s (nextM S.m s))).1, ⟨nextM S.m s, S.log ++ s, false⟩), 0) else (((runD d (actsC S.log s (nextM S.m s))).1, { S with br := true }), (runD d (actsC S.log s (nextM S.m s))).2) := by
          rw [HR.out, HSR.out]
          unfold commitD
          rw [HBR.out, if_neg (by decide), if_pos H20.out, if_pos (by have := HM.out; have := HS.out.fit; rw [← HSR.out]; omega)]
        obtain ⟨D, hD⟩ : ∃ D, D = runD d (actsC S.log s (nextM S.m s)) := ⟨_, rfl⟩
        rw [← hD] at hR2 hA
        have e1 : R.1.1 = D.1 := by rw [hR2]; split <;> rfl
        have e2 : R.2 = D.2 := by
          rw [hR2]
          split
          · rename_i q; exact q.symm
          · rfl
        have e3 : R.1.2 = if D.2 = 0 then ⟨nextM S.m s, S.log ++ s, false⟩ else { S with br := true } := by rw [hR2]; split <;> rfl
        rw [← e2] at e3
        rw [← e1, ← e2, ← e3] at hA
        have HA := Lib.hid hA
        have fI : ¬ ((M : Int) < s.length) := by omega
        clear hA hR2 hD e1 e2 e3 hfit SAME
        go_wp2_with fail
        refine HA.out.mono ?_
        rintro e w3 ⟨rfl, exd', p3, x3, f3, m3⟩
        have P3 := Lib.hid p3
        have X3 := Lib.hid x3
        have F3 := Lib.hid f3
        have M3 := Lib.hid m3
        clear HA p3 x3 f3 m3
        have Z2 := G2.out.size
        go_wp2
        go_ret
        refine ⟨rfl, exd', [x], P3.out, ⟨rfl, X3.out⟩, fun b hb hin => ?_, (Fr.of_below G2.out).then2 F3.out (fun b hb => ?_), fun b hb => (M3.out b hb).imp id (fun q => by omega), fun b hb => .inl hb⟩
        · rw [List.mem_singleton.1 hin] at hb
          rcases M3.out x hb with q | q
          · exact HXE.out q
          · omega
        · left
          rcases List.mem_cons.1 hb with e | e
          · simp [e]
          · simp [e]
      · have e : R = ((d, S), 15) := by
          rw [HR.out]
          unfold commitD
          rw [HBR.out, if_neg (by decide), if_pos H20.out, if_neg (by have := HM.out; have := HS.out.fit; rw [← HSR.out]; omega)]
        have e2 : R.2 = 15 := by rw [e]
        have HE := Lib.hid (show R = ((d, S), R.2) by rw [e])
        have HE2 := Lib.hid e2
        have fI : (M : Int) < s.length := by omega
        clear e e2 hfit
        go_wp2
        go_ret
        exact ⟨by rw [HE2.out]; rfl, SAME.out HE.out _ G2.out⟩
    · rw [show putP r = ([], 11) from if_neg h20] at hP
      have e : R = ((d, S), 11) := by
        rw [HR.out]
        unfold commitD
        rw [hbr, if_neg (by decide), if_neg h20]
      have e2 : R.2 = 11 := by rw [e]
      have HE := Lib.hid (show R = ((d, S), R.2) by rw [e])
      have HE2 := Lib.hid e2
      have HP := Lib.hid hP
      clear e e2 hP hbr h20
      go_enter Tryz.func15, Tryz.ntmps15
      go_wp2_with fail
      refine hB.mono ?_
      rintro e w1 ⟨rfl, rfl⟩
      clear hB
      go_wp2_with fail
      refine HP.out.mono ?_
      rintro e w1 ⟨rfl, g1⟩
      clear HP
      have G1 := Lib.hid g1
      clear g1
      go_wp2
      go_ret
      exact ⟨by rw [HE2.out]; rfl, SAME.out HE.out _ G1.out⟩
end
end Go.Proofs.YtnpoohkklfpmdaaGreat
/- SlPO -/
namespace Go.Proofs.YtnpoohkklfpmdaaGreat
open Go.RowKit
set_option linter.unusedSimpArgs false
set_option linter.unusedVariables false
set_option linter.unnecessarySimpa false
/-- What All tells: the records are the call's own. -/
def IsAllO (ls : List (List UInt8)) (n B : Nat) (e : Ending) (w : World) : Prop := ∃ a cap, e = .returned (.tuple #[.slice a ls.length cap, .int .i64 (n : Nat)]) ∧ w.ownsRow B 9 1 (.slice a ls.length cap) ls.length (strs ls)
attribute [local go_sem] idx_list ext_list app_list
set_option maxHeartbeats 2000000 in
theorem cAllO_any (s : List UInt8) (w : World) (hl : (s.length : Int) ≤ 1048580) : Calls Tryz.prog 28 #[.string ⟨s.toArray⟩] w fun e w' => IsAllO (allP s).1 (allP s).2 w.heap.size e w' ∧ Below w.heap.size w w' := by
  obtain ⟨i0, hi, hz0, hz1, hz2⟩ := info_parts info9
  obtain ⟨L, n, hA⟩ : ∃ L n, allP s = (L, n) := ⟨_, _, rfl⟩
  rw [hA]
  have HA := Lib.hid hA
  clear hA
  go_enter Tryz.func28, Tryz.ntmps28
  go_wp2
  go_step3
  go_wp2
  go_step3
  go_wp2
  go_loopg [2, 3, 4, 5, 6, 15] s.length (fun g u at' _ _ _ _ wr => ∃ (k : Nat) (acc : List (List UInt8)), k ≤ s.length ∧ Hid (g + k = s.length) ∧ at' = .int .i64 (k : Nat) ∧ Hid ((L, n) = (acc ++ (allP (s.drop k)).1, k + (allP (s.drop k)).2)) ∧ Hid (acc.length ≤ k) ∧ wr.ownsRow w.heap.size 9 1 u acc.length (strs acc) ∧ Below w.heap.size w wr)
  case atStart => exact ⟨0, [], by omega, Lib.hid (by omega), rfl, Lib.hid (by rw [← HA.out]; simp), Lib.hid (by simp), World.ownsRow_nil _ _ _ _, Below.refl _ _⟩
  case round =>
    obtain ⟨k, acc, hk, hg, rfl, HI, HL, hown, hb⟩ := hrel
    obtain ⟨A, cp, rfl⟩ := own_form hown
    have hkI : (k : Int) ≤ s.length := by omega
    have hd : ((s.drop k).length : Int) ≤ 1048580 := by rw [List.length_drop]; omega
    have HD := Lib.hid hd
    clear hd
    go_wp2_with fail
    refine (cTake_any (s.drop k) wr HD.out).mono ?_
    rcases takP_cases (s.drop k) with ⟨b, h1, _, _, h8, hn⟩ | h1
    · rw [h1]
      rintro e w1 ⟨rfl, g1⟩
      have own2 := own_below hown g1
      have b2 := hb.trans (g1.mono hb.size)
      have hs2 := allP_step h1
      rw [List.drop_drop] at hs2
      obtain ⟨m, hm⟩ : ∃ m, m = (recd b).length := ⟨_, rfl⟩
      rw [← hm] at hs2 h8 hn ⊢
      rw [List.length_drop] at hn
      have HI2 := Lib.hid (show (L, n) = ((acc ++ [b]) ++ (allP (s.drop (k + m))).1, (k + m) + (allP (s.drop (k + m))).2) from by rw [HI.out, hs2]; simp [Nat.add_assoc])
      have HG := Lib.hid (show gk - m + (k + m) = s.length ∧ gk - m < gk from by have := hg.out; omega)
      have HL2 := Lib.hid (show (acc ++ [b]).length ≤ k + m from by have := HL.out; simp; omega)
      have P1 := Lib.hid (show acc.length + 1 ≤ maxLen from by have := HL.out; unfold maxLen; omega)
      have P2 := Lib.hid (show (acc.length + 1) * 16 ≤ 140737488355328 from by have := HL.out; omega)
      have hsum : (k : Int) + m ≤ s.length := by omega
      have HSN := Lib.hid (strs_snoc acc b)
      have hz := b2.size
      clear h1 hs2 hm h8 hn hg hown hb g1
      go_wp2_with (at_builtin; refine wpList_append_own _ rfl (.tmp 18) (.tmp 20) 29 rfl w.heap.size 9 i0 (.string ⟨#[]⟩) 1 16 Tryz.underlying29 hi hz0 hz1 hz2 rfl (by decide) (.slice A acc.length cp) acc.length (strs acc) rfl (own2.alloc _) ⟨w1.heap.size, 0, none⟩ 1 1 [.string ⟨b.toArray⟩] rfl rfl (World.news_of_block (cs := #[.string ⟨b.toArray⟩]) (t := 9) (fr := (0, 0)) (heap_alloc_new w1 _)) (by simp [Value.oneCell']) P1.out P2.out (by simp; omega) ?_; intro v' w6 hown6 hgrow _; have b6 : Below w.heap.size w w6 := (b2.alloc hz _).grown hgrow (by simp; omega) (own_block_ge own2); rw [← HSN.out] at hown6)
      go_roundg (gk - m)
      case measure => exact HG.out.2
      case rel => exact ⟨k + m, acc ++ [b], by omega, Lib.hid HG.out.1, by go_num, HI2, HL2, by rw [List.length_append]; exact hown6, b6⟩
    · rw [h1]
      rintro e w1 ⟨rfl, g1⟩
      have own2 := own_below hown g1
      have b2 := hb.trans (g1.mono hb.size)
      have h := HI.out
      rw [allP_end h1] at h
      simp only [List.append_nil, Nat.add_zero] at h
      obtain ⟨rfl, rfl⟩ := Prod.mk.inj h
      clear h h1 HI HA
      go_wp2
      try rw [Exit.noGoto_ret]
      go_ret2
      exact ⟨⟨_, _, rfl, own2⟩, b2⟩
end Go.Proofs.YtnpoohkklfpmdaaGreat
/- SlPJ -/
namespace Go.Proofs.YtnpoohkklfpmdaaGreat
open Go.RowKit
set_option linter.unusedSimpArgs false
set_option linter.unusedVariables false
set_option linter.unnecessarySimpa false
attribute [local go_sem] idx_list ext_list app_list
theorem own_lower {w : World} {base base' size n : Nat} {e : TypeId} {v : Value} {xs : List Value} (h : w.ownsRow base e size v n xs) (hb : base' ≤ base) : w.ownsRow base' e size v n xs :=
  ⟨h.1, h.2.imp id fun ⟨g, cap, cur, hv, hg, r⟩ => ⟨g, cap, cur, hv, Nat.le_trans hb hg, r⟩⟩
/-- What Open tells. -/
def OpenPost (p n : Nat) (o : Option (Mk × List UInt8 × Secs)) (W : World) (e : Ending) (w' : World) : Prop :=
  match o with
  | none => e = .returned (.tuple #[.pointer none, .slice none 0 0, .int .i64 10])
  | some (m, Lg, rs) => ∃ x a c, e = .returned (.tuple #[.pointer (some ⟨x, 0, none⟩), .slice a rs.length c, .int .i64 0]) ∧ w'.ownsRow W.heap.size 9 1 (.slice a rs.length c) rs.length (strs rs) ∧ PO w' [x] x p n ⟨m, Lg, false⟩ ∧ W.heap.size ≤ x ∧ ∀ b, (Value.slice a rs.length c).ownBlock = some b → b ≠ x
theorem two_sectors {ss : Secs} (h : L64 ss) (hl : 3 ≤ ss.length) : ∃ M, M = ((ss.drop 0).flatten.take 128) ∧ M.length = 128 ∧ M.take 64 = ss.getD 0 [] ∧ M.drop 64 = ss.getD 1 [] := by
  obtain ⟨a, b, r, rfl⟩ : ∃ a b r, ss = a :: b :: r := by
    match ss, hl with
    | a :: b :: r, _ => exact ⟨a, b, r, rfl⟩
  have ha := h a (by simp)
  have hb := h b (by simp)
  refine ⟨_, rfl, ?_, ?_, ?_⟩
  · simp [ha, hb]; omega
  · simp only [List.drop_zero, List.flatten_cons, List.take_take, show min 64 128 = 64 from rfl, List.getD_cons_zero]
    rw [List.take_append_of_le_length (by omega), List.take_of_length_le (by omega)]
  · simp only [List.drop_zero, List.flatten_cons, List.getD_cons_succ, List.getD_cons_zero]
    rw [List.drop_take, List.drop_append_of_le_length (by omega), List.drop_of_length_le (by omega), List.nil_append, List.take_append_of_le_length (by omega), List.take_of_length_le (by omega)]
section
variable {PD : World → List Nat → Nat → Dv → Prop} (I : Iface0 PD)
include I
set_option maxHeartbeats 4000000 in
set_option maxRecDepth 100000 in
theorem sOpen_on {ex : List Nat} {p : Nat} {d : Dv} (w : World) (h : PD w ex p d) (hf : d.Few7) (ho : d.Ok) (h3 : 3 ≤ d.safe.length) (hon : d.on = true) :
    Calls Tryz.prog 7 #[.pointer (some ⟨p, 0, none⟩)] w fun e w' => OpenPost p d.safe.length (openM (vis d)) w e w' ∧ Below w.heap.size w w' := by
  obtain ⟨M, hM, hMl, hM1, hM2⟩ := two_sectors (vis_64 ho) (by rw [vis_len]; exact h3)
  have hsec := fun w (h : PD w ex p d) => I.sectors w h
  have hr1 := sRead_ok I 0 128 w h hf.few ho hon (by omega) (by omega)
  rw [← hM] at hr1
  have hr2 := fun n w (h : PD w ex p d) hn => sRead_ok I 2 n w h hf.few ho hon (by omega) hn
  have hnw := fun w => pNewest_any (M.take 64) (M.drop 64) w (by rw [List.length_take]; omega) (by rw [List.length_drop]; omega)
  rw [hM1, hM2] at hnw
  obtain ⟨Nn, hN⟩ : ∃ Nn, Nn = newestM ((vis d).getD 0 []) ((vis d).getD 1 []) := ⟨_, rfl⟩
  rw [← hN, ← hM1, ← hM2] at hnw
  obtain ⟨a, b, c⟩ := Nn
  obtain ⟨n, hn⟩ : ∃ n, n = d.safe.length := ⟨_, rfl⟩
  obtain ⟨O, hO⟩ : ∃ O, O = openM (vis d) := ⟨_, rfl⟩
  have hOO : O = if b ≤ 64 * (n - 2) then (if (allP ((logF (vis d)).take b)).2 = b ∧ (allP ((logF (vis d)).take b)).1.length = c then some (⟨a, b, c⟩, (logF (vis d)).take b, (allP ((logF (vis d)).take b)).1) else none) else none := by
    rw [hO, openM, ← hN, vis_len, ← hn]
  rw [← hO, ← hn]
  rw [← hn] at hsec hr2 h3
  have hn4 : n ≤ 4096 := by rw [hn]; exact hf.safe
  have hnI : (n : Int) ≤ 4096 := by omega
  have h3I : (3 : Int) ≤ n := by omega
  rw [show mkV ⟨a, b, c⟩ = .agg #[.int .i64 (a : Nat), .int .i64 (b : Nat), .int .i64 (c : Nat)] from rfl] at hnw
  have HSEC := Lib.hid hsec
  have HR1 := Lib.hid hr1
  have HR2 := Lib.hid hr2
  have HNW := Lib.hid hnw
  have HOO := Lib.hid hOO
  have H := Lib.hid h
  have hMI : (M.length : Int) = 128 := by omega
  have HMT : Hid (M.take 128 = M) := Lib.hid (List.take_of_length_le (by omega))
  clear hsec hr1 hr2 hnw hO hOO hM hM1 hM2 hMl hN hn h hf ho hon h3 hn4
  go_enter Tryz.func7, Tryz.ntmps7
  go_wp2_with fail
  refine (HSEC.out w H.out).mono ?_
  rintro e w' ⟨rfl, rfl⟩
  go_wp2_with fail
  refine HR1.out.mono ?_
  rintro e w1 ⟨rfl, g1⟩
  clear HR1
  have H1 := Lib.hid (I.below H.out g1)
  have G1 := Lib.hid g1
  clear g1
  go_upto_region 6 with (fail)
  go_cut [7] (fun v wx => ∃ t, v = .pointer (some ⟨t, 0, none⟩) ∧ w.heap.size ≤ t ∧ Hid (Rw wx t (ncs a b c) 51) ∧ Hid (Below w.heap.size w wx) ∧ Hid (PD wx ex p d))
  case first =>
    have WZ := G1.out.size
    go_region_with (((with_reducible go_at_call 27); (try rw [HMT.out]); (with_reducible refine (HNW.out _).mono ?_); rintro e w5 ⟨rfl, h5⟩; (try (have r5 := (Rw.new w1 (ncs 0 0 0) 51).below (below_undrew h5); have k0 := r5.c 0 (v := .int .i64 ((0 : Nat) : Int)) rfl; have k1 := r5.c 1 (v := .int .i64 ((0 : Nat) : Int)) rfl; have k2 := r5.c 2 (v := .int .i64 ((0 : Nat) : Int)) rfl; have l0 := r5.f 0; have l1 := r5.f 1; have l2 := r5.f 2; have R5 := Lib.hid r5; clear r5))))
    · go_wp2_with fail
      go_meet
      have hb : Below w1.heap.size w1 w5 := below_undrew h5
      have hb2 : Below w1.heap.size w1 (w5.alloc (.cells (ncs a b c).toArray 51)) := hb.alloc hb.size _
      exact ⟨_, rfl, Nat.le_trans WZ hb.size, Lib.hid (Rw.new w5 (ncs a b c) 51), Lib.hid (G1.out.trans (hb2.mono G1.out.size)), Lib.hid (I.below H1.out hb2)⟩
    · go_wp2_with fail
      go_meet
      have hb : Below w1.heap.size w1 w5 := ((Below.refl _ _).alloc (Nat.le_refl _) _).trans ((below_undrew h5).mono (by simp))
      have hb2 : ∀ x y z, Below w1.heap.size w1 (((w5.setCell ⟨w1.heap.size, 0, none⟩ x).setCell ⟨w1.heap.size, 1, none⟩ y).setCell ⟨w1.heap.size, 2, none⟩ z) := fun x y z => ((hb.setCell (Nat.le_refl _) _).setCell (Nat.le_refl _) _).setCell (Nat.le_refl _) _
      exact ⟨_, rfl, WZ, Lib.hid (((R5.out.set 0 _).set 1 _).set 2 _), Lib.hid (G1.out.trans ((hb2 _ _ _).mono G1.out.size)), Lib.hid (I.below H1.out (hb2 _ _ _))⟩
  case rest =>
    clear HNW HMT hMI G1 H1 H
    obtain ⟨t, rfl, ht, hT, hG, hP⟩ := hcut
    go_wp2_with fail
    refine (HSEC.out _ hP.out).mono ?_
    rintro e w' ⟨rfl, rfl⟩
    clear HSEC
    have c0 := hT.out.c 0 (v := .int .i64 (a : Nat)) rfl
    have c1 := hT.out.c 1 (v := .int .i64 (b : Nat)) rfl
    have c2 := hT.out.c 2 (v := .int .i64 (c : Nat)) rfl
    by_cases hb : b ≤ 64 * (n - 2)
    · obtain ⟨L, hL⟩ : ∃ L, L = (logF (vis d)).take b := ⟨_, rfl⟩
      have hO := HOO.out
      rw [if_pos hb, ← hL] at hO
      have hr := HR2.out b wc hP.out hb
      have hl2 : ((vis d).drop 2).flatten.take b = L := by rw [hL, logF]
      rw [hl2] at hr
      have hLl : (L.length : Int) ≤ 262144 := by rw [hL, List.length_take]; omega
      have hal := fun w => cAllO_any L w (by omega)
      obtain ⟨rs, nn, hA⟩ : ∃ rs nn, allP L = (rs, nn) := ⟨_, _, rfl⟩
      rw [hA] at hal hO
      simp only at hO hal
      have hbI : ¬ ((((n : Int) - 2) * 64) < b) := by omega
      have htl := fun w => sTail_any L w (by omega)
      have HAL := Lib.hid hal
      have HTL := Lib.hid htl
      have HO2 := Lib.hid hO
      have HR := Lib.hid hr
      clear hal htl hO hr hl2 hL hA HOO HR2 hLl
      obtain ⟨Y, hY⟩ : ∃ Y : Int, Y = ((n : Int) - 2) * 64 := ⟨_, rfl⟩
      go_upto_region 10 with (fail)
      go_wp2_with fail
      refine HR.out.mono ?_
      rintro e w3 ⟨rfl, g3⟩
      clear HR c0 c1 c2
      have T3 := Lib.hid (hT.out.below g3)
      have G3 := Lib.hid (hG.out.trans (g3.mono hG.out.size))
      clear g3 hT hG hP
      go_wp2_with fail
      refine (HAL.out w3).mono ?_
      rintro e w4 ⟨⟨av, cv, rfl, ow⟩, g4⟩
      clear HAL
      have T4 := Lib.hid (T3.out.below g4)
      have G4 := Lib.hid (G3.out.trans (g4.mono G3.out.size))
      have OW := Lib.hid ow
      have WZ3 := G3.out.size
      have c1 := T4.out.c 1 (v := .int .i64 (b : Nat)) rfl
      have c2 := T4.out.c 2 (v := .int .i64 (c : Nat)) rfl
      clear T3 G3 ow g4
      by_cases h1 : nn = b
      · have h1I : ((nn : Int) == (b : Int)) = true := by simp; omega
        have h1J : ((nn : Int) != (b : Int)) = false := by simp; omega
        by_cases h2 : rs.length = c
        · have h2I : ((rs.length : Int) == (c : Int)) = true := by simp; omega
          have h2J : ((rs.length : Int) != (c : Int)) = false := by simp; omega
          have hO := HO2.out
          rw [if_pos ⟨h1, h2⟩] at hO
          have HO3 := Lib.hid hO
          clear hO HO2 h1 h2
          have c0 := T4.out.c 0 (v := .int .i64 (a : Nat)) rfl
          go_upto_region 16 with (fail)
          clear h1I h1J h2I h2J
          go_region_with (((with_reducible go_at_call 29); (with_reducible refine (HTL.out _).mono ?_); rintro e w5 ⟨rfl, h5⟩; have T5 := T4.out.below (below_undrew h5); have k0 := T5.c 0 (v := .int .i64 (a : Nat)) rfl; have k1 := T5.c 1 (v := .int .i64 (b : Nat)) rfl; have k2 := T5.c 2 (v := .int .i64 (c : Nat)) rfl; clear T5))
          all_goals
            have b5 := below_undrew h5
            have HB5 := Lib.hid b5
            clear h5 b5 c0 c1 c2 k0 k1 k2
            go_wp2
            go_ret3
            have row : Rw (w5.alloc (.cells #[.pointer (some ⟨p, 0, none⟩), .int .i64 (a : Nat), .int .i64 (b : Nat), .int .i64 (c : Nat), .int .i64 (((n : Int) - 2) * 64), .string ⟨(tailM L).toArray⟩, .bool true] 71)) w5.heap.size (scs p n ⟨⟨a, b, c⟩, L, false⟩) 71 := by
              have := Rw.new w5 (scs p n ⟨⟨a, b, c⟩, L, false⟩) 71
              rw [show ((n : Int) - 2) * 64 = ((64 * (n - 2) : Nat) : Int) from by omega]
              exact this
            have ba : Below w4.heap.size w4 (w5.alloc (.cells #[.pointer (some ⟨p, 0, none⟩), .int .i64 (a : Nat), .int .i64 (b : Nat), .int .i64 (c : Nat), .int .i64 (((n : Int) - 2) * 64), .string ⟨(tailM L).toArray⟩, .bool true] 71)) := HB5.out.alloc HB5.out.size _
            have z4 := HB5.out.size
            refine ⟨?_, G4.out.trans (ba.mono G4.out.size)⟩
            rw [HO3.out]
            refine ⟨w5.heap.size, av, cv, rfl, ?_, ⟨rfl, row⟩, Nat.le_trans G4.out.size z4, fun q hq => ?_⟩
            · exact own_below (own_lower OW.out WZ3) ba
            · have := own_lt OW.out hq; omega
        · have h2I : ((rs.length : Int) == (c : Int)) = false := by simp; omega
          have h2J : ((rs.length : Int) != (c : Int)) = true := by simp; omega
          have hO := HO2.out
          rw [if_neg (fun q => h2 q.2)] at hO
          subst hO
          clear HO2 h1 h2
          go_wp2
          go_ret3
          exact ⟨rfl, G4.out⟩
      · have h1I : ((nn : Int) == (b : Int)) = false := by simp; omega
        have h1J : ((nn : Int) != (b : Int)) = true := by simp; omega
        have hO := HO2.out
        rw [if_neg (fun q => h1 q.1)] at hO
        subst hO
        clear HO2 h1
        go_wp2
        go_ret3
        exact ⟨rfl, G4.out⟩
    · have hO := HOO.out
      rw [if_neg hb] at hO
      subst hO
      have hbI : (((n : Int) - 2) * 64) < b := by omega
      have HG := Lib.hid hG.out
      clear HOO HR2 hb
      go_wp2
      go_ret3
      exact ⟨rfl, HG.out⟩
set_option maxHeartbeats 1000000 in
theorem sOpen_few {ex : List Nat} {p : Nat} {d : Dv} (w : World) (h : PD w ex p d) (h3 : d.safe.length < 3) :
    Calls Tryz.prog 7 #[.pointer (some ⟨p, 0, none⟩)] w fun e w' => e = .returned (.tuple #[.pointer none, .slice none 0 0, .int .i64 1]) ∧ Below w.heap.size w w' := by
  have hs := I.sectors w h
  obtain ⟨n, hn⟩ : ∃ n, n = d.safe.length := ⟨_, rfl⟩
  rw [← hn] at hs h3
  have h3I : (n : Int) ≤ 2 := by omega
  clear hn h3
  go_enter Tryz.func7, Tryz.ntmps7
  go_wp2_with fail
  refine hs.mono ?_
  rintro e w' ⟨rfl, rfl⟩
  clear hs
  go_wp2
  go_ret3
  exact ⟨rfl, Below.refl _ _⟩
set_option maxHeartbeats 1000000 in
theorem sOpen_off {ex : List Nat} {p : Nat} {d : Dv} (w : World) (h : PD w ex p d) (hf : d.Few7) (ho : d.Ok) (h3 : 3 ≤ d.safe.length) (hon : d.on = false) :
    Calls Tryz.prog 7 #[.pointer (some ⟨p, 0, none⟩)] w fun e w' => e = .returned (.tuple #[.pointer none, .slice none 0 0, .int .i64 14]) ∧ Below w.heap.size w w' := by
  have hs := I.sectors w h
  have hr := sRead_off I 0 128 w (by omega) (by omega) h hf.few ho hon
  obtain ⟨n, hn⟩ : ∃ n, n = d.safe.length := ⟨_, rfl⟩
  have hn4 := hf.safe
  rw [← hn] at hs h3 hn4
  have h3I : ¬ ((n : Int) ≤ 2) := by omega
  have HR := Lib.hid hr
  clear hn h3 hr hon
  go_enter Tryz.func7, Tryz.ntmps7
  go_wp2_with fail
  refine hs.mono ?_
  rintro e w' ⟨rfl, rfl⟩
  clear hs
  go_wp2_with fail
  refine HR.out.mono ?_
  rintro e w1 ⟨rfl, g1⟩
  clear HR
  go_wp2
  go_ret3
  exact ⟨rfl, g1⟩
end
end Go.Proofs.YtnpoohkklfpmdaaGreat
/- SlP -/
namespace Go.Proofs.YtnpoohkklfpmdaaGreat
open Go.RowKit
set_option linter.unusedSimpArgs false
set_option linter.unusedVariables false
set_option linter.unnecessarySimpa false
/-- The program's log keeps to all that is asked. -/
theorem iface7 : Iface7 PD PO where
  keep := fun ⟨he, hr⟩ hb => ⟨he, hr.keep (hb _ (by rw [he]; simp))⟩
  lt := fun ⟨he, hr⟩ b hb => by rw [he, List.mem_singleton] at hb; rw [hb]; exact hr.lt
  pack := pPack_any
  unpack := pUnpack_any
  openNo := by
    intro ex p d w h hf ho hne
    by_cases h3 : d.safe.length < 3
    · rw [show openE d = 1 from if_pos h3]
      exact (sOpen_few iface0 w h h3).mono fun e w' ⟨he, hb⟩ => ⟨⟨none, 0, he⟩, hb⟩
    · cases hon : d.on with
      | false =>
        rw [show openE d = 14 from by unfold openE; rw [if_neg h3, hon, if_neg (by decide)]]
        exact (sOpen_off iface0 w h hf ho (by omega) hon).mono fun e w' ⟨he, hb⟩ => ⟨⟨none, 0, he⟩, hb⟩
      | true =>
        have e1 : openE d = if (openM (vis d)).isSome then 0 else 10 := by unfold openE; rw [if_neg h3, hon, if_pos rfl]
        cases hO : openM (vis d) with
        | some o => rw [e1, hO] at hne; exact absurd rfl hne
        | none =>
          rw [e1, hO]
          have := sOpen_on iface0 w h hf ho (by omega) hon
          rw [hO] at this
          exact this.mono fun e w' ⟨he, hb⟩ => ⟨⟨none, 0, he⟩, hb⟩
  openOk := by
    intro ex p d m Lg rs w h hf ho h3 hon hO
    have := sOpen_on iface0 w h hf ho h3 hon
    rw [hO] at this
    exact this.mono fun e w' ⟨⟨x, a, c, he, ow, po, hx, hne⟩, hb⟩ => ⟨⟨x, a, c, [x], he, ow, po, fun b hb => by rw [List.mem_singleton.1 hb]; exact hx, fun b hb hin => hne b hb (List.mem_singleton.1 hin)⟩, hb⟩
  commit := fun r w h hx ha hf ho hs hr => sCommit_any iface0 r w h hx ha hf ho hs hr
  mark := fun w ⟨_, hr⟩ => sMark_any w hr
  broken := fun w ⟨_, hr⟩ => sBroken_any w hr
  room := fun w h ⟨_, hr⟩ hs hn => sRoom_any w hr hs hn
end Go.Proofs.YtnpoohkklfpmdaaGreat
