/- A record in which one byte of the body is another one is none, nor one cut short: for every text, number and byte the law CheckChanged returns true, and its arguments read afterwards as they read before. No condition. -/
import Derived.Test.YtpopocfkeiplbaaRows
import Derived.WalkKit
import Derived.Below
import Derived.ProofKit
import Derived.OpenShut
import Derived.ShutString
import Derived.ChangeOld
import Derived.Outline
import Derived.RegionTactic
import Derived.ChangeAlike
import Derived.BigRegion
import Derived.BigQuiet
import Derived.Deep.QuietTactic
import Derived.Deep.RegionWith
import Derived.Deep.RegionLaw
import Derived.Deep.RegionHeld3
import Derived.Deep.AppendLies
import Derived.Deep.Draws
import Derived.StillTailTactics
import Derived.Lib.Hide
import Derived.Lib.SmallJoins
import Derived.Handy
import Derived.WalkSpells
import Derived.WalkLawsBesides
import Derived.Deep.LoopGhost
import Derived.Deep.DeepCutAuto
import Derived.Laws.CopyOwn
import Derived.Deep.OwnRows
import Derived.Great.BuildSlice
import Derived.Test.YtpopocfkeiplbaaCheckQ
import Derived.Test.YtpopocfkeiplbaaMark
namespace Go.Proofs.Ytpopocfkeiplbaa.checkChanged
open Go.RowKit
set_option linter.unusedSimpArgs false
set_option linter.unusedVariables false
set_option linter.unnecessarySimpa false
theorem bsum_set (l : List UInt8) (k : Nat) (v : UInt8) (h : k < l.length) : bsum (l.set k v) + (l[k]'h).toNat = bsum l + v.toNat := by
  induction l generalizing k with
  | nil => simp at h
  | cons c l ih =>
    cases k with
    | zero => simp only [List.set_cons_zero, bsum_cons, List.getElem_cons_zero]; omega
    | succ k =>
      have := ih k (by simpa using h)
      simp only [List.set_cons_succ, bsum_cons, List.getElem_cons_succ]
      omega
theorem xor_ne (a t : UInt8) (h : t ≠ 0) : a ^^^ t ≠ a := by
  intro e
  have h1 : a ^^^ (a ^^^ t) = a ^^^ a := by rw [e]
  rw [← UInt8.xor_assoc, UInt8.xor_self, UInt8.zero_xor] at h1
  exact h h1
theorem fld_set (c : UInt8) (B : List UInt8) (k : Nat) (v : UInt8) : (fld c B).set (4 + k) v = fld c (B.set k v) := by
  rw [Nat.add_comm]
  simp only [fld, List.set_cons_succ, List.length_set]
theorem changed (B : List UInt8) (k : Nat) (hk : k < B.length) (hb : B.length ≤ 100) (t : UInt8) :
    (recd B)[4 + k]? = some (B[k]'hk) ∧ (t = 0 → takP ((recd B).set (4 + k) ((B[k]'hk) ^^^ t)) = (B, (recd B).length, 0)) ∧ (t ≠ 0 → takP ((recd B).set (4 + k) ((B[k]'hk) ^^^ t)) = ([], 0, 10)) := by
  have e0 : (recd B)[4 + k]? = some (B[k]'hk) := by
    rw [recd, List.getElem?_append_left (by rw [fld_len]; omega), Nat.add_comm]
    simp [fld]
  refine ⟨e0, fun h => ?_, fun h => ?_⟩
  · subst h
    have e1 : (recd B).set (4 + k) ((B[k]'hk) ^^^ 0) = recd B := by
      rw [UInt8.xor_zero]
      apply List.ext_getElem?
      intro j
      rw [List.getElem?_set]
      split
      · rename_i e; subst e; rw [e0]; simp; have := (recd_len B).1; omega
      · rfl
    rw [e1]
    have := takP_rec B [] (by omega)
    rwa [List.append_nil] at this
  · have e1 : (recd B).set (4 + k) ((B[k]'hk) ^^^ t) = fld 82 (B.set k ((B[k]'hk) ^^^ t)) ++ fld 83 (digs (sumN (fld 82 B))) ++ [] := by
      rw [recd, List.set_append_left _ _ (by rw [fld_len]; omega), fld_set, List.append_nil]
    rw [e1]
    refine takP_turned B (B.set k ((B[k]'hk) ^^^ t)) [] (by simp) (by omega) ?_
    have h1 := bsum_set B k ((B[k]'hk) ^^^ t) hk
    have h2 : ((B[k]'hk) ^^^ t).toNat ≠ (B[k]'hk).toNat := fun e => xor_ne _ t h (UInt8.toNat_inj.1 e)
    have h3 := ((B[k]'hk) ^^^ t).toNat_lt
    have h4 := (B[k]'hk).toNat_lt
    generalize ((B[k]'hk) ^^^ t).toNat = v at *
    generalize (B[k]'hk).toNat = o at *
    omega
theorem OwnB.put {w : World} {base : Nat} {e : TypeId} {g n c : Nat} {l : List UInt8} (h : OwnB w base e (.slice (some ⟨g, 0, none⟩) n c) l) (k : Nat) (hk : k < l.length) (x : UInt8) :
    n = l.length ∧ w.cell? ⟨g, k, none⟩ = some (.int .u8 (l[k]'hk).toNat) ∧ w.frozen? ⟨g, k, none⟩ = false ∧ OwnB (w.setCell ⟨g, k, none⟩ (.int .u8 x.toNat)) base e (.slice (some ⟨g, 0, none⟩) n c) (l.set k x) := by
  obtain ⟨g2, cap, cur, fz, hv, h1, h2, h3, h4, h5, h6, h7⟩ := h
  injection hv with ha hn hc
  injection ha with ha
  injection ha with hg _ _
  subst hg hn hc
  have hc : cur.toList[k]? = some (.int .u8 (l[k]'hk).toNat) := by
    have e := congrArg (·[k]?) h7
    simp only [List.getElem?_take_of_lt hk, bcells_get hk] at e
    rw [e]; simp [hk]
  refine ⟨rfl, ?_, ?_, g, _, cur.setIfInBounds k (.int .u8 x.toNat), fz, by rw [List.length_set], h1, ?_, h3, by simpa using h4, h5, by simpa using h6, ?_⟩
  · rw [cell_of_row w g k _ _ _ h2, ← Array.getElem?_toList, hc]
  · obtain ⟨lo, hi'⟩ := fz
    simp only [World.frozen?, h2, Bool.and_eq_false_iff, decide_eq_false_iff_not]
    simp only at h3
    omega
  · simp only [World.setCell, Array.getElem?_modify, h2]
    simp
  · rw [Array.toList_setIfInBounds, List.length_set, List.take_set, h7, bcells_set]
theorem OwnB.back {w : World} {base : Nat} {e : TypeId} {v : Value} {l : List UInt8} (h : OwnB w base e v l) {P : Program} (src dst : TypeId) (hs : P.underlying src = some (.slice e)) (he : P.underlying e = some (.int .u8)) (hd : P.underlying dst = some .string) :
    (convert src dst v).run P w = .ok (.string ⟨l.toArray⟩) w := by
  obtain ⟨g, cap, rfl, _, _, _, _, hc⟩ := h.form
  refine run_convert_bytes_back w src dst e _ cap l hs he hd (fun j hj => ?_)
  have hadd : (⟨g, 0, none⟩ : Addr).add j = ⟨g, j, none⟩ := by unfold Addr.add; split <;> simp_all
  rw [hadd, hc j hj]
  simp [hj]
section
attribute [local go_sem] idx_list ext_list app_list
set_option maxHeartbeats 4000000 in
set_option maxRecDepth 100000 in
theorem walk (l : List UInt8) (z : Int) (c : UInt8) (W : World) (hl : l.length ≤ maxLen) (z0 : -9223372036854775808 ≤ z) (z1 : z < 9223372036854775808) : Calls Try.prog 6 #[.string ⟨l.toArray⟩, .int .i64 z, .int .u8 (c.toNat : Nat)] W fun e w' => e = .returned (.bool true) ∧ Below W.heap.size W w' := by
  obtain ⟨B, hB⟩ : ∃ B, B = 98 :: l.take 99 := ⟨_, rfl⟩
  have b1 : 1 ≤ B.length := by rw [hB]; simp
  have b100 : B.length ≤ 100 := by rw [hB]; simp; omega
  obtain ⟨R, hR⟩ : ∃ R, R = recd B := ⟨_, rfl⟩
  have rl := recd_len B
  rw [← hR] at rl
  have PB := Lib.hid (show putP B = (R, 0) from by rw [hR]; exact putP_ok (by omega))
  obtain ⟨t, et⟩ : ∃ t, z.tmod (B.length : Int) = t := ⟨_, rfl⟩
  have t0 : -(B.length : Int) < t := by have := Int.lt_tmod_of_pos z (show (0 : Int) < B.length by omega); omega
  have t1 : t < B.length := by have := Int.tmod_lt_of_pos z (show (0 : Int) < B.length by omega); omega
  have bI : (1 : Int) ≤ B.length := by omega
  have b100I : (B.length : Int) ≤ 100 := by omega
  have hcat := Lib.hid (show (⟨#[98]⟩ : ByteArray) ++ ⟨(l.take 99).toArray⟩ = ⟨B.toArray⟩ from by rw [hB]; exact app_list [98] (l.take 99))
  have HTK := Lib.hid (show ((l.take 99).length : Int) ≤ 99 from by have := List.length_take_le 99 l; omega)
  have HR := Lib.hid hR
  have RL := Lib.hid rl
  have hl0 : (R.length : Int) ≤ 116 := by omega
  have hg1 : decide ((R.length : Int) < (B.length : Int) + 4) = false := decide_eq_false (by omega)
  have hg2 : decide (R.length < B.length + 4) = false := decide_eq_false (by omega)
  have hg3 : ¬ R.length < B.length + 4 := by omega
  have HB100 := Lib.hid b100
  clear hB hR rl hl b100
  go_enter Try.func6, Try.ntmps6
  go_wp2_with fail
  refine (awake5_any _).mono ?_
  rintro e w1 ⟨rfl, g1⟩
  go_wp2_with fail
  refine (short5_any l 99 _ (by decide)).mono ?_
  rintro e w2 ⟨rfl, rfl⟩
  have htk := HTK.out
  have hct := hcat.out
  rw [show l.take (99 : Int).toNat = l.take 99 from rfl]
  go_upto_region 3 with (fail)
  clear htk hct
  go_wp2_with fail
  refine (cPut_any B _ (by omega)).mono ?_
  rw [PB.out]
  rintro e w2 ⟨rfl, g2⟩
  have b2 := g1.trans (g2.mono g1.size)
  clear g1 g2
  go_upto_if 42 with (fail)
  clear hg1 hg2 hg3
  go_cut [10] (fun u w' => ∃ k : Nat, k < B.length ∧ u = .int .i64 (k : Nat) ∧ w' = w2)
  case first =>
    by_cases h : t < 0
    · go_wp2_with fail
      go_meet
      case rel => exact ⟨(-t).toNat, by omega, by go_num, rfl⟩
    · go_wp2_with fail
      go_meet
      case rel => exact ⟨t.toNat, by omega, by go_num, rfl⟩
  case rest =>
  obtain ⟨k, hk, rfl, rfl⟩ := hcut
  clear et t0 t1 z0 z1
  apply_assumption
  have CC := changed B k hk HB100.out c
  rw [← HR.out] at CC
  obtain ⟨v, hv⟩ : ∃ v, v = (B[k]'hk) ^^^ c := ⟨_, rfl⟩
  obtain ⟨o, ho⟩ : ∃ o, o = B[k]'hk := ⟨_, rfl⟩
  have hxor : bits .xor .u8 ((o.toNat : Nat) : Int) ((c.toNat : Nat) : Int) = ((v.toNat : Nat) : Int) := by
    rw [u8_xor_nat _ _ o.toNat_lt c.toNat_lt, hv, ← ho, UInt8.toNat_xor]
  rw [← hv, ← ho] at CC
  have k4 : 4 + k < R.length := by have := RL.out; omega
  have hRk : R[4 + k]'k4 = o := by have := CC.1; rw [List.getElem?_eq_getElem k4] at this; exact Option.some.inj this
  have HCC := Lib.hid CC
  have HRK := Lib.hid hRk
  have HCUT := Lib.hid (show takP (R.take k) = ([], 0, 10) from by have := takP_cut B [] k (by omega) (by omega); rwa [List.append_nil, ← HR.out] at this)
  have HLM := Lib.hid (show R.length ≤ maxLen from by unfold maxLen; omega)
  have kI : (4 : Int) + k < R.length := by omega
  have kR : (k : Int) ≤ R.length := by omega
  clear CC hv ho hRk
  go_upto_region 10 with (refine wpList_bytes rfl 9 24 5 (.tmp 45) rfl Try.underlying9 Try.underlying24 Try.underlying5 R rfl HLM.out ?_; intro vb w3 hown g3)
  obtain ⟨gb, cpb, rfl, hgb, hgl, _, _, _⟩ := hown.form
  have hput := OwnB.put hown (4 + k) k4 v
  obtain ⟨_, hcell, hfr, hown4⟩ := hput
  have hxor2 : bits .xor .u8 (((R[4 + k]'k4).toNat : Nat) : Int) ((c.toNat : Nat) : Int) = ((v.toNat : Nat) : Int) := by rw [HRK.out]; exact hxor
  have b3 := b2.trans (g3.mono b2.size)
  have HO4 := Lib.hid hown4
  have hg3 := g3.size
  have b3' := b2
  clear hown hown4 g3 b2
  go_upto_region 11 with (fail)
  clear hcell hfr hxor hxor2 kI
  obtain ⟨Y, hY⟩ : ∃ Y, Y = R.set (4 + k) v := ⟨_, rfl⟩
  have HYL := Lib.hid (show (Y.length : Int) ≤ 116 from by rw [hY, List.length_set]; exact hl0)
  have hback := OwnB.back HO4.out (P := Try.prog) 24 9 Try.underlying24 Try.underlying5 Try.underlying9
  rw [← hY] at hback
  have hCC := HCC.out
  rw [← hY] at hCC
  have HC2 := Lib.hid hCC
  have b4 : Below W.heap.size W (w3.setCell ⟨gb, 4 + k, none⟩ (.int .u8 (v.toNat : Nat))) := b3.setCell (Nat.le_trans b3'.size hgb) _
  clear hY hCC HCC HO4 b3
  generalize World.setCell _ _ _ = w4 at *
  go_wp2_with fail
  refine (cTake_any Y w4 (by have := HYL.out; omega)).mono ?_
  by_cases hc0 : c = 0
  · rw [HC2.out.2.1 hc0]
    rintro e w5 ⟨rfl, g5⟩
    have b5 := b4.trans (g5.mono b4.size)
    have hcz : ((c.toNat : Int) == 0) = true := by rw [hc0]; rfl
    clear hback g5 b4 hc0
    go_wp2_with fail
    refine (cTake_any (R.take k) w5 (by rw [List.length_take]; omega)).mono ?_
    rw [HCUT.out]
    rintro e w6 ⟨rfl, g6⟩
    have b6 := b5.trans (g6.mono b5.size)
    go_wp2
    go_ret
    exact ⟨rfl, b6⟩
  · rw [HC2.out.2.2 hc0]
    rintro e w5 ⟨rfl, g5⟩
    have b5 := b4.trans (g5.mono b4.size)
    have hcz : ((c.toNat : Int) == 0) = false := by
      have : c.toNat ≠ 0 := fun e => hc0 (UInt8.toNat_inj.1 e)
      simp; omega
    clear hback g5 b4 hc0
    go_wp2_with fail
    refine (cTake_any (R.take k) w5 (by rw [List.length_take]; omega)).mono ?_
    rw [HCUT.out]
    rintro e w6 ⟨rfl, g6⟩
    have b6 := b5.trans (g6.mono b5.size)
    go_wp2
    go_ret
    exact ⟨rfl, b6⟩
end
open Go.ChangeShapes Go.WideShapes Go.ChangeAt
set_option maxRecDepth 100000 in
theorem lifted (os : Os) (started : os.Started) (H : Type) (enc : TypeId × Value → H) :
    ReturnsInHanded {} Try.checked os 6 .any (Rows.checkChangedSpec.pre6 enc Try.prog Try.f6 Rows.checkChangedRow.domain false) (Rows.checkChangedSpec.post enc Try.prog Try.f6 false true false false) := by
  refine returnsInHanded_of_change (C := Try.checked) own started (by kernel_rfl) Try.func6
    (ChangeSpec.witness6 (enc := enc) (C := Try.checked) false ⟨#[], #[.string ⟨#[]⟩, .int .i64 0, .int .u8 0], []⟩ 8 (by kernel_rfl) (by kernel_rfl) (by kernel_rfl) (by kernel_rfl)) ?_
  intro W base args ds gs before hval0 hW hcnd _
  have hval : ∀ (j : Nat) t v, Try.f6.params[j]? = some t → args[j]? = some v → Value.okWide Try.prog W .any base t v := hval0
  have hW' := hW
  obtain ⟨p, q, hA0, hV, rfl, hfz, hnd⟩ := hW
  have hA : DataW.TrodAll enc Try.prog W 0 (fun _ => true) true Try.f6.params.toList args.toList ds p := hA0
  rw [Try.params6] at hA hval
  obtain ⟨v0, vs0, d0, ds0, p0, q0, hargs, rfl, rfl, h0, r0⟩ := trodAll_cons hA
  obtain ⟨v1, vs1, d1, ds1, p1, q1, rfl, rfl, rfl, h1, r1⟩ := trodAll_cons r0
  obtain ⟨v2, vs2, d2, ds2, p2, q2, rfl, rfl, rfl, h2, r2⟩ := trodAll_cons r1
  obtain ⟨rfl, rfl, rfl⟩ := trodAll_nil r2
  obtain rfl : args = #[v0, v1, v2] := by cases args; simp_all
  obtain ⟨rfl, rfl⟩ := trodVars_none hV
  have k0 := h0
  have lt0 : ∀ x ∈ p0, x.block < W.heap.size := by obtain ⟨m, hm⟩ := k0; exact DataW.trod_lt m _ _ _ hm
  have k1 := h1
  have lt1 : ∀ x ∈ p1, x.block < W.heap.size := by obtain ⟨m, hm⟩ := k1; exact DataW.trod_lt m _ _ _ hm
  have k2 := h2
  have lt2 : ∀ x ∈ p2, x.block < W.heap.size := by obtain ⟨m, hm⟩ := k2; exact DataW.trod_lt m _ _ _ hm
  obtain ⟨lx0, rfl, hlx0⟩ := op_str (hval 0 9 v0 rfl rfl) h0
  obtain ⟨nx1, rfl, lox1, hix1⟩ := op_int (hval 1 3 v1 rfl rfl) h1
  obtain ⟨cx2, rfl⟩ := op_u8 (hval 2 5 v2 rfl rfl) h2
  clear hA0 hval0
  refine (walk lx0 nx1 cx2 W hlx0 lox1 hix1).mono fun e W' ⟨he, bel⟩ => ?_
  subst he
  exact ⟨_, rfl, _, _, _, [], _, [], hW', trodAll_mk1 (shut_bool Try.underlying4 _), trodAll_cons_mk (Below.trod laidOut (by kernel_rfl) (of_decide_eq_true (by kernel_rfl)) k0 bel lt0) (trodAll_cons_mk (Below.trod laidOut (by kernel_rfl) (of_decide_eq_true (by kernel_rfl)) k1 bel lt1) (trodAll_cons_mk (Below.trod laidOut (by kernel_rfl) (of_decide_eq_true (by kernel_rfl)) k2 bel lt2) (trodAll_mk0))), rfl, bel.frame _, fun h => by cases h⟩

theorem over : Rows.checkChangedRow.holds Try.pinned (OpenSpec.ofChange Rows.checkChangedSpec) :=
  OpenClaim.holds_of_wide 6 Try.f6 rfl rfl rfl rfl rfl rfl rfl ⟨rfl, rfl, rfl, rfl, rfl⟩ rfl rfl rfl rfl rfl (by kernel_rfl) Try.func6 (by kernel_rfl)
    (of_decide_eq_true (by kernel_rfl)) (by unfold Func.isWrapper; first | (rw [if_pos (by decide +kernel)]; kernel_rfl) | (rw [if_neg (by decide +kernel)]; exact ⟨rfl, rfl⟩))
    (fun os started H enc _ => lifted os started H enc)

theorem proved : Rows.CheckChangedSaid := over
end Go.Proofs.Ytpopocfkeiplbaa.checkChanged
