/- Cut short anywhere, or of another letter, a field is not read, and a bad reader tells nothing more: for every letter and text, any place and any other letter the law TlvCuts returns true, and its arguments read afterwards as they read before. No condition. -/
import Derived.Test.YtkhmhffphmkefaaPlain
import Derived.Test.YtkhmhffphmkefaaLawX
import Derived.Test.YtkhmhffphmkefaaTlvC
import Derived.Outline
import Derived.RegionTactic
import Derived.ChangeAlike
import Derived.BigRegion
import Derived.BigQuiet
import Derived.Deep.QuietTactic
import Derived.Deep.RegionWith
import Derived.Deep.RegionLaw
import Derived.Deep.AppendLies
import Derived.Deep.Draws
import Derived.Lib.Hide
import Derived.Deep.LoopGhost
import Derived.Deep.RegionHeld3
import Derived.StillTactics
import Derived.OwnWalk
namespace Go.Proofs.Ytkhmhffphmkefaa.tlvCuts
open Go.RowKit
theorem tkF_cut (c : UInt8) (l : List UInt8) (k : Nat) (hl : l.length < 16777216) (hk : k < (fld c l).length) : tkF c ((fld c l).take k) = none := by
  rw [fld_len] at hk
  match k with
  | 0 => simp [tkF]
  | 1 => simp [fld, tkF]
  | 2 => simp [fld, tkF]
  | 3 => simp [fld, tkF]
  | k + 4 =>
    have e : (UInt8.ofNat (l.length / 65536)).toNat * 65536 + (UInt8.ofNat (l.length / 256 % 256)).toNat * 256 + (UInt8.ofNat (l.length % 256)).toNat = l.length := by
      rw [ofNat_lt (by omega), ofNat_lt (by omega), ofNat_lt (by omega)]; omega
    simp only [fld, List.take_succ_cons, tkF, e]
    rw [if_neg (by simp; omega)]
section
attribute [local go_sem] ext_list
set_option maxHeartbeats 8000000 in
set_option maxRecDepth 100000 in
theorem walk (c : UInt8) (m : Nat) (l : List UInt8) (p : Int) (o : UInt8) (W : World) (_hm : m < 18446744073709551616) (_hl : l.length ≤ maxLen) (hlo : -9223372036854775808 ≤ p) (hhi : p < 9223372036854775808) :
    Calls Try.prog 7 #[.agg #[.int .u8 c.toNat, .int .u64 m, .string ⟨l.toArray⟩], .int .i64 p, .int .u8 o.toNat] W fun e w' => e = .returned (.bool true) ∧ Below W.heap.size W w' := by
  have Hlo := Lib.hid hlo
  have Hhi := Lib.hid hhi
  clear _hl _hm hlo hhi
  go_enter Try.func7, Try.ntmps7
  go_wp2_with fail
  have fb := Fb.new W c m l
  have h0 : Below W.heap.size W (W.alloc (.cells #[.int .u8 c.toNat, .int .u64 m, .string ⟨l.toArray⟩] 24)) := (Below.refl _ _).alloc (Nat.le_refl _) _
  generalize (W.alloc (.cells #[.int .u8 c.toNat, .int .u64 m, .string ⟨l.toArray⟩] 24)) = w0 at *
  refine (awake_any _).mono ?_
  rintro e w1 ⟨rfl, h1⟩
  have fb1 := fb.below h1
  have k0 := fb1.c0
  have k2 := fb1.c2
  have hx : (l.take 60).length ≤ 60 := List.length_take_le _ _
  generalize htx : l.take 60 = tx at *
  have htx2 : l.take (60 : Int).toNat = tx := htx
  have Htx := Lib.hid htx2
  clear htx htx2
  have Hx := Lib.hid hx
  clear hx
  have S60 := Lib.hid (fun w => short_any l 60 w (by omega))
  go_wp2_with fail
  go_region_held3 (fun w' => w'.cell? ⟨W.heap.size, 0, none⟩ = some (.int .u8 c.toNat) ∧ w'.cell? ⟨W.heap.size, 2, none⟩ = some (.string ⟨l.toArray⟩))
    (first | go_keep | exact ⟨a0, a2⟩ | exact ⟨b0, b2⟩)
    (first
      | (go_at_call 12; refine (S60.out _).mono ?_; rw [Htx.out]; rintro e w2 ⟨rfl, h2⟩; subst h2; have a0 := fb1.c0; have a2 := fb1.c2)
      | (go_at_call 18; refine (Text_any c tx _ (by have := Hx.out; omega)).mono ?_; rintro e w3 ⟨rfl, h3'⟩; have h3 := below_undrew h3'; have fb3 := fb1.below h3; have b0 := fb3.c0; have b2 := fb3.c2))
  have hT : (fld c tx).length = tx.length + 4 := fld_len _ _
  have HT := Lib.hid hT
  have hpos : (((fld c tx).length : Int) == 0) = false := by rw [hT]; simp; omega
  have htm : ∃ K : Nat, K < (fld c tx).length ∧ (p.tmod ((fld c tx).length : Int) = (K : Int) ∨ (p.tmod ((fld c tx).length : Int) = -(K : Int) ∧ 0 < K)) := by
    have hL : (0 : Int) < ((fld c tx).length : Int) := by rw [hT]; omega
    have h1 := Int.tmod_lt_of_pos p hL
    have h2 := Int.lt_tmod_of_pos p hL
    rcases Int.lt_or_le (p.tmod ((fld c tx).length : Int)) 0 with h | h
    · exact ⟨(-(p.tmod ((fld c tx).length : Int))).toNat, by omega, .inr ⟨by omega, by omega⟩⟩
    · exact ⟨(p.tmod ((fld c tx).length : Int)).toNat, by omega, .inl (by omega)⟩
  obtain ⟨K, hK, hcase⟩ := htm
  have hcut := tkF_cut c tx K (by have := Hx.out; omega) hK
  have hKle : (K : Int) ≤ ((fld c tx).length : Int) := by omega
  have e1 : rdTxt c 100 ((some ((fld c tx).take K)).getD []) = ([], none) := by simp [rdTxt, hcut]
  have E1 := Lib.hid e1
  have hK64 : (K : Int) ≤ 64 := by have := Hx.out; omega
  clear hT hK hcut e1
  rcases hcase with hk | ⟨hk, hKp⟩
  all_goals
    go_wp2_with fail
    refine (Read_any ((fld c tx).take K) _).mono ?_
    rintro e w4 ⟨b, rfl, hb, hr4, h4⟩
    go_wp2_with fail
    refine (Read_any (fld c tx) _).mono ?_
    rintro e w5 ⟨b2, rfl, hb2, hr5, h5⟩
    have hbb : b2 ≠ b := by have := hr4.lt; omega
    have hgb : W.heap.size ≠ b := by have := fb3.lt; omega
    have hgb2 : W.heap.size ≠ b2 := by have := fb3.lt; have := h4.size; omega
    have fb5 := (fb3.below h4).below h5
    have z5 := fb5.c0
    go_wp2_with fail
    refine (rdTxt_any c 100 _ _ _ (hr4.below h5)).mono ?_
    rw [E1.out]
    rintro e w6 ⟨rfl, hr6, h6⟩
    have fb6 := fb5.fr h6 (by simpa using hgb)
    have z6 := fb6.c0
    have q6 := hr5.fr h6 (by simpa using hbb)
    have N6 := Lib.hid (Next_any _ _ _ hr6)
    have G6 := Lib.hid (Good_any _ _ _ hr6)
    go_wp2_with (first | (go_at_call 23; refine N6.out.mono ?_; rintro e w7 ⟨rfl, h7⟩; subst h7) | (go_at_call 34; refine G6.out.mono ?_; rintro e w7 ⟨rfl, h7⟩; subst h7))
    refine (rdNum_any c none _ _ hr6).mono ?_
    rw [show rdNum c ((none : Option (List UInt8)).getD []) = (0, none) from rfl]
    rintro e w7 ⟨rfl, hr7, h7⟩
    have fb7 := fb6.fr h7 (by simpa using hgb)
    have z7 := fb7.c0
    have q7 := q6.fr h7 (by simpa using hbb)
    go_wp2_with fail
    refine (rdTxt_any c 9 none _ _ hr7).mono ?_
    rw [show rdTxt c 9 ((none : Option (List UInt8)).getD []) = ([], none) from rfl]
    rintro e w8 ⟨rfl, hr8, h8⟩
    have fb8 := fb7.fr h8 (by simpa using hgb)
    have z8 := fb8.c0
    have q8 := q7.fr h8 (by simpa using hbb)
    go_wp2_with fail
    refine (rdAll_any c 9 9 none _ _ hr8 (by simp)).mono ?_
    rw [show rdAll c 9 9 ((none : Option (List UInt8)).getD []) = ([], none) from rfl]
    rintro e w9 ⟨⟨A, nn, cp, rfl, hcp, hz⟩, hr9, h9⟩
    obtain rfl : nn = 0 := hz.1.symm
    have fb9 := fb8.fr h9 (by simpa using hgb)
    have z9 := fb9.c0
    have q9 := q8.fr h9 (by simpa using hbb)
    have L9 := Lib.hid (Left_any _ _ _ hr9)
    have D9 := Lib.hid (End_any _ _ _ hr9)
    go_wp2_with (first | (go_at_call 35; refine L9.out.mono ?_; rintro e w10 ⟨rfl, h10⟩; subst h10) | (go_at_call 37; refine D9.out.mono ?_; rw [show endOf none = 10 from rfl]; rintro e w10 ⟨rfl, h10⟩; subst h10))
    have c3 := (h0.trans (h1.mono h0.size)).trans (h3.mono (h0.trans (h1.mono h0.size)).size)
    have c4 := c3.trans (h4.mono c3.size)
    have c5 := c4.trans (h5.mono c4.size)
    have hWb : W.heap.size ≤ b := by have := c3.size; omega
    have hWb2 : W.heap.size ≤ b2 := by have := c4.size; omega
    have c6 := c5.trans (h6.below (B := W.heap.size) c5.size (by simpa using hWb))
    have c7 := c6.trans (h7.below (B := W.heap.size) c6.size (by simpa using hWb))
    have c8 := c7.trans (h8.below (B := W.heap.size) c7.size (by simpa using hWb))
    have c9 := c8.trans (h9.below (B := W.heap.size) c8.size (by simpa using hWb))
    by_cases hoc : o = c
    · subst hoc
      have ho : ((o.toNat : Int) == (o.toNat : Int)) = true := by simp
      refine (rdTxt_any o 100 _ _ _ q9).mono ?_
      rw [show rdTxt o 100 ((some (fld o tx)).getD []) = (tx, some []) from by have := rdTxt_fld o 100 tx [] (by have := Hx.out; omega) (by have := Hx.out; omega); rw [List.append_nil] at this; exact this]
      rintro e w11 ⟨rfl, hr11, h11⟩
      have fb11 := fb9.fr h11 (by simpa using hgb2)
      have z11 := fb11.c0
      have G11 := Lib.hid (show ∀ w' : World, w'.heap[b2]? = w11.heap[b2]? → Calls Try.prog 34 #[.pointer (some ⟨b2, 0, none⟩)] w' (fun e w'' => e = .returned (.bool true) ∧ w' = w'') from fun w' h => Good_any _ _ w' (hr11.keep h))
      go_wp2_with fail
      go_quiet ((go_at_call 34; exact Calls.quiet_of_same ((G11.out _ (by exact rfl)).mono fun _ _ h => ⟨h.1, h.2.symm⟩)))
      go_wp2
      go_ret
      exact ⟨rfl, below_drewN (c9.trans (h11.below (B := W.heap.size) c9.size (by simpa using hWb2))) _⟩
    · have htk : tkF o (fld c tx) = none := by simp [fld, tkF]; intro h; exact absurd h.symm hoc
      refine (rdTxt_any o 100 _ _ _ q9).mono ?_
      rw [show rdTxt o 100 ((some (fld c tx)).getD []) = ([], none) from by simp [rdTxt, htk]]
      rintro e w11 ⟨rfl, hr11, h11⟩
      have fb11 := fb9.fr h11 (by simpa using hgb2)
      have z11 := fb11.c0
      have G11 := Lib.hid (show ∀ w' : World, w'.heap[b2]? = w11.heap[b2]? → Calls Try.prog 34 #[.pointer (some ⟨b2, 0, none⟩)] w' (fun e w'' => e = .returned (.bool false) ∧ w' = w'') from fun w' h => Good_any _ _ w' (hr11.keep h))
      have ho : ((o.toNat : Int) == (c.toNat : Int)) = false := by
        have : o.toNat ≠ c.toNat := fun e => hoc (UInt8.toNat_inj.1 e)
        simp; omega
      clear hoc htk
      go_wp2_with fail
      go_region_held3 (fun w' => w'.cell? ⟨W.heap.size, 0, none⟩ = some (.int .u8 c.toNat))
        (first | go_keep | exact z11)
        (first
          | (go_at_call 34; refine (G11.out _ (by exact rfl)).mono ?_; rintro e w12 ⟨rfl, h12⟩; subst h12))
      go_wp2
      go_ret
      exact ⟨rfl, (c9.trans (h11.below (B := W.heap.size) c9.size (by simpa using hWb2))).drew⟩
end
open Go.ChangeShapes Go.WideShapes Go.ChangeAt
set_option maxRecDepth 100000 in
theorem lifted (os : Os) (started : os.Started) (H : Type) (enc : TypeId × Value → H) :
    ReturnsInHanded {} Try.checked os 7 .any (Rows.tlvCutsSpec.pre6 enc Try.prog Try.f7 Rows.tlvCutsRow.domain false) (Rows.tlvCutsSpec.post enc Try.prog Try.f7 false true false false) := by
  refine returnsInHanded_of_change (C := Try.checked) own started (by kernel_rfl) Try.func7
    (ChangeSpec.witness6 (enc := enc) (C := Try.checked) false ⟨#[], #[.agg #[.int .u8 0, .int .u64 0, .string ⟨#[]⟩], .int .i64 0, .int .u8 0], []⟩ 8 (by kernel_rfl) (by kernel_rfl) (by kernel_rfl) (by kernel_rfl)) ?_
  intro W base args ds gs before hval0 hW hcnd _
  have hval : ∀ (j : Nat) t v, Try.f7.params[j]? = some t → args[j]? = some v → Value.okWide Try.prog W .any base t v := hval0
  have hW' := hW
  obtain ⟨p, q, hA0, hV, rfl, hfz, hnd⟩ := hW
  have hA : DataW.TrodAll enc Try.prog W 0 (fun _ => true) true Try.f7.params.toList args.toList ds p := hA0
  rw [Try.params7] at hA hval
  obtain ⟨v0, vs0, d0, ds0, p0, q0, hargs, rfl, rfl, h0, r0⟩ := trodAll_cons hA
  obtain ⟨v1, vs1, d1, ds1, p1, q1, rfl, rfl, rfl, h1, r1⟩ := trodAll_cons r0
  obtain ⟨v2, vs2, d2, ds2, p2, q2, rfl, rfl, rfl, h2, r2⟩ := trodAll_cons r1
  obtain ⟨rfl, rfl, rfl⟩ := trodAll_nil r2
  obtain rfl : args = #[v0, v1, v2] := by cases args; simp_all
  obtain ⟨rfl, rfl⟩ := trodVars_none hV
  have k0 := h0
  have lt0 : ∀ x ∈ p0, x.block < W.heap.size := by obtain ⟨m, hm⟩ := k0; exact DataW.trod_lt m _ _ _ hm
  have k1 := h1
  have lt1 : ∀ x ∈ p1, x.block < W.heap.size := by obtain ⟨m, hm⟩ := k1; exact DataW.trod_lt m _ _ _ hm
  have k2 := h2
  have lt2 : ∀ x ∈ p2, x.block < W.heap.size := by obtain ⟨m, hm⟩ := k2; exact DataW.trod_lt m _ _ _ hm
  obtain ⟨cx0, mx0, lx0, rfl, hmx0, hlx0⟩ := op_field (hval 0 24 v0 rfl rfl) h0
  obtain ⟨nx1, rfl, lox1, hix1⟩ := op_int (hval 1 3 v1 rfl rfl) h1
  obtain ⟨cx2, rfl⟩ := op_u8 (hval 2 5 v2 rfl rfl) h2
  clear hA0 hval0
  refine (walk cx0 mx0 lx0 nx1 cx2 W hmx0 hlx0 lox1 hix1).mono fun e W' ⟨he, bel⟩ => ?_
  subst he
  exact ⟨_, rfl, _, _, _, [], _, [], hW', trodAll_mk1 (shut_bool Try.underlying4 _), trodAll_cons_mk (Below.trod laidOut (by kernel_rfl) (of_decide_eq_true (by kernel_rfl)) k0 bel lt0) (trodAll_cons_mk (Below.trod laidOut (by kernel_rfl) (of_decide_eq_true (by kernel_rfl)) k1 bel lt1) (trodAll_cons_mk (Below.trod laidOut (by kernel_rfl) (of_decide_eq_true (by kernel_rfl)) k2 bel lt2) (trodAll_mk0))), rfl, bel.frame _, fun h => by cases h⟩

theorem over : Rows.tlvCutsRow.holds Try.pinned (OpenSpec.ofChange Rows.tlvCutsSpec) :=
  OpenClaim.holds_of_wide 7 Try.f7 rfl rfl rfl rfl rfl rfl rfl ⟨rfl, rfl, rfl, rfl, rfl⟩ rfl rfl rfl rfl rfl (by kernel_rfl) Try.func7 (by kernel_rfl)
    (of_decide_eq_true (by kernel_rfl)) (by unfold Func.isWrapper; first | (rw [if_pos (by decide +kernel)]; kernel_rfl) | (rw [if_neg (by decide +kernel)]; exact ⟨rfl, rfl⟩))
    (fun os started H enc _ => lifted os started H enc)

theorem proved : Rows.TlvCutsSaid := over
end Go.Proofs.Ytkhmhffphmkefaa.tlvCuts
