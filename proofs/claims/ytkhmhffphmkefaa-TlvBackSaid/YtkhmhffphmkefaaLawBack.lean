/- What was written is read again, and what stands behind it is left: for every letter, number and text, every list of texts and every text behind, the law TlvBack returns true, and its arguments read afterwards as they read before. No condition. -/
import Derived.Test.YtkhmhffphmkefaaPlain
import Derived.Test.YtkhmhffphmkefaaLawX
import Derived.Test.YtkhmhffphmkefaaTlvC
import Derived.Outline
import Derived.RegionTactic
import Derived.ChangeAlike
import Derived.BigRegion
import Derived.BigQuiet
import Derived.Deep.QuietTactic
import Derived.Deep.RegionWith
import Derived.Deep.RegionLaw
import Derived.Deep.AppendLies
import Derived.Deep.Draws
import Derived.Lib.Hide
import Derived.Deep.LoopGhost
import Derived.Deep.RegionHeld3
import Derived.StillTactics
import Derived.OwnWalk
namespace Go.Proofs.Ytkhmhffphmkefaa.tlvBack
open Go.RowKit
section
attribute [local go_sem] app_list
set_option maxHeartbeats 4000000 in
set_option maxRecDepth 100000 in
theorem walk (c : UInt8) (m : Nat) (l : List UInt8) (a : Option Addr) (n cap : Nat) (ls : List (List UInt8)) (s : List UInt8) (W : World) (hm : m < 18446744073709551616) (_hl : l.length ≤ maxLen) (_hnc : n ≤ cap) (_hcm : cap ≤ maxLen) (hs : StrsAt W W.heap.size a n ls) (_hsl : s.length ≤ maxLen) :
    Calls Try.prog 5 #[.agg #[.int .u8 c.toNat, .int .u64 m, .string ⟨l.toArray⟩], .slice a n cap, .string ⟨s.toArray⟩] W fun e w' => e = .returned (.bool true) ∧ Below W.heap.size W w' := by
  have Hm := Lib.hid hm
  clear _hcm _hnc _hl _hsl hm
  go_enter Try.func5, Try.ntmps5
  go_wp2_with fail
  have fb := Fb.new W c m l
  have h0 : Below W.heap.size W (W.alloc (.cells #[.int .u8 c.toNat, .int .u64 m, .string ⟨l.toArray⟩] 24)) := (Below.refl _ _).alloc (Nat.le_refl _) _
  generalize (W.alloc (.cells #[.int .u8 c.toNat, .int .u64 m, .string ⟨l.toArray⟩] 24)) = w0 at *
  refine (awake_any _).mono ?_
  rintro e w1 ⟨rfl, h1⟩
  have fb1 := fb.below h1
  have k0 := fb1.c0
  have k1 := fb1.c1
  have k2 := fb1.c2
  go_wp2_with fail
  refine (short_any l 100 _ (by omega)).mono ?_
  rintro e w2 ⟨rfl, rfl⟩
  have ht100 : (l.take 100).length ≤ 100 := List.length_take_le _ _
  generalize htx : l.take (100 : Int).toNat = tx
  rw [show (100 : Int).toNat = 100 from rfl] at htx
  rw [htx] at ht100
  clear htx
  go_wp2_with fail
  have c1 := h0.trans (h1.mono h0.size)
  refine (few_any a n cap ls _ (hs.below c1 c1.size)).mono ?_
  rintro e w3 ⟨⟨A, mm, cp, rfl, hmc, hmm⟩, h3⟩
  have hf := flds_few c ls
  have hmem : ∀ l ∈ fewL ls, l.length < 16777216 ∧ (l.length : Int) ≤ 30 := fun l hl => by have := fewL_mem hl; omega
  have hm8 := fewL_len ls
  have Hmem := Lib.hid hmem
  clear hmem
  generalize hq : fewL ls = q at *
  clear hq
  have hm9 : mm ≤ 8 := by rw [← hmm.1]; exact hm8
  go_wp2_with fail
  refine (short_any s 50 _ (by omega)).mono ?_
  rintro e w4 ⟨rfl, rfl⟩
  have hr50 : (s.take 50).length ≤ 50 := List.length_take_le _ _
  generalize hrx : s.take (50 : Int).toNat = rest
  rw [show (50 : Int).toNat = 50 from rfl] at hrx
  rw [hrx] at hr50
  clear hrx
  go_wp2_with fail
  have fb3 := fb1.below h3
  have j0 := fb3.c0
  have j1 := fb3.c1
  have hdl := digs_len m
  have q1 : ¬ (9223372036854775807 < (fld c (digs m)).length + (fld c tx).length) := by rw [fld_len, fld_len]; omega
  have q2 : ¬ (9223372036854775807 < (fld c (digs m)).length + (fld c tx).length + (fld c (flds c q)).length) := by rw [fld_len, fld_len, fld_len]; omega
  have q3 : ¬ (9223372036854775807 < (fld c (digs m)).length + ((fld c tx).length + (fld c (flds c q)).length) + rest.length) := by rw [fld_len, fld_len, fld_len]; omega
  have Hf := Lib.hid hf
  have Hx := Lib.hid ht100
  clear hf ht100
  go_region_held3 (fun w' => w'.cell? ⟨W.heap.size, 0, none⟩ = some (.int .u8 c.toNat) ∧ w'.cell? ⟨W.heap.size, 1, none⟩ = some (.int .u64 m))
    (first | go_keep | exact ⟨a0, a1⟩ | exact ⟨b0, b1⟩ | exact ⟨d0, d1⟩ | exact ⟨e0, e1⟩)
    (first
      | (go_at_call 14; refine (Num_any c m _ Hm.out).mono ?_; rintro e w5 ⟨rfl, h5'⟩; have h5 := below_undrew h5'; have fb5 := fb3.below h5; have a0 := fb5.c0; have a1 := fb5.c1)
      | (go_at_call 18; refine (Text_any c tx _ (by have := Hx.out; omega)).mono ?_; rintro e w6 ⟨rfl, h6⟩; have fb6 := fb5.below h6; have b0 := fb6.c0; have b1 := fb6.c1)
      | (go_at_call 20; refine (All_any c A mm cp q _ ((hmm.below h5 h5.size).below h6 h6.size) (by omega) (by have := Hf.out; omega)).mono ?_; rintro e w7 ⟨rfl, h7⟩; have fb7 := fb6.below h7; have d0 := fb7.c0; have d1 := fb7.c1)
      | (go_at_call 22; refine (Read_any _ _).mono ?_; rintro e w8 ⟨b, rfl, hb, hr8, h8⟩; have fb8 := fb7.below h8; have e0 := fb8.c0; have e1 := fb8.c1))
  go_wp2_with fail
  refine (rdNum_any c _ _ _ hr8).mono ?_
  rw [show rdNum c ((some (fld c (digs m) ++ (fld c tx ++ (fld c (flds c q) ++ rest)))).getD []) = (m, some (fld c tx ++ (fld c (flds c q) ++ rest))) from rdNum_fld c m _ Hm.out]
  rintro e w9 ⟨rfl, hr9, h9⟩
  have fb9 := fb8.fr h9 (by have := fb7.lt; simp; omega)
  have z9 := fb9.c0
  go_wp2_with fail
  refine (rdTxt_any c 100 _ _ _ hr9).mono ?_
  rw [show rdTxt c 100 ((some (fld c tx ++ (fld c (flds c q) ++ rest))).getD []) = (tx, some (fld c (flds c q) ++ rest)) from rdTxt_fld c 100 tx _ (by have := Hx.out; omega) (by have := Hx.out; omega)]
  rintro e w10 ⟨rfl, hr10, h10⟩
  have fb10 := fb9.fr h10 (by have := fb7.lt; simp; omega)
  have z10 := fb10.c0
  go_wp2_with fail
  refine (rdAll_any c 8 30 _ _ _ hr10 (by have := Hf.out; simp [fld_len]; omega)).mono ?_
  rw [show rdAll c 8 30 ((some (fld c (flds c q) ++ rest)).getD []) = (q, some rest) from rdAll_fld c 8 30 q _ (by omega) Hmem.out (by have := Hf.out; omega)]
  rintro e w11 ⟨⟨A3, m3, cp3, rfl, hcp3, hz⟩, hr11, h11⟩
  have fb11 := fb10.fr h11 (by have := fb7.lt; simp; omega)
  have z11 := fb11.c1
  have g5 := h5
  have g6 := g5.trans (h6.mono g5.size)
  have g7 := g6.trans (h7.mono g6.size)
  have g8 := g7.trans (h8.mono g7.size)
  have g9 := g8.trans (h9.below (B := w3.heap.size) g8.size (by have := g7.size; simp; omega))
  have g10 := g9.trans (h10.below (B := w3.heap.size) g9.size (by have := g7.size; simp; omega))
  have g11 := g10.trans (h11.below (B := w3.heap.size) g10.size (by have := g7.size; simp; omega))
  have hm11 := hmm.below g11 g11.size
  have n3 : (m3 : Int) ≤ 140737488351232 := by have : q.length = m3 := hz.1; omega
  have N3 := Lib.hid n3
  clear n3
  go_wp2_with fail
  refine (Same_any _ _ _ _ _ _ q q _ hz hm11 N3.out).mono ?_
  rw [show decide (q = q) = true from by simp]
  rintro e w12 ⟨rfl, h12⟩
  have fb12 := fb11.below h12
  have z12 := fb12.c1
  have hr12 := hr11.below h12
  go_wp2_with fail
  refine (Left_any _ _ _ hr12).mono ?_
  rw [show ((some rest).getD []).length = rest.length from rfl]
  rintro e w13 ⟨rfl, rfl⟩
  go_wp2_with fail
  refine (Good_any _ _ _ hr12).mono ?_
  rw [show (some rest).isSome = true from rfl]
  rintro e w13 ⟨rfl, rfl⟩
  have c3 := c1.trans (h3.mono c1.size)
  have c11 := c3.trans (g11.mono c3.size)
  have c12 := c11.trans (h12.mono c11.size)
  have HE := Lib.hid (End_any _ _ _ hr12)
  cases rest with
  | nil =>
    go_wp2_with fail
    refine HE.out.mono ?_
    rw [show endOf (some []) = 0 from rfl]
    rintro e w14 ⟨rfl, rfl⟩
    go_wp2
    go_ret
    exact ⟨rfl, c12⟩
  | cons x r =>
    go_wp2_with fail
    refine HE.out.mono ?_
    rw [show endOf (some (x :: r)) = 10 from by simp [endOf]]
    rintro e w14 ⟨rfl, rfl⟩
    go_wp2
    go_ret
    exact ⟨rfl, c12⟩
end
open Go.ChangeShapes Go.WideShapes Go.ChangeAt
set_option maxRecDepth 100000 in
theorem lifted (os : Os) (started : os.Started) (H : Type) (enc : TypeId × Value → H) :
    ReturnsInHanded {} Try.checked os 5 .any (Rows.tlvBackSpec.pre6 enc Try.prog Try.f5 Rows.tlvBackRow.domain false) (Rows.tlvBackSpec.post enc Try.prog Try.f5 false true false false) := by
  refine returnsInHanded_of_change (C := Try.checked) own started (by kernel_rfl) Try.func5
    (ChangeSpec.witness6 (enc := enc) (C := Try.checked) false ⟨#[], #[.agg #[.int .u8 0, .int .u64 0, .string ⟨#[]⟩], .slice none 0 0, .string ⟨#[]⟩], []⟩ 8 (by kernel_rfl) (by kernel_rfl) (by kernel_rfl) (by kernel_rfl)) ?_
  intro W base args ds gs before hval0 hW hcnd _
  have hval : ∀ (j : Nat) t v, Try.f5.params[j]? = some t → args[j]? = some v → Value.okWide Try.prog W .any base t v := hval0
  have hW' := hW
  obtain ⟨p, q, hA0, hV, rfl, hfz, hnd⟩ := hW
  have hA : DataW.TrodAll enc Try.prog W 0 (fun _ => true) true Try.f5.params.toList args.toList ds p := hA0
  rw [Try.params5] at hA hval
  obtain ⟨v0, vs0, d0, ds0, p0, q0, hargs, rfl, rfl, h0, r0⟩ := trodAll_cons hA
  obtain ⟨v1, vs1, d1, ds1, p1, q1, rfl, rfl, rfl, h1, r1⟩ := trodAll_cons r0
  obtain ⟨v2, vs2, d2, ds2, p2, q2, rfl, rfl, rfl, h2, r2⟩ := trodAll_cons r1
  obtain ⟨rfl, rfl, rfl⟩ := trodAll_nil r2
  obtain rfl : args = #[v0, v1, v2] := by cases args; simp_all
  obtain ⟨rfl, rfl⟩ := trodVars_none hV
  have k0 := h0
  have lt0 : ∀ x ∈ p0, x.block < W.heap.size := by obtain ⟨m, hm⟩ := k0; exact DataW.trod_lt m _ _ _ hm
  have k1 := h1
  have lt1 : ∀ x ∈ p1, x.block < W.heap.size := by obtain ⟨m, hm⟩ := k1; exact DataW.trod_lt m _ _ _ hm
  have k2 := h2
  have lt2 : ∀ x ∈ p2, x.block < W.heap.size := by obtain ⟨m, hm⟩ := k2; exact DataW.trod_lt m _ _ _ hm
  obtain ⟨cx0, mx0, lx0, rfl, hmx0, hlx0⟩ := op_field (hval 0 24 v0 rfl rfl) h0
  obtain ⟨ax1, nx1, kx1, lsx1, rfl, hncx1, hcmx1, hsx1⟩ := op_strs (hval 1 25 v1 rfl rfl) h1
  obtain ⟨lx2, rfl, hlx2⟩ := op_str (hval 2 9 v2 rfl rfl) h2
  clear hA0 hval0
  refine (walk cx0 mx0 lx0 ax1 nx1 kx1 lsx1 lx2 W hmx0 hlx0 hncx1 hcmx1 hsx1 hlx2).mono fun e W' ⟨he, bel⟩ => ?_
  subst he
  exact ⟨_, rfl, _, _, _, [], _, [], hW', trodAll_mk1 (shut_bool Try.underlying4 _), trodAll_cons_mk (Below.trod laidOut (by kernel_rfl) (of_decide_eq_true (by kernel_rfl)) k0 bel lt0) (trodAll_cons_mk (Below.trod laidOut (by kernel_rfl) (of_decide_eq_true (by kernel_rfl)) k1 bel lt1) (trodAll_cons_mk (Below.trod laidOut (by kernel_rfl) (of_decide_eq_true (by kernel_rfl)) k2 bel lt2) (trodAll_mk0))), rfl, bel.frame _, fun h => by cases h⟩

theorem over : Rows.tlvBackRow.holds Try.pinned (OpenSpec.ofChange Rows.tlvBackSpec) :=
  OpenClaim.holds_of_wide 5 Try.f5 rfl rfl rfl rfl rfl rfl rfl ⟨rfl, rfl, rfl, rfl, rfl⟩ rfl rfl rfl rfl rfl (by kernel_rfl) Try.func5 (by kernel_rfl)
    (of_decide_eq_true (by kernel_rfl)) (by unfold Func.isWrapper; first | (rw [if_pos (by decide +kernel)]; kernel_rfl) | (rw [if_neg (by decide +kernel)]; exact ⟨rfl, rfl⟩))
    (fun os started H enc _ => lifted os started H enc)

theorem proved : Rows.TlvBackSaid := over
end Go.Proofs.Ytkhmhffphmkefaa.tlvBack
