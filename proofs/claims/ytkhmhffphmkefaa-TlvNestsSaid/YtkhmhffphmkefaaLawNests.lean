/- Fields in fields come as they were, three deep, and what is left goes down by each: for every list of texts the law TlvNests returns true, and its argument reads afterwards as it read before. No condition. -/
import Derived.Test.YtkhmhffphmkefaaPlain
import Derived.Test.YtkhmhffphmkefaaTlvC
import Derived.Outline
import Derived.RegionTactic
import Derived.ChangeAlike
import Derived.BigRegion
import Derived.BigQuiet
import Derived.Deep.QuietTactic
import Derived.Deep.RegionWith
import Derived.Deep.RegionLaw
import Derived.Deep.AppendLies
import Derived.Deep.Draws
import Derived.Lib.Hide
import Derived.Deep.LoopGhost
import Derived.Deep.RegionHeld3
import Derived.StillTactics
import Derived.OwnWalk
namespace Go.Proofs.Ytkhmhffphmkefaa.tlvNests
open Go.RowKit
theorem strsAt2 (w : World) (s : List UInt8) (o : World) (ho : o = w.alloc (.cells #[.string ⟨s.toArray⟩, .string ⟨s.toArray⟩] 9)) : StrsAt o o.heap.size (some ⟨w.heap.size, 0, none⟩) 2 [s, s] := by
  subst ho
  refine ⟨rfl, fun _ => ⟨_, _, rfl, by simp, fun k l hk => ?_⟩⟩
  match k, hk with
  | 0, hk => simp at hk; subst hk; simp
  | 1, hk => simp at hk; subst hk; simp
section
attribute [local go_sem] app_list
set_option maxHeartbeats 1000000 in
set_option maxRecDepth 100000 in
theorem walk (a : Option Addr) (n cap : Nat) (ls : List (List UInt8)) (W : World) (hnc : n ≤ cap) (hcm : cap ≤ maxLen) (hs : StrsAt W W.heap.size a n ls) : Calls Try.prog 9 #[.slice a n cap] W fun e w' => e = .returned (.bool true) ∧ Below W.heap.size W w' := by
  clear hcm hnc
  go_enter Try.func9, Try.ntmps9
  go_wp2_with fail
  refine (awake_any _).mono ?_
  rintro e w1 ⟨rfl, h1⟩
  go_wp2_with fail
  refine (few_any a n cap ls _ (hs.below h1 h1.size)).mono ?_
  rintro e w2 ⟨⟨A, m, cp, rfl, hmc, hm⟩, h2⟩
  have hf := flds_few 97 ls
  have hmem : ∀ l ∈ fewL ls, l.length < 16777216 ∧ (l.length : Int) ≤ 30 := fun l hl => by have := fewL_mem hl; omega
  have hm8 := fewL_len ls
  have Hmem := Lib.hid hmem
  clear hmem
  generalize hq : fewL ls = q at *
  clear hq
  have hm9 : m ≤ 8 := by rw [← hm.1]; exact hm8
  have Hf := Lib.hid hf
  clear hf
  go_wp2_with fail
  refine (All_any 97 A m cp q _ hm (by omega) (by have := Hf.out; omega)).mono ?_
  rintro e w3 ⟨rfl, h3⟩
  have hSl : (fld 97 (flds 97 q)).length ≤ 276 := by have := Hf.out; rw [fld_len]; omega
  generalize hS : fld 97 (flds 97 q) = S at *
  have HS := Lib.hid hS
  have HSl := Lib.hid hSl
  clear hS hSl
  go_wp2_with fail
  have hs2 := strsAt2 w3 S _ rfl
  have hb4 : Below w3.heap.size w3 (w3.alloc (.cells #[.string ⟨S.toArray⟩, .string ⟨S.toArray⟩] 9)) := (Below.refl _ _).alloc (Nat.le_refl _) _
  generalize (w3.alloc (.cells #[.string ⟨S.toArray⟩, .string ⟨S.toArray⟩] 9)) = w4 at *
  have hTl : (flds 98 [S, S]).length ≤ 560 := by have := HSl.out; simp [flds, fld_len]; omega
  have HTl := Lib.hid hTl
  clear hTl
  refine (All_any 98 (some ⟨w3.heap.size, 0, none⟩) 2 2 [S, S] _ hs2 (by omega) (by have := HTl.out; omega)).mono ?_
  rintro e w5 ⟨rfl, h5⟩
  have hTl : (fld 98 (flds 98 [S, S])).length ≤ 564 := by have := HTl.out; rw [fld_len]; omega
  generalize hT : fld 98 (flds 98 [S, S]) = T at *
  have HT := Lib.hid hT
  have HTl2 := Lib.hid hTl
  clear hT hTl
  go_wp2_with fail
  refine (Text_any 99 T _ (by have := HTl2.out; omega)).mono ?_
  rintro e w6 ⟨rfl, h6⟩
  have hUl : (fld 99 T).length ≤ 568 := by have := HTl2.out; rw [fld_len]; omega
  generalize hU : fld 99 T = U at *
  have HU := Lib.hid hU
  have HUl := Lib.hid hUl
  have hU1 : ¬ (9223372036854775807 < U.length + U.length) := by omega
  clear hU
  go_wp2_with fail
  refine (Read_any (U ++ U) _).mono ?_
  rintro e w7 ⟨b, rfl, hb, hr7, h7⟩
  go_wp2_with fail
  refine (Left_any _ _ _ hr7).mono ?_
  rw [show ((some (U ++ U)).getD []).length = 2 * U.length from by simp; omega]
  rintro e w8 ⟨rfl, rfl⟩
  go_wp2_with fail
  have e9 : rdTxt 99 100000 ((some (U ++ U)).getD []) = (T, some U) := by
    have := rdTxt_fld 99 100000 T U (by have := HTl2.out; omega) (by have := HTl2.out; omega)
    rw [HU.out] at this; exact this
  refine (rdTxt_any 99 100000 _ _ _ hr7).mono ?_
  rw [e9]
  clear e9
  rintro e w9 ⟨rfl, hr9, h9⟩
  go_wp2_with fail
  refine (Left_any _ _ _ hr9).mono ?_
  rw [show ((some U).getD []).length = U.length from rfl]
  rintro e w10 ⟨rfl, rfl⟩
  go_wp2_with fail
  refine (Read_any T _).mono ?_
  rintro e w11 ⟨b2, rfl, hb2, hr11, h11⟩
  go_wp2_with fail
  have e12 : rdAll 98 2 100000 ((some T).getD []) = ([S, S], some []) := by
    have := rdAll_fld 98 2 100000 [S, S] [] (by simp) (by have := HSl.out; simp; omega) (by have := HTl.out; omega)
    rw [HT.out, List.append_nil] at this; exact this
  refine (rdAll_any 98 2 100000 _ _ _ hr11 (by have := HTl2.out; simp; omega)).mono ?_
  rw [e12]
  clear e12
  rintro e w12 ⟨⟨A2, m2, cp2, rfl, hcp2, hy⟩, hr12, h12⟩
  obtain rfl : m2 = 2 := hy.1.symm
  obtain ⟨yb, yo, rfl, hyb, hyc⟩ := hy.2 (by omega)
  have y0 : w12.cell? ⟨yb, yo, none⟩ = some (.string ⟨S.toArray⟩) := hyc 0 S rfl
  have y1 : w12.cell? ⟨yb, yo + 1, none⟩ = some (.string ⟨S.toArray⟩) := hyc 1 S rfl
  clear hyc
  go_wp2_with fail
  refine (End_any _ _ _ hr12).mono ?_
  rw [show endOf (some []) = 0 from rfl]
  rintro e w13 ⟨rfl, rfl⟩
  go_wp2_with fail
  refine (Read_any S _).mono ?_
  rintro e w14 ⟨b3, rfl, hb3, hr14, h14⟩
  go_wp2_with fail
  have e15 : rdAll 97 8 30 ((some S).getD []) = (q, some []) := by
    have := rdAll_fld 97 8 30 q [] (by omega) Hmem.out (by have := Hf.out; omega)
    rw [HS.out, List.append_nil] at this; exact this
  refine (rdAll_any 97 8 30 _ _ _ hr14 (by have := HSl.out; simp; omega)).mono ?_
  rw [e15]
  clear e15
  rintro e w15 ⟨⟨A3, m3, cp3, rfl, hcp3, hz⟩, hr15, h15⟩
  have c4 := h3.trans (hb4.mono h3.size)
  have c5 := c4.trans (h5.mono c4.size)
  have c6 := c5.trans (h6.mono c5.size)
  have c7 := c6.trans (h7.mono c6.size)
  have c9 := c7.trans (h9.below (B := w2.heap.size) c7.size (by have := c6.size; simp; omega))
  have c11 := c9.trans (h11.mono c9.size)
  have c12 := c11.trans (h12.below (B := w2.heap.size) c11.size (by have := c9.size; simp; omega))
  have c14 := c12.trans (h14.mono c12.size)
  have c15 := c14.trans (h15.below (B := w2.heap.size) c14.size (by have := c12.size; simp; omega))
  have hm15 := hm.below c15 c15.size
  have n3 : (m3 : Int) ≤ 140737488351232 := by have : q.length = m3 := hz.1; omega
  have N3 := Lib.hid n3
  clear n3
  go_wp2_with fail
  refine (Same_any _ _ _ _ _ _ q q _ hz hm15 N3.out).mono ?_
  rw [show decide (q = q) = true from by simp]
  rintro e w16 ⟨rfl, h16⟩
  go_wp2_with fail
  refine (End_any _ _ _ (hr15.below h16)).mono ?_
  rw [show endOf (some []) = 0 from rfl]
  rintro e w17 ⟨rfl, rfl⟩
  go_wp2
  go_ret
  have d2 := h1.trans (h2.mono h1.size)
  exact ⟨rfl, d2.trans ((c15.trans (h16.mono c15.size)).mono d2.size)⟩
end
open Go.ChangeShapes Go.WideShapes Go.ChangeAt
set_option maxRecDepth 100000 in
theorem lifted (os : Os) (started : os.Started) (H : Type) (enc : TypeId × Value → H) :
    ReturnsInHanded {} Try.checked os 9 .any (Rows.tlvNestsSpec.pre6 enc Try.prog Try.f9 Rows.tlvNestsRow.domain false) (Rows.tlvNestsSpec.post enc Try.prog Try.f9 false true false false) := by
  refine returnsInHanded_of_change (C := Try.checked) own started (by kernel_rfl) Try.func9
    (ChangeSpec.witness6 (enc := enc) (C := Try.checked) false ⟨#[], #[.slice none 0 0], []⟩ 8 (by kernel_rfl) (by kernel_rfl) (by kernel_rfl) (by kernel_rfl)) ?_
  intro W base args ds gs before hval0 hW hcnd _
  have hval : ∀ (j : Nat) t v, Try.f9.params[j]? = some t → args[j]? = some v → Value.okWide Try.prog W .any base t v := hval0
  have hW' := hW
  obtain ⟨p, q, hA0, hV, rfl, hfz, hnd⟩ := hW
  have hA : DataW.TrodAll enc Try.prog W 0 (fun _ => true) true Try.f9.params.toList args.toList ds p := hA0
  rw [Try.params9] at hA hval
  obtain ⟨v0, vs0, d0, ds0, p0, q0, hargs, rfl, rfl, h0, r0⟩ := trodAll_cons hA
  obtain ⟨rfl, rfl, rfl⟩ := trodAll_nil r0
  obtain rfl : args = #[v0] := by cases args; simp_all
  obtain ⟨rfl, rfl⟩ := trodVars_none hV
  have k0 := h0
  have lt0 : ∀ x ∈ p0, x.block < W.heap.size := by obtain ⟨m, hm⟩ := k0; exact DataW.trod_lt m _ _ _ hm
  obtain ⟨ax0, nx0, kx0, lsx0, rfl, hncx0, hcmx0, hsx0⟩ := op_strs (hval 0 25 v0 rfl rfl) h0
  clear hA0 hval0
  refine (walk ax0 nx0 kx0 lsx0 W hncx0 hcmx0 hsx0).mono fun e W' ⟨he, bel⟩ => ?_
  subst he
  exact ⟨_, rfl, _, _, _, [], _, [], hW', trodAll_mk1 (shut_bool Try.underlying4 _), trodAll_cons_mk (Below.trod laidOut (by kernel_rfl) (of_decide_eq_true (by kernel_rfl)) k0 bel lt0) (trodAll_mk0), rfl, bel.frame _, fun h => by cases h⟩

theorem over : Rows.tlvNestsRow.holds Try.pinned (OpenSpec.ofChange Rows.tlvNestsSpec) :=
  OpenClaim.holds_of_wide 9 Try.f9 rfl rfl rfl rfl rfl rfl rfl ⟨rfl, rfl, rfl, rfl, rfl⟩ rfl rfl rfl rfl rfl (by kernel_rfl) Try.func9 (by kernel_rfl)
    (of_decide_eq_true (by kernel_rfl)) (by unfold Func.isWrapper; first | (rw [if_pos (by decide +kernel)]; kernel_rfl) | (rw [if_neg (by decide +kernel)]; exact ⟨rfl, rfl⟩))
    (fun os started H enc _ => lifted os started H enc)

theorem proved : Rows.TlvNestsSaid := over
end Go.Proofs.Ytkhmhffphmkefaa.tlvNests
