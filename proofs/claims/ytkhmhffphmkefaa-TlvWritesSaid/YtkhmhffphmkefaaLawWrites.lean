/- Fields are written as the document says: for every letter, number and text, every int and every list of texts the law TlvWrites returns true, and its arguments read afterwards as they read before. No condition. -/
import Derived.Test.YtkhmhffphmkefaaPlain
import Derived.Test.YtkhmhffphmkefaaLawX
import Derived.Test.YtkhmhffphmkefaaTlvC
import Derived.Outline
import Derived.RegionTactic
import Derived.ChangeAlike
import Derived.BigRegion
import Derived.BigQuiet
import Derived.Deep.QuietTactic
import Derived.Deep.RegionWith
import Derived.Deep.RegionLaw
import Derived.Deep.AppendLies
import Derived.Deep.Draws
import Derived.Lib.Hide
import Derived.Deep.LoopGhost
import Derived.Deep.RegionHeld3
import Derived.StillTactics
import Derived.OwnWalk
namespace Go.Proofs.Ytkhmhffphmkefaa.tlvWrites
open Go.RowKit
set_option maxHeartbeats 8000000 in
set_option maxRecDepth 100000 in
theorem walk (c : UInt8) (m : Nat) (l : List UInt8) (i : Int) (a : Option Addr) (n cap : Nat) (ls : List (List UInt8)) (W : World) (hm : m < 18446744073709551616) (_hl : l.length ≤ maxLen) (hlo : -9223372036854775808 ≤ i) (hhi : i < 9223372036854775808) (_hnc : n ≤ cap) (_hcm : cap ≤ maxLen) (hs : StrsAt W W.heap.size a n ls) :
    Calls Try.prog 3 #[.agg #[.int .u8 c.toNat, .int .u64 m, .string ⟨l.toArray⟩], .int .i64 i, .slice a n cap] W fun e w' => e = .returned (.bool true) ∧ Below W.heap.size W w' := by
  have Hm := Lib.hid hm
  have Hlo := Lib.hid hlo
  have Hhi := Lib.hid hhi
  clear _hcm _hnc _hl hm hlo hhi
  go_enter Try.func3, Try.ntmps3
  go_wp2_with fail
  have fb := Fb.new W c m l
  have h0 : Below W.heap.size W (W.alloc (.cells #[.int .u8 c.toNat, .int .u64 m, .string ⟨l.toArray⟩] 24)) := (Below.refl _ _).alloc (Nat.le_refl _) _
  generalize (W.alloc (.cells #[.int .u8 c.toNat, .int .u64 m, .string ⟨l.toArray⟩] 24)) = w0 at *
  refine (awake_any _).mono ?_
  rintro e w1 ⟨rfl, h1⟩
  have fb1 := fb.below h1
  have k0 := fb1.c0
  have k1 := fb1.c1
  have k2 := fb1.c2
  go_wp2_with fail
  refine (short_any l 300 _ (by omega)).mono ?_
  rintro e w2 ⟨rfl, rfl⟩
  have hx : (l.take 300).length ≤ 300 := List.length_take_le _ _
  generalize htx : l.take (300 : Int).toNat = tx
  rw [show (300 : Int).toNat = 300 from rfl] at htx
  rw [htx] at hx
  clear htx
  have Hx := Lib.hid hx
  clear hx
  go_wp2_with fail
  have c1 := h0.trans (h1.mono h0.size)
  refine (few_any a n cap ls _ (hs.below c1 c1.size)).mono ?_
  rintro e w3 ⟨⟨A, mm, cp, rfl, hmc, hmm⟩, h3⟩
  have hf := flds_few c ls
  have hm8 := fewL_len ls
  generalize hq : fewL ls = q at *
  clear hq
  have hm9 : mm ≤ 8 := by rw [← hmm.1]; exact hm8
  have Hf := Lib.hid hf
  clear hf
  have fb3 := fb1.below h3
  have j0 := fb3.c0
  have j1 := fb3.c1
  go_wp2_with fail
  go_region_held3 (fun w' => w'.cell? ⟨W.heap.size, 0, none⟩ = some (.int .u8 c.toNat) ∧ w'.cell? ⟨W.heap.size, 1, none⟩ = some (.int .u64 m))
    (first | go_keep | exact ⟨a0, a1⟩ | exact ⟨b0, b1⟩ | exact ⟨d0, d1⟩ | exact ⟨e0, e1⟩ | exact ⟨f0, f1⟩ | exact ⟨g0, g1⟩ | exact ⟨p0, p1⟩ | exact ⟨q0, q1⟩)
    (first
      | (go_at_call 14; refine (Num_any c m _ Hm.out).mono ?_; rintro e w4 ⟨rfl, h4'⟩; have h4 := below_undrew h4'; have fb4 := fb3.below h4; have a0 := fb4.c0; have a1 := fb4.c1)
      | (go_at_call 15; refine (refNum_any c m _ Hm.out).mono ?_; rintro e w5 ⟨rfl, h5⟩; have fb5 := fb4.below h5; have b0 := fb5.c0; have b1 := fb5.c1)
      | (go_at_call 16; refine (Int_any c i _ Hlo.out Hhi.out).mono ?_; rintro e w6 ⟨rfl, h6⟩; have fb6 := fb5.below h6; have d0 := fb6.c0; have d1 := fb6.c1)
      | (go_at_call 17; refine (refInt_any c i _ Hlo.out Hhi.out).mono ?_; rintro e w7 ⟨rfl, h7⟩; have fb7 := fb6.below h7; have e0 := fb7.c0; have e1 := fb7.c1)
      | (go_at_call 18; refine (Text_any c tx _ (by have := Hx.out; omega)).mono ?_; rintro e w8 ⟨rfl, h8⟩; have fb8 := fb7.below h8; have f0 := fb8.c0; have f1 := fb8.c1)
      | (go_at_call 19; refine (refText_any c tx _ (by have := Hx.out; simp; omega)).mono ?_; rintro e w9 ⟨rfl, h9⟩; have fb9 := fb8.below h9; have g0 := fb9.c0; have g1 := fb9.c1)
      | (go_at_call 20; refine (All_any c A mm cp q _ ((((((hmm.below h4 h4.size).below h5 h5.size).below h6 h6.size).below h7 h7.size).below h8 h8.size).below h9 h9.size) (by omega) (by have := Hf.out; omega)).mono ?_; rintro e w10 ⟨rfl, h10⟩; have fb10 := fb9.below h10; have p0 := fb10.c0; have p1 := fb10.c1)
      | (go_at_call 21; refine (refAll_any c A mm cp q _ (((((((hmm.below h4 h4.size).below h5 h5.size).below h6 h6.size).below h7 h7.size).below h8 h8.size).below h9 h9.size).below h10 h10.size) (by omega) (by have := Hf.out; omega)).mono ?_; rintro e w11 ⟨rfl, h11⟩; have fb11 := fb10.below h11; have q0 := fb11.c0; have q1 := fb11.c1))
  go_wp2
  go_ret
  have c3 := c1.trans (h3.mono c1.size)
  have c4 := c3.trans (h4.mono c3.size)
  have c5 := c4.trans (h5.mono c4.size)
  have c6 := c5.trans (h6.mono c5.size)
  have c7 := c6.trans (h7.mono c6.size)
  have c8 := c7.trans (h8.mono c7.size)
  have c9 := c8.trans (h9.mono c8.size)
  have c10 := c9.trans (h10.mono c9.size)
  exact ⟨rfl, c10.trans (h11.mono c10.size)⟩
open Go.ChangeShapes Go.WideShapes Go.ChangeAt
set_option maxRecDepth 100000 in
theorem lifted (os : Os) (started : os.Started) (H : Type) (enc : TypeId × Value → H) :
    ReturnsInHanded {} Try.checked os 3 .any (Rows.tlvWritesSpec.pre6 enc Try.prog Try.f3 Rows.tlvWritesRow.domain false) (Rows.tlvWritesSpec.post enc Try.prog Try.f3 false true false false) := by
  refine returnsInHanded_of_change (C := Try.checked) own started (by kernel_rfl) Try.func3
    (ChangeSpec.witness6 (enc := enc) (C := Try.checked) false ⟨#[], #[.agg #[.int .u8 0, .int .u64 0, .string ⟨#[]⟩], .int .i64 0, .slice none 0 0], []⟩ 8 (by kernel_rfl) (by kernel_rfl) (by kernel_rfl) (by kernel_rfl)) ?_
  intro W base args ds gs before hval0 hW hcnd _
  have hval : ∀ (j : Nat) t v, Try.f3.params[j]? = some t → args[j]? = some v → Value.okWide Try.prog W .any base t v := hval0
  have hW' := hW
  obtain ⟨p, q, hA0, hV, rfl, hfz, hnd⟩ := hW
  have hA : DataW.TrodAll enc Try.prog W 0 (fun _ => true) true Try.f3.params.toList args.toList ds p := hA0
  rw [Try.params3] at hA hval
  obtain ⟨v0, vs0, d0, ds0, p0, q0, hargs, rfl, rfl, h0, r0⟩ := trodAll_cons hA
  obtain ⟨v1, vs1, d1, ds1, p1, q1, rfl, rfl, rfl, h1, r1⟩ := trodAll_cons r0
  obtain ⟨v2, vs2, d2, ds2, p2, q2, rfl, rfl, rfl, h2, r2⟩ := trodAll_cons r1
  obtain ⟨rfl, rfl, rfl⟩ := trodAll_nil r2
  obtain rfl : args = #[v0, v1, v2] := by cases args; simp_all
  obtain ⟨rfl, rfl⟩ := trodVars_none hV
  have k0 := h0
  have lt0 : ∀ x ∈ p0, x.block < W.heap.size := by obtain ⟨m, hm⟩ := k0; exact DataW.trod_lt m _ _ _ hm
  have k1 := h1
  have lt1 : ∀ x ∈ p1, x.block < W.heap.size := by obtain ⟨m, hm⟩ := k1; exact DataW.trod_lt m _ _ _ hm
  have k2 := h2
  have lt2 : ∀ x ∈ p2, x.block < W.heap.size := by obtain ⟨m, hm⟩ := k2; exact DataW.trod_lt m _ _ _ hm
  obtain ⟨cx0, mx0, lx0, rfl, hmx0, hlx0⟩ := op_field (hval 0 24 v0 rfl rfl) h0
  obtain ⟨nx1, rfl, lox1, hix1⟩ := op_int (hval 1 3 v1 rfl rfl) h1
  obtain ⟨ax2, nx2, kx2, lsx2, rfl, hncx2, hcmx2, hsx2⟩ := op_strs (hval 2 25 v2 rfl rfl) h2
  clear hA0 hval0
  refine (walk cx0 mx0 lx0 nx1 ax2 nx2 kx2 lsx2 W hmx0 hlx0 lox1 hix1 hncx2 hcmx2 hsx2).mono fun e W' ⟨he, bel⟩ => ?_
  subst he
  exact ⟨_, rfl, _, _, _, [], _, [], hW', trodAll_mk1 (shut_bool Try.underlying4 _), trodAll_cons_mk (Below.trod laidOut (by kernel_rfl) (of_decide_eq_true (by kernel_rfl)) k0 bel lt0) (trodAll_cons_mk (Below.trod laidOut (by kernel_rfl) (of_decide_eq_true (by kernel_rfl)) k1 bel lt1) (trodAll_cons_mk (Below.trod laidOut (by kernel_rfl) (of_decide_eq_true (by kernel_rfl)) k2 bel lt2) (trodAll_mk0))), rfl, bel.frame _, fun h => by cases h⟩

theorem over : Rows.tlvWritesRow.holds Try.pinned (OpenSpec.ofChange Rows.tlvWritesSpec) :=
  OpenClaim.holds_of_wide 3 Try.f3 rfl rfl rfl rfl rfl rfl rfl ⟨rfl, rfl, rfl, rfl, rfl⟩ rfl rfl rfl rfl rfl (by kernel_rfl) Try.func3 (by kernel_rfl)
    (of_decide_eq_true (by kernel_rfl)) (by unfold Func.isWrapper; first | (rw [if_pos (by decide +kernel)]; kernel_rfl) | (rw [if_neg (by decide +kernel)]; exact ⟨rfl, rfl⟩))
    (fun os started H enc _ => lifted os started H enc)

theorem proved : Rows.TlvWritesSaid := over
end Go.Proofs.Ytkhmhffphmkefaa.tlvWrites
