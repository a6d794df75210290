/- No two fields have the same bytes, nor bytes that begin another one's, but if they are the same: for any two letters, numbers and texts and any two lists of texts the law TlvOne returns true, and its arguments read afterwards as they read before. No condition. -/
import Derived.Test.YtkhmhffphmkefaaPlain
import Derived.Test.YtkhmhffphmkefaaLawX
import Derived.Test.YtkhmhffphmkefaaTlvC
import Derived.Outline
import Derived.RegionTactic
import Derived.ChangeAlike
import Derived.BigRegion
import Derived.BigQuiet
import Derived.Deep.QuietTactic
import Derived.Deep.RegionWith
import Derived.Deep.RegionLaw
import Derived.Deep.AppendLies
import Derived.Deep.Draws
import Derived.Lib.Hide
import Derived.Deep.LoopGhost
import Derived.Deep.RegionHeld3
import Derived.StillTactics
import Derived.OwnWalk
namespace Go.Proofs.Ytkhmhffphmkefaa.tlvOne
open Go.RowKit
/-- The two lists of texts, boxed. -/
def Lb (w : World) (g : Nat) (v u : Value) : Prop := w.heap[g]? = some (.cells #[v, u] 54 (0, 0))
theorem Lb.c0 {w : World} {g : Nat} {v u : Value} (h : Lb w g v u) : w.cell? ⟨g, 0, none⟩ = some v := by
  unfold World.cell?; unfold Lb at h; simp only [h]; rfl
theorem Lb.c1 {w : World} {g : Nat} {v u : Value} (h : Lb w g v u) : w.cell? ⟨g, 1, none⟩ = some u := by
  unfold World.cell?; unfold Lb at h; simp only [h]; rfl
theorem Lb.lt {w : World} {g : Nat} {v u : Value} (h : Lb w g v u) : g < w.heap.size := by
  rcases Nat.lt_or_ge g w.heap.size with hlt | hge
  · exact hlt
  · unfold Lb at h; rw [Array.getElem?_eq_none hge] at h; cases h
theorem Lb.below {w w' : World} {g : Nat} {v u : Value} (h : Lb w g v u) (hf : Below w.heap.size w w') : Lb w' g v u := (hf.block g h.lt).trans h
theorem bool_eq {a b : Bool} (h : a = b) : Ending.returned (.bool a) = .returned (.bool b) := by rw [h]
set_option maxHeartbeats 4000000 in
set_option maxRecDepth 100000 in
theorem walk (c : UInt8) (m : Nat) (l : List UInt8) (d : UInt8) (n : Nat) (k : List UInt8) (a : Option Addr) (na ca : Nat) (ls : List (List UInt8)) (b : Option Addr) (nb cb : Nat) (ms : List (List UInt8)) (W : World)
    (hm : m < 18446744073709551616) (_hl : l.length ≤ maxLen) (hn : n < 18446744073709551616) (_hk : k.length ≤ maxLen) (_hnc : na ≤ ca) (hs : StrsAt W W.heap.size a na ls) (_hmc : nb ≤ cb) (ht : StrsAt W W.heap.size b nb ms) :
    Calls Try.prog 6 #[.agg #[.int .u8 c.toNat, .int .u64 m, .string ⟨l.toArray⟩], .agg #[.int .u8 d.toNat, .int .u64 n, .string ⟨k.toArray⟩], .agg #[.slice a na ca, .slice b nb cb]] W fun e w' => e = .returned (.bool true) ∧ Below W.heap.size W w' := by
  have Hm := Lib.hid hm
  have Hn := Lib.hid hn
  clear _hl _hk _hnc _hmc hm hn
  go_enter Try.func6, Try.ntmps6
  go_wp2_with fail
  have fb := (((Fb.new W c m l).below ((Below.refl _ _).alloc (Nat.le_refl _) (.cells #[.int .u8 d.toNat, .int .u64 n, .string ⟨k.toArray⟩] 24))).below ((Below.refl _ _).alloc (Nat.le_refl _) (.cells #[.slice a na ca, .slice b nb cb] 54)))
  have gb : Fb _ (W.heap.size + 1) d n k := ((by simpa using Fb.new (W.alloc (.cells #[.int .u8 c.toNat, .int .u64 m, .string ⟨l.toArray⟩] 24)) d n k : Fb ((W.alloc (.cells #[.int .u8 c.toNat, .int .u64 m, .string ⟨l.toArray⟩] 24)).alloc (.cells #[.int .u8 d.toNat, .int .u64 n, .string ⟨k.toArray⟩] 24)) (W.heap.size + 1) d n k)).below ((Below.refl _ _).alloc (Nat.le_refl _) (.cells #[.slice a na ca, .slice b nb cb] 54))
  have lb : Lb (((W.alloc (.cells #[.int .u8 c.toNat, .int .u64 m, .string ⟨l.toArray⟩] 24)).alloc (.cells #[.int .u8 d.toNat, .int .u64 n, .string ⟨k.toArray⟩] 24)).alloc (.cells #[.slice a na ca, .slice b nb cb] 54)) (W.heap.size + 1 + 1) (.slice a na ca) (.slice b nb cb) := by
    unfold Lb
    simpa using heap_alloc_new ((W.alloc (.cells #[.int .u8 c.toNat, .int .u64 m, .string ⟨l.toArray⟩] 24)).alloc (.cells #[.int .u8 d.toNat, .int .u64 n, .string ⟨k.toArray⟩] 24)) (.cells #[.slice a na ca, .slice b nb cb] 54)
  have h0 : Below W.heap.size W (((W.alloc (.cells #[.int .u8 c.toNat, .int .u64 m, .string ⟨l.toArray⟩] 24)).alloc (.cells #[.int .u8 d.toNat, .int .u64 n, .string ⟨k.toArray⟩] 24)).alloc (.cells #[.slice a na ca, .slice b nb cb] 54)) := (((Below.refl _ _).alloc (Nat.le_refl _) _).alloc (by simp) _).alloc (by simp; omega) _
  generalize (((W.alloc (.cells #[.int .u8 c.toNat, .int .u64 m, .string ⟨l.toArray⟩] 24)).alloc (.cells #[.int .u8 d.toNat, .int .u64 n, .string ⟨k.toArray⟩] 24)).alloc (.cells #[.slice a na ca, .slice b nb cb] 54)) = w0 at *
  refine (awake_any _).mono ?_
  rintro e w1 ⟨rfl, h1⟩
  have fb1 := fb.below h1
  have gb1 := gb.below h1
  have lb1 := lb.below h1
  have f0 := fb1.c0; have f1 := fb1.c1; have f2 := fb1.c2
  have g0 := gb1.c0; have g1 := gb1.c1; have g2 := gb1.c2
  go_wp2_with fail
  refine (short_any l 60 _ (by omega)).mono ?_
  rintro e w2 ⟨rfl, rfl⟩
  have hx60 : (l.take 60).length ≤ 60 := List.length_take_le _ _
  generalize htx : l.take (60 : Int).toNat = tx
  rw [show (60 : Int).toNat = 60 from rfl] at htx
  rw [htx] at hx60
  clear htx
  go_wp2_with fail
  refine (short_any k 60 _ (by omega)).mono ?_
  rintro e w2 ⟨rfl, rfl⟩
  have hy60 : (k.take 60).length ≤ 60 := List.length_take_le _ _
  generalize hty : k.take (60 : Int).toNat = ty
  rw [show (60 : Int).toNat = 60 from rfl] at hty
  rw [hty] at hy60
  clear hty
  have Hx := Lib.hid hx60
  have Hy := Lib.hid hy60
  clear hx60 hy60
  go_wp2_with fail
  refine (Text_any c tx _ (by have := Hx.out; omega)).mono ?_
  rintro e w3 ⟨rfl, h3⟩
  have gb3 := gb1.below h3
  have g30 := gb3.c0
  go_wp2_with fail
  refine (Text_any d ty _ (by have := Hy.out; omega)).mono ?_
  rintro e w4 ⟨rfl, h4⟩
  have fb4 := (fb1.below h3).below h4
  have f40 := fb4.c0; have f41 := fb4.c1
  go_wp2_with fail
  refine (Num_any c m _ Hm.out).mono ?_
  rintro e w5 ⟨rfl, h5⟩
  have gb5 := (gb3.below h4).below h5
  have g50 := gb5.c0; have g51 := gb5.c1
  go_wp2_with fail
  refine (Num_any d n _ Hn.out).mono ?_
  rintro e w6 ⟨rfl, h6⟩
  have lb6 := (((lb1.below h3).below h4).below h5).below h6
  have l60 := lb6.c0
  have c1 := h0.trans (h1.mono h0.size)
  have c3 := c1.trans (h3.mono c1.size)
  have c4 := c3.trans (h4.mono c3.size)
  have c5 := c4.trans (h5.mono c4.size)
  have c6 := c5.trans (h6.mono c5.size)
  go_wp2_with fail
  refine (few_any a na ca ls _ (hs.below c6 c6.size)).mono ?_
  rintro e w7 ⟨⟨A, mm, cp, rfl, hmc, hmm⟩, h7⟩
  have lb7 := lb6.below h7
  have l71 := lb7.c1
  have c7 := c6.trans (h7.mono c6.size)
  go_wp2_with fail
  refine (few_any b nb cb ms _ (ht.below c7 c7.size)).mono ?_
  rintro e w8 ⟨⟨B, nn, dp, rfl, hnc, hnn⟩, h8⟩
  have hmm8 := hmm.below h8 h8.size
  have hfq := flds_few c ls
  have hfr := flds_few d ms
  have hmem : ∀ l ∈ fewL ls, l.length < 16777216 ∧ (l.length : Int) ≤ 30 := fun l hl => by have := fewL_mem hl; omega
  have hmem2 : ∀ l ∈ fewL ms, l.length < 16777216 ∧ (l.length : Int) ≤ 30 := fun l hl => by have := fewL_mem hl; omega
  have hm8 := fewL_len ls
  have hn8 := fewL_len ms
  have Hmem := Lib.hid hmem
  have Hmem2 := Lib.hid hmem2
  clear hmem hmem2
  generalize hq : fewL ls = q at *
  generalize hr : fewL ms = r at *
  clear hq hr
  have hm9 : mm ≤ 8 := by rw [← hmm.1]; exact hm8
  have hn9 : nn ≤ 8 := by rw [← hnn.1]; exact hn8
  have Hfq := Lib.hid hfq
  have Hfr := Lib.hid hfr
  clear hfq hfr
  have fb8 := (((fb4.below h5).below h6).below h7).below h8
  have f80 := fb8.c0
  go_wp2_with fail
  refine (All_any c A mm cp q _ hmm8 (by omega) (by have := Hfq.out; omega)).mono ?_
  rintro e w9 ⟨rfl, h9⟩
  have gb9 := (((gb5.below h6).below h7).below h8).below h9
  have g90 := gb9.c0
  go_wp2_with fail
  refine (All_any d B nn dp r _ (hnn.below h9 h9.size) (by omega) (by have := Hfr.out; omega)).mono ?_
  rintro e w10 ⟨rfl, h10⟩
  have hmm10 := (hmm8.below h9 h9.size).below h10 h10.size
  have hnn10 := (hnn.below h9 h9.size).below h10 h10.size
  go_wp2_with fail
  refine (Same_any _ _ _ _ _ _ q r _ hmm10 hnn10 (by omega)).mono ?_
  rintro e w11 ⟨rfl, h11⟩
  have c8 := c7.trans (h8.mono c7.size)
  have c9 := c8.trans (h9.mono c8.size)
  have c10 := c9.trans (h10.mono c9.size)
  have c11 := c10.trans (h11.mono c10.size)
  have fb11 := ((fb8.below h9).below h10).below h11
  have gb11 := (gb9.below h10).below h11
  have f110 := fb11.c0; have f111 := fb11.c1
  have g110 := gb11.c0; have g111 := gb11.c1
  have B1 := Lib.hid (begins_any (fld c tx) (fld d ty) w11)
  have B2 := Lib.hid (begins_any (fld c (digs m)) (fld d (digs n)) w11)
  have B3 := Lib.hid (begins_any (fld c (flds c q)) (fld d (flds d r)) w11)
  have P1 := Lib.hid (fld_prefix c d tx ty (by have := Hx.out; omega) (by have := Hy.out; omega))
  have P2 := Lib.hid (fld_prefix c d (digs m) (digs n) (by have := digs_len m; omega) (by have := digs_len n; omega))
  have P3 := Lib.hid (fld_prefix c d (flds c q) (flds d r) (by have := Hfq.out; omega) (by have := Hfr.out; omega))
  by_cases hcd : c = d
  · subst hcd
    have e1 : decide (fld c ty <+: fld c tx) = (tx == ty) := by rw [Bool.eq_iff_iff, decide_eq_true_iff, P1.out, beq_iff_eq]; simp
    have e2 : decide (fld c (digs n) <+: fld c (digs m)) = ((m : Int) == (n : Int)) := by
      rw [Bool.eq_iff_iff, decide_eq_true_iff, P2.out, beq_iff_eq]
      constructor
      · rintro ⟨_, h⟩; rw [digs_inj Hm.out Hn.out h]
      · intro h; have : m = n := by omega
        rw [this]; exact ⟨rfl, rfl⟩
    have e3 : decide (fld c (flds c r) <+: fld c (flds c q)) = decide (q = r) := by
      rw [Bool.eq_iff_iff, decide_eq_true_iff, P3.out, decide_eq_true_iff]
      constructor
      · rintro ⟨_, h⟩; exact flds_inj c q r Hmem.out Hmem2.out h
      · rintro rfl; exact ⟨rfl, rfl⟩
    have E1 := Lib.hid e1
    have E2 := Lib.hid e2
    have E3 := Lib.hid e3
    clear e1 e2 e3
    generalize hqr : decide (q = r) = qr at *
    clear hqr
    go_wp2_with fail
    refine B1.out.mono ?_
    rw [E1.out]
    rintro e w12 ⟨rfl, rfl⟩
    go_wp2_with fail
    refine B2.out.mono ?_
    rw [E2.out]
    rintro e w12 ⟨rfl, rfl⟩
    go_wp2_with fail
    refine B3.out.mono ?_
    rw [E3.out]
    rintro e w12 ⟨rfl, rfl⟩
    go_wp2
    go_ret
    exact ⟨rfl, c11⟩
  · have e1 : decide (fld d ty <+: fld c tx) = false := by rw [decide_eq_false_iff_not, P1.out]; exact fun h => hcd h.1
    have e2 : decide (fld d (digs n) <+: fld c (digs m)) = false := by rw [decide_eq_false_iff_not, P2.out]; exact fun h => hcd h.1
    have e3 : decide (fld d (flds d r) <+: fld c (flds c q)) = false := by rw [decide_eq_false_iff_not, P3.out]; exact fun h => hcd h.1
    have E1 := Lib.hid e1
    have E2 := Lib.hid e2
    have E3 := Lib.hid e3
    clear e1 e2 e3
    have hl : ((c.toNat : Int) == (d.toNat : Int)) = false := by
      have : c.toNat ≠ d.toNat := fun e => hcd (UInt8.toNat_inj.1 e)
      simp; omega
    clear hcd
    generalize hqr : decide (q = r) = qr at *
    clear hqr
    go_wp2_with fail
    refine B1.out.mono ?_
    rw [E1.out]
    rintro e w12 ⟨rfl, rfl⟩
    go_wp2_with fail
    refine B2.out.mono ?_
    rw [E2.out]
    rintro e w12 ⟨rfl, rfl⟩
    go_wp2_with fail
    refine B3.out.mono ?_
    rw [E3.out]
    rintro e w12 ⟨rfl, rfl⟩
    go_wp2
    go_ret
    exact ⟨rfl, c11⟩
open Go.ChangeShapes Go.WideShapes Go.ChangeAt
set_option maxRecDepth 100000 in
theorem lifted (os : Os) (started : os.Started) (H : Type) (enc : TypeId × Value → H) :
    ReturnsInHanded {} Try.checked os 6 .any (Rows.tlvOneSpec.pre6 enc Try.prog Try.f6 Rows.tlvOneRow.domain false) (Rows.tlvOneSpec.post enc Try.prog Try.f6 false true false false) := by
  refine returnsInHanded_of_change (C := Try.checked) own started (by kernel_rfl) Try.func6
    (ChangeSpec.witness6 (enc := enc) (C := Try.checked) false ⟨#[], #[.agg #[.int .u8 0, .int .u64 0, .string ⟨#[]⟩], .agg #[.int .u8 0, .int .u64 0, .string ⟨#[]⟩], .agg #[.slice none 0 0, .slice none 0 0]], []⟩ 8 (by kernel_rfl) (by kernel_rfl) (by kernel_rfl) (by kernel_rfl)) ?_
  intro W base args ds gs before hval0 hW hcnd _
  have hval : ∀ (j : Nat) t v, Try.f6.params[j]? = some t → args[j]? = some v → Value.okWide Try.prog W .any base t v := hval0
  have hW' := hW
  obtain ⟨p, q, hA0, hV, rfl, hfz, hnd⟩ := hW
  have hA : DataW.TrodAll enc Try.prog W 0 (fun _ => true) true Try.f6.params.toList args.toList ds p := hA0
  rw [Try.params6] at hA hval
  obtain ⟨v0, vs0, d0, ds0, p0, q0, hargs, rfl, rfl, h0, r0⟩ := trodAll_cons hA
  obtain ⟨v1, vs1, d1, ds1, p1, q1, rfl, rfl, rfl, h1, r1⟩ := trodAll_cons r0
  obtain ⟨v2, vs2, d2, ds2, p2, q2, rfl, rfl, rfl, h2, r2⟩ := trodAll_cons r1
  obtain ⟨rfl, rfl, rfl⟩ := trodAll_nil r2
  obtain rfl : args = #[v0, v1, v2] := by cases args; simp_all
  obtain ⟨rfl, rfl⟩ := trodVars_none hV
  have k0 := h0
  have lt0 : ∀ x ∈ p0, x.block < W.heap.size := by obtain ⟨m, hm⟩ := k0; exact DataW.trod_lt m _ _ _ hm
  have k1 := h1
  have lt1 : ∀ x ∈ p1, x.block < W.heap.size := by obtain ⟨m, hm⟩ := k1; exact DataW.trod_lt m _ _ _ hm
  have k2 := h2
  have lt2 : ∀ x ∈ p2, x.block < W.heap.size := by obtain ⟨m, hm⟩ := k2; exact DataW.trod_lt m _ _ _ hm
  obtain ⟨cx0, mx0, lx0, rfl, hmx0, hlx0⟩ := op_field (hval 0 24 v0 rfl rfl) h0
  obtain ⟨cx1, mx1, lx1, rfl, hmx1, hlx1⟩ := op_field (hval 1 24 v1 rfl rfl) h1
  obtain ⟨ax2, nx2, kx2, lsx2, bx2, mx2, jx2, msx2, rfl, hncx2, hsx2, hmcx2, htx2⟩ := op_strs2 (hval 2 54 v2 rfl rfl) h2
  clear hA0 hval0
  refine (walk cx0 mx0 lx0 cx1 mx1 lx1 ax2 nx2 kx2 lsx2 bx2 mx2 jx2 msx2 W hmx0 hlx0 hmx1 hlx1 hncx2 hsx2 hmcx2 htx2).mono fun e W' ⟨he, bel⟩ => ?_
  subst he
  exact ⟨_, rfl, _, _, _, [], _, [], hW', trodAll_mk1 (shut_bool Try.underlying4 _), trodAll_cons_mk (Below.trod laidOut (by kernel_rfl) (of_decide_eq_true (by kernel_rfl)) k0 bel lt0) (trodAll_cons_mk (Below.trod laidOut (by kernel_rfl) (of_decide_eq_true (by kernel_rfl)) k1 bel lt1) (trodAll_cons_mk (Below.trod laidOut (by kernel_rfl) (of_decide_eq_true (by kernel_rfl)) k2 bel lt2) (trodAll_mk0))), rfl, bel.frame _, fun h => by cases h⟩

theorem over : Rows.tlvOneRow.holds Try.pinned (OpenSpec.ofChange Rows.tlvOneSpec) :=
  OpenClaim.holds_of_wide 6 Try.f6 rfl rfl rfl rfl rfl rfl rfl ⟨rfl, rfl, rfl, rfl, rfl⟩ rfl rfl rfl rfl rfl (by kernel_rfl) Try.func6 (by kernel_rfl)
    (of_decide_eq_true (by kernel_rfl)) (by unfold Func.isWrapper; first | (rw [if_pos (by decide +kernel)]; kernel_rfl) | (rw [if_neg (by decide +kernel)]; exact ⟨rfl, rfl⟩))
    (fun os started H enc _ => lifted os started H enc)

theorem proved : Rows.TlvOneSaid := over
end Go.Proofs.Ytkhmhffphmkefaa.tlvOne
