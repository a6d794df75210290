/- A field has four bytes more than its body, a number as many as it needs, fields in fields all of theirs: for every letter, number and text and every list of texts the law TlvSizes returns true, and its arguments read afterwards as they read before. No condition. -/
import Derived.Test.YtkhmhffphmkefaaPlain
import Derived.Test.YtkhmhffphmkefaaLawX
import Derived.Test.YtkhmhffphmkefaaTlvC
import Derived.Outline
import Derived.RegionTactic
import Derived.ChangeAlike
import Derived.BigRegion
import Derived.BigQuiet
import Derived.Deep.QuietTactic
import Derived.Deep.RegionWith
import Derived.Deep.RegionLaw
import Derived.Deep.AppendLies
import Derived.Deep.Draws
import Derived.Lib.Hide
import Derived.Deep.LoopGhost
import Derived.Deep.RegionHeld3
import Derived.StillTactics
import Derived.OwnWalk
namespace Go.Proofs.Ytkhmhffphmkefaa.tlvSizes
open Go.RowKit
section
attribute [local go_sem] ext_list idx_list
set_option maxHeartbeats 4000000 in
set_option maxRecDepth 100000 in
theorem walk (c : UInt8) (m : Nat) (l : List UInt8) (a : Option Addr) (n cap : Nat) (ls : List (List UInt8)) (W : World) (hm : m < 18446744073709551616) (_hl : l.length ≤ maxLen) (_hnc : n ≤ cap) (_hcm : cap ≤ maxLen) (hs : StrsAt W W.heap.size a n ls) :
    Calls Try.prog 10 #[.agg #[.int .u8 c.toNat, .int .u64 m, .string ⟨l.toArray⟩], .slice a n cap] W fun e w' => e = .returned (.bool true) ∧ Below W.heap.size W w' := by
  have Hm := Lib.hid hm
  clear _hcm _hnc _hl hm
  go_enter Try.func10, Try.ntmps10
  go_wp2_with fail
  have fb := Fb.new W c m l
  have h0 : Below W.heap.size W (W.alloc (.cells #[.int .u8 c.toNat, .int .u64 m, .string ⟨l.toArray⟩] 24)) := (Below.refl _ _).alloc (Nat.le_refl _) _
  generalize (W.alloc (.cells #[.int .u8 c.toNat, .int .u64 m, .string ⟨l.toArray⟩] 24)) = w0 at *
  refine (awake_any _).mono ?_
  rintro e w1 ⟨rfl, h1⟩
  have fb1 := fb.below h1
  have k0 := fb1.c0
  have k1 := fb1.c1
  have k2 := fb1.c2
  go_wp2_with fail
  refine (short_any l 200 _ (by omega)).mono ?_
  rintro e w2 ⟨rfl, rfl⟩
  have hx : (l.take 200).length ≤ 200 := List.length_take_le _ _
  generalize htx : l.take (200 : Int).toNat = tx
  rw [show (200 : Int).toNat = 200 from rfl] at htx
  rw [htx] at hx
  clear htx
  have Hx := Lib.hid hx
  clear hx
  go_wp2_with fail
  have c1 := h0.trans (h1.mono h0.size)
  refine (few_any a n cap ls _ (hs.below c1 c1.size)).mono ?_
  rintro e w3 ⟨⟨A, mm, cp, rfl, hmc, hmm⟩, h3⟩
  have hf := flds_few c ls
  have hmem : ∀ l ∈ fewL ls, l.length < 16777216 ∧ (l.length : Int) ≤ 30 := fun l hl => by have := fewL_mem hl; omega
  have hm8 := fewL_len ls
  have Hmem := Lib.hid hmem
  clear hmem
  generalize hq : fewL ls = q at *
  clear hq
  have hm9 : mm ≤ 8 := by rw [← hmm.1]; exact hm8
  have Hf := Lib.hid hf
  clear hf
  have fb3 := fb1.below h3
  have j0 := fb3.c0
  have j1 := fb3.c1
  have hdl := digs_len m
  have Hdl := Lib.hid hdl
  clear hdl
  go_wp2
  go_loop [8, 9] (fun u v => ∃ m' f cnt : Nat, u = .int .i64 (cnt + 4 : Nat) ∧ v = .int .u64 m' ∧ m' < 256 ^ f ∧ m' < 18446744073709551616 ∧ cnt ≤ 8 ∧ cnt + (dgF f m' []).length = (digs m).length) (fun _ v => (intOf v).toNat)
  case atStart => exact ⟨m, 8, 0, rfl, rfl, Hm.out, Hm.out, by omega, by rw [Nat.zero_add]; rfl⟩
  case round =>
    obtain ⟨m', f, cnt, rfl, rfl, hmf, hm64, hc8, hcnt⟩ := hrel
    have Hmf := Lib.hid hmf
    have Hcnt := Lib.hid hcnt
    clear hmf hcnt
    by_cases hz : m' = 0
    · subst hz
      have e : (digs m).length = cnt := by have := Hcnt.out; rw [dgF_zero] at this; simp at this; omega
      have He := Lib.hid e
      clear e
      go_wp2
      go_loop [10, 11] (fun u i => ∃ k : Nat, k ≤ mm ∧ i = .int .i64 k ∧ u = .int .i64 ((flds c (q.take k)).length + 4 : Nat)) (fun _ i => mm - (intOf i).toNat)
      case atStart => exact ⟨0, Nat.zero_le _, rfl, rfl⟩
      case round =>
        obtain ⟨k, hk, rfl, rfl⟩ := hrel
        have hle := flds_take_le c q k
        have hb : (flds c (q.take k)).length ≤ 272 := by have := Hf.out; omega
        by_cases hlt : k < mm
        · obtain ⟨b, off, rfl, hbb, hcell⟩ := hmm.2 (by omega)
          have hkl : k < q.length := by rw [hmm.1]; exact hlt
          have hget := List.getElem?_eq_getElem hkl
          have hcw := hcell k _ hget
          have hstep := flds_take_succ c q k _ hget
          have hml := (Hmem.out _ (List.getElem_mem hkl)).2
          generalize q[k] = x at *
          have hl2 : (flds c (q.take (k + 1))).length = (flds c (q.take k)).length + (x.length + 4) := by rw [hstep, List.length_append, fld_len]
          have Hl2 := Lib.hid hl2
          clear hcell hget hle hstep hl2
          generalize hgg : (flds c (q.take k)).length = gg at *
          have Hgg := Lib.hid hgg
          clear hgg
          go_wp2
          go_round
          case rel => exact ⟨k + 1, by omega, by go_num, by rw [Hl2.out]; exact int_eq (by omega)⟩
          case measure => simp [intOf]; omega
        · obtain rfl : k = mm := by omega
          have e2 : (flds c (q.take k)).length = (flds c q).length := by rw [List.take_of_length_le (by rw [hmm.1]; omega)]
          rw [e2] at hb ⊢
          clear e2 hle
          go_wp2_with fail
          refine (Text_any c tx _ (by have := Hx.out; omega)).mono ?_
          rintro e w4 ⟨rfl, h4⟩
          have fb4 := fb3.below h4
          have i0 := fb4.c0
          have i1 := fb4.c1
          have t0 : (4 : Int) ≤ ((fld c tx).length : Int) := by rw [fld_len]; omega
          have t00 : (0 : Int) < ((fld c tx).length : Int) := by rw [fld_len]; omega
          have b1 : (((fld c tx).length : Int) == IntKind.i64.wrap (4 + (tx.length : Int))) = true := by have := Hx.out; rw [fld_len, IntKind.wrap_i64]; simp; omega
          have b2 : (((fld c (digs m)).length : Int) == (cnt : Int) + 4) = true := by rw [fld_len, He.out]; simp
          have b3 : (((fld c (flds c q)).length : Int) == ((flds c q).length : Int) + 4) = true := by rw [fld_len]; simp
          have b4 : ∀ h, (fld c tx)[0]'h = c := fun _ => rfl
          have b5 : (List.drop 4 (fld c tx) == tx) = true := by simp [fld]
          go_wp2_with fail
          go_region_held3 (fun w' => w'.cell? ⟨W.heap.size, 0, none⟩ = some (.int .u8 c.toNat) ∧ w'.cell? ⟨W.heap.size, 1, none⟩ = some (.int .u64 m))
            (first | go_keep | exact ⟨a0, a1⟩ | exact ⟨d0, d1⟩)
            (first
              | (go_at_call 14; refine (Num_any c m _ Hm.out).mono ?_; rintro e w5 ⟨rfl, h5'⟩; have h5 := below_undrew h5'; have fb5 := fb4.below h5; have a0 := fb5.c0; have a1 := fb5.c1)
              | (go_at_call 20; refine (All_any c A k cp q _ ((hmm.below h4 h4.size).below h5 h5.size) (by omega) (by have := Hf.out; omega)).mono ?_; rintro e w7 ⟨rfl, h7⟩; have fb7 := fb5.below h7; have d0 := fb7.c0; have d1 := fb7.c1))
          go_wp2
          go_ret
          have c3 := c1.trans (h3.mono c1.size)
          have c4 := c3.trans (h4.mono c3.size)
          have c5 := c4.trans (h5.mono c4.size)
          exact ⟨rfl, c5.trans (h7.mono c5.size)⟩
    · have hp : 0 < m' := by omega
      obtain ⟨f', rfl⟩ : ∃ f', f = f' + 1 := ⟨f - 1, by cases f with
        | zero => have := Hmf.out; simp at this; omega
        | succ f => rfl⟩
      have hlen : (dgF (f' + 1) m' []).length = (dgF f' (m' / 256) []).length + 1 := by rw [dgF_pos _ _ _ hp, dgF_acc]; simp
      have hc7 : cnt < 8 := by have := Hcnt.out; have := Hdl.out; omega
      have Hlen := Lib.hid hlen
      clear hlen
      go_wp2
      go_round
      case rel => exact ⟨m' / 256, f', cnt + 1, int_eq (by omega), rfl, Nat.div_lt_of_lt_mul (by have := Hmf.out; rw [Nat.pow_succ] at this; omega), by omega, by omega, by have := Hcnt.out; have := Hlen.out; omega⟩
      case measure => simp [intOf]; omega
end
open Go.ChangeShapes Go.WideShapes Go.ChangeAt
set_option maxRecDepth 100000 in
theorem lifted (os : Os) (started : os.Started) (H : Type) (enc : TypeId × Value → H) :
    ReturnsInHanded {} Try.checked os 10 .any (Rows.tlvSizesSpec.pre6 enc Try.prog Try.f10 Rows.tlvSizesRow.domain false) (Rows.tlvSizesSpec.post enc Try.prog Try.f10 false true false false) := by
  refine returnsInHanded_of_change (C := Try.checked) own started (by kernel_rfl) Try.func10
    (ChangeSpec.witness6 (enc := enc) (C := Try.checked) false ⟨#[], #[.agg #[.int .u8 0, .int .u64 0, .string ⟨#[]⟩], .slice none 0 0], []⟩ 8 (by kernel_rfl) (by kernel_rfl) (by kernel_rfl) (by kernel_rfl)) ?_
  intro W base args ds gs before hval0 hW hcnd _
  have hval : ∀ (j : Nat) t v, Try.f10.params[j]? = some t → args[j]? = some v → Value.okWide Try.prog W .any base t v := hval0
  have hW' := hW
  obtain ⟨p, q, hA0, hV, rfl, hfz, hnd⟩ := hW
  have hA : DataW.TrodAll enc Try.prog W 0 (fun _ => true) true Try.f10.params.toList args.toList ds p := hA0
  rw [Try.params10] at hA hval
  obtain ⟨v0, vs0, d0, ds0, p0, q0, hargs, rfl, rfl, h0, r0⟩ := trodAll_cons hA
  obtain ⟨v1, vs1, d1, ds1, p1, q1, rfl, rfl, rfl, h1, r1⟩ := trodAll_cons r0
  obtain ⟨rfl, rfl, rfl⟩ := trodAll_nil r1
  obtain rfl : args = #[v0, v1] := by cases args; simp_all
  obtain ⟨rfl, rfl⟩ := trodVars_none hV
  have k0 := h0
  have lt0 : ∀ x ∈ p0, x.block < W.heap.size := by obtain ⟨m, hm⟩ := k0; exact DataW.trod_lt m _ _ _ hm
  have k1 := h1
  have lt1 : ∀ x ∈ p1, x.block < W.heap.size := by obtain ⟨m, hm⟩ := k1; exact DataW.trod_lt m _ _ _ hm
  obtain ⟨cx0, mx0, lx0, rfl, hmx0, hlx0⟩ := op_field (hval 0 24 v0 rfl rfl) h0
  obtain ⟨ax1, nx1, kx1, lsx1, rfl, hncx1, hcmx1, hsx1⟩ := op_strs (hval 1 25 v1 rfl rfl) h1
  clear hA0 hval0
  refine (walk cx0 mx0 lx0 ax1 nx1 kx1 lsx1 W hmx0 hlx0 hncx1 hcmx1 hsx1).mono fun e W' ⟨he, bel⟩ => ?_
  subst he
  exact ⟨_, rfl, _, _, _, [], _, [], hW', trodAll_mk1 (shut_bool Try.underlying4 _), trodAll_cons_mk (Below.trod laidOut (by kernel_rfl) (of_decide_eq_true (by kernel_rfl)) k0 bel lt0) (trodAll_cons_mk (Below.trod laidOut (by kernel_rfl) (of_decide_eq_true (by kernel_rfl)) k1 bel lt1) (trodAll_mk0)), rfl, bel.frame _, fun h => by cases h⟩

theorem over : Rows.tlvSizesRow.holds Try.pinned (OpenSpec.ofChange Rows.tlvSizesSpec) :=
  OpenClaim.holds_of_wide 10 Try.f10 rfl rfl rfl rfl rfl rfl rfl ⟨rfl, rfl, rfl, rfl, rfl⟩ rfl rfl rfl rfl rfl (by kernel_rfl) Try.func10 (by kernel_rfl)
    (of_decide_eq_true (by kernel_rfl)) (by unfold Func.isWrapper; first | (rw [if_pos (by decide +kernel)]; kernel_rfl) | (rw [if_neg (by decide +kernel)]; exact ⟨rfl, rfl⟩))
    (fun os started H enc _ => lifted os started H enc)

theorem proved : Rows.TlvSizesSaid := over
end Go.Proofs.Ytkhmhffphmkefaa.tlvSizes
