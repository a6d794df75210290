/- A seal is right under its key, and with a bit turned it is not: for every key, text and bit the law SealTurned returns true, and its arguments read afterwards as they read before. The tables that the program's text lays are tied to it by the card. No condition. -/
import Derived.Test.YtlplgpmadfmjjaaDoorRows
import Derived.WalkKit
import Derived.Below
import Derived.ProofKit
import Derived.OpenShut
import Derived.ShutString
import Derived.ChangeOld
import Derived.Outline
import Derived.RegionTactic
import Derived.ChangeAlike
import Derived.BigRegion
import Derived.BigQuiet
import Derived.Deep.QuietTactic
import Derived.Deep.RegionWith
import Derived.Deep.RegionLaw
import Derived.Deep.RegionHeld3
import Derived.Deep.AppendLies
import Derived.Deep.Draws
import Derived.StillTailTactics
import Derived.Lib.Hide
import Derived.Lib.SmallJoins
import Derived.Handy
import Derived.Stop.BytesEq
import Derived.WalkSpells
import Derived.WalkLawsBesides
import Derived.Deep.LoopGhost
import Derived.Deep.DeepCutAuto
import Derived.Laws.CopyOwn
import Derived.Deep.OwnRows
import Derived.Test.YtlplgpmadfmjjaaDoorSealF
namespace Go.Proofs.YtlplgpmadfmjjaaDoor.sealTurned
open Go.RowKit
set_option linter.unusedSimpArgs false
set_option linter.unusedVariables false
theorem and255 (n : Int) : bits .and .i64 n 255 = n % 256 := by
  have h255 : (BitVec.ofInt 64 255).toNat = 2 ^ 8 - 1 := by decide
  have key : (BitVec.ofInt 64 n &&& BitVec.ofInt 64 255).toNat = (n % ((2 ^ 64 : Nat) : Int)).toNat % 2 ^ 8 := by
    rw [BitVec.toNat_and, BitVec.toNat_ofInt, h255, Nat.and_two_pow_sub_one_eq_mod]
  show IntKind.i64.wrap ((BitVec.ofInt 64 n &&& BitVec.ofInt 64 255).toNat : Nat) = n % 256
  rw [key, IntKind.wrap_i64]
  omega
theorem pow_ne (j : Nat) (h : j < 8) : UInt8.ofNat (2 ^ j) ≠ 0 := by
  obtain rfl | rfl | rfl | rfl | rfl | rfl | rfl | rfl : j = 0 ∨ j = 1 ∨ j = 2 ∨ j = 3 ∨ j = 4 ∨ j = 5 ∨ j = 6 ∨ j = 7 := by omega
  all_goals decide
theorem set_ne (V : List UInt8) (j : Nat) (m : UInt8) (h : j < V.length) (hm : m ≠ 0) : (V == V.set j (V.getD j 0 ^^^ m)) = false := by
  rw [beq_eq_false_iff_ne]
  intro e
  have e1 := congrArg (·[j]?) e
  simp only [List.getElem?_set, h, if_true, List.getElem?_eq_getElem h, Option.some.injEq] at e1
  apply hm
  have e2 : V.getD j 0 = V[j] := by simp [h]
  rw [e2] at e1
  have e3 := congrArg (V[j] ^^^ ·) e1
  simp only [UInt8.xor_self, ← UInt8.xor_assoc, UInt8.zero_xor] at e3
  exact e3.symm
section
attribute [local go_sem] eqIn26 guard26 sha_len hmac_len hmac_len'
set_option maxHeartbeats 4000000 in
set_option maxRecDepth 100000 in
theorem walk (lk ls : List UInt8) (z : Int) (W : World) (ht : Tabs W) (_hk : lk.length ≤ maxLen) (_hs : ls.length ≤ maxLen) (_z0 : -9223372036854775808 ≤ z) (_z1 : z < 9223372036854775808) : Calls Tryd.prog 6 #[.string ⟨lk.toArray⟩, .string ⟨ls.toArray⟩, .int .i64 z] W fun e w' => e = .returned (.bool true) ∧ Below W.heap.size W w' := by
  clear _hk _hs _z0 _z1
  obtain ⟨k, hk, hk2⟩ : ∃ k : Nat, k < 256 ∧ bits .and .i64 z 255 = (k : Int) := ⟨(z % 256).toNat, by omega, by rw [and255]; omega⟩
  go_enter Tryd.func6, Tryd.ntmps6
  go_wp2_with fail
  refine (awake3_any W ht).mono ?_
  rintro e w1 ⟨rfl, g1⟩
  have hS1 : Std [] W w1 := (Std.start ht).below g1
  clear g1
  go_wp2_with fail
  refine (short_any lk 100 _ (by omega)).mono ?_
  rintro e w2 ⟨rfl, rfl⟩
  have hkl : (lk.take 100).length ≤ 100 := List.length_take_le _ _
  generalize lk.take 100 = key at *
  go_wp2_with fail
  refine (short_any ls 100 _ (by omega)).mono ?_
  rintro e w2 ⟨rfl, rfl⟩
  have hsl : (ls.take 100).length ≤ 100 := List.length_take_le _ _
  generalize ls.take 100 = s at *
  obtain ⟨V, hV⟩ : ∃ V, hmac key s = V := ⟨_, rfl⟩
  have hv32 : V.length = 32 := by rw [← hV, hmac_len']
  have HV := Lib.hid hV
  have HV2 := Lib.hid (show hmacB (blkK key) [s].flatten = V from by rw [← hV, hmac]; simp)
  have K64 := Lib.hid (blkK_len key)
  clear hV
  go_wp2_with fail
  refine (sealOf_any key s V _ HV.out hS1.1 (by omega) (by omega)).mono ?_
  rintro e w2 ⟨rfl, g2⟩
  have hS2 := hS1.below g2
  clear hS1 g2
  have SX := Lib.hid (show (Tryd.prog.info? 23).map (·.size) = some (bcells V).toArray.size from by simp [bcells_len, hv32, info26])
  have SZ := Lib.hid (show (bcells (List.replicate 32 (0 : UInt8))).toArray.size = (bcells V).toArray.size from by simp [bcells, hv32])
  obtain ⟨x, hx⟩ : ∃ x, x = V.getD (k / 8) 0 := ⟨_, rfl⟩
  have HX := Lib.hid hx
  clear hx
  go_wp2_with (first
    | (refine wpList_store_row rfl 23 (.tmp 8) (.tmp 19) rfl w2.heap.size (bcells V).toArray rfl rfl 23 (bcells (List.replicate 32 0)).toArray (heap_alloc_new w2 _) SX.out SZ.out (ones_bc _) ?_; (generalize hw3 : World.setRow _ _ _ = w3); have hS3 : Std [(w2.heap.size, bcells V, 23)] W w3 := (by rw [← hw3]; exact (hS2.below (below_setRow ((Below.refl _ _).alloc (Nat.le_refl _) _) (Nat.le_refl _) _)).push (setRow_heap _ _ _ _ _ _ (heap_alloc_new w2 _))); clear hw3 hS2)
    | (refine wpList_load_row rfl 23 (.tmp 8) rfl w2.heap.size rfl 23 (bcells V).toArray (0, 0) _ (hS3.row 0 rfl) Tryd.underlying23 rfl SX.out ?_)
    | (refine wpList_store_row rfl 23 (.tmp 9) (.tmp 20) rfl w3.heap.size (bcells V).toArray rfl rfl 23 (bcells (List.replicate 32 0)).toArray (heap_alloc_new w3 _) SX.out SZ.out (ones_bc _) ?_; (generalize hw4 : World.setRow _ _ _ = w4); have R4 : Hid (w4.heap[w3.heap.size]? = some (.cells (bcells V).toArray 23 (0, 0))) := (by rw [← hw4]; exact Lib.hid (setRow_heap _ _ _ _ _ _ (heap_alloc_new w3 _))); have g4 : Below w3.heap.size w3 w4 := (by rw [← hw4]; exact below_setRow ((Below.refl _ _).alloc (Nat.le_refl _) _) (Nat.le_refl _) _); have c4 : w4.cell? ⟨w3.heap.size, k / 8, none⟩ = some (.int .u8 x.toNat) := (by rw [HX.out]; exact cell_row R4.out (bcells_get (by omega))); have f4 : w4.frozen? ⟨w3.heap.size, k / 8, none⟩ = false := frozen_of_row w4 _ _ _ _ R4.out; clear hw4))
  generalize hw5 : World.setCell _ _ _ = w5
  obtain ⟨m, hm⟩ : ∃ m : UInt8, m = UInt8.ofNat (2 ^ (k % 8)) := ⟨_, rfl⟩
  have m0 : m ≠ 0 := by rw [hm]; exact pow_ne (k % 8) (by omega)
  have hmi : ((2 ^ (k % 8) % 256 : Int)) = (m.toNat : Int) := by rw [hm, UInt8.toNat_ofNat']; simp
  rw [hmi, xor8] at hw5
  obtain ⟨O, hO⟩ : ∃ O, O = V.set (k / 8) (x ^^^ m) := ⟨_, rfl⟩
  have ho32 : O.length = 32 := by rw [hO, List.length_set]; exact hv32
  have hne : (V == O) = false := by rw [hO, HX.out]; exact set_ne V (k / 8) m (by omega) m0
  have r5 : w5.heap[w3.heap.size]? = some (.cells (bcells O).toArray 23 (0, 0)) := by rw [← hw5, hO, ← bcells_set]; exact set_row R4.out
  have g5 : Below w3.heap.size w3 w5 := by rw [← hw5]; exact g4.setCell (Nat.le_refl _) _
  have hS5 := (hS3.below g5).push r5
  have HNE := Lib.hid hne
  clear hw5 r5 g5 g4 c4 f4 R4 hS3 hm hmi m0 hO hne HX
  obtain ⟨mb, hmb⟩ : ∃ b, b = w2.heap.size := ⟨_, rfl⟩
  obtain ⟨ob, hob⟩ : ∃ b, b = w3.heap.size := ⟨_, rfl⟩
  rw [← hmb, ← hob] at hS5
  rw [← hmb, ← hob]
  clear hmb hob
  refine (sealNew_any key w5 hS5.1 (by omega)).mono ?_
  rintro e w6 ⟨g, rfl, hg, hsl6, g6⟩
  have hS : Std [(g, bcells (blkK key), 42), (ob, bcells O, 23), (mb, bcells V, 23)] W w6 := (hS5.below g6).push hsl6.2
  have SV := Lib.hid (show (Tryd.prog.info? 23).map (·.size) = some (bcells V).length from by rw [bcells_len, hv32]; exact info26)
  have SO := Lib.hid (show (Tryd.prog.info? 23).map (·.size) = some (bcells O).length from by rw [bcells_len, ho32]; exact info26)
  clear hsl6 g6 hS5 hg
  go_wp2_with (refine wpList_load_g (by kernel_rfl) 23 (.tmp 8) rfl mb rfl (bcells V) _ (hS.rng 2 rfl) Tryd.underlying23 rfl SV.out ?_)
  refine (Right_any key s V V w6 HV.out hv32 hS.1 (by omega) (by omega)).mono ?_
  rw [beq_self_eq_true]
  rintro e v1 ⟨rfl, g1⟩
  have h1 := hS.below g1
  clear g1 hS
  go_wp2_with (refine wpList_load_g (by kernel_rfl) 23 (.tmp 9) rfl ob rfl (bcells O) _ (h1.rng 1 rfl) Tryd.underlying23 rfl SO.out ?_)
  refine (Right_any key s O V v1 HV.out ho32 h1.1 (by omega) (by omega)).mono ?_
  rw [HNE.out]
  rintro e v2 ⟨rfl, g2⟩
  have h2 := h1.below g2
  clear g2 h1
  go_wp2_with (refine wpList_load_g (by kernel_rfl) 23 (.tmp 8) rfl mb rfl (bcells V) _ (h2.rng 2 rfl) Tryd.underlying23 rfl SV.out ?_)
  refine (Check_any g (blkK key) V V (some ⟨v2.heap.size, 0, none⟩) 1 1 [s] _ HV2.out hv32 (h2.alloc _).1 ((h2.alloc _).slr 0 rfl K64.out) (strs_one (heap_alloc_new v2 _)) (by decide) (by simp; omega)).mono ?_
  rw [beq_self_eq_true]
  rintro e v3 ⟨rfl, g3⟩
  have h3 := (h2.alloc _).below g3
  clear g3 h2
  go_wp2_with (refine wpList_load_g (by kernel_rfl) 23 (.tmp 9) rfl ob rfl (bcells O) _ (h3.rng 1 rfl) Tryd.underlying23 rfl SO.out ?_)
  refine (Check_any g (blkK key) O V (some ⟨v3.heap.size, 0, none⟩) 1 1 [s] _ HV2.out ho32 (h3.alloc _).1 ((h3.alloc _).slr 0 rfl K64.out) (strs_one (heap_alloc_new v3 _)) (by decide) (by simp; omega)).mono ?_
  rw [HNE.out]
  rintro e v4 ⟨rfl, g4⟩
  have h4 := (h3.alloc _).below g4
  clear g4 h3
  go_wp2
  go_ret
  exact ⟨rfl, h4.2.2⟩
end
open Go.ChangeShapes Go.WideShapes Go.ChangeAt
set_option maxRecDepth 100000 in
theorem lifted (os : Os) (started : os.Started) (H : Type) (enc : TypeId × Value → H) :
    ReturnsInHanded {} Tryd.checked os 6 .any (fun w args => (Rows.sealTurnedSpec.pre enc Tryd.prog Tryd.f6 [] false w args ∧ laidMetH Tryd.prog laid2 w) ∧ sizedMet enc Tryd.prog Tryd.f6 (OpenSpec.ofChange Rows.sealTurnedSpec) false w args)
      (Rows.sealTurnedSpec.post enc Tryd.prog Tryd.f6 false true false false) := by
  refine returnsInHanded_of_change_and (C := Tryd.checked) (X := fun w _ => laidMetH Tryd.prog laid2 w) (fun _ _ _ hh h => h.of_heap hh) own started (by kernel_rfl) Tryd.func6
    (ChangeSpec.witness_shaped (enc := enc) (C := Tryd.checked) (os := os) (X := fun w _ => laidMetH Tryd.prog laid2 w) false (World.doorLaid Tryd.prog 19 os) #[.string ⟨#[]⟩, .string ⟨#[]⟩, .int .i64 0] 8 rfl (World.shaped_of_RefB (by kernel_rfl) (by kernel_rfl)) (by kernel_rfl) (by kernel_rfl) (by kernel_rfl) (door_met os _)) ?_
  intro W base args ds gs before hval0 hW _ _ hL _
  have hval : ∀ (j : Nat) t v, Tryd.f6.params[j]? = some t → args[j]? = some v → Value.okWide Tryd.prog W .any base t v := hval0
  have hW' := hW
  obtain ⟨p, q, hA0, hV, rfl, hfz, hnd⟩ := hW
  have hA : DataW.TrodAll enc Tryd.prog W 0 (fun _ => true) true Tryd.f6.params.toList args.toList ds p := hA0
  rw [Tryd.params6] at hA hval
  obtain ⟨v0, vs0, d0, ds0, p0, q0, hargs, rfl, rfl, h0, r0⟩ := trodAll_cons hA
  obtain ⟨v1, vs1, d1, ds1, p1, q1, rfl, rfl, rfl, h1, r1⟩ := trodAll_cons r0
  obtain ⟨v2, vs2, d2, ds2, p2, q2, rfl, rfl, rfl, h2, r2⟩ := trodAll_cons r1
  obtain ⟨rfl, rfl, rfl⟩ := trodAll_nil r2
  obtain rfl : args = #[v0, v1, v2] := by cases args; simp_all
  obtain ⟨rfl, rfl⟩ := trodVars_none hV
  have k0 := h0
  have lt0 : ∀ x ∈ p0, x.block < W.heap.size := by obtain ⟨m, hm⟩ := k0; exact DataW.trod_lt m _ _ _ hm
  have k1 := h1
  have lt1 : ∀ x ∈ p1, x.block < W.heap.size := by obtain ⟨m, hm⟩ := k1; exact DataW.trod_lt m _ _ _ hm
  have k2 := h2
  have lt2 : ∀ x ∈ p2, x.block < W.heap.size := by obtain ⟨m, hm⟩ := k2; exact DataW.trod_lt m _ _ _ hm
  obtain ⟨lx0, rfl, hlx0⟩ := op_str (hval 0 9 v0 rfl rfl) h0
  obtain ⟨lx1, rfl, hlx1⟩ := op_str (hval 1 9 v1 rfl rfl) h1
  obtain ⟨nx2, rfl, lox2, hix2⟩ := op_int (hval 2 3 v2 rfl rfl) h2
  clear hA0 hval0
  refine (walk lx0 lx1 nx2 W (tabs_of_laid hL) hlx0 hlx1 lox2 hix2).mono fun e W' ⟨he, bel⟩ => ?_
  subst he
  exact ⟨_, rfl, _, _, _, [], _, [], hW', trodAll_mk1 (shut_bool Tryd.underlying4 _), trodAll_cons_mk (Below.trod laidOut (by kernel_rfl) (of_decide_eq_true (by kernel_rfl)) k0 bel lt0) (trodAll_cons_mk (Below.trod laidOut (by kernel_rfl) (of_decide_eq_true (by kernel_rfl)) k1 bel lt1) (trodAll_cons_mk (Below.trod laidOut (by kernel_rfl) (of_decide_eq_true (by kernel_rfl)) k2 bel lt2) (trodAll_mk0))), rfl, bel.frame _, fun h => by cases h⟩

theorem over : Rows.sealTurnedRow.holds Tryd.pinned (OpenSpec.ofChange Rows.sealTurnedSpec) :=
  OpenClaim.holds_of_wide 6 Tryd.f6 rfl rfl rfl rfl rfl rfl rfl ⟨rfl, rfl, rfl, rfl, rfl⟩ rfl rfl rfl rfl rfl (by kernel_rfl) Tryd.func6 (by kernel_rfl)
    (of_decide_eq_true (by kernel_rfl)) (by unfold Func.isWrapper; first | (rw [if_pos (by decide +kernel)]; kernel_rfl) | (rw [if_neg (by decide +kernel)]; exact ⟨rfl, rfl⟩))
    (fun os started H enc _ => lifted os started H enc)

/-- The tied card. -/
theorem proved : Rows.SealTurnedCardSaid :=
  Claim7.holds_tied_plain_at .later [] [.data, .data] true (true, "cf8c549a664086f2c1f88effd52ca5db19390736799c403a59525156a7bf8306") false
    over (fun _ h => by cases h) (by kernel_rfl) (fun _ h => by cases h) sealTurned_row_tie rfl ⟨rfl, rfl⟩ (by kernel_rfl) rfl
    (fun f fn hf hfn => by
      obtain rfl : f = 6 := Option.some.inj ((show Tryd.prog.funcNamed "twinspan/twinspanlaw03.SealTurned" = some 6 by kernel_rfl).symm.trans hf) |>.symm
      obtain rfl : fn = Tryd.f6 := (Option.some.inj (Tryd.func6.symm.trans hfn)).symm
      exact ⟨by kernel_rfl, fun j t ht => by
        rw [Tryd.params6] at ht
        rcases j with _ | _ | _ |  j
        · obtain rfl : 9 = t := by simpa using ht
          exact (show Tryd.prog.wantsStandIn 9 = false by kernel_rfl)
        · obtain rfl : 9 = t := by simpa using ht
          exact (show Tryd.prog.wantsStandIn 9 = false by kernel_rfl)
        · obtain rfl : 3 = t := by simpa using ht
          exact (show Tryd.prog.wantsStandIn 3 = false by kernel_rfl)
        · simp at ht⟩)
    (by kernel_rfl)
end Go.Proofs.YtlplgpmadfmjjaaDoor.sealTurned

