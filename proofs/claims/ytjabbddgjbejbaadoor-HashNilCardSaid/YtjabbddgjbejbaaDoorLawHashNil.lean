/- No hasher has nothing, and a zero one is new: for every text, the law HashNil returns true, and its arguments read afterwards as they read before. The tables that the program's text lays are tied to it by the card. No condition. -/
import Derived.Test.YtjabbddgjbejbaaDoorRows
import Derived.WalkKit
import Derived.Below
import Derived.ProofKit
import Derived.OpenShut
import Derived.ShutString
import Derived.ChangeOld
import Derived.Outline
import Derived.RegionTactic
import Derived.ChangeAlike
import Derived.BigRegion
import Derived.BigQuiet
import Derived.Deep.QuietTactic
import Derived.Deep.RegionWith
import Derived.Deep.RegionLaw
import Derived.Deep.RegionHeld3
import Derived.Deep.AppendLies
import Derived.Deep.Draws
import Derived.StillTailTactics
import Derived.Lib.Hide
import Derived.Lib.SmallJoins
import Derived.Handy
import Derived.Stop.BytesEq
import Derived.WalkSpells
import Derived.WalkLawsBesides
import Derived.Deep.LoopGhost
import Derived.Deep.DeepCutAuto
import Derived.Laws.CopyOwn
import Derived.Test.YtjabbddgjbejbaaDoorHashM
namespace Go.Proofs.YtjabbddgjbejbaaDoor.hashNil
open Go.RowKit
def NilS (W : World) (b z : Nat) (x : List UInt8) (w : World) : Prop := w.rangeAt b 0 (bcells x) ∧ Has w z [] ∧ Tabs w ∧ Below W.heap.size W w ∧ b < w.heap.size
theorem NilS.below {W w w' : World} {b z : Nat} {x : List UInt8} (h : NilS W b z x w) (hb : Below w.heap.size w w') : NilS W b z x w' :=
  ⟨range_below h.1 hb h.2.2.2.2, h.2.1.below hb, h.2.2.1.below hb, h.2.2.2.1.trans (hb.mono h.2.2.2.1.size), Nat.lt_of_lt_of_le h.2.2.2.2 hb.size⟩
theorem NilS.drew {W w : World} {b z : Nat} {x : List UInt8} (h : NilS W b z x w) : NilS W b z x w.drew :=
  ⟨h.1, h.2.1, h.2.2.1, h.2.2.2.1.drew, h.2.2.2.2⟩
theorem NilS.undrew {W w w' : World} {b z : Nat} {x : List UInt8} (h : NilS W b z x w.drew) (hb : Below w.drew.heap.size w.drew w') : NilS W b z x w' := h.below hb
section
attribute [local go_sem] eqIn26 guard26 sha_len
set_option maxHeartbeats 4000000 in
set_option maxRecDepth 100000 in
theorem walk (l : List UInt8) (W : World) (ht : Tabs W) (_hl : l.length ≤ maxLen) : Calls Tryd.prog 7 #[.string ⟨l.toArray⟩] W fun e w' => e = .returned (.bool true) ∧ Below W.heap.size W w' := by
  have h1 := ht.2.2
  have z55 := zero55
  have sx : (Tryd.prog.info? 26).map (·.size) = some (bcells (sha [])).length := by rw [bcells_len, sha_len]; exact info26
  go_enter Tryd.func7, Tryd.ntmps7
  go_wp2_with fail
  have hz : Has (W.alloc (.cells hz0.toArray 55)) W.heap.size [] := Has.zero (heap_alloc_new W _)
  have bz : Below W.heap.size W (W.alloc (.cells hz0.toArray 55)) := (Below.refl _ _).alloc (Nat.le_refl _) _
  generalize (W.alloc (.cells hz0.toArray 55)) = w0 at *
  obtain ⟨zb, hzb⟩ : ∃ zb, zb = W.heap.size := ⟨_, rfl⟩
  have HZ := Lib.hid hzb
  rw [← hzb] at hz
  rw [← hzb]
  clear z55 hzb
  refine (short_any l 100 _ (by omega)).mono ?_
  rintro e w1 ⟨rfl, rfl⟩
  have ht100 : (l.take 100).length ≤ 100 := List.length_take_le _ _
  generalize l.take 100 = tx at *
  go_wp2_with fail
  refine (Write_nil tx _).mono ?_
  rintro e w2 ⟨rfl, rfl⟩
  have ht0 := ht.below bz
  go_wp2_with fail
  refine (Of_any none 0 0 [] _ ht0 ⟨rfl, fun h => absurd h (by decide)⟩ (by decide) (by decide)).mono ?_
  rintro e w3 ⟨rfl, h3⟩
  rw [show sha ([] : List (List UInt8)).flatten = sha [] from rfl]
  have H8 := Lib.hid (show (bcells (sha [])).toArray.size = 32 from by simp [bcells, sha_len])
  go_wp2_with (refine wpList_store_row rfl 26 (.tmp 5) (.tmp 13) rfl w3.heap.size (bcells (sha [])).toArray rfl rfl 26 _ (heap_alloc_new w3 _) (by rw [H8.out]; exact info26) (by rw [H8.out]; rfl) (ones_bc _) ?_)
  generalize hw4 : World.setRow _ _ _ = w4
  have r4 : w4.heap[w3.heap.size]? = some (.cells (bcells (sha [])).toArray 26 (0, 0)) := by rw [← hw4]; exact setRow_heap _ _ _ _ _ _ (heap_alloc_new w3 _)
  have h4 : Below w3.heap.size w3 w4 := by rw [← hw4]; exact below_setRow ((Below.refl _ _).alloc (Nat.le_refl _) _) (Nat.le_refl _) _
  have z3 : w3.heap.size < w4.heap.size := by rw [← hw4]; simp
  clear hw4
  have hS : NilS W w3.heap.size zb (sha []) w4 := ⟨range_row r4, (hz.below h3).below h4, (ht0.below h3).below h4, (bz.trans (h3.mono bz.size)).trans (h4.mono (Nat.le_trans bz.size h3.size)), z3⟩
  refine wp_region_held_drew (S := NilS W w3.heap.size zb (sha [])) (by kernel_rfl) hS.drew (fun hHeld => ?_)
  refine wpAnyH_take (i := 2) (oi := _) (v := _) rfl (by kernel_rfl) (by kernel_rfl) (by kernel_rfl) (fun _ _ _ h => h) (yieldsIf_load_mid (by rfl) _ _ rfl _ _ rfl _ _ (fun w h => h.1) Tryd.underlying26 rfl sx) hHeld ?_
  try simp only [Act.put, List.setIfInBounds_toArray, List.set_cons_zero, List.set_cons_succ]
  refine wpAnyH_ready (rs := [0]) (by kernel_rfl) (by simp) ?_
  refine AllReadyH.cons (o := _) rfl (fun K hK => ?_) AllReadyH.nil
  go_simp
  refine hK.out _ _ hHeld (fun _ => ?_)
  clear hK K
  try simp only [Act.put, List.setIfInBounds_toArray, List.set_cons_zero, List.set_cons_succ]
  refine wpAnyH_ready (rs := [1]) (by kernel_rfl) (by simp) ?_
  refine AllReadyH.cons (o := _) rfl (fun K hK => ?_) AllReadyH.nil
  go_simp
  go_at_call 16
  refine (Sum_nil _ hHeld.2.2.1).mono ?_
  rintro e v1 ⟨rfl, g1⟩
  refine hK.out _ _ (hHeld.below g1) (fun hHeld => ?_)
  clear hK K
  try simp only [Act.put, List.setIfInBounds_toArray, List.set_cons_zero, List.set_cons_succ]
  refine wpAnyH_ready (rs := [3]) (by kernel_rfl) (by simp) ?_
  refine AllReadyH.cons (o := _) rfl (fun K hK => ?_) AllReadyH.nil
  go_simp
  refine hK.out _ _ hHeld (fun _ => ?_)
  clear hK K
  try simp only [Act.put, List.setIfInBounds_toArray, List.set_cons_zero, List.set_cons_succ]
  refine wpAnyH_ready (rs := [4]) (by kernel_rfl) (by simp) ?_
  refine AllReadyH.cons (o := _) rfl (fun K hK => ?_) AllReadyH.nil
  go_simp
  refine hK.out _ _ hHeld (fun _ => ?_)
  clear hK K
  try simp only [Act.put, List.setIfInBounds_toArray, List.set_cons_zero, List.set_cons_succ]
  refine wpAnyH_ready (rs := [5]) (by kernel_rfl) (by simp) ?_
  refine AllReadyH.cons (o := _) rfl (fun K hK => ?_) AllReadyH.nil
  go_simp
  refine hK.out _ _ hHeld (fun _ => ?_)
  clear hK K
  try simp only [Act.put, List.setIfInBounds_toArray, List.set_cons_zero, List.set_cons_succ]
  refine wpAnyH_ready (rs := [6]) (by kernel_rfl) (by simp) ?_
  refine AllReadyH.cons (o := _) rfl (fun K hK => ?_) AllReadyH.nil
  go_simp
  go_at_call 17
  refine (Len_nil _).mono ?_
  rintro e v2 ⟨rfl, rfl⟩
  refine hK.out _ _ (hHeld) (fun hHeld => ?_)
  clear hK K
  try simp only [Act.put, List.setIfInBounds_toArray, List.set_cons_zero, List.set_cons_succ]
  refine wpAnyH_ready (rs := [7]) (by kernel_rfl) (by simp) ?_
  refine AllReadyH.cons (o := _) rfl (fun K hK => ?_) AllReadyH.nil
  go_simp
  refine hK.out _ _ hHeld (fun _ => ?_)
  clear hK K
  try simp only [Act.put, List.setIfInBounds_toArray, List.set_cons_zero, List.set_cons_succ]
  refine wpAnyH_ready (rs := [8]) (by kernel_rfl) (by simp) ?_
  refine AllReadyH.cons (o := _) rfl (fun K hK => ?_) AllReadyH.nil
  go_simp
  refine hK.out _ _ hHeld (fun _ => ?_)
  clear hK K
  try simp only [Act.put, List.setIfInBounds_toArray, List.set_cons_zero, List.set_cons_succ]
  refine wpAnyH_ready (rs := [9]) (by kernel_rfl) (by simp) ?_
  refine AllReadyH.cons (o := _) rfl (fun K hK => ?_) AllReadyH.nil
  go_simp
  refine hK.out _ _ hHeld (fun _ => ?_)
  clear hK K
  try simp only [Act.put, List.setIfInBounds_toArray, List.set_cons_zero, List.set_cons_succ]
  refine wpAnyH_take (i := 12) (oi := _) (v := _) rfl (by kernel_rfl) (by kernel_rfl) (by kernel_rfl) (fun _ _ _ h => h) (yieldsIf_load_mid (by rfl) _ _ rfl _ _ rfl _ _ (fun w h => h.1) Tryd.underlying26 rfl sx) hHeld ?_
  try simp only [Act.put, List.setIfInBounds_toArray, List.set_cons_zero, List.set_cons_succ]
  refine wpAnyH_ready (rs := [10]) (by kernel_rfl) (by simp) ?_
  refine AllReadyH.cons (o := _) rfl (fun K hK => ?_) AllReadyH.nil
  go_simp
  refine hK.out _ _ hHeld (fun _ => ?_)
  clear hK K
  try simp only [Act.put, List.setIfInBounds_toArray, List.set_cons_zero, List.set_cons_succ]
  refine wpAnyH_ready (rs := [11]) (by kernel_rfl) (by simp) ?_
  refine AllReadyH.cons (o := _) rfl (fun K hK => ?_) AllReadyH.nil
  go_simp
  go_at_call 16
  refine (Sum_any zb [] _ hHeld.2.2.1 hHeld.2.1 (by decide)).mono ?_
  rintro e v3 ⟨rfl, g3⟩
  refine hK.out _ _ (hHeld.below g3) (fun hHeld => ?_)
  clear hK K
  try simp only [Act.put, List.setIfInBounds_toArray, List.set_cons_zero, List.set_cons_succ]
  refine wpAnyH_ready (rs := [13]) (by kernel_rfl) (by simp) ?_
  refine AllReadyH.cons (o := _) rfl (fun K hK => ?_) AllReadyH.nil
  go_simp
  refine hK.out _ _ hHeld (fun _ => ?_)
  clear hK K
  try simp only [Act.put, List.setIfInBounds_toArray, List.set_cons_zero, List.set_cons_succ]
  refine wpAnyH_ready (rs := [14]) (by kernel_rfl) (by simp) ?_
  refine AllReadyH.cons (o := _) rfl (fun K hK => ?_) AllReadyH.nil
  go_simp
  refine hK.out _ _ hHeld (fun _ => ?_)
  clear hK K
  try simp only [Act.put, List.setIfInBounds_toArray, List.set_cons_zero, List.set_cons_succ]
  refine wpAnyH_ready (rs := [15]) (by kernel_rfl) (by simp) ?_
  refine AllReadyH.cons (o := _) rfl (fun K hK => ?_) AllReadyH.nil
  go_simp
  refine hK.out _ _ hHeld (fun _ => ?_)
  clear hK K
  try simp only [Act.put, List.setIfInBounds_toArray, List.set_cons_zero, List.set_cons_succ]
  refine wpAnyH_take (i := 16) (oi := _) (v := _) rfl (by kernel_rfl) (by kernel_rfl) (by kernel_rfl) (fun _ _ _ h => h) (yieldsIf_load_mid (by rfl) _ _ rfl _ _ rfl _ _ (fun w h => h.1) Tryd.underlying26 rfl sx) hHeld ?_
  try simp only [Act.put, List.setIfInBounds_toArray, List.set_cons_zero, List.set_cons_succ]
  refine wpAnyH_ready (rs := [17]) (by kernel_rfl) (by simp) ?_
  refine AllReadyH.cons (o := _) rfl (fun K hK => ?_) AllReadyH.nil
  go_simp
  refine hK.out _ _ (hHeld.below ((Below.refl _ _).alloc (Nat.le_refl _) _)) (fun hHeld => ?_)
  clear hK K
  try simp only [Act.put, List.setIfInBounds_toArray, List.set_cons_zero, List.set_cons_succ]
  refine wpAnyH_ready (rs := [18]) (by kernel_rfl) (by simp) ?_
  refine AllReadyH.cons (o := _) rfl (fun K hK => ?_) AllReadyH.nil
  go_simp
  go_at_call 11
  refine (Of_any (some ⟨_, 0, none⟩) 1 1 [[]] _ hHeld.2.2.1 (strs_one (heap_alloc_new _ _)) (by decide) (by decide)).mono ?_
  rw [sha_one]
  rintro e v4 ⟨rfl, g4⟩
  refine hK.out _ _ (hHeld.below g4) (fun hHeld => ?_)
  clear hK K
  try simp only [Act.put, List.setIfInBounds_toArray, List.set_cons_zero, List.set_cons_succ]
  refine wpAnyH_ready (rs := [19]) (by kernel_rfl) (by simp) ?_
  refine AllReadyH.cons (o := _) rfl (fun K hK => ?_) AllReadyH.nil
  go_simp
  refine hK.out _ _ hHeld (fun _ => ?_)
  clear hK K
  try simp only [Act.put, List.setIfInBounds_toArray, List.set_cons_zero, List.set_cons_succ]
  refine wpAnyH_ready (rs := [20]) (by kernel_rfl) (by simp) ?_
  refine AllReadyH.cons (o := _) rfl (fun K hK => ?_) AllReadyH.nil
  go_simp
  refine hK.out _ _ hHeld (fun _ => ?_)
  clear hK K
  try simp only [Act.put, List.setIfInBounds_toArray, List.set_cons_zero, List.set_cons_succ]
  refine wpAnyH_done (by kernel_rfl) ?_ _
  obtain ⟨_, hz5, t5, b5, _⟩ := hHeld
  have hzb1 : 1 < zb := by rw [HZ.out]; exact h1
  clear r4 hS hz
  go_wp2_with fail
  refine (Write_any zb [] tx _ t5 hzb1 hz5 (by simp; omega)).mono ?_
  rw [List.nil_append]
  rintro e v5 ⟨rfl, hz6, f5⟩
  have t6 := t5.fr f5 (fun k hk => by simp at hk; omega)
  have b6 := b5.trans (f5.below b5.size (fun k hk => by simp at hk; rw [hk, HZ.out]; exact Nat.le_refl _))
  go_wp2_with fail
  refine (awake_any _ t6).mono ?_
  rintro e v6 ⟨rfl, g6⟩
  have t7 := t6.below g6
  have hz7 := hz6.below g6
  have b7 := b6.trans (g6.mono b6.size)
  go_wp2_with fail
  refine (Sum_any zb tx _ t7 hz7 (by omega)).mono ?_
  rintro e v7 ⟨rfl, g7⟩
  have t8 := t7.below g7
  have hz8 := hz7.below g7
  have b8 := b7.trans (g7.mono b7.size)
  have a9 : Below v7.heap.size v7 (v7.alloc (.cells #[.string ⟨tx.toArray⟩] 9)) := (Below.refl _ _).alloc (Nat.le_refl _) _
  have t9 := t8.below a9
  have b9 := b8.trans (a9.mono b8.size)
  have hz9 := hz8.below a9
  have s9 := strs_one (heap_alloc_new v7 (.cells #[.string ⟨tx.toArray⟩] 9))
  go_wp2_with fail
  refine (Of_any (some ⟨v7.heap.size, 0, none⟩) 1 1 [tx] _ t9 s9 (by decide) (by simp; omega)).mono ?_
  rw [sha_one]
  rintro e v8 ⟨rfl, g8⟩
  have hz10 := hz9.below g8
  have b10 := b9.trans (g8.mono b9.size)
  have hq : (sha tx == sha tx) = true := by simp
  go_wp2_with fail
  refine (Len_any zb tx _ hz10).mono ?_
  rintro e v9 ⟨rfl, rfl⟩
  go_wp2
  go_ret
  exact ⟨rfl, b10⟩
end
open Go.ChangeShapes Go.WideShapes Go.ChangeAt
set_option maxRecDepth 100000 in
theorem lifted (os : Os) (started : os.Started) (H : Type) (enc : TypeId × Value → H) :
    ReturnsInHanded {} Tryd.checked os 7 .any (fun w args => (Rows.hashNilSpec.pre enc Tryd.prog Tryd.f7 [] false w args ∧ laidMetH Tryd.prog laid2 w) ∧ sizedMet enc Tryd.prog Tryd.f7 (OpenSpec.ofChange Rows.hashNilSpec) false w args)
      (Rows.hashNilSpec.post enc Tryd.prog Tryd.f7 false true false false) := by
  refine returnsInHanded_of_change_and (C := Tryd.checked) (X := fun w _ => laidMetH Tryd.prog laid2 w) (fun _ _ _ hh h => h.of_heap hh) own started (by kernel_rfl) Tryd.func7
    (ChangeSpec.witness_shaped (enc := enc) (C := Tryd.checked) (os := os) (X := fun w _ => laidMetH Tryd.prog laid2 w) false (World.doorLaid Tryd.prog 19 os) #[.string ⟨#[]⟩] 8 rfl (World.shaped_of_RefB (by kernel_rfl) (by kernel_rfl)) (by kernel_rfl) (by kernel_rfl) (by kernel_rfl) (door_met os _)) ?_
  intro W base args ds gs before hval0 hW _ _ hL _
  have hval : ∀ (j : Nat) t v, Tryd.f7.params[j]? = some t → args[j]? = some v → Value.okWide Tryd.prog W .any base t v := hval0
  have hW' := hW
  obtain ⟨p, q, hA0, hV, rfl, hfz, hnd⟩ := hW
  have hA : DataW.TrodAll enc Tryd.prog W 0 (fun _ => true) true Tryd.f7.params.toList args.toList ds p := hA0
  rw [Tryd.params7] at hA hval
  obtain ⟨v0, vs0, d0, ds0, p0, q0, hargs, rfl, rfl, h0, r0⟩ := trodAll_cons hA
  obtain ⟨rfl, rfl, rfl⟩ := trodAll_nil r0
  obtain rfl : args = #[v0] := by cases args; simp_all
  obtain ⟨rfl, rfl⟩ := trodVars_none hV
  have k0 := h0
  have lt0 : ∀ x ∈ p0, x.block < W.heap.size := by obtain ⟨m, hm⟩ := k0; exact DataW.trod_lt m _ _ _ hm
  obtain ⟨lx0, rfl, hlx0⟩ := op_str (hval 0 9 v0 rfl rfl) h0
  clear hA0 hval0
  refine (walk lx0 W (tabs_of_laid hL) hlx0).mono fun e W' ⟨he, bel⟩ => ?_
  subst he
  exact ⟨_, rfl, _, _, _, [], _, [], hW', trodAll_mk1 (shut_bool Tryd.underlying4 _), trodAll_cons_mk (Below.trod laidOut (by kernel_rfl) (of_decide_eq_true (by kernel_rfl)) k0 bel lt0) (trodAll_mk0), rfl, bel.frame _, fun h => by cases h⟩

theorem over : Rows.hashNilRow.holds Tryd.pinned (OpenSpec.ofChange Rows.hashNilSpec) :=
  OpenClaim.holds_of_wide 7 Tryd.f7 rfl rfl rfl rfl rfl rfl rfl ⟨rfl, rfl, rfl, rfl, rfl⟩ rfl rfl rfl rfl rfl (by kernel_rfl) Tryd.func7 (by kernel_rfl)
    (of_decide_eq_true (by kernel_rfl)) (by unfold Func.isWrapper; first | (rw [if_pos (by decide +kernel)]; kernel_rfl) | (rw [if_neg (by decide +kernel)]; exact ⟨rfl, rfl⟩))
    (fun os started H enc _ => lifted os started H enc)

/-- The tied card. -/
theorem proved : Rows.HashNilCardSaid :=
  Claim7.holds_tied_plain_at .later [] [.data, .data] true (true, "03d2147273bc31851921d1247ff289d037061bb95fe5285976d93eb25e02cce8") false
    over (fun _ h => by cases h) (by kernel_rfl) (fun _ h => by cases h) hashNil_row_tie rfl ⟨rfl, rfl⟩ (by kernel_rfl) rfl
    (fun f fn hf hfn => by
      obtain rfl : f = 7 := Option.some.inj ((show Tryd.prog.funcNamed "twinspan/twinspanlaw02.HashNil" = some 7 by kernel_rfl).symm.trans hf) |>.symm
      obtain rfl : fn = Tryd.f7 := (Option.some.inj (Tryd.func7.symm.trans hfn)).symm
      exact ⟨by kernel_rfl, fun j t ht => by
        rw [Tryd.params7] at ht
        rcases j with _ |  j
        · obtain rfl : 9 = t := by simpa using ht
          exact (show Tryd.prog.wantsStandIn 9 = false by kernel_rfl)
        · simp at ht⟩)
    (by kernel_rfl)
end Go.Proofs.YtjabbddgjbejbaaDoor.hashNil
