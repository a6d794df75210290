/- The program's device: Read, Waiting. -/
import Derived.Test.YtnpoohkklfpmdaaGreatRows
import Derived.WalkKit
import Derived.Below
import Derived.ProofKit
import Derived.OpenShut
import Derived.ShutString
import Derived.ChangeOld
import Derived.Outline
import Derived.RegionTactic
import Derived.ChangeAlike
import Derived.BigRegion
import Derived.BigQuiet
import Derived.Deep.QuietTactic
import Derived.Deep.RegionWith
import Derived.Deep.RegionLaw
import Derived.Deep.RegionHeld3
import Derived.Deep.AppendLies
import Derived.Deep.Draws
import Derived.StillTailTactics
import Derived.Lib.Hide
import Derived.Lib.SmallJoins
import Derived.Handy
import Derived.WalkSpells
import Derived.WalkLawsBesides
import Derived.Deep.LoopGhost
import Derived.Deep.DeepCutAuto
import Derived.Deep.CutBlock
import Derived.Deep.CutRange
import Derived.Deep.OwnRows
import Derived.Laws.CopyOwn
import Derived.Test.YtnpoohkklfpmdaaGreatDevPB
import Derived.Test.YtnpoohkklfpmdaaGreatDevDoc
namespace Go.Proofs.YtnpoohkklfpmdaaGreat
open Go.RowKit
set_option maxRecDepth 100000
set_option linter.unusedSimpArgs false
set_option linter.unusedVariables false
set_option linter.unnecessarySimpa false
theorem wrs_one (ws : List (Nat × List UInt8)) : ∀ v ∈ wrs ws, v.oneCell' = true := by
  intro v hv
  obtain ⟨y, _, hy⟩ := List.mem_flatMap.1 hv
  simp only [List.mem_cons, List.not_mem_nil, or_false] at hy
  rcases hy with rfl | rfl <;> rfl
theorem zeroI : (zeroValue 3).run Tryz.prog = fun w => .ok (.int .i64 0) w := by
  funext w
  kernel_rfl
set_option maxHeartbeats 2000000 in
theorem pRead_any {bm bl l p : Nat} {uw : Value} {d : Dv} (k : Int) (w : World) (h : PDs w bm bl uw l p d) (hd : d.Few) (ho : d.Ok) : Calls Tryz.prog 45 #[.pointer (some ⟨p, 0, none⟩), .int .i64 k] w fun e w' => e = .returned (.tuple #[.string ⟨(readD d k).1.toArray⟩, .int .i64 (readD d k).2]) ∧ Below w.heap.size w w' := by
  have c0 := h.row.c 0 rfl
  have c2 := h.row.c 2 rfl
  have c3 := h.row.c 3 rfl
  have hready := pReady_any (h.row.c 4 rfl)
  have hcall := pHas_any k c0
  rw [← has_iff] at hcall
  clear c0
  cases hon : d.on with
  | false =>
    rw [hon] at hready
    have e : readD d k = ([], 14) := by unfold readD; rw [hon]; rfl
    rw [e]
    clear e hon hcall c2 c3 h hd ho
    go_enter Tryz.func45, Tryz.ntmps45
    go_wp2_with fail
    refine hready.mono ?_
    rintro e w1 ⟨rfl, rfl⟩
    go_wp2
    go_ret2
    exact ⟨rfl, Below.refl _ _⟩
  | true =>
    rw [hon] at hready
    cases hk : d.has k with
    | false =>
      rw [hk] at hcall
      have e : readD d k = ([], 1) := by unfold readD; rw [hon, if_pos rfl, if_neg (by simp [hk])]
      rw [e]
      clear e hon hk c2 c3 h hd ho
      go_enter Tryz.func45, Tryz.ntmps45
      go_wp2_with fail
      refine hready.mono ?_
      rintro e w1 ⟨rfl, rfl⟩
      go_wp2_with fail
      refine hcall.mono ?_
      rintro e w1 ⟨rfl, rfl⟩
      go_wp2
      go_ret2
      exact ⟨rfl, Below.refl _ _⟩
    | true =>
      rw [hk] at hcall
      obtain ⟨k0, k1⟩ := Dv.has_lt hk
      have hsafe := pSafe_any k w h hd ho
      have hsd : safeD d k = d.safe.getD k.toNat [] := by unfold safeD; rw [hk, if_pos rfl]
      have er : readD d k = (lastW d.waits k.toNat (d.safe.getD k.toNat []), 0) := by unfold readD; rw [hon, if_pos rfl, if_pos hk]
      obtain ⟨g, hg, hg'⟩ := h.lm
      have hk4 := hd.safe
      have hw4 := hd.waits
      have hlk := hg.look_ok keyI Tryz.underlying61 (congrFun zeroI w) (keyAt k (by omega))
      have hkn : ikey k = ikey ((k.toNat : Nat) : Int) := by rw [Int.toNat_of_nonneg k0]
      rw [hkn] at hlk
      rcases hg'.at_ _ k1 with ⟨h1, h2⟩ | ⟨i, y, h1, h2, h3⟩
      · rw [h1] at hlk
        rw [er, h2, ← hsd]
        simp only [Option.getD_none, Option.isSome_none] at hlk
        clear er hsd hkn h1 h2 hg hg' hk hon h hd ho k0 k1 hk4 hw4
        go_enter Tryz.func45, Tryz.ntmps45
        go_wp2_with fail
        refine hready.mono ?_
        rintro e w1 ⟨rfl, rfl⟩
        go_wp2_with fail
        refine hcall.mono ?_
        rintro e w1 ⟨rfl, rfl⟩
        clear hready hcall
        go_wp2_with fail
        refine hsafe.mono ?_
        rintro e w1 ⟨rfl, g1⟩
        go_wp2
        go_ret2
        exact ⟨rfl, g1⟩
      · rw [h1] at hlk
        rw [er, h3]
        simp only [Option.getD_some, Option.isSome_some] at hlk
        obtain ⟨yi, ys⟩ := y
        obtain ⟨a1, a2⟩ := wrs_at d.waits i (yi, ys) h2
        obtain ⟨g3, cap3, rfl, hc3, _, _, cb, _⟩ := own_cell h.wts a2
        have hi : i < d.waits.length := by
          rcases Nat.lt_or_ge i d.waits.length with q | q
          · exact q
          · rw [List.getElem?_eq_none q] at h2; cases h2
        obtain ⟨n, hn⟩ : ∃ n, n = d.waits.length := ⟨_, rfl⟩
        rw [← hn] at hi c2 hc3 hw4
        have hiI : (i : Int) < n := by omega
        clear er hsd hkn h1 h2 h3 hg hg' hk hon h hd ho k0 k1 hk4 hsafe a1 a2 hn
        go_enter Tryz.func45, Tryz.ntmps45
        go_wp2_with fail
        refine hready.mono ?_
        rintro e w1 ⟨rfl, rfl⟩
        go_wp2_with fail
        refine hcall.mono ?_
        rintro e w1 ⟨rfl, rfl⟩
        clear hready hcall
        go_wp2
        go_ret2
        exact ⟨rfl, Below.refl _ _⟩
set_option maxHeartbeats 1000000 in
theorem pWaiting_any {bm bl l p : Nat} {uw : Value} {d : Dv} (w : World) (h : PDs w bm bl uw l p d) (hd : d.Few) : Calls Tryz.prog 18 #[.pointer (some ⟨p, 0, none⟩)] w fun e w' => (∃ a c, e = .returned (.slice a d.waits.length c) ∧ d.waits.length ≤ c ∧ WritAt w' a d.waits.length d.waits) ∧ Below w.heap.size w w' := by
  have c2 := h.row.c 2 rfl
  have hp := h.row.lt
  obtain ⟨A, cp, rfl⟩ := own_form h.wts
  have hw := h.wts
  obtain ⟨ws, hws⟩ : ∃ ws, ws = d.waits := ⟨_, rfl⟩
  have hn4 := hd.waits
  rw [← hws] at c2 hw hn4 ⊢
  obtain ⟨n, hn⟩ : ∃ n, n = ws.length := ⟨_, rfl⟩
  rw [← hn] at c2 hw hn4 ⊢
  obtain ⟨i0, hi, hz0, hz1, hz2⟩ := info_parts infoW
  have hsz : (Tryz.prog.info? 74).map (·.size) = some 2 := by rw [hi]; simp [hz1]
  obtain ⟨cur, hcur⟩ : ∃ cur, cur = (madeCells #[.int .i64 0, .string ⟨#[]⟩] (n * 2)) := ⟨_, rfl⟩
  have hcs : cur.size = n * 2 := by rw [hcur, size_madeCells]
  have hmk : ∀ W : World, (Instr.makeSlice 46 (.int .i64 (n : Nat)) (.int .i64 (n : Nat))).run Tryz.prog W = .ok (.slice (some ⟨W.heap.size, 0, none⟩) n n) (W.alloc (.cells cur 74)) := fun W => by
    have := run_make (P := Tryz.prog) W 46 74 i0 (.agg #[.int .i64 0, .string ⟨#[]⟩]) Tryz.underlying46 hi hz0 .i64 .i64 (n : Int) (n : Int) (by omega) (by omega) (by rw [hz2]; omega) (by omega)
    rw [this, hz1, hcur]
    simp [Value.cells]
  have hcp : ∀ ty, ∃ w2, (Builtin.copy_ #[46, 46] ty #[.slice (some ⟨w.heap.size, 0, none⟩) n n, .slice A n cp]).run Tryz.prog (w.alloc (.cells cur 74)) = .ok (goInt n) w2 ∧ WritAt w2 (some ⟨w.heap.size, 0, none⟩) n ws ∧ Below w.heap.size w w2 := by
    intro ty
    rcases Nat.eq_zero_or_pos n with h0 | h0
    · rw [h0]
      exact ⟨_, run_copy_rows0 _ _ _ ty 74 2 _ _ 0 0 0 cp Tryz.underlying46 hsz rfl, ⟨by omega, fun h => absurd h (by omega)⟩, (Below.refl _ _).alloc (Nat.le_refl _) _⟩
    · obtain ⟨v0, hv0⟩ : ∃ v, (wrs ws)[0]? = some v := ⟨_, List.getElem?_eq_getElem (by rw [wrs_len]; omega)⟩
      obtain ⟨g, cap, e, hcap, _, _, _, _⟩ := own_cell hw hv0
      simp only [Value.slice.injEq] at e
      obtain ⟨rfl, _, rfl⟩ := e
      have hrow : Rw (w.alloc (.cells cur 74)) w.heap.size cur.toList 74 := by
        have := Rw.new w cur.toList 74
        rwa [Array.toArray_toList] at this
      have hwl := wrs_len ws
      have hr := run_copy_rows (P := Tryz.prog) (w.alloc (.cells cur 74)) 46 46 ty 74 2 w.heap.size 0 n n ⟨g, 0, none⟩ n cp cur 74 (wrs ws) Tryz.underlying46 hsz (by unfold Rw at hrow; rwa [Array.toArray_toList] at hrow) (by rw [hwl, hn]; rw [show ∀ a : Nat, Nat.min a a = a from Nat.min_self])
        (fun j v hj => (hw.alloc _).cells rfl j v hj) (by rw [hcs, hwl, hn]; omega) (wrs_one ws)
      rw [show Nat.min n n = n from Nat.min_self n, show (cur.toList.take 0 ++ wrs ws ++ cur.toList.drop (0 + (wrs ws).length)) = wrs ws from by rw [List.drop_of_length_le (by rw [Array.length_toList, hcs, hwl, hn]; omega)]; simp] at hr
      have hrow2 := hrow.setRow (cs := wrs ws)
      refine ⟨_, hr, ⟨hn.symm, fun _ => ⟨_, 0, rfl, hrow2.lt, fun k y hy => ?_⟩⟩, ((Below.refl _ _).alloc (Nat.le_refl _) _).trans ((fr_setRow _ _ _).below (by simp) (fun k hk => by simp at hk; omega))⟩
      obtain ⟨q1, q2⟩ := wrs_at ws k y hy
      rw [Nat.zero_add]
      exact ⟨hrow2.c _ q1, hrow2.c _ q2⟩
  obtain ⟨w2, hr2, hW2, hB2⟩ := hcp 3
  clear hcp hi hz0 hz1 hz2 hsz hcur hcs hn hws hw h hd
  go_enter Tryz.func18, Tryz.ntmps18
  go_wp2
  go_ret
  exact ⟨⟨_, _, rfl, Nat.le_refl _, hW2⟩, hB2⟩
end Go.Proofs.YtnpoohkklfpmdaaGreat
