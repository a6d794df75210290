/- The program's device: keep. -/
import Derived.Test.YtnpoohkklfpmdaaGreatRows
import Derived.WalkKit
import Derived.Below
import Derived.ProofKit
import Derived.OpenShut
import Derived.ShutString
import Derived.ChangeOld
import Derived.Outline
import Derived.RegionTactic
import Derived.ChangeAlike
import Derived.BigRegion
import Derived.BigQuiet
import Derived.Deep.QuietTactic
import Derived.Deep.RegionWith
import Derived.Deep.RegionLaw
import Derived.Deep.RegionHeld3
import Derived.Deep.AppendLies
import Derived.Deep.Draws
import Derived.StillTailTactics
import Derived.Lib.Hide
import Derived.Lib.SmallJoins
import Derived.Handy
import Derived.WalkSpells
import Derived.WalkLawsBesides
import Derived.Deep.LoopGhost
import Derived.Deep.DeepCutAuto
import Derived.Deep.CutBlock
import Derived.Deep.CutRange
import Derived.Deep.OwnRows
import Derived.Laws.CopyOwn
import Derived.Test.YtnpoohkklfpmdaaGreatDevPD
import Derived.Test.YtnpoohkklfpmdaaGreatIntsEq
namespace Go.Proofs.YtnpoohkklfpmdaaGreat
open Go.RowKit
set_option maxRecDepth 100000
set_option linter.unusedSimpArgs false
set_option linter.unusedVariables false
set_option linter.unnecessarySimpa false
/-- A sector with the first bytes of another one. -/
def tornS (c : Nat) (s old : List UInt8) : List UInt8 := s.take c ++ old.drop c
theorem tornS_len {c : Nat} {s old : List UInt8} (hc : c ≤ 64) (h1 : s.length = 64) (h2 : old.length = 64) : (tornS c s old).length = 64 := by simp [tornS, h1, h2]; omega
theorem bcells_ints (l : List UInt8) : bcells l = (l.map (fun b => (b.toNat : Int))).map (Value.int .u8) := by simp [bcells]
theorem ints_inj {a b : List UInt8} (h : a.map (fun b => (b.toNat : Int)) = b.map (fun b => (b.toNat : Int))) : a = b := bcells_inj (by rw [bcells_ints, bcells_ints, h])
theorem secEq (a b : List UInt8) (ha : a.length = 64) (hb : b.length = 64) (w : World) : (binOp .eql 88 (secV a) (secV b)).run Tryz.prog w = .ok (.bool (decide (a = b))) w := by
  obtain ⟨i0, hi, _, hz1, _⟩ := info_parts info8d
  have hu : Tryz.prog.underlying 88 = some (.array 64 5) := Tryz.underlying88
  have := eql_ints (P := Tryz.prog) w .u8 88 5 64 i0 hu Tryz.underlying5 hi (by kernel_rfl) (a.map (fun b => (b.toNat : Int))) (b.map (fun b => (b.toNat : Int))) (by simp [ha]) (by simp [hb])
  rw [secV, secV, bcells_ints, bcells_ints, this]
  congr 2
  by_cases h : a = b
  · subst h; simp
  · rw [decide_eq_false h]
    simp only [beq_eq_false_iff_ne]
    exact fun e => h (ints_inj e)
theorem builtZ (w : World) : (Instr.build 88 #[]).run Tryz.prog w = .ok (secV zsec) w := by kernel_rfl
theorem keep_end {bm bl l p j : Nat} {uw : Value} {d : Dv} {w wd we : World} {f : Tell} {x : List UInt8} (hD : PDs wd bm bl uw l p d) (bD : Below w.heap.size w wd) (ft : Fr [bm] wd.drew we) (hm : Mp Tryz.prog 3 we bm f) (hx : Sf (d.safe.set j x) f) :
    PDs we bm bl uw l p { d with safe := d.safe.set j x } ∧ Fr [bm] w we := by
  have ft' : Fr [bm] wd we := ⟨ft.os, ft.tape, ft.output, ft.size, ft.block⟩
  obtain ⟨g, hg, hg'⟩ := hD.lm
  refine ⟨⟨?_, ?_, ⟨f, hm, hx⟩, ⟨g, hg.fr ft' (by have := hD.ne; simp; omega), ?_⟩, hD.ne, hD.lf⟩, (Fr.of_below bD).trans ft'⟩
  · have := hD.row.fr ft' (by have := hD.mp; simp; omega)
    simpa [pcs] using this
  · exact own_frame hD.wts ft' (fun k hk e => hD.mw (by rw [hk, List.mem_singleton.1 e]))
  · simp only [List.length_set]; exact hg'
theorem secGuard : Tryz.prog.eqGuardType Tryz.prog.depth 88 = false := by kernel_rfl
set_option maxHeartbeats 2000000 in
theorem pKeep_any {bm bl l p : Nat} {uw : Value} {d : Dv} (j : Nat) (s old : List UInt8) (c : Nat) (w : World) (h : PDs w bm bl uw l p d) (hd : d.safe.length ≤ 4096) (ho : d.safe[j]? = some old) (hol : old.length = 64) (hs : s.length = 64) (hc : c ≤ 64) :
    Calls Tryz.prog 33 #[.pointer (some ⟨p, 0, none⟩), .agg #[.int .i64 (j : Nat), .string ⟨s.toArray⟩], .int .i64 (c : Nat)] w fun e w' => e = .returned (.tuple #[]) ∧ PDs w' bm bl uw l p { d with safe := d.safe.set j (tornS c s old) } ∧ Fr [bm] w w' := by
  have hj : j < d.safe.length := by
    rcases Nat.lt_or_ge j d.safe.length with q | q
    · exact q
    · rw [List.getElem?_eq_none q] at ho; cases ho
  obtain ⟨f, hf, hf'⟩ := h.sm
  have hv := hf'.at_ _ _ ho
  have hlk : ∀ W : World, Mp Tryz.prog 3 W bm f → (Instr.lookup 60 (.map (some bm)) (.int .i64 (j : Nat)) false).run Tryz.prog W = .ok (secV old) W := by
    intro W hW
    have := hW.look keyI Tryz.underlying60 (congrFun zsecZ W) (keyAt j (by omega))
    rw [this]
    exact congrArg (fun x => Result.ok x W) hv
  go_enter Tryz.func33, Tryz.ntmps33
  go_upto_region 1 with (fail)
  generalize hwa : World.alloc _ _ = wa
  have ra : Rw wa w.heap.size [.int .i64 (j : Nat), .string ⟨s.toArray⟩] 74 := by rw [← hwa]; exact Rw.new w _ _
  have ba : Below w.heap.size w wa := by rw [← hwa]; exact (Below.refl _ _).alloc (Nat.le_refl _) _
  have ha := h.below ba
  have hfa := hf.below ba
  obtain ⟨q, hq⟩ : ∃ q, q = w.heap.size := ⟨_, rfl⟩
  rw [← hq] at ra
  rw [← hq]
  have HQ := Lib.hid hq
  clear hwa hq hv
  obtain ⟨Z, hZ⟩ : ∃ Z, Z = (bcells zsec).toArray := ⟨_, rfl⟩
  obtain ⟨O, hO⟩ : ∃ O, O = (bcells old).toArray := ⟨_, rfl⟩
  have hz : ∀ w, (zeroValue 88).run Tryz.prog w = .ok (.agg Z) w := by intro w; rw [hZ]; exact congrFun zsecZ w
  have hzl : Z.size = O.size := by rw [hZ, hO]; simp [bcells_len, hol, zsec]
  have hO1 : O.all (·.oneCell') = true := by rw [hO]; simpa using bcells_one old
  have hOs : (Tryz.prog.info? 88).map (·.size) = some O.size := by rw [hO]; simp [bcells_len, hol, szSec]
  rw [show secV old = .agg O from by rw [hO]; rfl] at hlk
  have HZ := Lib.hid hZ
  have HO := Lib.hid hO
  clear hZ hO
  go_cut [6] (fun u w' => u = .pointer (some ⟨wa.heap.size, 0, none⟩) ∧ Rw w' wa.heap.size (bcells old) 88 ∧ Below wa.heap.size wa w')
  case first =>
    have c1 := ha.row.c 1 rfl
    have lt1 := ha.row.lt
    have d0 := ra.c 0 rfl
    have lt0 := ra.lt
    have hlk1 := hlk wa.drew hfa
    have hlk2 := hlk (wa.alloc (.cells Z 88)).drew (hfa.alloc _)
    clear hlk
    obtain ⟨w3, hst, hr3, g3⟩ : ∃ w3, (storeCells ⟨wa.heap.size, 0, none⟩ O.toList).run Tryz.prog (wa.alloc (.cells Z 88)).drew = .ok () w3 ∧ Rw w3 wa.heap.size (bcells old) 88 ∧ Below wa.heap.size wa w3 := by
      have hn : (wa.alloc (.cells Z 88)).drew.heap[wa.heap.size]? = some (.cells Z 88 (0, 0)) := heap_alloc_new wa _
      have hl : Z.size = O.toList.length := by simpa using hzl
      refine ⟨_, run_storeCells_at Tryz.prog wa.heap.size 0 88 O.toList 0 Z _ hn (by simp; omega) (by rw [HO.out, List.toList_toArray]; exact bcells_one old), ?_, ?_⟩
      · have := setRow_heap (wa.alloc (.cells Z 88)).drew wa.heap.size Z O 88 (0, 0) hn
        rw [show (List.take (0 + 0) Z.toList ++ O.toList ++ List.drop (0 + 0 + O.toList.length) Z.toList).toArray = O from by rw [List.drop_of_length_le (by rw [Array.length_toList]; omega)]; simp]
        rw [HO.out] at this ⊢
        exact this
      · exact (((Below.refl _ _).alloc (Nat.le_refl _) _).drew).trans ((fr_setRow _ _ _).below (by simp) (fun k hk => by simp at hk; omega))
    have hO64 : O.size = 64 := by rw [HO.out]; simp [bcells_len, hol]
    clear hOs hzl hO1
    go_region_with (fail)
    all_goals
      go_wp2
      go_meet
      case rel => exact ⟨rfl, hr3, g3⟩
  case rest =>
  obtain ⟨rfl, rb, bb⟩ := hcut
  apply_assumption
  clear hz hlk hO1 hOs hzl HZ HO
  have hC := ha.keep (fun b hb => bb.block b (ha.lt b hb))
  have fC := hfa.below bb
  have qC := ra.below bb
  have bC := ba.trans (bb.mono ba.size)
  obtain ⟨gs, hgs⟩ : ∃ gs, gs = wa.heap.size := ⟨_, rfl⟩
  have gsq : gs ≠ q := by have := ra.lt; omega
  have gsp : gs ≠ p := by have := ha.row.lt; omega
  have gsE : ∀ b ∈ p :: bm :: bl :: blk uw, b ≠ gs := fun b hb => by have := ha.lt b hb; omega
  have gsW : w.heap.size ≤ gs := by have := ba.size; omega
  rw [← hgs] at rb
  rw [← hgs]
  clear hgs ba ha hfa ra bb
  have cI : (c : Int) ≤ 64 := by omega
  have q0 := qC.c 0 rfl
  have q1 := qC.c 1 rfl
  have hE := tornS_len hc hs hol
  obtain ⟨X, hX⟩ : ∃ X, X = (bcells (tornS c s old)).toArray := ⟨_, rfl⟩
  obtain ⟨Y, hY⟩ : ∃ Y, Y = (bcells zsec).toArray := ⟨_, rfl⟩
  have hXs : (Tryz.prog.info? 88).map (·.size) = some X.size := by rw [hX]; simp [bcells_len, hE, szSec]
  have hbd : ∀ w, (Instr.build 88 #[]).run Tryz.prog w = .ok (.agg Y) w := by intro w; rw [hY]; exact builtZ w
  obtain ⟨b, hb⟩ : ∃ b, b = decide (tornS c s old = zsec) := ⟨_, rfl⟩
  have heq : ∀ w, (binOp .eql 88 (.agg X) (.agg Y)).run Tryz.prog w = .ok (.bool b) w := by
    intro w; rw [hX, hY, hb]; exact secEq _ _ hE (by simp [zsec]) w
  have hcopy : (bcells old).take 0 ++ (bcells (s.take c) ++ (bcells old).drop (0 + c)) = bcells (tornS c s old) := by
    rw [tornS, bcells_append]; simp [bcells]
  have HB := Lib.hid hb
  have HX := Lib.hid hX
  have HC := Lib.hid hcopy
  clear hY hX hb hcopy
  cases b with
  | true =>
    go_wp2_with fail
    go_still_tail 4, (by kernel_rfl)
    change wpList _ _ _ _ _ wc.drew
    go_wp2_with (first
      | (refine wpList_copy_to rfl (.tmp 15) (.tmp 17) 43 9 rfl 5 Tryz.underlying43 (by kernel_rfl) gs 0 c 64 c s rfl rfl (bcells old) 88 rb (by rw [hs]; exact (Nat.min_eq_right hc).symm) (by rw [bcells_len, hol]; omega) ?_; intro wd rd0 fd; have rd : wd.heap[gs]? = some (.cells X 88 (0, 0)) := by rw [HX.out, ← HC.out]; exact rd0)
      | (refine wpList_load_row rfl 88 (.tmp 6) rfl gs rfl 88 X (0, 0) _ rd Tryz.underlying88 rfl hXs ?_)
      | (refine wpList_zero rfl 88 rfl (.agg Y) (hbd _) ?_)
      | (refine wpList_bin rfl .eql 88 88 (.tmp 19) (.tmp 20) rfl (.agg X) (.agg Y) (.bool true) rfl rfl (run_eqGuard_agg _ _ _ _ _ _ secGuard) (heq _) ?_))
    have hD : PDs wd bm bl uw l p d := (hC.keep (fun _ _ => rfl) : PDs wc.drew bm bl uw l p d).keep (fun b hb => fd.block b (hC.lt b hb) (by simpa using gsE b hb))
    have fD : Mp Tryz.prog 3 wd bm f := (show Mp Tryz.prog 3 wc.drew bm f from fC).fr fd (by have := gsE bm (by simp); simpa using this)
    have qD : Rw wd q [.int .i64 (j : Nat), .string ⟨s.toArray⟩] 74 := (show Rw wc.drew q _ _ from qC).fr fd (by simpa using Ne.symm gsq)
    have bD : Below w.heap.size w wd := bC.trans ((below_drewN (Below.refl _ wc) 1).trans (fd.below bC.size (fun k hk => by simp at hk; omega)))
    clear hC fC qC bC rd0 fd q0 q1 rb hbd heq HC
    have q0 := qD.c 0 rfl
    have c1 := hD.row.c 1 rfl
    obtain ⟨g, hg, hg'⟩ := hD.lm
    go_wp2_with fail
    go_still_tail 6, (by kernel_rfl)
    change wpList _ _ _ _ _ wd.drew
    go_wp2_with (at_delete; refine wpList_drop _ rfl (.tmp 25) (.tmp 27) 60 3 rfl 88 keyI Tryz.underlying60 bm f rfl (show Mp Tryz.prog 3 wd.drew bm f from fD) _ (ikey j) rfl (keyAt j (by omega)) ?_; intro we hm ht)
    simp only [Act.put]
    refine bodyPost_ret (results_none rfl _ _ _) rfl ?_
    have e : tornS c s old = zsec := of_decide_eq_true HB.out.symm
    have ft := mapTurned_fr ht
    have hx := hf'.del hj
    rw [← e] at hx
    exact ⟨rfl, keep_end hD bD ft hm hx⟩
  | false =>
    go_wp2_with fail
    go_still_tail 4, (by kernel_rfl)
    change wpList _ _ _ _ _ wc.drew
    go_wp2_with (first
      | (refine wpList_copy_to rfl (.tmp 15) (.tmp 17) 43 9 rfl 5 Tryz.underlying43 (by kernel_rfl) gs 0 c 64 c s rfl rfl (bcells old) 88 rb (by rw [hs]; exact (Nat.min_eq_right hc).symm) (by rw [bcells_len, hol]; omega) ?_; intro wd rd0 fd; have rd : wd.heap[gs]? = some (.cells X 88 (0, 0)) := by rw [HX.out, ← HC.out]; exact rd0)
      | (refine wpList_load_row rfl 88 (.tmp 6) rfl gs rfl 88 X (0, 0) _ rd Tryz.underlying88 rfl hXs ?_)
      | (refine wpList_zero rfl 88 rfl (.agg Y) (hbd _) ?_)
      | (refine wpList_bin rfl .eql 88 88 (.tmp 19) (.tmp 20) rfl (.agg X) (.agg Y) (.bool false) rfl rfl (run_eqGuard_agg _ _ _ _ _ _ secGuard) (heq _) ?_))
    have hD : PDs wd bm bl uw l p d := (hC.keep (fun _ _ => rfl) : PDs wc.drew bm bl uw l p d).keep (fun b hb => fd.block b (hC.lt b hb) (by simpa using gsE b hb))
    have fD : Mp Tryz.prog 3 wd bm f := (show Mp Tryz.prog 3 wc.drew bm f from fC).fr fd (by have := gsE bm (by simp); simpa using this)
    have qD : Rw wd q [.int .i64 (j : Nat), .string ⟨s.toArray⟩] 74 := (show Rw wc.drew q _ _ from qC).fr fd (by simpa using Ne.symm gsq)
    have bD : Below w.heap.size w wd := bC.trans ((below_drewN (Below.refl _ wc) 1).trans (fd.below bC.size (fun k hk => by simp at hk; omega)))
    clear hC fC qC bC rd0 fd q0 q1 rb hbd heq HC
    have q0 := qD.c 0 rfl
    have c1 := hD.row.c 1 rfl
    obtain ⟨g, hg, hg'⟩ := hD.lm
    have hlv1 := run_loadVar_row (P := Tryz.prog) wd gs 88 88 X (0, 0) _ rd Tryz.underlying88 rfl hXs
    have hlv2 := run_loadVar_row (P := Tryz.prog) wd.drew gs 88 88 X (0, 0) _ rd Tryz.underlying88 rfl hXs
    go_wp2_with fail
    refine wp_region_still_tail 7 (by kernel_rfl) (by kernel_rfl) ?_
    simp only [List.take_succ_cons, List.take_zero, List.drop_succ_cons, List.drop_zero]
    iterate 6 still_step
    refine still_load_row rfl 88 (.tmp 6) rfl gs X rfl hlv2 ?_
    refine wpStill_nil ?_
    change wpList _ _ _ _ _ wd.drew
    go_wp2_with (at_mapUpdate; refine wpList_store _ rfl (.tmp 31) (.tmp 33) (.tmp 34) 60 rfl 3 88 keyI Tryz.underlying60 bm f rfl (show Mp Tryz.prog 3 wd.drew bm f from fD) ((List.range d.safe.length).map (fun k : Nat => ikey k)) (by simp [maxLen]; omega) (sup_mem hf'.sup) _ (.agg X) (ikey j) rfl rfl (keyAt j (by omega)) ?_; intro we hm ht)
    go_end0
    have ft := mapTurned_fr ht
    have hx := hf'.put hj (tornS c s old)
    rw [show secV (tornS c s old) = .agg X from by rw [HX.out]; rfl] at hx
    exact ⟨rfl, keep_end hD bD ft hm hx⟩
end Go.Proofs.YtnpoohkklfpmdaaGreat
