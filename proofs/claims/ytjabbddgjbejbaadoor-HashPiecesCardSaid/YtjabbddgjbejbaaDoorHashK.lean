import Derived.Test.YtjabbddgjbejbaaDoorRows
import Derived.WalkKit
import Derived.Below
import Derived.ProofKit
import Derived.OpenShut
import Derived.ShutString
import Derived.ChangeOld
import Derived.Outline
import Derived.RegionTactic
import Derived.ChangeAlike
import Derived.BigRegion
import Derived.BigQuiet
import Derived.Deep.QuietTactic
import Derived.Deep.RegionWith
import Derived.Deep.RegionLaw
import Derived.Deep.RegionHeld3
import Derived.Deep.AppendLies
import Derived.Deep.Draws
import Derived.StillTailTactics
import Derived.Lib.Hide
import Derived.Lib.SmallJoins
import Derived.Handy
import Derived.Deep.MidRow
import Derived.Stop.BytesEq
import Derived.WalkSpells
import Derived.WalkLawsBesides
import Derived.Deep.LoopGhost
import Derived.Deep.DeepCutAuto
import Derived.Laws.CopyOwn
import Derived.Test.YtjabbddgjbejbaaDoorHashJ
namespace Go.Proofs.YtjabbddgjbejbaaDoor
open Go.RowKit
set_option linter.unusedSimpArgs false
set_option linter.unusedVariables false
theorem load26 (w : World) (g : Nat) (x : List UInt8) (t : TypeId) (fr : Nat × Nat) (hx : x.length = 32) (h : w.heap[g]? = some (.cells (bcells x).toArray t fr)) :
    (Instr.loadAt 26 (.pointer (some ⟨g, 0, none⟩))).run Tryd.prog w = .ok (aggB x) w := by
  have := run_loadVar_row (P := Tryd.prog) w g t 26 _ fr _ h Tryd.underlying26 rfl (by simp [bcells, hx, info26])
  simp only [Instr.loadAt, Instr.sureAddr, Sem.run_bind, Sem.run_pure, Result.andThen_ok, this]
theorem sz1 (w : World) : (sizeOf 5).run Tryd.prog w = .ok 1 w := by kernel_rfl
theorem eql26 (w : World) (x y : List UInt8) (hx : x.length = 32) (hy : y.length = 32) : (binOp .eql 26 (aggB x) (aggB y)).run Tryd.prog w = .ok (.bool (x == y)) w :=
  run_eql_bytes w 26 5 32 Tryd.underlying26 Tryd.underlying5 sz1 x y hx hy
theorem neq26 (w : World) (x y : List UInt8) (hx : x.length = 32) (hy : y.length = 32) : (binOp .neq 26 (aggB x) (aggB y)).run Tryd.prog w = .ok (.bool (!(x == y))) w := by
  have := run_equalIn_bytes (P := Tryd.prog) w 9998 26 5 32 Tryd.underlying26 Tryd.underlying5 sz1 x y hx hy
  show (binOp .neq 26 (.agg (x.map Extern.Stop.cell).toArray) (.agg (y.map Extern.Stop.cell).toArray)).run Tryd.prog w = _
  rw [run_neq_struct, this]
  rfl
theorem guard26 (w : World) (op : BinOp) (a b : Operand) (x y : List UInt8) : (eqGuard op 26 a b (aggB x) (aggB y)).run Tryd.prog w = .ok () w :=
  run_eqGuard_agg w op 26 a b _ _ (by kernel_rfl)
theorem range_row {w : World} {b : Nat} {x : List UInt8} {t : TypeId} {fr : Nat × Nat} (h : w.heap[b]? = some (.cells (bcells x).toArray t fr)) : w.rangeAt b 0 (bcells x) := fun j v hv => by
  rw [Nat.zero_add]; exact cell_row h hv
theorem range_below {w w' : World} {b B : Nat} {cs : List Value} (h : w.rangeAt b 0 cs) (hb : Below B w w') (hlt : b < B) : w'.rangeAt b 0 cs := fun j v hv =>
  (hb.cell (p := ⟨b, 0 + j, none⟩) hlt).trans (h j v hv)
theorem load26m (w : World) (g : Nat) (x : List UInt8) (h : w.rangeAt g 0 (bcells x)) (hx : (bcells x).length = 32) :
    (Instr.loadAt 26 (.pointer (some ⟨g, 0, none⟩))).run Tryd.prog w = .ok (.agg (bcells x).toArray) w :=
  run_loadAt_mid w g 0 26 (bcells x) _ h Tryd.underlying26 rfl (by rw [hx]; exact info26)
set_option maxHeartbeats 400000 in
theorem Less_any (x y : List UInt8) (w : World) (hx : x.length = 32) (hy : y.length = 32) :
    Calls Tryd.prog 22 #[aggB x, aggB y] w fun e w' => e = .returned (.bool (Op.bytesLess x y)) ∧ Below w.heap.size w w' := by
  have sx : (Tryd.prog.info? 26).map (·.size) = some (bcells x).length := by rw [bcells_len, hx]; exact info26
  have sy : (Tryd.prog.info? 26).map (·.size) = some (bcells y).length := by rw [bcells_len, hy]; exact info26
  go_enter Tryd.func22, Tryd.ntmps22
  go_wp2
  have r0 := range_row (heap_alloc2_old w (.cells (bcells x).toArray 26) (.cells (bcells y).toArray 26))
  have r1 := range_row (heap_alloc2_new w (.cells (bcells x).toArray 26) (.cells (bcells y).toArray 26))
  have bel : Below w.heap.size w ((w.alloc (.cells (bcells x).toArray 26)).alloc (.cells (bcells y).toArray 26)) := ((Below.refl _ _).alloc (Nat.le_refl _) _).alloc (by simp) _
  have z0 : w.heap.size + 2 = ((w.alloc (.cells (bcells x).toArray 26)).alloc (.cells (bcells y).toArray 26)).heap.size := by simp
  generalize (w.alloc (.cells (bcells x).toArray 26)).alloc (.cells (bcells y).toArray 26) = w0 at *
  have Z0 := Lib.hid z0
  clear z0
  refine wp_region_held_drew (S := fun w' => w'.rangeAt w.heap.size 0 (bcells x) ∧ w'.rangeAt (w.heap.size + 1) 0 (bcells y) ∧ Below w.heap.size w w') (by kernel_rfl) ⟨r0, r1, bel.drew⟩ (fun hHeld => ?_)
  refine wpAnyH_take (i := 0) (oi := _) (v := _) rfl (by kernel_rfl) (by kernel_rfl) (by kernel_rfl) (fun _ _ _ h => h) (yieldsIf_load_mid (by rfl) _ _ rfl _ _ rfl _ _ (fun w h => h.1) Tryd.underlying26 rfl sx) hHeld ?_
  try simp only [Act.put, List.setIfInBounds_toArray, List.set_cons_zero, List.set_cons_succ]
  refine wpAnyH_take (i := 2) (oi := _) (v := _) rfl (by kernel_rfl) (by kernel_rfl) (by kernel_rfl) (fun _ _ _ h => h) (yieldsIf_load_mid (by rfl) _ _ rfl _ _ rfl _ _ (fun w h => h.2.1) Tryd.underlying26 rfl sy) hHeld ?_
  try simp only [Act.put, List.setIfInBounds_toArray, List.set_cons_zero, List.set_cons_succ]
  refine wpAnyH_ready (rs := [1]) (by kernel_rfl) (by simp) ?_
  refine AllReadyH.cons (o := _) rfl (fun K hK => ?_) AllReadyH.nil
  go_simp
  go_at_call 20
  refine (Text_any x _ hx).mono ?_
  rintro e w5 ⟨rfl, h5'⟩
  have h5 := below_undrew h5'
  have z5 := Z0.out
  have y5 := h5.size
  refine hK.out _ _ ⟨range_below r0 h5 (by omega), range_below r1 h5 (by omega), bel.trans (h5.mono bel.size)⟩ (fun hHeld => ?_)
  clear hK K
  try simp only [Act.put, List.setIfInBounds_toArray, List.set_cons_zero, List.set_cons_succ]
  refine wpAnyH_ready (rs := [3]) (by kernel_rfl) (by simp) ?_
  refine AllReadyH.cons (o := _) rfl (fun K hK => ?_) AllReadyH.nil
  go_simp
  go_at_call 20
  refine (Text_any y _ hy).mono ?_
  rintro e w6 ⟨rfl, h6⟩
  have bel6 := (bel.trans (h5.mono bel.size)).trans (h6.mono (by have := bel.size; omega))
  have q0 := range_below (range_below r0 h5 (by omega)) h6 (by omega)
  have q1 := range_below (range_below r1 h5 (by omega)) h6 (by omega)
  refine hK.out _ _ ⟨q0, q1, bel6⟩ (fun hHeld => ?_)
  clear hK K
  try simp only [Act.put, List.setIfInBounds_toArray, List.set_cons_zero, List.set_cons_succ]
  refine wpAnyH_ready (rs := [4]) (by kernel_rfl) (by simp) ?_
  refine AllReadyH.cons (o := _) rfl (fun K hK => ?_) AllReadyH.nil
  go_simp
  refine hK.out _ _ ⟨q0, q1, bel6⟩ (fun hHeld => ?_)
  clear hK K
  try simp only [Act.put, List.setIfInBounds_toArray, List.set_cons_zero, List.set_cons_succ]
  refine wpAnyH_ready (rs := [5]) (by kernel_rfl) (by simp) ?_
  refine AllReadyH.cons (o := _) rfl (fun K hK => ?_) AllReadyH.nil
  go_simp
  refine hK.out _ _ ⟨q0, q1, bel6⟩ (fun hHeld => ?_)
  clear hK K
  refine wpAnyH_done (by kernel_rfl) ?_ _
  go_wp2
  go_ret
  exact ⟨rfl, bel6⟩
theorem awake_any (w : World) (ht : Tabs w) : Calls Tryd.prog 9 #[] w fun e w' => e = .returned (.bool true) ∧ Below w.heap.size w w' := by
  have ht1 : Tabs (w.alloc (.cells #[.string ⟨#[97, 98, 99]⟩] 9)) := ht.below ((Below.refl _ _).alloc (Nat.le_refl _) _)
  go_enter Tryd.func9, Tryd.ntmps9
  go_wp2_with fail
  refine (Of_any (some ⟨w.heap.size, 0, none⟩) 1 1 [[97, 98, 99]] _ ht1 ⟨rfl, fun _ => ⟨_, 0, rfl, by simp, fun k l hk => ?_⟩⟩ (by decide) (by decide)).mono ?_
  · match k, hk with
    | 0, hk => 
      obtain rfl : [97, 98, 99] = l := by simpa using hk
      exact (cell_of_row _ _ _ _ _ _ (heap_alloc_new w _))
  rw [show sha [[97, 98, 99]].flatten = sha [97, 98, 99] from rfl, sha_abc]
  rintro e w1 ⟨rfl, h1⟩
  go_wp2_with fail
  refine (Text_any _ _ (by decide)).mono ?_
  rintro e w2 ⟨rfl, h2⟩
  go_wp2
  go_ret
  exact ⟨rfl, (((Below.refl _ _).alloc (Nat.le_refl _) _).trans (h1.mono (by simp))).trans (h2.mono (by have := h1.size; simp at this; omega))⟩
section
attribute [local go_sem] ext_list
theorem short_any (l : List UInt8) (n : Nat) (w : World) (hn : (n : Int) ≤ 9223372036854775807) :
    Calls Tryd.prog 10 #[.string ⟨l.toArray⟩, .int .i64 n] w fun e w' => e = .returned (.string ⟨(l.take n).toArray⟩) ∧ w = w' := by
  by_cases h : n < l.length
  · have h1 : (n : Int) < l.length := by omega
    go_enter Tryd.func10, Tryd.ntmps10
    go_wp2
    go_ret
    exact ⟨rfl, rfl⟩
  · have h1 : (l.length : Int) ≤ n := by omega
    have e : l.take n = l := List.take_of_length_le (by omega)
    have E := Lib.hid e
    clear e
    go_enter Tryd.func10, Tryd.ntmps10
    go_wp2
    go_ret
    exact ⟨by rw [E.out]; rfl, rfl⟩
end
end Go.Proofs.YtjabbddgjbejbaaDoor
