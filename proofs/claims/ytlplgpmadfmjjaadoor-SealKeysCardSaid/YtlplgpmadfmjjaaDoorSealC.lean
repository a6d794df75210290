/- The sealer: what it seals, checks; Of and Right. -/
import Derived.Test.YtlplgpmadfmjjaaDoorRows
import Derived.WalkKit
import Derived.Below
import Derived.ProofKit
import Derived.OpenShut
import Derived.ShutString
import Derived.ChangeOld
import Derived.Outline
import Derived.RegionTactic
import Derived.ChangeAlike
import Derived.BigRegion
import Derived.BigQuiet
import Derived.Deep.QuietTactic
import Derived.Deep.RegionWith
import Derived.Deep.RegionLaw
import Derived.Deep.RegionHeld3
import Derived.Deep.AppendLies
import Derived.Deep.Draws
import Derived.StillTailTactics
import Derived.Lib.Hide
import Derived.Lib.SmallJoins
import Derived.Handy
import Derived.Stop.BytesEq
import Derived.WalkSpells
import Derived.WalkLawsBesides
import Derived.Deep.LoopGhost
import Derived.Deep.DeepCutAuto
import Derived.Laws.Tables
import Derived.Great.FillDense
import Derived.Test.YtlplgpmadfmjjaaDoorSealB
import Derived.Test.YtlplgpmadfmjjaaDoorQuick
namespace Go.Proofs.YtlplgpmadfmjjaaDoor
open Go.RowKit
set_option linter.unusedSimpArgs false
set_option linter.unusedVariables false
set_option linter.unnecessarySimpa false
theorem strs_two {w : World} {b : Nat} {l m : List UInt8} {t : TypeId} {fr : Nat × Nat} (h : w.heap[b]? = some (.cells #[.string ⟨l.toArray⟩, .string ⟨m.toArray⟩] t fr)) : StrsAt w w.heap.size (some ⟨b, 0, none⟩) 2 [l, m] := by
  refine ⟨rfl, fun _ => ⟨b, 0, rfl, ?_, fun k x hk => ?_⟩⟩
  · rcases Nat.lt_or_ge b w.heap.size with hlt | hge
    · exact hlt
    · rw [Array.getElem?_eq_none hge] at h; cases h
  · match k, hk with
    | 0, hk =>
      obtain rfl : l = x := by simpa using hk
      exact cell_of_row _ _ _ _ _ _ h
    | 1, hk =>
      obtain rfl : m = x := by simpa using hk
      exact cell_of_row _ _ _ _ _ _ h
theorem StrsAt.lt' {w : World} {a : Option Addr} {n : Nat} {ls : List (List UInt8)} (h : StrsAt w w.heap.size a n ls) {w' : World} (hb : Below w.heap.size w w') : StrsAt w' w'.heap.size a n ls := h.below hb hb.size
set_option maxHeartbeats 1000000 in
set_option maxRecDepth 100000 in
theorem sealed_any (p g : Nat) (B : List UInt8) (a : Option Addr) (n cap : Nat) (ls : List (List UInt8)) (w : World) (ht : Tabs w) (hp : w.cell? ⟨p, 0, none⟩ = some (.pointer (some ⟨g, 0, none⟩))) (hs : Slr w g B) (hr : StrsAt w w.heap.size a n ls) (hn : (n : Int) ≤ 140737488351232) (hlen : (ls.flatten.length : Int) ≤ 1099511627776) :
    Calls Tryd.prog 20 #[.func (.func 21) #[] #[.pointer (some ⟨p, 0, none⟩)], .slice a n cap] w fun e w' => e = .returned (aggB (hmacB B ls.flatten)) ∧ Below w.heap.size w w' := by
  have h1 := ht.2.2
  have hpl : p < w.heap.size := World.block_lt_of_cell? w _ hp
  have hgl := hs.lt
  have hB := hs.1
  have HX := Lib.hid (xorB_len 54 B)
  have HY := Lib.hid (xorB_len 92 B)
  have HB := Lib.hid hB
  have HL := Lib.hid hlen
  have HP := Lib.hid hp
  clear hp hlen hB
  go_enter Tryd.func20, Tryd.ntmps20
  go_wp2_with fail
  generalize hwa : World.alloc _ _ = wa
  have r0 : wa.heap[w.heap.size]? = some (.cells (bcells (List.replicate 32 0)).toArray 23 (0, 0)) := by rw [← hwa]; exact heap_alloc_new w _
  have ba : Below w.heap.size w wa := by rw [← hwa]; exact (Below.refl _ _).alloc (Nat.le_refl _) _
  have za : wa.heap.size = w.heap.size + 1 := by rw [← hwa]; simp
  clear hwa
  refine (New_any _).mono ?_
  rw [za]
  rintro e w2 ⟨rfl, hz2, g2⟩
  have hbl := hz2.lt
  have b2 := ba.trans (g2.mono (Nat.le_succ _))
  have R2 := Lib.hid ((g2.block _ (by omega)).trans r0)
  have c2 : w2.cell? ⟨p, 0, none⟩ = some (.pointer (some ⟨g, 0, none⟩)) := (b2.cell (p := ⟨p, 0, none⟩) hpl).trans HP.out
  have s2 := hs.below b2
  have t2 := ht.below b2
  have C2 := Lib.hid c2
  clear r0 ba za g2 c2
  go_wp2_with fail
  refine (with_any 54 p g B w2 C2.out s2).mono ?_
  rintro e w3 ⟨rfl, g3⟩
  have x54 : (xorB 54 B).length = 64 := by rw [HX.out, HB.out]
  obtain ⟨X, hX⟩ : ∃ X, X = xorB 54 B := ⟨_, rfl⟩
  rw [← hX] at x54
  rw [← hX]
  have EX := Lib.hid hX
  have X64 := Lib.hid x54
  have b3 := b2.trans (g3.mono b2.size)
  have t3 := t2.below g3
  have hz3 := hz2.below g3
  have R3 := Lib.hid ((g3.block _ (by omega)).trans R2.out)
  have z3 := g3.size
  clear g3 b2 t2 hz2 R2 C2 hX x54 s2
  go_wp2_with fail
  refine (Write_any (w.heap.size + 1) [] X w3 t3 (by omega) hz3 (by rw [X64.out]; decide)).mono ?_
  rw [List.nil_append]
  rintro e w4 ⟨rfl, hz4, f4⟩
  have b4 := b3.trans (f4.below b3.size (by simp))
  have t4 := t3.fr f4 (fun k hk => by simp at hk; omega)
  have R4 := Lib.hid ((f4.block _ (by omega) (by simp)).trans R3.out)
  have z4 := f4.size
  clear b3 t3 hz3 f4 R3
  go_wp2
  go_loopw [15] (fun i wr => ∃ k : Nat, k ≤ n ∧ i = .int .i64 k ∧ Has wr (w.heap.size + 1) (X ++ (ls.take k).flatten) ∧ Hid (wr.heap[w.heap.size]? = some (.cells (bcells (List.replicate 32 0)).toArray 23 (0, 0))) ∧ Below w.heap.size w wr) (fun i _ => n - (intOf i).toNat)
  case atStart => exact ⟨0, Nat.zero_le _, rfl, by simpa using hz4, R4, b4⟩
  case round =>
    clear hz4 R4 b4 t4 z4 z3
    obtain ⟨k, hk, rfl, hh, hr0, hbel⟩ := hrel
    have ht1 := ht.below hbel
    have hfl := flat_le ls k
    have hhl := hh.lt
    by_cases hlt : k < n
    · obtain ⟨b, off, rfl, hb, hcell⟩ := hr.2 (by omega)
      have hkl : k < ls.length := by rw [hr.1]; exact hlt
      have hget := List.getElem?_eq_getElem hkl
      have hcw := hcell k _ hget
      have hc : wr.cell? ⟨b, off + k, none⟩ = some (.string ⟨ls[k].toArray⟩) := (hbel.cell (p := ⟨b, off + k, none⟩) hb).trans hcw
      have hstep := flat_succ ls k _ hget
      have hle2 := flat_le ls (k + 1)
      rw [hstep, List.length_append] at hle2
      obtain ⟨l, hl⟩ : ∃ l, l = ls[k] := ⟨_, rfl⟩
      rw [← hl] at hc hstep hle2
      have Hs := Lib.hid hstep
      have Hl2 := Lib.hid hle2
      have hkn : (k : Int) < n := by omega
      clear hstep hcw hcell hget hl hle2
      go_wp2_with (go_at_call 26; refine (Write_any (w.heap.size + 1) _ l _ ht1 (by omega) hh (by have := HL.out; have := Hl2.out; have := X64.out; simp only [List.length_append]; omega)).mono ?_; rintro e w2 ⟨rfl, h2, hf2⟩)
      go_roundw
      case rel =>
        refine ⟨k + 1, by omega, by go_num, ?_, ?_, ?_⟩
        · rw [Hs.out, ← List.append_assoc]; exact h2
        · exact Lib.hid ((hf2.block _ (by omega) (by simp)).trans hr0.out)
        · exact hbel.trans (hf2.below hbel.size (by simp))
      case measure => simp [intOf]; omega
    · have hkn : ls.take k = ls := List.take_of_length_le (by rw [hr.1]; omega)
      rw [hkn] at hh
      have hs5 := hs.below hbel
      have c5 : wr.cell? ⟨p, 0, none⟩ = some (.pointer (some ⟨g, 0, none⟩)) := (hbel.cell (p := ⟨p, 0, none⟩) hpl).trans HP.out
      have C5 := Lib.hid c5
      clear hkn c5
      go_wp2_with fail
      refine (with_any 92 p g B wr C5.out hs5).mono ?_
      rintro e w5 ⟨rfl, g5⟩
      have y92 : (xorB 92 B).length = 64 := by rw [HY.out, HB.out]
      obtain ⟨Y, hY⟩ : ∃ Y, Y = xorB 92 B := ⟨_, rfl⟩
      rw [← hY] at y92
      rw [← hY]
      have EY := Lib.hid hY
      have Y64 := Lib.hid y92
      have t5 := ht1.below g5
      have h5 := hh.below g5
      have b5 := hbel.trans (g5.mono hbel.size)
      have R5 := Lib.hid ((g5.block _ (by omega)).trans hr0.out)
      have z5 := g5.size
      clear g5 ht1 hh hbel hr0 hs5 C5 hY y92
      go_wp2_with fail
      refine (Sum_any (w.heap.size + 1) (X ++ ls.flatten) w5 t5 h5 (by have := HL.out; have := X64.out; simp only [List.length_append]; omega)).mono ?_
      obtain ⟨M, hM⟩ : ∃ M, M = sha (X ++ ls.flatten) := ⟨_, rfl⟩
      have M32 : M.length = 32 := by rw [hM, sha_len]
      rw [← hM]
      have EM := Lib.hid hM
      have HM := Lib.hid M32
      clear hM M32
      rintro e w6 ⟨rfl, g6⟩
      have t6 := t5.below g6
      have b6 := b5.trans (g6.mono b5.size)
      have R6 := Lib.hid ((g6.block _ (by omega)).trans R5.out)
      have z6 := g6.size
      clear g6 t5 b5 h5 R5
      go_wp2_with fail
      refine (Text_any M w6 HM.out).mono ?_
      rintro e w7 ⟨rfl, g7⟩
      have t7 := t6.below g7
      have b7 := b6.trans (g7.mono b6.size)
      have R7 := Lib.hid ((g7.block _ (by omega)).trans R6.out)
      have z7 := g7.size
      clear g7 t6 b6 R6
      go_wp2_with fail
      have a8 : Below w7.heap.size w7 (w7.alloc (.cells #[.string ⟨Y.toArray⟩, .string ⟨M.toArray⟩] 9)) := (Below.refl _ _).alloc (Nat.le_refl _) _
      have s8 := strs_two (heap_alloc_new w7 (.cells #[.string ⟨Y.toArray⟩, .string ⟨M.toArray⟩] 9))
      have hfin : sha [Y, M].flatten = hmacB B ls.flatten := by
        rw [EY.out, EM.out, EX.out]; simp [hmacB]
      have HF := Lib.hid hfin
      clear hfin
      refine (Of_any (some ⟨w7.heap.size, 0, none⟩) 2 2 [Y, M] _ (t7.below a8) s8 (by decide) (by have := Y64.out; have := HM.out; simp; omega)).mono ?_
      rw [HF.out]
      obtain ⟨V, hV⟩ : ∃ V, V = hmacB B ls.flatten := ⟨_, rfl⟩
      have hv32 : V.length = 32 := by rw [hV, hmac_len]
      rw [← hV]
      have EV := Lib.hid hV
      rintro e w8 ⟨rfl, g8⟩
      have b8 := (b7.trans (a8.mono b7.size)).trans (g8.mono (Nat.le_trans b7.size a8.size))
      have R8 := Lib.hid ((g8.block _ (show w.heap.size < _ by have := a8.size; omega)).trans ((a8.block _ (by omega)).trans R7.out))
      have SZ := Lib.hid (show ((bcells (List.replicate 32 (0 : UInt8))).toArray).size = (bcells V).toArray.size from by simp [bcells, hv32])
      have SZ2 := Lib.hid (show (Tryd.prog.info? 23).map (·.size) = some (bcells V).toArray.size from by simp [bcells, hv32, info26])
      clear g8 a8 s8 b7 t7 R7 hV hv32
      go_wp2_with (refine wpList_store_row rfl 23 (.tmp 4) (.tmp 29) rfl w.heap.size (bcells V).toArray rfl rfl 23 (bcells (List.replicate 32 0)).toArray R8.out SZ2.out SZ.out (ones_bc _) ?_)
      exact bodyPost_ret (v := aggB V) (results_cell_row Tryd.results20 _ _ w.heap.size 23 _ _ _ rfl (setRow_heap _ _ _ _ _ _ R8.out) Tryd.underlying23 rfl SZ2.out) rfl ⟨by rw [EV.out], below_setRow b8 (Nat.le_refl _) _⟩
theorem zero42 (w : World) : (zeroValue 42).run Tryd.prog w = .ok (.agg (bcells (List.replicate 64 0)).toArray) w := by kernel_rfl
set_option maxHeartbeats 1000000 in
set_option maxRecDepth 100000 in
theorem Seal_any (g : Nat) (B : List UInt8) (a : Option Addr) (n cap : Nat) (ls : List (List UInt8)) (w : World) (ht : Tabs w) (hs : Slr w g B) (hr : StrsAt w w.heap.size a n ls) (hn : (n : Int) ≤ 140737488351232) (hlen : (ls.flatten.length : Int) ≤ 1099511627776) :
    Calls Tryd.prog 15 #[.pointer (some ⟨g, 0, none⟩), .slice a n cap] w fun e w' => e = .returned (aggB (hmacB B ls.flatten)) ∧ Below w.heap.size w w' := by
  have hmf : ∀ (fn : Fn) (first cap : Array Value) (w : World), (Instr.makeFunc fn first cap).run Tryd.prog w = .ok (.func fn first cap) w := fun _ _ _ _ => rfl
  obtain ⟨V, hV⟩ : ∃ V, V = hmacB B ls.flatten := ⟨_, rfl⟩
  have hv32 : V.length = 32 := by rw [hV, hmac_len]
  have EV := Lib.hid hV
  have SZ := Lib.hid (show ((bcells (List.replicate 32 (0 : UInt8))).toArray).size = (bcells V).toArray.size from by simp [bcells, hv32])
  have SZ2 := Lib.hid (show (Tryd.prog.info? 23).map (·.size) = some (bcells V).toArray.size from by simp [bcells, hv32, info26])
  clear hV hv32
  go_enter Tryd.func15, Tryd.ntmps15
  go_wp2_with fail
  generalize hwa : World.alloc _ _ = wa
  have r1 : wa.heap[w.heap.size + 1]? = some (.cells (bcells (List.replicate 32 0)).toArray 23 (0, 0)) := by rw [← hwa]; exact heap_alloc2_new w _ _
  have c0 : wa.cell? ⟨w.heap.size, 0, none⟩ = some (.pointer (some ⟨g, 0, none⟩)) := by rw [← hwa]; exact cell_of_row _ _ _ _ _ _ (heap_alloc2_old w _ _)
  have ba : Below w.heap.size w wa := by rw [← hwa]; exact ((Below.refl _ _).alloc (Nat.le_refl _) _).alloc (by simp) _
  have za : wa.heap.size = w.heap.size + 2 := by rw [← hwa]; simp
  clear hwa
  refine (sealed_any w.heap.size g B a n cap ls wa (ht.below ba) c0 (hs.below ba) (hr.lt' ba) hn hlen).mono ?_
  rw [← EV.out]
  rintro e w2 ⟨rfl, g2⟩
  have R2 := Lib.hid ((g2.block _ (by omega)).trans r1)
  have b2 := ba.trans (g2.mono ba.size)
  clear g2 ba r1 c0 za
  go_wp2_with (refine wpList_store_row rfl 23 (.tmp 4) (.tmp 10) rfl (w.heap.size + 1) (bcells V).toArray rfl rfl 23 (bcells (List.replicate 32 0)).toArray R2.out SZ2.out SZ.out (ones_bc _) ?_)
  exact bodyPost_ret (v := aggB V) (results_cell_row Tryd.results15 _ _ (w.heap.size + 1) 23 _ _ _ rfl (setRow_heap _ _ _ _ _ _ R2.out) Tryd.underlying23 rfl SZ2.out) rfl ⟨by rw [EV.out], below_setRow b2 (by omega) _⟩
set_option maxHeartbeats 1000000 in
set_option maxRecDepth 100000 in
theorem Seal_nil (a : Option Addr) (n cap : Nat) (ls : List (List UInt8)) (w : World) (ht : Tabs w) (hr : StrsAt w w.heap.size a n ls) (hn : (n : Int) ≤ 140737488351232) (hlen : (ls.flatten.length : Int) ≤ 1099511627776) :
    Calls Tryd.prog 15 #[.pointer none, .slice a n cap] w fun e w' => e = .returned (aggB (hmac [] ls.flatten)) ∧ Below w.heap.size w w' := by
  have hmf : ∀ (fn : Fn) (first cap : Array Value) (w : World), (Instr.makeFunc fn first cap).run Tryd.prog w = .ok (.func fn first cap) w := fun _ _ _ _ => rfl
  obtain ⟨V, hV⟩ : ∃ V, V = hmac [] ls.flatten := ⟨_, rfl⟩
  have hv32 : V.length = 32 := by rw [hV, hmac_len']
  have EV := Lib.hid hV
  have SZ := Lib.hid (show ((bcells (List.replicate 32 (0 : UInt8))).toArray).size = (bcells V).toArray.size from by simp [bcells, hv32])
  have SZ2 := Lib.hid (show (Tryd.prog.info? 23).map (·.size) = some (bcells V).toArray.size from by simp [bcells, hv32, info26])
  clear hV hv32
  have z42 := zero42
  rw [← EV.out]
  go_enter Tryd.func15, Tryd.ntmps15
  go_wp2_with fail
  generalize hwa : World.alloc _ _ = wa
  have rs : wa.heap[w.heap.size + 2]? = some (.cells (bcells (List.replicate 64 0)).toArray 42 (0, 0)) := by rw [← hwa]; exact heap_new_at (by simp)
  have r1 : wa.heap[w.heap.size + 1]? = some (.cells (bcells (List.replicate 32 0)).toArray 23 (0, 0)) := by rw [← hwa]; exact (Below.heap_alloc _ _ _ (by simp)).trans (heap_alloc2_new w _ _)
  have c0 : wa.cell? ⟨w.heap.size, 0, none⟩ = some (.pointer (some ⟨w.heap.size + 2, 0, none⟩)) := by rw [← hwa]; exact cell_of_row _ _ _ _ _ _ ((Below.heap_alloc _ _ _ (by simp <;> omega)).trans (heap_alloc2_old w _ _))
  have ba : Below w.heap.size w wa := by rw [← hwa]; exact (((Below.refl _ _).alloc (Nat.le_refl _) _).alloc (by simp) _).alloc (by simp <;> omega) _
  have za : w.heap.size + 2 < wa.heap.size := by
    rcases Nat.lt_or_ge (w.heap.size + 2) wa.heap.size with h | h
    · exact h
    · rw [Array.getElem?_eq_none h] at rs; cases rs
  clear hwa
  refine (sealed_any w.heap.size (w.heap.size + 2) (List.replicate 64 0) a n cap ls wa (ht.below ba) c0 ⟨by simp, rs⟩ (hr.lt' ba) hn hlen).mono ?_
  rw [show hmacB (List.replicate 64 0) ls.flatten = V from by rw [EV.out, hmac, blkK_nil]]
  rintro e w2 ⟨rfl, g2⟩
  have R2 := Lib.hid ((g2.block _ (by omega)).trans r1)
  have b2 := ba.trans (g2.mono ba.size)
  clear g2 ba r1 c0 za rs
  go_wp2_with (refine wpList_store_row rfl 23 (.tmp 4) (.tmp 10) rfl (w.heap.size + 1) (bcells V).toArray rfl rfl 23 (bcells (List.replicate 32 0)).toArray R2.out SZ2.out SZ.out (ones_bc _) ?_)
  exact bodyPost_ret (v := aggB V) (results_cell_row Tryd.results15 _ _ (w.heap.size + 1) 23 _ _ _ rfl (setRow_heap _ _ _ _ _ _ R2.out) Tryd.underlying23 rfl SZ2.out) rfl ⟨rfl, below_setRow b2 (by omega) _⟩
/-- What stands while a law goes on: the tables, blocks as listed, all below W's size as it was. -/
def Std (l : List (Nat × List Value × TypeId)) (W w : World) : Prop := Tabs w ∧ (∀ p ∈ l, w.heap[p.1]? = some (.cells p.2.1.toArray p.2.2 (0, 0))) ∧ Below W.heap.size W w
theorem row_lt {w : World} {b : Nat} {o : Obj} (h : w.heap[b]? = some o) : b < w.heap.size := by
  rcases Nat.lt_or_ge b w.heap.size with hlt | hge
  · exact hlt
  · rw [Array.getElem?_eq_none hge] at h; cases h
theorem Std.below {l : List (Nat × List Value × TypeId)} {W w w' : World} (h : Std l W w) (hb : Below w.heap.size w w') : Std l W w' :=
  ⟨h.1.below hb, fun p hp => (hb.block _ (row_lt (h.2.1 p hp))).trans (h.2.1 p hp), h.2.2.trans (hb.mono h.2.2.size)⟩
theorem Std.drew {l : List (Nat × List Value × TypeId)} {W w : World} (h : Std l W w) : Std l W w.drew := h.below (Below.refl _ _).drew
theorem Std.alloc {l : List (Nat × List Value × TypeId)} {W w : World} (h : Std l W w) (o : Obj) : Std l W (w.alloc o) := h.below ((Below.refl _ _).alloc (Nat.le_refl _) _)
theorem Std.row {l : List (Nat × List Value × TypeId)} {W w : World} (h : Std l W w) (i : Nat) {b : Nat} {cs : List Value} {t : TypeId} (hi : l[i]? = some (b, cs, t)) : w.heap[b]? = some (.cells cs.toArray t (0, 0)) :=
  h.2.1 (b, cs, t) (List.mem_of_getElem? hi)
theorem range_cells {w : World} {b : Nat} {l : List Value} {t : TypeId} {fr : Nat × Nat} (h : w.heap[b]? = some (.cells l.toArray t fr)) : w.rangeAt b 0 l := fun j v hv => by
  rw [Nat.zero_add]; exact cell_row h hv
theorem Std.rng {l : List (Nat × List Value × TypeId)} {W w : World} (h : Std l W w) (i : Nat) {b : Nat} {cs : List Value} {t : TypeId} (hi : l[i]? = some (b, cs, t)) : w.rangeAt b 0 cs := range_cells (h.row i hi)
theorem Std.slr {l : List (Nat × List Value × TypeId)} {W w : World} {B : List UInt8} (h : Std l W w) (i : Nat) {g : Nat} (hi : l[i]? = some (g, bcells B, 42)) (hB : B.length = 64) : Slr w g B := ⟨hB, h.row i hi⟩
theorem Std.push {l : List (Nat × List Value × TypeId)} {W w : World} {b : Nat} {cs : List Value} {t : TypeId} (h : Std l W w) (hr : w.heap[b]? = some (.cells cs.toArray t (0, 0))) : Std ((b, cs, t) :: l) W w :=
  ⟨h.1, fun p hp => (List.mem_cons.1 hp).elim (fun e => by rw [e]; exact hr) (fun e => h.2.1 p e), h.2.2⟩
theorem Std.start {W : World} (ht : Tabs W) : Std [] W W := ⟨ht, (fun p hp => by cases hp), Below.refl _ _⟩
section
attribute [local go_sem] eqIn26 guard26 sha_len hmac_len hmac_len'
set_option maxHeartbeats 1000000 in
set_option maxRecDepth 100000 in
theorem Check_any (g : Nat) (B mac V : List UInt8) (a : Option Addr) (n cap : Nat) (ls : List (List UInt8)) (w : World) (hV : hmacB B ls.flatten = V) (hm : mac.length = 32) (ht : Tabs w) (hs : Slr w g B) (hr : StrsAt w w.heap.size a n ls) (hn : (n : Int) ≤ 140737488351232) (hlen : (ls.flatten.length : Int) ≤ 1099511627776) :
    Calls Tryd.prog 16 #[.pointer (some ⟨g, 0, none⟩), aggB mac, .slice a n cap] w fun e w' => e = .returned (.bool (V == mac)) ∧ Below w.heap.size w w' := by
  have SM := Lib.hid (show (Tryd.prog.info? 23).map (·.size) = some (bcells mac).length from by simp [bcells_len, hm, info26])
  have hv32 : V.length = 32 := by rw [← hV, hmac_len]
  have HV := Lib.hid hV
  clear hV
  go_enter Tryd.func16, Tryd.ntmps16
  go_wp2
  have hS := ((Std.start ht).alloc (.cells (bcells mac).toArray 23)).push (heap_alloc_new w (.cells (bcells mac).toArray 23))
  generalize World.alloc _ _ = wa at *
  refine wp_region_held_drew (S := Std [(w.heap.size, bcells mac, 23)] w) (by kernel_rfl) hS.drew (fun hHeld => ?_)
  refine wpAnyH_take (i := 0) (oi := _) (v := ?_) rfl (by kernel_rfl) (by kernel_rfl) (by kernel_rfl) (fun _ _ _ h => h) (Or.inl ⟨by kernel_rfl, ?_⟩) hHeld ?_
  rotate_left
  · (intro w hSw; go_simp; try with_reducible rfl)
  try simp only [Act.put, List.getElem_toArray, List.getElem_cons_succ, List.getElem_cons_zero, List.setIfInBounds_toArray, List.set_cons_zero, List.set_cons_succ]
  refine wpAnyH_take (i := 1) (oi := _) (v := ?_) rfl (by kernel_rfl) (by kernel_rfl) (by kernel_rfl) (fun _ _ _ h => h) (Or.inl ⟨by kernel_rfl, ?_⟩) hHeld ?_
  rotate_left
  · (intro w hSw; go_simp; try with_reducible rfl)
  try simp only [Act.put, List.getElem_toArray, List.getElem_cons_succ, List.getElem_cons_zero, List.setIfInBounds_toArray, List.set_cons_zero, List.set_cons_succ]
  refine wpAnyH_take (i := 3) (oi := _) (v := _) rfl (by kernel_rfl) (by kernel_rfl) (by kernel_rfl) (fun _ _ _ h => h) (yieldsIf_load_mid (by kernel_rfl) _ _ rfl _ _ rfl _ _ (fun w h => h.rng 0 rfl) Tryd.underlying23 rfl SM.out) hHeld ?_
  try simp only [Act.put, List.getElem_toArray, List.getElem_cons_succ, List.getElem_cons_zero, List.setIfInBounds_toArray, List.set_cons_zero, List.set_cons_succ]
  refine wpAnyH_ready (rs := [2]) (by kernel_rfl) (by simp) ?_
  refine AllReadyH.cons (o := _) rfl (fun K hK => ?_) AllReadyH.nil
  go_simp
  go_at_call 15
  refine (Seal_any g B a n cap ls _ hHeld.1 (hs.below hHeld.2.2) (hr.lt' hHeld.2.2) hn hlen).mono ?_
  rw [HV.out]
  rintro e v1 ⟨rfl, g1⟩
  refine hK.out _ _ (hHeld.below g1) (fun hHeld => ?_)
  clear hK K
  try simp only [Act.put, List.getElem_toArray, List.getElem_cons_succ, List.getElem_cons_zero, List.setIfInBounds_toArray, List.set_cons_zero, List.set_cons_succ]
  refine wpAnyH_take (i := 4) (oi := _) (v := ?_) rfl (by kernel_rfl) (by kernel_rfl) (by kernel_rfl) (fun _ _ _ h => h) (Or.inl ⟨by kernel_rfl, ?_⟩) hHeld ?_
  rotate_left
  · (intro w hSw; go_simp; try with_reducible rfl)
  try simp only [Act.put, List.getElem_toArray, List.getElem_cons_succ, List.getElem_cons_zero, List.setIfInBounds_toArray, List.set_cons_zero, List.set_cons_succ]
  refine wpAnyH_take (i := 5) (oi := _) (v := ?_) rfl (by kernel_rfl) (by kernel_rfl) (by kernel_rfl) (fun _ _ _ h => h) (Or.inl ⟨by kernel_rfl, ?_⟩) hHeld ?_
  rotate_left
  · (intro w hSw; go_simp; try with_reducible rfl)
  try simp only [Act.put, List.getElem_toArray, List.getElem_cons_succ, List.getElem_cons_zero, List.setIfInBounds_toArray, List.set_cons_zero, List.set_cons_succ]
  refine wpAnyH_done (by kernel_rfl) ?_ _
  go_wp2
  go_ret
  exact ⟨rfl, hHeld.2.2⟩
end
end Go.Proofs.YtlplgpmadfmjjaaDoor
