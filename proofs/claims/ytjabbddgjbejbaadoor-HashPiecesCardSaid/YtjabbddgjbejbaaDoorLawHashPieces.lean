/- A hasher's hash is that of all that was written, piece by piece, and it can be asked between: for every list of texts the law HashPieces returns true, and its arguments read afterwards as they read before. The tables that the program's text lays are tied to it by the card. No condition. -/
import Derived.Test.YtjabbddgjbejbaaDoorRows
import Derived.WalkKit
import Derived.Below
import Derived.ProofKit
import Derived.OpenShut
import Derived.ShutString
import Derived.ChangeOld
import Derived.Outline
import Derived.RegionTactic
import Derived.ChangeAlike
import Derived.BigRegion
import Derived.BigQuiet
import Derived.Deep.QuietTactic
import Derived.Deep.RegionWith
import Derived.Deep.RegionLaw
import Derived.Deep.RegionHeld3
import Derived.Deep.AppendLies
import Derived.Deep.Draws
import Derived.StillTailTactics
import Derived.Lib.Hide
import Derived.Lib.SmallJoins
import Derived.Handy
import Derived.Stop.BytesEq
import Derived.WalkSpells
import Derived.WalkLawsBesides
import Derived.Deep.LoopGhost
import Derived.Deep.DeepCutAuto
import Derived.Laws.CopyOwn
import Derived.Deep.OwnRows
import Derived.Test.YtjabbddgjbejbaaDoorHashM
import Derived.Test.YtjabbddgjbejbaaDoorRefH
namespace Go.Proofs.YtjabbddgjbejbaaDoor.hashPieces
open Go.RowKit
set_option linter.unusedSimpArgs false
set_option linter.unusedVariables false
section
open Go.ChangeShapes Go.WideShapes Go.ChangeAt
open Go.ChangeMaps (open_string shut_string)
variable {H : Type} {enc : TypeId × Value → H} {W : World} {base : Nat}
theorem strsAt_trod {fuel : Nat} {cs : List Value} {x : DataW H × List MemPlace} (h : DataW.trod enc Tryd.prog W 0 (fun _ => true) true fuel 30 cs = some x) :
    ∃ a n c ls, cs = [.slice a n c] ∧ n ≤ c ∧ c ≤ maxLen ∧ StrsAt W W.heap.size a n ls := by
  rcases open_strings Tryd.underlying30 Tryd.underlying9 (by kernel_rfl) h with ⟨rfl, _⟩ | ⟨a, len, cap, ss, rfl, _, hl, hm, hss, _, hcell, _⟩
  · exact ⟨none, 0, 0, [], rfl, Nat.le_refl _, Nat.zero_le _, rfl, fun h => absurd h (by omega)⟩
  · simp at hss
    refine ⟨some a, len, cap, (ss.take len).map (·.data.toList), rfl, hl, hm, by simp; omega, fun hn => ?_⟩
    have h0 := hcell 0 (by omega)
    obtain ⟨b, off, spot⟩ := a
    have hspot : spot = none := by simpa [Addr.add] using World.cell?_spot h0
    subst hspot
    have hb : b < W.heap.size := by simpa [Addr.add] using World.block_lt_of_cell? W _ h0
    refine ⟨b, off, rfl, hb, fun k l hk => ?_⟩
    have hkl : k < len := by
      rcases Nat.lt_or_ge k len with h | h
      · exact h
      · rw [List.getElem?_eq_none (by simp; omega)] at hk; cases hk
    have h2 := hcell k (by omega)
    rw [show (⟨b, off, none⟩ : Addr).add k = ⟨b, off + k, none⟩ from by unfold Addr.add; split <;> simp_all] at h2
    rw [h2]
    have e : ss.getD k ByteArray.empty = ss[k] := by simp [List.getD, List.getElem?_eq_getElem (by omega : k < ss.length)]
    rw [e]
    simp only [List.getElem?_map, List.getElem?_take_of_lt hkl, List.getElem?_eq_getElem (by omega : k < ss.length), Option.map_some, Option.some.injEq] at hk
    rw [← hk]
theorem op_strs {v : Value} {d : DataW H} {ps : List MemPlace} (hv : Value.okWide Tryd.prog W .any base 30 v) (h : DataW.Trod enc Tryd.prog W 0 (fun _ => true) true 30 v d ps) :
    ∃ a n c ls, v = .slice a n c ∧ n ≤ c ∧ c ≤ maxLen ∧ StrsAt W W.heap.size a n ls := by
  obtain ⟨a0, len, cap, rfl⟩ := okWide_slice Tryd.underlying30 hv
  obtain ⟨fuel, hf⟩ := h
  obtain ⟨a, n, c, ls, hcs, h1, h2, h3⟩ := strsAt_trod hf
  simp [Value.cells] at hcs
  obtain ⟨rfl, rfl, rfl⟩ := hcs
  exact ⟨_, _, _, ls, rfl, h1, h2, h3⟩
end
/-- What holds between two pieces. -/
def Pie (W : World) (z tb : Nat) (vb vk : Value) (s : List UInt8) (w : World) : Prop := Has w z s ∧ Tabs w ∧ w.rangeAt tb 0 [vb, vk] ∧ tb < w.heap.size ∧ WordsAt w vb h0s ∧ WordsAt w vk ks ∧ Below W.heap.size W w
theorem Pie.below {W w w' : World} {z tb : Nat} {vb vk : Value} {s : List UInt8} (h : Pie W z tb vb vk s w) (hb : Below w.heap.size w w') : Pie W z tb vb vk s w' :=
  ⟨h.1.below hb, h.2.1.below hb, range_below h.2.2.1 hb h.2.2.2.1, Nat.lt_of_lt_of_le h.2.2.2.1 hb.size, h.2.2.2.2.1.below hb, h.2.2.2.2.2.1.below hb, h.2.2.2.2.2.2.trans (hb.mono h.2.2.2.2.2.2.size)⟩
theorem Pie.drew {W w : World} {z tb : Nat} {vb vk : Value} {s : List UInt8} (h : Pie W z tb vb vk s w) : Pie W z tb vb vk s w.drew := h.below (Below.refl _ _).drew
/-- .. and the hash that was asked lies in block b. -/
def PieX (W : World) (z tb b : Nat) (vb vk : Value) (s : List UInt8) (w : World) : Prop := w.rangeAt b 0 (bcells (sha s)) ∧ b < w.heap.size ∧ Pie W z tb vb vk s w
theorem PieX.below {W w w' : World} {z tb b : Nat} {vb vk : Value} {s : List UInt8} (h : PieX W z tb b vb vk s w) (hb : Below w.heap.size w w') : PieX W z tb b vb vk s w' :=
  ⟨range_below h.1 hb h.2.1, Nat.lt_of_lt_of_le h.2.1 hb.size, h.2.2.below hb⟩
theorem PieX.drew {W w : World} {z tb b : Nat} {vb vk : Value} {s : List UInt8} (h : PieX W z tb b vb vk s w) : PieX W z tb b vb vk s w.drew := h.below (Below.refl _ _).drew
section
attribute [local go_sem] eqIn26 guard26 sha_len ext_list app_list
set_option maxHeartbeats 4000000 in
set_option maxRecDepth 100000 in
theorem walk (a : Option Addr) (n cap : Nat) (ls : List (List UInt8)) (W : World) (ht : Tabs W) (hnc : n ≤ cap) (hcm : cap ≤ maxLen) (hs : StrsAt W W.heap.size a n ls) :
    Calls Tryd.prog 4 #[.slice a n cap] W fun e w' => e = .returned (.bool true) ∧ Below W.heap.size W w' := by
  have h1 := ht.2.2
  have ST := Lib.hid (show (Tryd.prog.info? 35).map (·.size) = some [Value.slice none 0 0, Value.slice none 0 0].length from by kernel_rfl)
  have nm : (n : Int) ≤ 9223372036854775807 := by unfold maxLen at hcm; omega
  have HS := Lib.hid hs
  clear hs hnc hcm
  go_enter Tryd.func4, Tryd.ntmps4
  go_wp2_with fail
  refine (awake_any _ ht).mono ?_
  rintro e w1 ⟨rfl, b1⟩
  have t1 := ht.below b1
  clear ht
  go_wp2_with fail
  refine (New_any _).mono ?_
  rintro e w2 ⟨rfl, hz2, g2⟩
  obtain ⟨z, hz⟩ : ∃ z, z = w1.heap.size := ⟨_, rfl⟩
  rw [← hz] at hz2
  rw [← hz]
  have HZ := Lib.hid (show W.heap.size ≤ z ∧ 1 < z from by rw [hz]; exact ⟨b1.size, Nat.lt_of_lt_of_le h1 b1.size⟩)
  have t2 := t1.below g2
  have b2 := b1.trans (g2.mono b1.size)
  clear g2 t1 b1 hz h1
  have hzl := hz2.lt
  go_wp2_with fail
  refine (Made_any _).mono ?_
  rintro e w3 ⟨⟨vb, vk, rfl, hb, hk, nb, nk⟩, g3⟩
  have HNB := Lib.hid (show ∀ k, vb.ownBlock = some k → k ∉ [z] from fun k hk => by have := nb k hk; simp; omega)
  have HNK := Lib.hid (show ∀ k, vk.ownBlock = some k → k ∉ [z] from fun k hk => by have := nk k hk; simp; omega)
  have hz3 := hz2.below g3
  have t3 := t2.below g3
  have b3 := b2.trans (g3.mono b2.size)
  have hzt : z < w3.heap.size := Nat.lt_of_lt_of_le hzl g3.size
  clear nb nk g3 t2 b2 hz2 hzl
  obtain ⟨bu, cu, eu, lu, hcu⟩ := id hb
  obtain ⟨bv, cv, ev, lv, hcv⟩ := id hk
  subst eu ev
  clear lu hcu lv hcv
  go_wp2_with fail
  generalize hw4 : World.alloc w3 _ = w4
  have r4 : row2 w4 w3.heap.size (.slice (some ⟨bu, 0, none⟩) h0s.length cu) (.slice (some ⟨bv, 0, none⟩) ks.length cv) := by rw [← hw4]; exact heap_alloc_new w3 _
  have g4 : Below w3.heap.size w3 w4 := by rw [← hw4]; exact (Below.refl _ _).alloc (Nat.le_refl _) _
  clear hw4
  generalize Value.slice (some ⟨bu, 0, none⟩) h0s.length cu = vb at *
  generalize Value.slice (some ⟨bv, 0, none⟩) ks.length cv = vk at *
  obtain ⟨tb, htb⟩ : ∃ tb, tb = w3.heap.size := ⟨_, rfl⟩
  have HTB := Lib.hid (show tb ≠ z ∧ W.heap.size ≤ tb from by rw [htb]; exact ⟨by omega, b3.size⟩)
  have hP : Pie W z tb vb vk [] w4 := ⟨hz3.below g4, t3.below g4, by
    rw [htb]
    intro j v hv
    rw [Nat.zero_add, cell_of_row _ _ j _ _ _ r4]
    simpa using hv, by rw [htb]; exact row2_lt r4, hb.below g4, hk.below g4, b3.trans (g4.mono b3.size)⟩
  rw [← htb]
  clear r4 g4 hz3 t3 b3 hb hk hzt htb
  go_loopw [6, 7] (fun u v w' => ∃ (i : Nat) (acc : List UInt8), i ≤ n ∧ i ≤ 12 ∧ u = .string ⟨acc.toArray⟩ ∧ v = .int .i64 i ∧ acc.length ≤ 150 * i ∧ Pie W z tb vb vk acc w') (fun _ v _ => 12 - (intOf v).toNat)
  case atStart => exact ⟨0, [], by omega, by omega, rfl, rfl, by simp, hP⟩
  case round =>
    clear hP
    obtain ⟨i, acc, hin, hi12, rfl, rfl, hal, hP⟩ := hrel
    by_cases hlt : i < n
    · by_cases h12 : i < 12
      · have ii : (i : Int) < n := by omega
        have jj : (i : Int) < 12 := by omega
        obtain ⟨b, off, rfl, hbW, hcell⟩ := HS.out.2 (by omega)
        obtain ⟨s0, hs0⟩ : ∃ s0, ls[i]? = some s0 := ⟨ls[i]'(by rw [HS.out.1]; exact hlt), List.getElem?_eq_getElem _⟩
        have c0 : wr.cell? ⟨b, off + i, none⟩ = some (.string ⟨s0.toArray⟩) := (hP.2.2.2.2.2.2.cell (p := ⟨b, off + i, none⟩) hbW).trans (hcell i s0 hs0)
        have HI := Lib.hid (show i < n from hlt)
        clear hcell hs0 hbW
        go_wp2_with fail
        refine (short_any s0 150 _ (by omega)).mono ?_
        rintro e w5 ⟨rfl, rfl⟩
        have hsl : (s0.take 150).length ≤ 150 := List.length_take_le _ _
        generalize s0.take 150 = s at *
        clear c0
        go_wp2_with fail
        refine (Write_any z acc s _ hP.2.1 HZ.out.2 hP.1 (by omega)).mono ?_
        rintro e w6 ⟨rfl, hz6, g6⟩
        have hP6 : Pie W z tb vb vk (acc ++ s) w6 := ⟨hz6, hP.2.1.fr g6 (fun k hk => by simp at hk; have := HZ.out; omega), by
          intro j v hv
          rw [← hP.2.2.1 j v hv]
          exact g6.cell (p := ⟨tb, 0 + j, none⟩) hP.2.2.2.1 (by simpa using HTB.out.1), Nat.lt_of_lt_of_le hP.2.2.2.1 g6.size, hP.2.2.2.2.1.fr g6 HNB.out, hP.2.2.2.2.2.1.fr g6 HNK.out,
          hP.2.2.2.2.2.2.trans (g6.below hP.2.2.2.2.2.2.size (fun k hk => by simp at hk; have := HZ.out; omega))⟩
        clear hP g6 hz6
        have hal2 : (acc ++ s).length ≤ 150 * (i + 1) := by rw [List.length_append]; omega
        have hcat : acc.length + s.length ≤ 2000 := by omega
        clear hal hsl
        go_wp2_with fail
        clear hcat
        generalize acc ++ s = acc at *
        refine (Sum_any z acc _ hP6.2.1 hP6.1 (by omega)).mono ?_
        rintro e w7 ⟨rfl, g7⟩
        have hP7 := hP6.below g7
        clear hP6 g7
        have HX := Lib.hid (show (Tryd.prog.info? 26).map (·.size) = some (bcells (sha acc)).length from by rw [bcells_len, sha_len]; exact info26)
        have H8 := Lib.hid (show (bcells (sha acc)).toArray.size = 32 from by simp [bcells, sha_len])
        go_wp2_with (refine wpList_store_row rfl 26 (.tmp 9) (.tmp 37) rfl w7.heap.size (bcells (sha acc)).toArray rfl rfl 26 _ (heap_alloc_new w7 _) (by rw [H8.out]; exact info26) (by rw [H8.out]; rfl) (ones_bc _) ?_)
        generalize hw8 : World.setRow _ _ _ = w8
        have r8 : w8.heap[w7.heap.size]? = some (.cells (bcells (sha acc)).toArray 26 (0, 0)) := by rw [← hw8]; exact setRow_heap _ _ _ _ _ _ (heap_alloc_new w7 _)
        have g8 : Below w7.heap.size w7 w8 := by rw [← hw8]; exact below_setRow ((Below.refl _ _).alloc (Nat.le_refl _) _) (Nat.le_refl _) _
        have z8 : w7.heap.size < w8.heap.size := by rw [← hw8]; simp
        clear hw8
        obtain ⟨b9, hb9⟩ : ∃ b, b = w7.heap.size := ⟨_, rfl⟩
        rw [← hb9] at r8 z8
        rw [← hb9]
        have hS : PieX W z tb b9 vb vk acc w8 := ⟨range_row r8, z8, hP7.below g8⟩
        clear r8 g8 z8 hb9 hP7
        refine wp_region_held_drew (S := PieX W z tb b9 vb vk acc) (by kernel_rfl) hS.drew (fun hHeld => ?_)
        refine wpAnyH_take (i := 0) (oi := _) (v := ?_) rfl (by kernel_rfl) (by kernel_rfl) (by kernel_rfl) (fun _ _ _ h => h) (Or.inl ⟨by kernel_rfl, ?_⟩) hHeld ?_
        rotate_left
        · (intro w hSw; go_simp; try with_reducible rfl)
        try simp only [Act.put, List.getElem_toArray, List.getElem_cons_succ, List.getElem_cons_zero, List.setIfInBounds_toArray, List.set_cons_zero, List.set_cons_succ]
        refine wpAnyH_take (i := 2) (oi := _) (v := ?_) rfl (by kernel_rfl) (by kernel_rfl) (by kernel_rfl) (fun _ _ _ h => h) (Or.inl ⟨by kernel_rfl, ?_⟩) hHeld ?_
        rotate_left
        · (intro w hSw; go_simp; try with_reducible rfl)
        try simp only [Act.put, List.getElem_toArray, List.getElem_cons_succ, List.getElem_cons_zero, List.setIfInBounds_toArray, List.set_cons_zero, List.set_cons_succ]
        refine wpAnyH_take (i := 3) (oi := _) (v := ?_) rfl (by kernel_rfl) (by kernel_rfl) (by kernel_rfl) (fun _ _ _ h => h) (Or.inl ⟨by kernel_rfl, ?_⟩) hHeld ?_
        rotate_left
        · (intro w hSw; go_simp; try with_reducible rfl)
        try simp only [Act.put, List.getElem_toArray, List.getElem_cons_succ, List.getElem_cons_zero, List.setIfInBounds_toArray, List.set_cons_zero, List.set_cons_succ]
        refine wpAnyH_ready (rs := [1]) (by kernel_rfl) (by simp) ?_
        refine AllReadyH.cons (o := _) rfl (fun K hK => ?_) AllReadyH.nil
        go_simp
        go_at_call 17
        refine (Len_any z acc _ hHeld.2.2.1).mono ?_
        rintro e v1 ⟨rfl, rfl⟩
        refine hK.out _ _ (hHeld) (fun hHeld => ?_)
        clear hK K
        try simp only [Act.put, List.getElem_toArray, List.getElem_cons_succ, List.getElem_cons_zero, List.setIfInBounds_toArray, List.set_cons_zero, List.set_cons_succ]
        refine wpAnyH_take (i := 4) (oi := _) (v := ?_) rfl (by kernel_rfl) (by kernel_rfl) (by kernel_rfl) (fun _ _ _ h => h) (Or.inl ⟨by kernel_rfl, ?_⟩) hHeld ?_
        rotate_left
        · (intro w hSw; go_simp; try with_reducible rfl)
        try simp only [Act.put, List.getElem_toArray, List.getElem_cons_succ, List.getElem_cons_zero, List.setIfInBounds_toArray, List.set_cons_zero, List.set_cons_succ]
        refine wpAnyH_take (i := 5) (oi := _) (v := ?_) rfl (by kernel_rfl) (by kernel_rfl) (by kernel_rfl) (fun _ _ _ h => h) (Or.inl ⟨by kernel_rfl, ?_⟩) hHeld ?_
        rotate_left
        · (intro w hSw; go_simp; try with_reducible rfl)
        try simp only [Act.put, List.getElem_toArray, List.getElem_cons_succ, List.getElem_cons_zero, List.setIfInBounds_toArray, List.set_cons_zero, List.set_cons_succ]
        refine wpAnyH_take (i := 6) (oi := _) (v := _) rfl (by kernel_rfl) (by kernel_rfl) (by kernel_rfl) (fun _ _ _ h => h) (yieldsIf_load_mid (by kernel_rfl) _ _ rfl _ _ rfl _ _ (fun w h => h.1) Tryd.underlying26 rfl HX.out) hHeld ?_
        try simp only [Act.put, List.getElem_toArray, List.getElem_cons_succ, List.getElem_cons_zero, List.setIfInBounds_toArray, List.set_cons_zero, List.set_cons_succ]
        refine wpAnyH_take (i := 7) (oi := _) (v := _) rfl (by kernel_rfl) (by kernel_rfl) (by kernel_rfl) (fun _ _ _ h => h) (yieldsIf_load_mid (by kernel_rfl) _ _ rfl _ _ rfl _ _ (fun w h => h.2.2.2.2.1) Tryd.underlying35 rfl ST.out) hHeld ?_
        try simp only [Act.put, List.getElem_toArray, List.getElem_cons_succ, List.getElem_cons_zero, List.setIfInBounds_toArray, List.set_cons_zero, List.set_cons_succ]
        refine wpAnyH_take (i := 8) (oi := _) (v := ?_) rfl (by kernel_rfl) (by kernel_rfl) (by kernel_rfl) (fun _ _ _ h => h) (Or.inl ⟨by kernel_rfl, ?_⟩) hHeld ?_
        rotate_left
        · (intro w hSw; go_simp; try with_reducible rfl)
        try simp only [Act.put, List.getElem_toArray, List.getElem_cons_succ, List.getElem_cons_zero, List.setIfInBounds_toArray, List.set_cons_zero, List.set_cons_succ]
        refine wpAnyH_ready (rs := [9]) (by kernel_rfl) (by simp) ?_
        refine AllReadyH.cons (o := _) rfl (fun K hK => ?_) AllReadyH.nil
        go_simp
        go_at_call 18
        refine (tsum_any vb vk acc _ hHeld.2.2.2.2.2.2.1 hHeld.2.2.2.2.2.2.2.1 (by omega)).mono ?_
        rintro e v2 ⟨rfl, g2⟩
        refine hK.out _ _ (hHeld.below g2) (fun hHeld => ?_)
        clear hK K
        try simp only [Act.put, List.getElem_toArray, List.getElem_cons_succ, List.getElem_cons_zero, List.setIfInBounds_toArray, List.set_cons_zero, List.set_cons_succ]
        refine wpAnyH_take (i := 10) (oi := _) (v := ?_) rfl (by kernel_rfl) (by kernel_rfl) (by kernel_rfl) (fun _ _ _ h => h) (Or.inl ⟨by kernel_rfl, ?_⟩) hHeld ?_
        rotate_left
        · (intro w hSw; go_simp; try with_reducible rfl)
        try simp only [Act.put, List.getElem_toArray, List.getElem_cons_succ, List.getElem_cons_zero, List.setIfInBounds_toArray, List.set_cons_zero, List.set_cons_succ]
        refine wpAnyH_take (i := 11) (oi := _) (v := ?_) rfl (by kernel_rfl) (by kernel_rfl) (by kernel_rfl) (fun _ _ _ h => h) (Or.inl ⟨by kernel_rfl, ?_⟩) hHeld ?_
        rotate_left
        · (intro w hSw; go_simp; try with_reducible rfl)
        try simp only [Act.put, List.getElem_toArray, List.getElem_cons_succ, List.getElem_cons_zero, List.setIfInBounds_toArray, List.set_cons_zero, List.set_cons_succ]
        refine wpAnyH_take (i := 12) (oi := _) (v := ?_) rfl (by kernel_rfl) (by kernel_rfl) (by kernel_rfl) (fun _ _ _ h => h) (Or.inl ⟨by kernel_rfl, ?_⟩) hHeld ?_
        rotate_left
        · (intro w hSw; go_simp; try with_reducible rfl)
        try simp only [Act.put, List.getElem_toArray, List.getElem_cons_succ, List.getElem_cons_zero, List.setIfInBounds_toArray, List.set_cons_zero, List.set_cons_succ]
        refine wpAnyH_take (i := 13) (oi := _) (v := ?_) rfl (by kernel_rfl) (by kernel_rfl) (by kernel_rfl) (fun _ _ _ h => h) (Or.inl ⟨by kernel_rfl, ?_⟩) hHeld ?_
        rotate_left
        · (intro w hSw; go_simp; try with_reducible rfl)
        try simp only [Act.put, List.getElem_toArray, List.getElem_cons_succ, List.getElem_cons_zero, List.setIfInBounds_toArray, List.set_cons_zero, List.set_cons_succ]
        refine wpAnyH_take (i := 15) (oi := _) (v := _) rfl (by kernel_rfl) (by kernel_rfl) (by kernel_rfl) (fun _ _ _ h => h) (yieldsIf_load_mid (by kernel_rfl) _ _ rfl _ _ rfl _ _ (fun w h => h.1) Tryd.underlying26 rfl HX.out) hHeld ?_
        try simp only [Act.put, List.getElem_toArray, List.getElem_cons_succ, List.getElem_cons_zero, List.setIfInBounds_toArray, List.set_cons_zero, List.set_cons_succ]
        refine wpAnyH_ready (rs := [14]) (by kernel_rfl) (by simp) ?_
        refine AllReadyH.cons (o := _) rfl (fun K hK => ?_) AllReadyH.nil
        go_simp
        go_at_call 16
        refine (Sum_any z acc _ hHeld.2.2.2.1 hHeld.2.2.1 (by omega)).mono ?_
        rintro e v3 ⟨rfl, g3⟩
        refine hK.out _ _ (hHeld.below g3) (fun hHeld => ?_)
        clear hK K
        try simp only [Act.put, List.getElem_toArray, List.getElem_cons_succ, List.getElem_cons_zero, List.setIfInBounds_toArray, List.set_cons_zero, List.set_cons_succ]
        refine wpAnyH_take (i := 16) (oi := _) (v := ?_) rfl (by kernel_rfl) (by kernel_rfl) (by kernel_rfl) (fun _ _ _ h => h) (Or.inl ⟨by kernel_rfl, ?_⟩) hHeld ?_
        rotate_left
        · (intro w hSw; go_simp; try with_reducible rfl)
        try simp only [Act.put, List.getElem_toArray, List.getElem_cons_succ, List.getElem_cons_zero, List.setIfInBounds_toArray, List.set_cons_zero, List.set_cons_succ]
        refine wpAnyH_take (i := 17) (oi := _) (v := ?_) rfl (by kernel_rfl) (by kernel_rfl) (by kernel_rfl) (fun _ _ _ h => h) (Or.inl ⟨by kernel_rfl, ?_⟩) hHeld ?_
        rotate_left
        · (intro w hSw; go_simp; try with_reducible rfl)
        try simp only [Act.put, List.getElem_toArray, List.getElem_cons_succ, List.getElem_cons_zero, List.setIfInBounds_toArray, List.set_cons_zero, List.set_cons_succ]
        refine wpAnyH_done (by kernel_rfl) ?_ _
        go_wp2
        go_roundw
        case rel => exact ⟨i + 1, acc, by omega, by omega, rfl, by go_num, hal2, hHeld.2.2⟩
        case measure => simp [intOf]; omega
      · have ii : (i : Int) < n := by omega
        have jj : ¬ (i : Int) < 12 := by omega
        go_wp2_with fail
        refine (Sum_any z acc _ hP.2.1 hP.1 (by omega)).mono ?_
        rintro e w7 ⟨rfl, g7⟩
        have hP7 := hP.below g7
        clear hP g7
        go_wp2_with fail
        have a6 : Below w7.heap.size w7 (w7.alloc (.cells #[.string ⟨acc.toArray⟩] 9)) := (Below.refl _ _).alloc (Nat.le_refl _) _
        have s6 := strs_one (heap_alloc_new w7 (.cells #[.string ⟨acc.toArray⟩] 9))
        refine (Of_any (some ⟨w7.heap.size, 0, none⟩) 1 1 [acc] _ (hP7.2.1.below a6) s6 (by decide) (by simp; omega)).mono ?_
        rw [sha_one]
        rintro e w8 ⟨rfl, g8⟩
        have bz := (hP7.2.2.2.2.2.2.trans (a6.mono hP7.2.2.2.2.2.2.size)).trans (g8.mono (Nat.le_trans hP7.2.2.2.2.2.2.size a6.size))
        clear hP7 a6 s6 g8
        go_wp2
        go_ret
        exact ⟨rfl, bz⟩
    · have ii : ¬ (i : Int) < n := by omega
      go_wp2_with fail
      refine (Sum_any z acc _ hP.2.1 hP.1 (by omega)).mono ?_
      rintro e w7 ⟨rfl, g7⟩
      have hP7 := hP.below g7
      clear hP g7
      go_wp2_with fail
      have a6 : Below w7.heap.size w7 (w7.alloc (.cells #[.string ⟨acc.toArray⟩] 9)) := (Below.refl _ _).alloc (Nat.le_refl _) _
      have s6 := strs_one (heap_alloc_new w7 (.cells #[.string ⟨acc.toArray⟩] 9))
      refine (Of_any (some ⟨w7.heap.size, 0, none⟩) 1 1 [acc] _ (hP7.2.1.below a6) s6 (by decide) (by simp; omega)).mono ?_
      rw [sha_one]
      rintro e w8 ⟨rfl, g8⟩
      have bz := (hP7.2.2.2.2.2.2.trans (a6.mono hP7.2.2.2.2.2.2.size)).trans (g8.mono (Nat.le_trans hP7.2.2.2.2.2.2.size a6.size))
      clear hP7 a6 s6 g8
      go_wp2
      go_ret
      exact ⟨rfl, bz⟩
end
open Go.ChangeShapes Go.WideShapes Go.ChangeAt
set_option maxRecDepth 100000 in
theorem lifted (os : Os) (started : os.Started) (H : Type) (enc : TypeId × Value → H) :
    ReturnsInHanded {} Tryd.checked os 4 .any (fun w args => (Rows.hashPiecesSpec.pre enc Tryd.prog Tryd.f4 [] false w args ∧ laidMetH Tryd.prog laid2 w) ∧ sizedMet enc Tryd.prog Tryd.f4 (OpenSpec.ofChange Rows.hashPiecesSpec) false w args)
      (Rows.hashPiecesSpec.post enc Tryd.prog Tryd.f4 false true false false) := by
  refine returnsInHanded_of_change_and (C := Tryd.checked) (X := fun w _ => laidMetH Tryd.prog laid2 w) (fun _ _ _ hh h => h.of_heap hh) own started (by kernel_rfl) Tryd.func4
    (ChangeSpec.witness_shaped (enc := enc) (C := Tryd.checked) (os := os) (X := fun w _ => laidMetH Tryd.prog laid2 w) false (World.doorLaid Tryd.prog 19 os) #[.slice none 0 0] 8 rfl (World.shaped_of_RefB (by kernel_rfl) (by kernel_rfl)) (by kernel_rfl) (by kernel_rfl) (by kernel_rfl) (door_met os _)) ?_
  intro W base args ds gs before hval0 hW _ _ hL _
  have hval : ∀ (j : Nat) t v, Tryd.f4.params[j]? = some t → args[j]? = some v → Value.okWide Tryd.prog W .any base t v := hval0
  have hW' := hW
  obtain ⟨p, q, hA0, hV, rfl, hfz, hnd⟩ := hW
  have hA : DataW.TrodAll enc Tryd.prog W 0 (fun _ => true) true Tryd.f4.params.toList args.toList ds p := hA0
  rw [Tryd.params4] at hA hval
  obtain ⟨v0, vs0, d0, ds0, p0, q0, hargs, rfl, rfl, h0, r0⟩ := trodAll_cons hA
  obtain ⟨rfl, rfl, rfl⟩ := trodAll_nil r0
  obtain rfl : args = #[v0] := by cases args; simp_all
  obtain ⟨rfl, rfl⟩ := trodVars_none hV
  have k0 := h0
  have lt0 : ∀ x ∈ p0, x.block < W.heap.size := by obtain ⟨m, hm⟩ := k0; exact DataW.trod_lt m _ _ _ hm
  obtain ⟨ax0, nx0, kx0, lsx0, rfl, hncx0, hcmx0, hsx0⟩ := op_strs (hval 0 30 v0 rfl rfl) h0
  clear hA0 hval0
  refine (walk ax0 nx0 kx0 lsx0 W (tabs_of_laid hL) hncx0 hcmx0 hsx0).mono fun e W' ⟨he, bel⟩ => ?_
  subst he
  exact ⟨_, rfl, _, _, _, [], _, [], hW', trodAll_mk1 (shut_bool Tryd.underlying4 _), trodAll_cons_mk (Below.trod laidOut (by kernel_rfl) (of_decide_eq_true (by kernel_rfl)) k0 bel lt0) (trodAll_mk0), rfl, bel.frame _, fun h => by cases h⟩

theorem over : Rows.hashPiecesRow.holds Tryd.pinned (OpenSpec.ofChange Rows.hashPiecesSpec) :=
  OpenClaim.holds_of_wide 4 Tryd.f4 rfl rfl rfl rfl rfl rfl rfl ⟨rfl, rfl, rfl, rfl, rfl⟩ rfl rfl rfl rfl rfl (by kernel_rfl) Tryd.func4 (by kernel_rfl)
    (of_decide_eq_true (by kernel_rfl)) (by unfold Func.isWrapper; first | (rw [if_pos (by decide +kernel)]; kernel_rfl) | (rw [if_neg (by decide +kernel)]; exact ⟨rfl, rfl⟩))
    (fun os started H enc _ => lifted os started H enc)

/-- The tied card. -/
theorem proved : Rows.HashPiecesCardSaid :=
  Claim7.holds_tied_plain_at .later [] [.data, .data] true (true, "03d2147273bc31851921d1247ff289d037061bb95fe5285976d93eb25e02cce8") false
    over (fun _ h => by cases h) (by kernel_rfl) (fun _ h => by cases h) hashPieces_row_tie rfl ⟨rfl, rfl⟩ (by kernel_rfl) rfl
    (fun f fn hf hfn => by
      obtain rfl : f = 4 := Option.some.inj ((show Tryd.prog.funcNamed "twinspan/twinspanlaw02.HashPieces" = some 4 by kernel_rfl).symm.trans hf) |>.symm
      obtain rfl : fn = Tryd.f4 := (Option.some.inj (Tryd.func4.symm.trans hfn)).symm
      exact ⟨by kernel_rfl, fun j t ht => by
        rw [Tryd.params4] at ht
        rcases j with _ |  j
        · obtain rfl : 30 = t := by simpa using ht
          exact (show Tryd.prog.wantsStandIn 30 = false by kernel_rfl)
        · simp at ht⟩)
    (by kernel_rfl)
end Go.Proofs.YtjabbddgjbejbaaDoor.hashPieces
