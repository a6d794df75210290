/- The document's seal. -/
import Derived.WalkKit
import Derived.Below
import Derived.ProofKit
import Derived.OpenShut
import Derived.ShutString
import Derived.ChangeOld
import Derived.Outline
import Derived.RegionTactic
import Derived.ChangeAlike
import Derived.BigRegion
import Derived.BigQuiet
import Derived.Deep.QuietTactic
import Derived.Deep.RegionWith
import Derived.Deep.RegionLaw
import Derived.Deep.RegionHeld3
import Derived.Deep.AppendLies
import Derived.Deep.Draws
import Derived.StillTailTactics
import Derived.Lib.Hide
import Derived.Lib.SmallJoins
import Derived.Handy
import Derived.Stop.BytesEq
import Derived.WalkSpells
import Derived.WalkLawsBesides
import Derived.Deep.LoopGhost
import Derived.Deep.DeepCutAuto
import Derived.Laws.Tables
import Derived.Great.FillDense
import Derived.Test.YtlplgpmadfmjjaaDoorRows
import Derived.Test.YtlplgpmadfmjjaaDoorSealD
namespace Go.Proofs.YtlplgpmadfmjjaaDoor
open Go.RowKit
set_option linter.unusedSimpArgs false
set_option linter.unusedVariables false
set_option linter.unnecessarySimpa false
theorem idx_list (l : List UInt8) (i : Nat) (h : i < (ByteArray.mk l.toArray).size) : (ByteArray.mk l.toArray)[i]'h = l[i]'h := rfl
theorem xor54 (x : UInt8) : bits .xor .u8 (x.toNat : Int) 54 = ((x ^^^ 54).toNat : Int) := xor8 x 54
theorem xor92 (x : UInt8) : bits .xor .u8 (x.toNat : Int) 92 = ((x ^^^ 92).toNat : Int) := xor8 x 92
theorem bcells_snoc (l : List UInt8) (x : UInt8) : bcells l ++ [.int .u8 x.toNat] = bcells (l ++ [x]) := by simp [bcells]
theorem xorB_snoc (c : UInt8) (B : List UInt8) (k : Nat) (h : k < B.length) : bcells (xorB c (B.take k)) ++ [.int .u8 (B.getD k 0 ^^^ c).toNat] = bcells (xorB c (B.take (k + 1))) := by
  rw [bcells_snoc]
  congr 1
  have e : B.take (k + 1) = B.take k ++ [B.getD k 0] := by rw [List.take_add_one, List.getElem?_eq_getElem h]; simp [h]
  rw [e]
  simp only [xorB, List.map_append, List.map_cons, List.map_nil]
theorem padB_lt (key : List UInt8) (k : Nat) (h : k < key.length) : (padB key).getD k 0 = key[k] := by
  unfold padB
  rw [List.getD_eq_getElem?_getD, List.getElem?_append_left h, List.getElem?_eq_getElem h]
  rfl
theorem padB_ge (key : List UInt8) (k : Nat) (h : key.length ≤ k) : (padB key).getD k 0 = 0 := by
  unfold padB
  rw [List.getD_eq_getElem?_getD, List.getElem?_append_right h, List.getElem?_replicate]
  split <;> rfl
theorem apart_row {u v : Value} (hne : ∀ g, u.ownBlock = some g → v.ownBlock ≠ some g) : v.ownBlock = none ∨ v.ownBlock ≠ u.ownBlock := by
  cases h : v.ownBlock with
  | none => exact Or.inl rfl
  | some g => exact Or.inr fun e => hne g e.symm h
theorem apart_new {u v : Value} {w : World} {base n gu H : Nat} {e : TypeId} {xs : List Value} (hne : ∀ g, u.ownBlock = some g → v.ownBlock ≠ some g) (hv : w.ownsRow base e 1 v n xs) (h : u.ownBlock = some gu ∨ gu = H) (hH : w.heap.size ≤ H) : v.ownBlock ≠ some gu := by
  rcases h with h | h
  · exact hne gu h
  · intro e
    have := (hv.lt gu e).2
    omega
theorem step_store_row {P : Program} {ops : Array Oper} {o : Oper} {a : Act} {w : World} {K : Act → World → Prop} {Q : Exit → Act → World → Prop} {E : Prop} (hw : Region.wanted o (yielded ops a.tmps) = true) (ty : TypeId) (x y : Operand) (ho : o.op = .store ty x y)
    (g : Nat) (cells : Array Value) (hx : a.eval x = .pointer (some ⟨g, 0, none⟩)) (hy : a.eval y = .agg cells)
    (t : TypeId) (old : Array Value) (hg : w.heap[g]? = some (.cells old t (0, 0))) (hi : (P.info? ty).map (·.size) = some cells.size)
    (hold : old.size = cells.size) (h1 : cells.all (·.oneCell') = true)
    (h : K (a.put o.dst undef) (w.setRow g cells)) : if Region.wanted o (yielded ops a.tmps) = true then Oper.wp P o a w K Q else E := by
  rw [if_pos hw]
  exact wp_store_row ty x y ho g cells hx hy t old hg hi hold h1 h
/-- What stands while the document's seal is put together: the result's block, both rows. -/
def RefS (W : World) (base : Nat) (u v : Value) (X Y : List UInt8) (w : World) : Prop := (∃ l : List UInt8, l.length = 32 ∧ w.heap[W.heap.size]? = some (.cells (bcells l).toArray 23 (0, 0))) ∧ w.ownsRow base 5 1 u 64 (bcells X) ∧ w.ownsRow base 5 1 v 64 (bcells Y) ∧ Below W.heap.size W w
theorem RefS.below {W w w' : World} {base : Nat} {u v : Value} {X Y : List UInt8} (h : RefS W base u v X Y w) (hb : Below w.heap.size w w') : RefS W base u v X Y w' := by
  obtain ⟨l, hl, hr⟩ := h.1
  exact ⟨⟨l, hl, (hb.block _ (row_lt hr)).trans hr⟩, own_below h.2.1 hb, own_below h.2.2.1 hb, h.2.2.2.trans (hb.mono h.2.2.2.size)⟩
theorem RefS.drew {W w : World} {base : Nat} {u v : Value} {X Y : List UInt8} (h : RefS W base u v X Y w) : RefS W base u v X Y w.drew := h.below (Below.refl _ _).drew
theorem own_setRow {w : World} {B size n g : Nat} {e : TypeId} {v : Value} {xs : List Value} (h : w.ownsRow B e size v n xs) (hp : g < B) (cs : Array Value) : (w.setRow g cs).ownsRow B e size v n xs := by
  refine ⟨h.1, ?_⟩
  rcases h.2 with h0 | ⟨b, cap, cur, e1, e2, hg, h3⟩
  · exact Or.inl h0
  · refine Or.inr ⟨b, cap, cur, e1, e2, ?_, h3⟩
    rw [← hg]
    unfold World.setRow
    simp only [Array.getElem?_modify]
    rw [if_neg (by omega)]
theorem RefS.set {W w : World} {base : Nat} {u v : Value} {X Y V l : List UInt8} (h : RefS W base u v X Y w) (hr : w.heap[W.heap.size]? = some (.cells (bcells l).toArray 23 (0, 0))) (hb : W.heap.size < base) (hV : V.length = 32) : RefS W base u v X Y (w.setRow W.heap.size (bcells V).toArray) :=
  ⟨⟨V, hV, setRow_heap _ _ _ _ _ _ hr⟩, own_setRow h.2.1 hb _, own_setRow h.2.2.1 hb _, below_setRow h.2.2.2 (Nat.le_refl _) _⟩
section
attribute [local go_sem] idx_list ext_list app_list
set_option maxHeartbeats 2000000 in
set_option maxRecDepth 100000 in
theorem ref3Of_any (key s V : List UInt8) (w : World) (hV : hmac key s = V) (hk : (key.length : Int) ≤ 1048576) (hs : (s.length : Int) ≤ 1048576) :
    Calls Tryd.prog 11 #[.string ⟨key.toArray⟩, .string ⟨s.toArray⟩] w fun e w' => e = .returned (aggB V) ∧ Below w.heap.size w w' := by
  obtain ⟨i0, hi, hz0, hz1, hz2⟩ := info_parts info5p
  have hv32 : V.length = 32 := by rw [← hV, hmac_len']
  have HV32 := Lib.hid hv32
  have SZ2 := Lib.hid (show (Tryd.prog.info? 23).map (·.size) = some (bcells V).toArray.size from by simp [bcells, hv32, info26])
  obtain ⟨q, hq⟩ : ∃ q, q = shortK key := ⟨_, rfl⟩
  have hq64 : q.length ≤ 64 := by rw [hq]; exact shortK_len key
  have HV := Lib.hid (show hmacB (padB q) s = V from by rw [← hV, hq]; rfl)
  have HQ := Lib.hid hq
  have HK := Lib.hid hk
  clear hV hv32 hq
  go_enter Tryd.func11, Tryd.ntmps11
  go_upto_if 11 with (fail)
  generalize hwa : World.alloc _ _ = wa
  have r0 : wa.heap[w.heap.size]? = some (.cells (bcells (List.replicate 32 0)).toArray 23 (0, 0)) := by rw [← hwa]; exact heap_alloc_new w _
  have ba : Below w.heap.size w wa := by rw [← hwa]; exact (Below.refl _ _).alloc (Nat.le_refl _) _
  have za := row_lt r0
  have R0 := Lib.hid r0
  clear hwa r0
  go_cut [0] (fun u w' => u = .string ⟨q.toArray⟩ ∧ Below wa.heap.size wa w')
  case first =>
    by_cases h : 64 < key.length
    · have hi : (64 : Int) < key.length := by omega
      have hks : sha key = q := by rw [HQ.out, shortK, if_pos h]
      have HKS := Lib.hid hks
      clear hks
      go_wp2_with fail
      refine (quick_any key wa (by have := HK.out; omega)).mono ?_
      rw [HKS.out]
      rintro e w2 ⟨rfl, g2⟩
      go_wp2_with fail
      refine (refText_any q w2 (by rw [← HKS.out, sha_len])).mono ?_
      rintro e w3 ⟨rfl, g3⟩
      have b3 := g2.trans (g3.mono g2.size)
      clear g2 g3
      go_wp2
      go_meet
      case rel => exact ⟨rfl, b3⟩
    · have hi : (key.length : Int) ≤ 64 := by omega
      have hks : q = key := by rw [HQ.out, shortK, if_neg h]
      have HKS := Lib.hid hks
      clear hks
      go_wp2
      go_meet
      case rel => exact ⟨by rw [HKS.out], Below.refl _ _⟩
  case rest =>
  obtain ⟨rfl, g1⟩ := hcut
  apply_assumption
  have S0 := Lib.hid ((g1.block _ za).trans R0.out)
  have b1 := ba.trans (g1.mono ba.size)
  have zc := Nat.lt_of_lt_of_le za g1.size
  clear g1 ba R0 za HK HQ hk
  obtain ⟨B, hB⟩ : ∃ B, B = padB q := ⟨_, rfl⟩
  have hB64 : B.length = 64 := by rw [hB]; exact padB_len q hq64
  have HB := Lib.hid hB
  have HB64 := Lib.hid hB64
  clear hB hB64
  go_wp2
  go_loopw [5, 6, 7] (fun u v i wr => ∃ k : Nat, k ≤ 64 ∧ i = .int .i64 k ∧ wr.ownsRow wc.heap.size 5 1 u k (bcells (xorB 54 (B.take k))) ∧ wr.ownsRow wc.heap.size 5 1 v k (bcells (xorB 92 (B.take k))) ∧ (∀ g, u.ownBlock = some g → v.ownBlock ≠ some g) ∧ Below wc.heap.size wc wr) (fun _ _ i _ => 64 - (intOf i).toNat)
  case atStart => exact ⟨0, by omega, rfl, World.ownsRow_nil _ _ _ _, World.ownsRow_nil _ _ _ _, (fun g h => by cases h), Below.refl _ _⟩
  case round =>
    obtain ⟨k, hk, rfl, hu, hv, hne, hbel⟩ := hrel
    by_cases hlt : k < 64
    · have kk : (k : Int) < 64 := by omega
      have hkB : k < B.length := by rw [HB64.out]; exact hlt
      obtain ⟨x, hx⟩ : ∃ x, x = B.getD k 0 := ⟨_, rfl⟩
      have hxu := xorB_snoc 54 B k hkB
      have hxv := xorB_snoc 92 B k hkB
      rw [← hx] at hxu hxv
      have HXU := Lib.hid hxu
      have HXV := Lib.hid hxv
      have HX := Lib.hid hx
      have h54 := xor54 x
      have h92 := xor92 x
      have hzw := hbel.size
      clear hxu hxv hx hkB
      have hin : (k < q.length ∧ ∃ h : k < q.length, q[k] = x) ∨ (q.length ≤ k ∧ x = 0) := by
        by_cases h : k < q.length
        · exact Or.inl ⟨h, h, by rw [HX.out, HB.out, padB_lt q k h]⟩
        · exact Or.inr ⟨by omega, by rw [HX.out, HB.out, padB_ge q k (by omega)]⟩
      obtain ⟨au, cu, rfl⟩ := own_form hu
      obtain ⟨av, cv, rfl⟩ := own_form hv
      rcases hin with ⟨h1, h2, hqx⟩ | ⟨h1, hqx⟩
      · have kq : (k : Int) < q.length := by omega
        go_wp2_with (first
          | (at_builtin; refine wpList_append_lies _ rfl (.tmp 26) (.tmp 29) 45 rfl wc.heap.size 5 i0 (.int .u8 0) 1 1 Tryd.underlying45 hi hz0 hz1 hz2 rfl (by decide) (.slice au k cu) k (bcells (xorB 54 (B.take k))) rfl (hu.alloc _) ⟨wr.heap.size, 0, none⟩ 1 1 [.int .u8 (x ^^^ 54).toNat] rfl rfl (World.news_of_block (cs := #[.int .u8 (x ^^^ 54).toNat]) (t := 5) (fr := (0, 0)) (heap_alloc_new wr _)) (by simp [Value.oneCell']) (by decide) (by unfold maxLen; omega) (by omega) (by simp; omega) (wr.heap.size + 1) (by simp) ?_; intro gu cu2 w2 hu2 hgu hatu hltu; have hv2 := (hv.alloc (.cells #[.int .u8 (x ^^^ 54).toNat] 5)).kept hgu (apart_row hne); have hn2 := apart_new hne hv hatu (Nat.le_succ _); have b2 : Below wc.heap.size wc w2 := (hbel.alloc hzw _).grown hgu (by simp; omega) (own_block_ge hu); have z2 := b2.size; rw [HXU.out] at hu2; clear hgu hatu hne hu hv hbel)
          | (at_builtin; refine wpList_append_lies _ rfl (.tmp 31) (.tmp 34) 45 rfl wc.heap.size 5 i0 (.int .u8 0) 1 1 Tryd.underlying45 hi hz0 hz1 hz2 rfl (by decide) (.slice av k cv) k (bcells (xorB 92 (B.take k))) rfl (hv2.alloc _) ⟨w2.heap.size, 0, none⟩ 1 1 [.int .u8 (x ^^^ 92).toNat] rfl rfl (World.news_of_block (cs := #[.int .u8 (x ^^^ 92).toNat]) (t := 5) (fr := (0, 0)) (heap_alloc_new w2 _)) (by simp [Value.oneCell']) (by decide) (by unfold maxLen; omega) (by omega) (by simp; omega) (w2.heap.size + 1) (by simp) ?_; intro gv cv2 w3 hv3 hgv hatv hltv; have hu3 := (hu2.alloc (.cells #[.int .u8 (x ^^^ 92).toNat] 5)).kept hgv (Or.inr fun e => hn2 e.symm); have hn3 : gu ≠ gv := (fun e => hatv.elim (fun e2 => hn2 (by rw [e]; exact e2)) (fun e2 => by omega)); have b3 : Below wc.heap.size wc w3 := (b2.alloc z2 _).grown hgv (by simp; omega) (own_block_ge hv2); rw [HXV.out] at hv3; clear hgv hatv hn2 hu2 hv2 b2))
        go_roundw
        case rel => exact ⟨k + 1, by omega, by go_num, hu3, hv3, (fun g h1 h2 => hn3 ((Option.some.inj h1).trans (Option.some.inj h2).symm)), b3⟩
        case measure => simp [intOf]; omega
      · have kq : (q.length : Int) ≤ k := by omega
        have HXU0 : Hid (bcells (xorB 54 (B.take k)) ++ [.int .u8 54] = bcells (xorB 54 (B.take (k + 1)))) := by have h := HXU.out; rw [hqx] at h; exact Lib.hid h
        have HXV0 : Hid (bcells (xorB 92 (B.take k)) ++ [.int .u8 92] = bcells (xorB 92 (B.take (k + 1)))) := by have h := HXV.out; rw [hqx] at h; exact Lib.hid h
        clear h54 h92 HXU HXV
        subst hqx
        go_wp2_with (first
          | (at_builtin; refine wpList_append_lies _ rfl (.tmp 26) (.tmp 29) 45 rfl wc.heap.size 5 i0 (.int .u8 0) 1 1 Tryd.underlying45 hi hz0 hz1 hz2 rfl (by decide) (.slice au k cu) k (bcells (xorB 54 (B.take k))) rfl (hu.alloc _) ⟨wr.heap.size, 0, none⟩ 1 1 [.int .u8 54] rfl rfl (World.news_of_block (cs := #[.int .u8 54]) (t := 5) (fr := (0, 0)) (heap_alloc_new wr _)) (by simp [Value.oneCell']) (by decide) (by unfold maxLen; omega) (by omega) (by simp; omega) (wr.heap.size + 1) (by simp) ?_; intro gu cu2 w2 hu2 hgu hatu hltu; have hv2 := (hv.alloc (.cells #[.int .u8 54] 5)).kept hgu (apart_row hne); have hn2 := apart_new hne hv hatu (Nat.le_succ _); have b2 : Below wc.heap.size wc w2 := (hbel.alloc hzw _).grown hgu (by simp; omega) (own_block_ge hu); have z2 := b2.size; rw [HXU0.out] at hu2; clear hgu hatu hne hu hv hbel)
          | (at_builtin; refine wpList_append_lies _ rfl (.tmp 31) (.tmp 34) 45 rfl wc.heap.size 5 i0 (.int .u8 0) 1 1 Tryd.underlying45 hi hz0 hz1 hz2 rfl (by decide) (.slice av k cv) k (bcells (xorB 92 (B.take k))) rfl (hv2.alloc _) ⟨w2.heap.size, 0, none⟩ 1 1 [.int .u8 92] rfl rfl (World.news_of_block (cs := #[.int .u8 92]) (t := 5) (fr := (0, 0)) (heap_alloc_new w2 _)) (by simp [Value.oneCell']) (by decide) (by unfold maxLen; omega) (by omega) (by simp; omega) (w2.heap.size + 1) (by simp) ?_; intro gv cv2 w3 hv3 hgv hatv hltv; have hu3 := (hu2.alloc (.cells #[.int .u8 92] 5)).kept hgv (Or.inr fun e => hn2 e.symm); have hn3 : gu ≠ gv := (fun e => hatv.elim (fun e2 => hn2 (by rw [e]; exact e2)) (fun e2 => by omega)); have b3 : Below wc.heap.size wc w3 := (b2.alloc z2 _).grown hgv (by simp; omega) (own_block_ge hv2); rw [HXV0.out] at hv3; clear hgv hatv hn2 hu2 hv2 b2))
        go_roundw
        case rel => exact ⟨k + 1, by omega, by go_num, hu3, hv3, (fun g h1 h2 => hn3 ((Option.some.inj h1).trans (Option.some.inj h2).symm)), b3⟩
        case measure => simp [intOf]; omega
    · obtain rfl : k = 64 := by omega
      rw [show ((64 : Nat) : Int) = 64 from rfl]
      have e64 : B.take 64 = B := List.take_of_length_le (by rw [HB64.out]; omega)
      rw [e64] at hu hv
      obtain ⟨X, hX⟩ : ∃ X, X = xorB 54 B := ⟨_, rfl⟩
      obtain ⟨Y, hY⟩ : ∃ Y, Y = xorB 92 B := ⟨_, rfl⟩
      rw [← hX] at hu
      rw [← hY] at hv
      have hx64 : X.length = 64 := by rw [hX, xorB_len, HB64.out]
      have hy64 : Y.length = 64 := by rw [hY, xorB_len, HB64.out]
      have HF := Lib.hid (show sha (Y ++ sha (X ++ s)) = V from by rw [← HV.out, ← HB.out, hX, hY]; rfl)
      obtain ⟨au, cu, rfl⟩ := own_form hu
      obtain ⟨av, cv, rfl⟩ := own_form hv
      have hS : RefS w wc.heap.size (.slice au 64 cu) (.slice av 64 cv) X Y wr := ⟨⟨_, rfl, (hbel.block _ zc).trans S0.out⟩, hu, hv, b1.trans (hbel.mono b1.size)⟩
      clear e64 hX hY hu hv hne hbel S0 b1 HV HB HB64 hk hlt
      go_wp2
      refine wp_region_held_drew (S := RefS w wc.heap.size (.slice au 64 cu) (.slice av 64 cv) X Y) (by kernel_rfl) hS.drew (fun hHeld => ?_)
      refine wpAnyH_take (i := 0) (oi := _) (v := ?_) rfl (by kernel_rfl) (by kernel_rfl) (by kernel_rfl) (fun _ _ _ h => h) (Or.inl ⟨by kernel_rfl, ?_⟩) hHeld ?_
      rotate_left
      · (intro w hSw; go_simp; try with_reducible rfl)
      try simp only [Act.put, List.getElem_toArray, List.getElem_cons_succ, List.getElem_cons_zero, List.setIfInBounds_toArray, List.set_cons_zero, List.set_cons_succ]
      refine wpAnyH_take (i := 1) (oi := _) (v := ?_) rfl (by kernel_rfl) (by kernel_rfl) (by kernel_rfl) (fun _ _ _ h => h) (Or.inl ⟨by kernel_rfl, ?_⟩) hHeld ?_
      rotate_left
      · (intro w hSw; have hc := run_b2s_own (P := Tryd.prog) w 45 9 5 _ Y wc.heap.size 64 Tryd.underlying45 Tryd.underlying5 Tryd.underlying9 hSw.2.2.1; go_simp; try with_reducible rfl)
      try simp only [Act.put, List.getElem_toArray, List.getElem_cons_succ, List.getElem_cons_zero, List.setIfInBounds_toArray, List.set_cons_zero, List.set_cons_succ]
      refine wpAnyH_take (i := 2) (oi := _) (v := ?_) rfl (by kernel_rfl) (by kernel_rfl) (by kernel_rfl) (fun _ _ _ h => h) (Or.inl ⟨by kernel_rfl, ?_⟩) hHeld ?_
      rotate_left
      · (intro w hSw; go_simp; try with_reducible rfl)
      try simp only [Act.put, List.getElem_toArray, List.getElem_cons_succ, List.getElem_cons_zero, List.setIfInBounds_toArray, List.set_cons_zero, List.set_cons_succ]
      refine wpAnyH_take (i := 3) (oi := _) (v := ?_) rfl (by kernel_rfl) (by kernel_rfl) (by kernel_rfl) (fun _ _ _ h => h) (Or.inl ⟨by kernel_rfl, ?_⟩) hHeld ?_
      rotate_left
      · (intro w hSw; have hc := run_b2s_own (P := Tryd.prog) w 45 9 5 _ X wc.heap.size 64 Tryd.underlying45 Tryd.underlying5 Tryd.underlying9 hSw.2.1; go_simp; try with_reducible rfl)
      try simp only [Act.put, List.getElem_toArray, List.getElem_cons_succ, List.getElem_cons_zero, List.setIfInBounds_toArray, List.set_cons_zero, List.set_cons_succ]
      refine wpAnyH_take (i := 4) (oi := _) (v := ?_) rfl (by kernel_rfl) (by kernel_rfl) (by kernel_rfl) (fun _ _ _ h => h) (Or.inl ⟨by kernel_rfl, ?_⟩) hHeld ?_
      rotate_left
      · (intro w hSw; go_simp; try with_reducible rfl)
      try simp only [Act.put, List.getElem_toArray, List.getElem_cons_succ, List.getElem_cons_zero, List.setIfInBounds_toArray, List.set_cons_zero, List.set_cons_succ]
      refine wpAnyH_take (i := 5) (oi := _) (v := ?_) rfl (by kernel_rfl) (by kernel_rfl) (by kernel_rfl) (fun _ _ _ h => h) (Or.inl ⟨by kernel_rfl, ?_⟩) hHeld ?_
      rotate_left
      · (intro w hSw; go_simp; (try rw [if_neg (by first | omega | (rw [sha_len]; omega))]); try with_reducible rfl)
      try simp only [Act.put, List.getElem_toArray, List.getElem_cons_succ, List.getElem_cons_zero, List.setIfInBounds_toArray, List.set_cons_zero, List.set_cons_succ]
      refine wpAnyH_ready (rs := [6]) (by kernel_rfl) (by simp) ?_
      refine AllReadyH.cons (o := _) rfl (fun K hK => ?_) AllReadyH.nil
      go_simp
      go_at_call 18
      refine (quick_any (X ++ s) _ (by simp; omega)).mono ?_
      rintro e v1 ⟨rfl, g1⟩
      refine hK.out _ _ (hHeld.below g1) (fun hHeld => ?_)
      clear hK K
      try simp only [Act.put, List.getElem_toArray, List.getElem_cons_succ, List.getElem_cons_zero, List.setIfInBounds_toArray, List.set_cons_zero, List.set_cons_succ]
      refine wpAnyH_ready (rs := [7]) (by kernel_rfl) (by simp) ?_
      refine AllReadyH.cons (o := _) rfl (fun K hK => ?_) AllReadyH.nil
      go_simp
      go_at_call 17
      refine (refText_any (sha (X ++ s)) _ (sha_len _)).mono ?_
      rintro e v2 ⟨rfl, g2⟩
      refine hK.out _ _ (hHeld.below g2) (fun hHeld => ?_)
      clear hK K
      try simp only [Act.put, List.getElem_toArray, List.getElem_cons_succ, List.getElem_cons_zero, List.setIfInBounds_toArray, List.set_cons_zero, List.set_cons_succ]
      refine wpAnyH_take (i := 8) (oi := _) (v := ?_) rfl (by kernel_rfl) (by kernel_rfl) (by kernel_rfl) (fun _ _ _ h => h) (Or.inl ⟨by kernel_rfl, ?_⟩) hHeld ?_
      rotate_left
      · (intro w hSw; go_simp; (try rw [if_neg (by first | omega | (rw [sha_len]; omega))]); try with_reducible rfl)
      try simp only [Act.put, List.getElem_toArray, List.getElem_cons_succ, List.getElem_cons_zero, List.setIfInBounds_toArray, List.set_cons_zero, List.set_cons_succ]
      refine wpAnyH_ready (rs := [9]) (by kernel_rfl) (by simp) ?_
      refine AllReadyH.cons (o := _) rfl (fun K hK => ?_) AllReadyH.nil
      go_simp
      go_at_call 18
      refine (quick_any (Y ++ sha (X ++ s)) _ (by simp [sha_len]; omega)).mono ?_
      rw [HF.out]
      rintro e v3 ⟨rfl, g3⟩
      refine hK.out _ _ (hHeld.below g3) (fun hHeld => ?_)
      clear hK K
      try simp only [Act.put, List.getElem_toArray, List.getElem_cons_succ, List.getElem_cons_zero, List.setIfInBounds_toArray, List.set_cons_zero, List.set_cons_succ]
      refine wpAnyH_ready (rs := [10]) (by kernel_rfl) (by simp) ?_
      refine AllReadyH.cons (o := _) rfl (fun K hK => ?_) AllReadyH.nil
      obtain ⟨l0, hl0, hrow⟩ := hHeld.1
      refine step_store_row (by kernel_rfl) 23 (.tmp 4) (.tmp 45) rfl w.heap.size (bcells V).toArray rfl rfl 23 (bcells l0).toArray hrow SZ2.out (by simp [bcells_len, hl0, HV32.out]) (ones_bc _) ?_
      refine hK.out _ _ (hHeld.set hrow zc HV32.out) (fun hHeld => ?_)
      clear hK K
      refine wpAnyH_done (by kernel_rfl) ?_ _
      go_wp2
      exact bodyPost_ret (v := aggB V) (results_cell_row Tryd.results11 _ _ w.heap.size 23 _ _ _ rfl (setRow_heap _ _ _ _ _ _ hrow) Tryd.underlying23 rfl SZ2.out) rfl ⟨rfl, hHeld.2.2.2⟩
end
end Go.Proofs.YtlplgpmadfmjjaaDoor
