import Derived.Test.YtjabbddgjbejbaaDoorRows
import Derived.WalkKit
import Derived.Below
import Derived.ProofKit
import Derived.OpenShut
import Derived.ShutString
import Derived.ChangeOld
import Derived.Outline
import Derived.RegionTactic
import Derived.ChangeAlike
import Derived.BigRegion
import Derived.BigQuiet
import Derived.Deep.QuietTactic
import Derived.Deep.RegionWith
import Derived.Deep.RegionLaw
import Derived.Deep.RegionHeld3
import Derived.Deep.AppendLies
import Derived.Deep.Draws
import Derived.StillTailTactics
import Derived.Lib.Hide
import Derived.Lib.SmallJoins
import Derived.Handy
import Derived.Stop.BytesEq
import Derived.WalkSpells
import Derived.WalkSpells
import Derived.WalkLawsBesides
import Derived.Deep.LoopGhost
import Derived.Deep.DeepCutAuto
import Derived.Laws.CopyOwn
import Derived.Test.YtjabbddgjbejbaaDoorRefF
namespace Go.Proofs.YtjabbddgjbejbaaDoor
open Go.RowKit
set_option linter.unusedSimpArgs false
set_option linter.unusedVariables false
set_option linter.unnecessarySimpa false
def r2s : List Nat := [6074000999, 7439101573, 9603838834, 11363415354, 14244795007, 15485724812, 17708603819, 18721328409]
def r3s : List Nat := [5411319704, 6194414737, 7344290767, 8215976869, 9551921755, 10098905585, 11043570340, 11460697813, 12214315672, 13195500289, 13492127166, 14311783875, 14809980276, 15046980094, 15499789991, 16133124468, 16720292289, 16907126662, 17444216262, 17784676812, 17950125167, 18429019306, 18734950876, 19175934170, 19734090066, 20001703533, 20132865992, 20390182855, 20516441075, 20764397895, 21588763473, 21813078375, 22141143685, 22248366392, 22769593852, 22871018771, 23170020180, 23461497531, 23651862830, 23931792517, 24205322401, 24295138891, 24734567280, 24820601251, 24990902297, 25075189284, 25569408389, 26045227120, 26200031510, 26276752392, 26428864332, 26653801653, 26727943347, 27092625994, 27306805839, 27517677555, 27725365998, 27793908591, 27997534228, 28131656200, 28198240250, 28526537963, 28973835255, 29099129074]
theorem r2_ok : ∀ i, i < 8 → r2s.getD i 0 < 1099511627776 ∧ r2s.getD i 0 ^ 2 ≤ p64.getD i 0 * 65536 ^ 4 ∧ p64.getD i 0 * 65536 ^ 4 < (r2s.getD i 0 + 1) ^ 2 ∧ r2s.getD i 0 % 4294967296 = (h0s.getD i 0).toNat := by decide +kernel
theorem r3_ok : ∀ i, i < 64 → r3s.getD i 0 < 1099511627776 ∧ r3s.getD i 0 ^ 3 ≤ p64.getD i 0 * 65536 ^ 6 ∧ p64.getD i 0 * 65536 ^ 6 < (r3s.getD i 0 + 1) ^ 3 ∧ r3s.getD i 0 % 4294967296 = (ks.getD i 0).toNat := by decide +kernel
theorem p64_lt : ∀ i, i < 64 → p64.getD i 0 < 65536 := by decide +kernel
theorem begin_any (i : Nat) (w : World) (h : i < 8) :
    Calls Tryd.prog 24 #[.int .u64 (p64.getD i 0 : Nat), .bool false] w fun e w' => e = .returned (.int .u32 (h0s.getD i 0).toNat) ∧ Below w.heap.size w w' := by
  obtain ⟨a, b, c, d⟩ := r2_ok i h
  have := root2_any (p64.getD i 0) (r2s.getD i 0) w (p64_lt i (by omega)) a b c
  rw [d] at this
  exact this
theorem round_any (i : Nat) (w : World) (h : i < 64) :
    Calls Tryd.prog 24 #[.int .u64 (p64.getD i 0 : Nat), .bool true] w fun e w' => e = .returned (.int .u32 (ks.getD i 0).toNat) ∧ Below w.heap.size w w' := by
  obtain ⟨a, b, c, d⟩ := r3_ok i h
  have := root3_any (p64.getD i 0) (r3s.getD i 0) w (p64_lt i h) a b c
  rw [d] at this
  exact this
theorem info32w : (Tryd.prog.info? 49).map (fun i => (i.zero, i.size, i.bytes)) = some (some (.int .u32 0), 1, 4) := by kernel_rfl
theorem WordsAt.of_own {w : World} {B n : Nat} {v : Value} {l : List (BitVec 32)} (h : w.ownsRow B 49 1 v n (uc l)) (hn : 0 < n) : WordsAt w v l := by
  have hl : l.length = n := by have := h.1; rw [uc_len] at this; omega
  rcases h.2 with ⟨_, h0⟩ | ⟨g, cap, cur, rfl, _, hg, hnc, _, hsz, ht⟩
  · omega
  · refine ⟨g, cap, by rw [hl], ?_, fun k hk => ?_⟩
    · rcases Nat.lt_or_ge g w.heap.size with hlt | hge
      · exact hlt
      · rw [Array.getElem?_eq_none hge] at hg; cases hg
    · rw [cell_of_row w g k _ _ _ hg]
      have e : (cur.toList.take (n * 1))[k]? = (uc l)[k]? := by rw [ht]
      rw [List.getElem?_take_of_lt (by omega), uc_get hk] at e
      rw [← Array.getElem?_toList]
      exact e
theorem uc_take_succ (l : List (BitVec 32)) (k : Nat) (h : k < l.length) : uc (l.take k) ++ [.int .u32 (l.getD k 0).toNat] = uc (l.take (k + 1)) := by
  unfold uc
  rw [List.take_add_one, List.map_append, List.getElem?_eq_getElem h, List.getD_eq_getElem?_getD, List.getElem?_eq_getElem h]
  rfl
theorem WordsAt.set {w : World} {v : Value} {l : List (BitVec 32)} {g k : Nat} {x : Value} {a : Option Addr} {n c : Nat} (h : WordsAt w v l) (hl : 0 < l.length) (hg : w.cell? ⟨g, 0, none⟩ = some (.slice a n c)) : WordsAt (w.setCell ⟨g, k, none⟩ x) v l := by
  obtain ⟨b, cap, e, hb, hc⟩ := h
  refine ⟨b, cap, e, by simpa [World.setCell] using hb, fun j hj => ?_⟩
  have hne : b ≠ g := by
    rintro rfl
    have := hc 0 hl
    rw [hg] at this
    cases this
  rw [← hc j hj]
  unfold World.cell?
  rw [heap_setCell_other _ _ _ _ (by simpa using hne)]
/-- A row of two slices. -/
abbrev row2 (w : World) (g : Nat) (u v : Value) : Prop := w.heap[g]? = some (.cells #[u, v] 35 (0, 0))
theorem row2_0 {w : World} {g : Nat} {u v : Value} (h : row2 w g u v) : w.cell? ⟨g, 0, none⟩ = some u := cell_of_row _ _ _ _ _ _ h
theorem row2_1 {w : World} {g : Nat} {u v : Value} (h : row2 w g u v) : w.cell? ⟨g, 1, none⟩ = some v := cell_of_row _ _ _ _ _ _ h
theorem row2_lt {w : World} {g : Nat} {u v : Value} (h : row2 w g u v) : g < w.heap.size := by
  rcases Nat.lt_or_ge g w.heap.size with hlt | hge
  · exact hlt
  · unfold row2 at h; rw [Array.getElem?_eq_none hge] at h; cases h
theorem row2_s0 {w : World} {g : Nat} {u v x : Value} (h : row2 w g u v) : row2 (w.setCell ⟨g, 0, none⟩ x) g x v := by
  have := set_row (k := 0) (v := x) (l := [u, v]) h
  exact this
theorem row2_s1 {w : World} {g : Nat} {u v x : Value} (h : row2 w g u v) : row2 (w.setCell ⟨g, 1, none⟩ x) g u x := by
  have := set_row (k := 1) (v := x) (l := [u, v]) h
  exact this
theorem row2_fr {w : World} {g k : Nat} {u v : Value} (h : row2 w g u v) : w.frozen? ⟨g, k, none⟩ = false := frozen_of_row w g k _ _ h
theorem Fr.cell {ex : List Nat} {a b : World} (h : Fr ex a b) {p : Addr} (hp : p.block < a.heap.size) (hx : p.block ∉ ex) : b.cell? p = a.cell? p := by
  unfold World.cell?; rw [h.block _ hp hx]
theorem WordsAt.fr {w w' : World} {v : Value} {l : List (BitVec 32)} {ex : List Nat} (h : WordsAt w v l) (hf : Fr ex w w') (hx : ∀ k, v.ownBlock = some k → k ∉ ex) : WordsAt w' v l := by
  obtain ⟨b, cap, rfl, hb, hc⟩ := h
  exact ⟨b, cap, rfl, Nat.lt_of_lt_of_le hb hf.size, fun k hk => (hf.cell (p := ⟨b, k, none⟩) hb (hx b rfl)).trans (hc k hk)⟩
theorem Fr.then_below {ex : List Nat} {a b c : World} (h : Fr ex a b) (k : Below a.heap.size b c) : Fr ex a c :=
  ⟨k.os.trans h.os, k.tape.trans h.tape, k.output.trans h.output, Nat.le_trans h.size k.size, fun i hi hn => (k.block i hi).trans (h.block i hi hn)⟩
theorem own_setCell {w : World} {B size n : Nat} {e : TypeId} {v : Value} {xs : List Value} {p : Addr} (h : w.ownsRow B e size v n xs) (hp : p.block < B) (x : Value) : (w.setCell p x).ownsRow B e size v n xs := by
  refine ⟨h.1, ?_⟩
  rcases h.2 with h0 | ⟨g, cap, cur, e1, e2, hg, h3⟩
  · exact Or.inl h0
  · exact Or.inr ⟨g, cap, cur, e1, e2, by rw [heap_setCell_other _ _ _ _ (by omega)]; exact hg, h3⟩
set_option maxHeartbeats 2000000 in
set_option maxRecDepth 100000 in
theorem Made_any (w : World) :
    Calls Tryd.prog 14 #[] w fun e w' => (∃ vb vk, e = .returned (.agg #[vb, vk]) ∧ WordsAt w' vb h0s ∧ WordsAt w' vk ks ∧ (∀ k, vb.ownBlock = some k → w.heap.size ≤ k) ∧ (∀ k, vk.ownBlock = some k → w.heap.size ≤ k)) ∧ Below w.heap.size w w' := by
  obtain ⟨i0, hi, hz0, hz1, hz2⟩ := info_parts info32w
  go_enter Tryd.func14, Tryd.ntmps14
  go_wp2_with fail
  generalize hwa : World.alloc _ _ = wa
  have hr0 : row2 wa w.heap.size (.slice none 0 0) (.slice none 0 0) := by rw [← hwa]; exact heap_alloc2_old w _ _
  have hr1 : row2 wa (w.heap.size + 1) (.slice none 0 0) (.slice none 0 0) := by rw [← hwa]; exact heap_alloc2_new w _ _
  have ba : Below w.heap.size w wa := by rw [← hwa]; exact ((Below.refl _ _).alloc (Nat.le_refl _) _).alloc (by simp) _
  clear hwa
  refine (primes_any wa).mono ?_
  rintro e w2 ⟨⟨v, rfl, hp⟩, g2⟩
  have b2 := ba.trans (g2.mono ba.size)
  have l0 := row2_lt hr0
  have l1 := row2_lt hr1
  have r0 : row2 w2 w.heap.size (.slice none 0 0) (.slice none 0 0) := (g2.block _ l0).trans hr0
  have r1 : row2 w2 (w.heap.size + 1) (.slice none 0 0) (.slice none 0 0) := (g2.block _ l1).trans hr1
  have z2 : w.heap.size + 1 < w2.heap.size := Nat.lt_of_lt_of_le l1 g2.size
  clear hr0 hr1 ba g2 l0 l1
  obtain ⟨bp, cp, rfl, hbp, hcp⟩ := hp
  rw [p64_len]
  rw [p64_len] at hcp
  have HCP := Lib.hid hcp
  have NE : bp ≠ w.heap.size + 1 := by
    rintro rfl
    have e1 := HCP.out 0 (by omega)
    rw [row2_0 r1] at e1
    cases e1
  clear hcp
  have R0 := Lib.hid r0
  clear r0
  go_wp2
  go_loopw [3] (fun i wr => ∃ (k : Nat) (u : Value), k ≤ 8 ∧ i = .int .i64 k ∧ row2 wr (w.heap.size + 1) u (.slice none 0 0) ∧ wr.ownsRow w2.heap.size 49 1 u k (uc (h0s.take k)) ∧ Fr [w.heap.size + 1] w2 wr) (fun i _ => 8 - (intOf i).toNat)
  case atStart => exact ⟨0, _, by omega, rfl, r1, World.ownsRow_nil _ _ _ _, Fr.refl _ _⟩
  case round =>
    clear r1
    obtain ⟨k, u, hk, rfl, hr, hown, hfr⟩ := hrel
    by_cases hlt : k < 8
    · have kk : (k : Int) < 8 := by omega
      have kk64 : (k : Int) < 64 := by omega
      have c0 := row2_0 hr
      have cl := row2_lt hr
      have cp0 : wr.cell? ⟨bp, k, none⟩ = some (.int .u64 (p64.getD k 0 : Nat)) := (hfr.cell (p := ⟨bp, k, none⟩) hbp (by simpa using NE)).trans (HCP.out k (by omega))
      have cb : bp < wr.heap.size := Nat.lt_of_lt_of_le hbp hfr.size
      have hroot := fun w => begin_any k w hlt
      have hx : uc (h0s.take k) ++ [.int .u32 (h0s.getD k 0).toNat] = uc (h0s.take (k + 1)) := uc_take_succ h0s k (by simpa [h0s] using hlt)
      generalize h0s.getD k 0 = x at hroot hx
      generalize p64.getD k 0 = pk at cp0 hroot
      have HX := Lib.hid hx
      have HROOT := Lib.hid hroot
      have Z2 := Lib.hid z2
      have hs := hfr.size
      clear hx hroot z2
      go_wp2
      go_region_law
        (first
          | (go_simp; go_at_call 24; refine (HROOT.out _).mono ?_; rintro e w3 ⟨rfl, g3'⟩; have g3 := below_undrew g3'; have r3 : row2 w3 (w.heap.size + 1) u (.slice none 0 0) := (g3.block _ cl).trans hr; have d0 := row2_0 r3; have df := row2_fr (k := 0) r3; have dl := row2_lt r3; have own3 := own_below hown g3; have s3 := g3.size)
          | (refine step_append_lies _ (by rfl) _ _ _ (by rfl) w2.heap.size 49 i0 _ 1 4 Tryd.underlying33 hi hz0 hz1 hz2 rfl (by omega) u k (uc (h0s.take k)) (by rfl) (own3.alloc _) ⟨w3.heap.size, 0, none⟩ 1 1 [.int .u32 x.toNat] (by rfl) (by rfl) (World.news_of_block (cs := #[.int .u32 x.toNat]) (t := 49) (fr := (0, 0)) (heap_alloc_new w3 _)) (by simp [Value.oneCell']) (by omega) (by unfold maxLen; omega) (by omega) (by simp; omega) (w3.heap.size + 1) (by simp) ?_; intro gg cap w4 hown4 hgrow hat hlt4; have b4 : Below w2.heap.size w3 w4 := ((Below.refl _ _).alloc (Nat.le_trans hs s3) _).grown hgrow (by simp; omega) (own_block_ge own3); have f4 : Fr [w.heap.size + 1] w2 w4 := (hfr.then_below (g3.mono hs)).then_below b4; have r4 : row2 w4 (w.heap.size + 1) u (.slice none 0 0) := (b4.block _ Z2.out).trans r3; have e0 := row2_0 r4; have ef := row2_fr (k := 0) r4))
      all_goals
        go_wp2
        go_roundw
        case rel => exact ⟨k + 1, _, by omega, by go_num, row2_s0 r4, by rw [← HX.out]; exact own_setCell hown4 Z2.out _, f4.setCell (Or.inl (by simp)) _⟩
        case measure => simp [intOf]; omega
    · obtain rfl : k = 8 := by omega
      rw [show ((8 : Nat) : Int) = 8 from rfl]
      have hw := WordsAt.of_own hown (by omega)
      rw [show h0s.take 8 = h0s from rfl] at hw
      have q0 : row2 wr w.heap.size (.slice none 0 0) (.slice none 0 0) := (hfr.block _ (by omega) (by simp)).trans R0.out
      have hbq : bp < wr.heap.size := Nat.lt_of_lt_of_le hbp hfr.size
      have hcq : ∀ k, k < 64 → wr.cell? ⟨bp, k, none⟩ = some (.int .u64 (p64.getD k 0 : Nat)) := fun k hk => (hfr.cell (p := ⟨bp, k, none⟩) hbp (by simpa using NE)).trans (HCP.out k hk)
      have bq := b2.trans (hfr.below (B := w.heap.size) (by omega) (by simp))
      have zq : w.heap.size + 1 < wr.heap.size := row2_lt hr
      obtain ⟨wq, hwq⟩ : ∃ wq : World, wq = wr := ⟨_, rfl⟩
      rw [← hwq] at hw q0 hbq hcq bq zq hr
      rw [← hwq]
      have HUB := Lib.hid (show ∀ k, u.ownBlock = some k → w.heap.size ≤ k from fun k hk => Nat.le_trans b2.size (own_block_ge hown k hk))
      have HW := Lib.hid hw
      have HR0 := Lib.hid hr
      have Q0 := Lib.hid q0
      have HCQ := Lib.hid hcq
      clear hwq hown hfr b2 R0 HCP z2 hbp hw q0 hcq
      go_wp2
      go_loopw [4] (fun i wr => ∃ (k : Nat) (v : Value), k ≤ 64 ∧ i = .int .i64 k ∧ row2 wr (w.heap.size + 1) u v ∧ wr.ownsRow wq.heap.size 49 1 v k (uc (ks.take k)) ∧ Fr [w.heap.size + 1] wq wr) (fun i _ => 64 - (intOf i).toNat)
      case atStart => exact ⟨0, _, by omega, rfl, hr, World.ownsRow_nil _ _ _ _, Fr.refl _ _⟩
      case round =>
        clear hr
        obtain ⟨k, v, hk, rfl, hr, hown, hfr⟩ := hrel
        by_cases hlt : k < 64
        · have kk : (k : Int) < 64 := by omega
          have c0 := row2_1 hr
          have cl := row2_lt hr
          have cp0 : wr.cell? ⟨bp, k, none⟩ = some (.int .u64 (p64.getD k 0 : Nat)) := (hfr.cell (p := ⟨bp, k, none⟩) hbq (by simpa using NE)).trans (HCQ.out k (by omega))
          have cb : bp < wr.heap.size := Nat.lt_of_lt_of_le hbq hfr.size
          have hroot := fun w => round_any k w hlt
          have hx : uc (ks.take k) ++ [.int .u32 (ks.getD k 0).toNat] = uc (ks.take (k + 1)) := uc_take_succ ks k (by simpa [ks] using hlt)
          generalize ks.getD k 0 = x at hroot hx
          generalize p64.getD k 0 = pk at cp0 hroot
          have HX := Lib.hid hx
          have HROOT := Lib.hid hroot
          have ZQ := Lib.hid zq
          have hs := hfr.size
          clear hx hroot zq
          go_wp2
          go_region_law
            (first
              | (go_simp; go_at_call 24; refine (HROOT.out _).mono ?_; rintro e w3 ⟨rfl, g3'⟩; have g3 := below_undrew g3'; have r3 : row2 w3 (w.heap.size + 1) u v := (g3.block _ cl).trans hr; have d0 := row2_1 r3; have df := row2_fr (k := 1) r3; have dl := row2_lt r3; have own3 := own_below hown g3; have s3 := g3.size)
              | (refine step_append_lies _ (by rfl) _ _ _ (by rfl) wq.heap.size 49 i0 _ 1 4 Tryd.underlying33 hi hz0 hz1 hz2 rfl (by omega) v k (uc (ks.take k)) (by rfl) (own3.alloc _) ⟨w3.heap.size, 0, none⟩ 1 1 [.int .u32 x.toNat] (by rfl) (by rfl) (World.news_of_block (cs := #[.int .u32 x.toNat]) (t := 49) (fr := (0, 0)) (heap_alloc_new w3 _)) (by simp [Value.oneCell']) (by omega) (by unfold maxLen; omega) (by omega) (by simp; omega) (w3.heap.size + 1) (by simp) ?_; intro gg cap w4 hown4 hgrow hat hlt4; have b4 : Below wq.heap.size w3 w4 := ((Below.refl _ _).alloc (Nat.le_trans hs s3) _).grown hgrow (by simp; omega) (own_block_ge own3); have f4 : Fr [w.heap.size + 1] wq w4 := (hfr.then_below (g3.mono hs)).then_below b4; have r4 : row2 w4 (w.heap.size + 1) u v := (b4.block _ ZQ.out).trans r3; have e0 := row2_1 r4; have ef := row2_fr (k := 1) r4))
          all_goals
            go_wp2
            go_roundw
            case rel => exact ⟨k + 1, _, by omega, by go_num, row2_s1 r4, by rw [← HX.out]; exact own_setCell hown4 ZQ.out _, f4.setCell (Or.inl (by simp)) _⟩
            case measure => simp [intOf]; omega
        · obtain rfl : k = 64 := by omega
          rw [show ((64 : Nat) : Int) = 64 from rfl]
          have hv := WordsAt.of_own hown (by omega)
          rw [show ks.take 64 = ks from rfl] at hv
          have p0 : row2 wr w.heap.size (.slice none 0 0) (.slice none 0 0) := (hfr.block _ (by omega) (by simp)).trans Q0.out
          have hz : w.heap.size < wr.heap.size := row2_lt p0
          have hu : WordsAt wr u h0s := by
            obtain ⟨b, cap, e, hl, hc⟩ := HW.out
            by_cases hb : b = w.heap.size + 1
            · subst hb
              have e1 := hc 0 (by decide)
              rw [row2_0 HR0.out, e] at e1
              cases e1
            · exact ⟨b, cap, e, Nat.lt_of_lt_of_le hl hfr.size, fun k hk => (hfr.cell (p := ⟨b, k, none⟩) hl (by simpa using hb)).trans (hc k hk)⟩
          have bw := bq.trans (hfr.below (B := w.heap.size) (by omega) (by simp))
          have k0 := row2_0 hr
          have k1 := row2_1 hr
          have j0 := row2_0 p0
          have j1 := row2_1 p0
          have f0 := row2_fr (k := 0) p0
          have f1 := row2_fr (k := 1) p0
          have HVB := Lib.hid (show ∀ k, v.ownBlock = some k → w.heap.size ≤ k from fun k hk => Nat.le_trans bq.size (own_block_ge hown k hk))
          have HV := Lib.hid hv
          have HU := Lib.hid hu
          obtain ⟨bu, cu, rfl, _, _⟩ := hu
          obtain ⟨bv, cv, rfl, _, _⟩ := hv
          have P0 := Lib.hid p0
          have HR := Lib.hid hr
          have sz2 : (Tryd.prog.info? 35).map (·.size) = some 2 := by kernel_rfl
          have SZ2 := Lib.hid sz2
          clear p0 hr hown sz2
          go_wp2
          have q2 := row2_s1 (x := .slice (some ⟨bv, 0, none⟩) ks.length cv) (row2_s0 (x := .slice (some ⟨bu, 0, none⟩) h0s.length cu) P0.out)
          refine bodyPost_ret (results_cell_row Tryd.results14 _ _ w.heap.size 35 _ _ _ rfl q2 Tryd.underlying35 rfl SZ2.out) rfl ⟨⟨_, _, rfl, ?_, ?_, HUB.out, HVB.out⟩, (bw.setCell (Nat.le_refl _) _).setCell (Nat.le_refl _) _⟩
          · exact (HU.out.set (by decide) (row2_0 P0.out)).set (by decide) (row2_0 (row2_s0 P0.out))
          · exact (HV.out.set (by decide) (row2_0 P0.out)).set (by decide) (row2_0 (row2_s0 P0.out))
end Go.Proofs.YtjabbddgjbejbaaDoor
