import Derived.Test.YtlplgpmadfmjjaaDoorRows
import Derived.WalkKit
import Derived.Below
import Derived.ProofKit
import Derived.OpenShut
import Derived.ShutString
import Derived.ChangeOld
import Derived.Outline
import Derived.RegionTactic
import Derived.ChangeAlike
import Derived.BigRegion
import Derived.BigQuiet
import Derived.Deep.QuietTactic
import Derived.Deep.RegionWith
import Derived.Deep.RegionLaw
import Derived.Deep.RegionHeld3
import Derived.Deep.AppendLies
import Derived.Deep.Draws
import Derived.StillTailTactics
import Derived.Lib.Hide
import Derived.Lib.SmallJoins
import Derived.Handy
import Derived.Stop.BytesEq
import Derived.WalkSpells
import Derived.WalkSpells
import Derived.WalkLawsBesides
import Derived.Deep.LoopGhost
import Derived.Deep.DeepCutAuto
import Derived.Laws.CopyOwn
import Derived.Test.YtlplgpmadfmjjaaDoorRefF
namespace Go.Proofs.YtlplgpmadfmjjaaDoor
open Go.RowKit
set_option linter.unusedSimpArgs false
set_option linter.unusedVariables false
set_option linter.unnecessarySimpa false
def r2s : List Nat := [6074000999, 7439101573, 9603838834, 11363415354, 14244795007, 15485724812, 17708603819, 18721328409]
def r3s : List Nat := [5411319704, 6194414737, 7344290767, 8215976869, 9551921755, 10098905585, 11043570340, 11460697813, 12214315672, 13195500289, 13492127166, 14311783875, 14809980276, 15046980094, 15499789991, 16133124468, 16720292289, 16907126662, 17444216262, 17784676812, 17950125167, 18429019306, 18734950876, 19175934170, 19734090066, 20001703533, 20132865992, 20390182855, 20516441075, 20764397895, 21588763473, 21813078375, 22141143685, 22248366392, 22769593852, 22871018771, 23170020180, 23461497531, 23651862830, 23931792517, 24205322401, 24295138891, 24734567280, 24820601251, 24990902297, 25075189284, 25569408389, 26045227120, 26200031510, 26276752392, 26428864332, 26653801653, 26727943347, 27092625994, 27306805839, 27517677555, 27725365998, 27793908591, 27997534228, 28131656200, 28198240250, 28526537963, 28973835255, 29099129074]
theorem r2_ok : ∀ i, i < 8 → r2s.getD i 0 < 1099511627776 ∧ r2s.getD i 0 ^ 2 ≤ p64.getD i 0 * 65536 ^ 4 ∧ p64.getD i 0 * 65536 ^ 4 < (r2s.getD i 0 + 1) ^ 2 ∧ r2s.getD i 0 % 4294967296 = (h0s.getD i 0).toNat := by decide +kernel
theorem r3_ok : ∀ i, i < 64 → r3s.getD i 0 < 1099511627776 ∧ r3s.getD i 0 ^ 3 ≤ p64.getD i 0 * 65536 ^ 6 ∧ p64.getD i 0 * 65536 ^ 6 < (r3s.getD i 0 + 1) ^ 3 ∧ r3s.getD i 0 % 4294967296 = (ks.getD i 0).toNat := by decide +kernel
theorem p64_lt : ∀ i, i < 64 → p64.getD i 0 < 65536 := by decide +kernel
theorem info32w : (Tryd.prog.info? 52).map (fun i => (i.zero, i.size, i.bytes)) = some (some (.int .u32 0), 1, 4) := by kernel_rfl
theorem WordsAt.of_own {w : World} {B n : Nat} {v : Value} {l : List (BitVec 32)} (h : w.ownsRow B 52 1 v n (uc l)) (hn : 0 < n) : WordsAt w v l := by
  have hl : l.length = n := by have := h.1; rw [uc_len] at this; omega
  rcases h.2 with ⟨_, h0⟩ | ⟨g, cap, cur, rfl, _, hg, hnc, _, hsz, ht⟩
  · omega
  · refine ⟨g, cap, by rw [hl], ?_, fun k hk => ?_⟩
    · rcases Nat.lt_or_ge g w.heap.size with hlt | hge
      · exact hlt
      · rw [Array.getElem?_eq_none hge] at hg; cases hg
    · rw [cell_of_row w g k _ _ _ hg]
      have e : (cur.toList.take (n * 1))[k]? = (uc l)[k]? := by rw [ht]
      rw [List.getElem?_take_of_lt (by omega), uc_get hk] at e
      rw [← Array.getElem?_toList]
      exact e
theorem uc_take_succ (l : List (BitVec 32)) (k : Nat) (h : k < l.length) : uc (l.take k) ++ [.int .u32 (l.getD k 0).toNat] = uc (l.take (k + 1)) := by
  unfold uc
  rw [List.take_add_one, List.map_append, List.getElem?_eq_getElem h, List.getD_eq_getElem?_getD, List.getElem?_eq_getElem h]
  rfl
theorem WordsAt.set {w : World} {v : Value} {l : List (BitVec 32)} {g k : Nat} {x : Value} {a : Option Addr} {n c : Nat} (h : WordsAt w v l) (hl : 0 < l.length) (hg : w.cell? ⟨g, 0, none⟩ = some (.slice a n c)) : WordsAt (w.setCell ⟨g, k, none⟩ x) v l := by
  obtain ⟨b, cap, e, hb, hc⟩ := h
  refine ⟨b, cap, e, by simpa [World.setCell] using hb, fun j hj => ?_⟩
  have hne : b ≠ g := by
    rintro rfl
    have := hc 0 hl
    rw [hg] at this
    cases this
  rw [← hc j hj]
  unfold World.cell?
  rw [heap_setCell_other _ _ _ _ (by simpa using hne)]
/-- A row of two slices. -/
abbrev row2 (w : World) (g : Nat) (u v : Value) : Prop := w.heap[g]? = some (.cells #[u, v] 51 (0, 0))
theorem row2_0 {w : World} {g : Nat} {u v : Value} (h : row2 w g u v) : w.cell? ⟨g, 0, none⟩ = some u := cell_of_row _ _ _ _ _ _ h
theorem row2_1 {w : World} {g : Nat} {u v : Value} (h : row2 w g u v) : w.cell? ⟨g, 1, none⟩ = some v := cell_of_row _ _ _ _ _ _ h
theorem row2_lt {w : World} {g : Nat} {u v : Value} (h : row2 w g u v) : g < w.heap.size := by
  rcases Nat.lt_or_ge g w.heap.size with hlt | hge
  · exact hlt
  · unfold row2 at h; rw [Array.getElem?_eq_none hge] at h; cases h
theorem row2_s0 {w : World} {g : Nat} {u v x : Value} (h : row2 w g u v) : row2 (w.setCell ⟨g, 0, none⟩ x) g x v := by
  have := set_row (k := 0) (v := x) (l := [u, v]) h
  exact this
theorem row2_s1 {w : World} {g : Nat} {u v x : Value} (h : row2 w g u v) : row2 (w.setCell ⟨g, 1, none⟩ x) g u x := by
  have := set_row (k := 1) (v := x) (l := [u, v]) h
  exact this
theorem row2_fr {w : World} {g k : Nat} {u v : Value} (h : row2 w g u v) : w.frozen? ⟨g, k, none⟩ = false := frozen_of_row w g k _ _ h
theorem Fr.cell {ex : List Nat} {a b : World} (h : Fr ex a b) {p : Addr} (hp : p.block < a.heap.size) (hx : p.block ∉ ex) : b.cell? p = a.cell? p := by
  unfold World.cell?; rw [h.block _ hp hx]
theorem WordsAt.fr {w w' : World} {v : Value} {l : List (BitVec 32)} {ex : List Nat} (h : WordsAt w v l) (hf : Fr ex w w') (hx : ∀ k, v.ownBlock = some k → k ∉ ex) : WordsAt w' v l := by
  obtain ⟨b, cap, rfl, hb, hc⟩ := h
  exact ⟨b, cap, rfl, Nat.lt_of_lt_of_le hb hf.size, fun k hk => (hf.cell (p := ⟨b, k, none⟩) hb (hx b rfl)).trans (hc k hk)⟩
theorem Fr.then_below {ex : List Nat} {a b c : World} (h : Fr ex a b) (k : Below a.heap.size b c) : Fr ex a c :=
  ⟨k.os.trans h.os, k.tape.trans h.tape, k.output.trans h.output, Nat.le_trans h.size k.size, fun i hi hn => (k.block i hi).trans (h.block i hi hn)⟩
theorem own_setCell {w : World} {B size n : Nat} {e : TypeId} {v : Value} {xs : List Value} {p : Addr} (h : w.ownsRow B e size v n xs) (hp : p.block < B) (x : Value) : (w.setCell p x).ownsRow B e size v n xs := by
  refine ⟨h.1, ?_⟩
  rcases h.2 with h0 | ⟨g, cap, cur, e1, e2, hg, h3⟩
  · exact Or.inl h0
  · exact Or.inr ⟨g, cap, cur, e1, e2, by rw [heap_setCell_other _ _ _ _ (by omega)]; exact hg, h3⟩
end Go.Proofs.YtlplgpmadfmjjaaDoor
