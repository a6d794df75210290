import Derived.Test.YtlplgpmadfmjjaaDoorRows
import Derived.WalkKit
import Derived.Below
import Derived.ProofKit
import Derived.OpenShut
import Derived.ShutString
import Derived.ChangeOld
import Derived.Outline
import Derived.RegionTactic
import Derived.ChangeAlike
import Derived.BigRegion
import Derived.BigQuiet
import Derived.Deep.QuietTactic
import Derived.Deep.RegionWith
import Derived.Deep.RegionLaw
import Derived.Deep.RegionHeld3
import Derived.Deep.AppendLies
import Derived.Deep.Draws
import Derived.StillTailTactics
import Derived.Lib.Hide
import Derived.Lib.SmallJoins
import Derived.Handy
import Derived.Stop.BytesEq
import Derived.WalkSpells
import Derived.WalkLawsBesides
import Derived.Deep.LoopGhost
import Derived.Deep.DeepCutAuto
import Derived.Laws.CopyOwn
import Derived.Test.YtlplgpmadfmjjaaDoorNum
import Derived.Test.YtlplgpmadfmjjaaDoorHashA
import Derived.Test.YtlplgpmadfmjjaaDoorFr
import Derived.Test.YtlplgpmadfmjjaaDoorHashB
namespace Go.Proofs.YtlplgpmadfmjjaaDoor
open Go.RowKit
set_option linter.unusedSimpArgs false
set_option linter.unusedVariables false
/-- Numbers of 64 bits, as cells. -/
def nc (l : List Nat) : List Value := l.map fun (x : Nat) => .int .u64 (x : Int)
theorem nc_len (l : List Nat) : (nc l).length = l.length := by simp [nc]
theorem nc_get {l : List Nat} {k : Nat} (h : k < l.length) : (nc l)[k]? = some (.int .u64 (l.getD k 0 : Nat)) := by simp [nc, h]
theorem nc_set (l : List Nat) (k x : Nat) : (nc l).set k (.int .u64 (x : Int)) = nc (l.set k x) := by simp [nc, List.map_set]
/-- A slice of numbers, read. -/
def NumAt (w : World) (v : Value) (l : List Nat) : Prop := ∃ b cap, v = .slice (some ⟨b, 0, none⟩) l.length cap ∧ b < w.heap.size ∧ ∀ k, k < l.length → w.cell? ⟨b, k, none⟩ = some (.int .u64 (l.getD k 0 : Nat))
theorem NumAt.below {w w' : World} {v : Value} {l : List Nat} (h : NumAt w v l) (hb : Below w.heap.size w w') : NumAt w' v l := by
  obtain ⟨b, cap, e, hlt, hc⟩ := h
  exact ⟨b, cap, e, Nat.lt_of_lt_of_le hlt hb.size, fun k hk => (hb.cell (p := ⟨b, k, none⟩) hlt).trans (hc k hk)⟩
theorem NumAt.of_row {w : World} {b cap : Nat} {l : List Nat} {t : TypeId} {fr : Nat × Nat} (h : w.heap[b]? = some (.cells (nc l).toArray t fr)) : NumAt w (.slice (some ⟨b, 0, none⟩) l.length cap) l := by
  refine ⟨b, cap, rfl, ?_, fun k hk => cell_row h (nc_get hk)⟩
  rcases Nat.lt_or_ge b w.heap.size with hlt | hge
  · exact hlt
  · rw [Array.getElem?_eq_none hge] at h; cases h
theorem and16 (n : Nat) (h : n < 18446744073709551616) : bits .and .u64 (n : Int) 65535 = ((n % 65536 : Nat) : Int) := by
  rw [show (65535 : Int) = ((65535 : Nat) : Int) from rfl, u64_and_nat _ _ h (by omega), nat_mask16]
theorem val_take_succ (b : List Nat) (k : Nat) : val (b.take (k + 1)) = val (b.take k) + b.getD k 0 * 65536 ^ k := by
  rcases Nat.lt_or_ge k b.length with h | h
  · rw [List.take_add_one, List.getElem?_eq_getElem h]
    simp only [Option.toList_some]
    rw [val_append, List.length_take, Nat.min_eq_left (by omega)]
    simp [val, h, Nat.mul_comm]
  · rw [List.take_of_length_le h, List.take_of_length_le (by omega)]
    simp [h]
theorem dig_take {a : List Nat} (h : Dig a) (i : Nat) : Dig (a.take i) := fun k => by
  rcases Nat.lt_or_ge k i with hk | hk
  · rw [List.getD_eq_getElem?_getD, List.getElem?_take_of_lt hk, ← List.getD_eq_getElem?_getD]; exact h k
  · rw [List.getD_eq_getElem?_getD, List.getElem?_take_eq_none hk]; simp
/-- One step of the product stays below the row's end. -/
theorem prod_lt (a b : List Nat) (i k : Nat) (ha : Dig a) (hb : Dig b) (hi : i < a.length) : val (a.take i) * val b + a.getD i 0 * 65536 ^ i * val (b.take (k + 1)) < 65536 ^ (a.length + b.length) := by
  have h1 : val (b.take (k + 1)) ≤ val b := by
    have := val_split (b) (k + 1) hb
    have e := val_append (b.take (k + 1)) (b.drop (k + 1))
    rw [List.take_append_drop] at e
    omega
  have h2 : val (a.take i) * val b + a.getD i 0 * 65536 ^ i * val (b.take (k + 1)) ≤ val (a.take (i + 1)) * val b := by
    rw [val_take_succ a i, Nat.add_mul]
    exact Nat.add_le_add_left (Nat.mul_le_mul_left _ h1) _
  have h3 := val_lt (a.take (i + 1)) (dig_take ha _)
  rw [List.length_take, Nat.min_eq_left hi] at h3
  have h4 := val_lt b hb
  have h5 : 65536 ^ (i + 1) ≤ 65536 ^ a.length := Nat.pow_le_pow_right (by omega) hi
  rw [Nat.pow_add]
  refine Nat.lt_of_le_of_lt h2 ?_
  exact Nat.mul_lt_mul_of_lt_of_le (Nat.lt_of_lt_of_le h3 h5) (Nat.le_of_lt h4) (Nat.pow_pos (by omega))
/-- A carry goes up by one place. -/
theorem carry_step (o : List Nat) (j c T : Nat) (hj : j < o.length) (h : val o + c * 65536 ^ j = T) : val (o.set j ((o.getD j 0 + c) % 65536)) + (o.getD j 0 + c) / 65536 * 65536 ^ (j + 1) = T := by
  have e := val_set o j ((o.getD j 0 + c) % 65536) hj
  have e2 : (o.getD j 0 + c) % 65536 * 65536 ^ j + (o.getD j 0 + c) / 65536 * 65536 ^ (j + 1) = (o.getD j 0 + c) * 65536 ^ j := by
    rw [Nat.pow_succ, Nat.mul_comm (65536 ^ j) 65536, ← Nat.mul_assoc, ← Nat.add_mul]
    congr 1
    omega
  rw [Nat.add_mul] at e2
  omega
theorem carry_in (o : List Nat) (j c T n : Nat) (hc : 0 < c) (h : val o + c * 65536 ^ j = T) (hT : T < 65536 ^ n) : j < n := by
  rcases Nat.lt_or_ge j n with h1 | h1
  · exact h1
  · have h2 : 65536 ^ n ≤ 65536 ^ j := Nat.pow_le_pow_right (by omega) h1
    have h3 : 65536 ^ j ≤ c * 65536 ^ j := Nat.le_mul_of_pos_left _ hc
    omega
theorem info61 : (Tryd.prog.info? 57).map (fun i => (i.zero, i.size, i.bytes)) = some (some (.int .u64 0), 1, 8) := by kernel_rfl
theorem made_row {w : World} {g n B : Nat} (h : w.ownsRow B 57 1 (.slice (some ⟨g, 0, none⟩) n n) n (madeCells #[Value.int .u64 0] n).toList) : w.heap[g]? = some (.cells (nc (List.replicate n 0)).toArray 57 (0, 0)) := by
  rcases h.2 with ⟨h1, _⟩ | ⟨g', cap, cur, h1, _, h2, _, _, h3, h4⟩
  · cases h1
  · simp only [Value.slice.injEq, Option.some.injEq, Addr.mk.injEq] at h1
    obtain ⟨⟨rfl, _⟩, _, rfl⟩ := h1
    have e : cur = (nc (List.replicate n 0)).toArray := by
      apply Array.toList_inj.1
      rw [← List.take_length (l := cur.toList), Array.length_toList, h3, h4]
      apply List.ext_getElem
      · simp [madeCells, nc]
      · intro i h5 h6
        simp [madeCells, nc, Value.cells, Nat.mod_one]
    rw [h2, e]
end Go.Proofs.YtlplgpmadfmjjaaDoor
