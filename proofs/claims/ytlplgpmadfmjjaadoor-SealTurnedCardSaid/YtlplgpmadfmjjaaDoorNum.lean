/- Numbers as rows of digits by 16 bits, the least first; roots. It hangs on no program. -/
set_option linter.unusedSimpArgs false
set_option linter.unusedVariables false
namespace Go.Proofs.YtlplgpmadfmjjaaDoor
/-- What a row of digits is. -/
def val : List Nat → Nat
  | [] => 0
  | d :: r => d + 65536 * val r
theorem val_set : ∀ (o : List Nat) (j x : Nat), j < o.length → val (o.set j x) + o.getD j 0 * 65536 ^ j = val o + x * 65536 ^ j
  | [], j, x, h => by simp at h
  | d :: r, 0, x, _ => by simp [val]; omega
  | d :: r, j + 1, x, h => by
    have ih := val_set r j x (by simpa using h)
    simp only [List.set_cons_succ, val, List.getD_cons_succ, Nat.pow_succ]
    have e1 : r.getD j 0 * (65536 ^ j * 65536) = 65536 * (r.getD j 0 * 65536 ^ j) := by rw [← Nat.mul_assoc, Nat.mul_comm]
    have e2 : x * (65536 ^ j * 65536) = 65536 * (x * 65536 ^ j) := by rw [← Nat.mul_assoc, Nat.mul_comm]
    rw [e1, e2]
    omega
theorem val_rep : ∀ n : Nat, val (List.replicate n 0) = 0
  | 0 => rfl
  | n + 1 => by rw [List.replicate_succ, val, val_rep n]
theorem val_append : ∀ (a b : List Nat), val (a ++ b) = val a + 65536 ^ a.length * val b
  | [], b => by simp [val]
  | d :: a, b => by
    rw [List.cons_append, val, val_append a b, val, List.length_cons, Nat.pow_succ]
    have e : 65536 ^ a.length * 65536 * val b = 65536 * (65536 ^ a.length * val b) := by rw [Nat.mul_comm (65536 ^ a.length) 65536, Nat.mul_assoc]
    omega
/-- All digits are below 65536. -/
def Dig (a : List Nat) : Prop := ∀ k, a.getD k 0 < 65536
theorem Dig.tail {d : Nat} {r : List Nat} (h : Dig (d :: r)) : Dig r := fun k => h (k + 1)
theorem Dig.set {a : List Nat} (h : Dig a) (j x : Nat) (hx : x < 65536) : Dig (a.set j x) := fun k => by
  rw [List.getD_eq_getElem?_getD, List.getElem?_set]
  split
  · split
    · simpa using hx
    · simp
  · rw [← List.getD_eq_getElem?_getD]; exact h k
theorem val_lt : ∀ (a : List Nat), Dig a → val a < 65536 ^ a.length
  | [], _ => by simp [val]
  | d :: r, h => by
    have ih := val_lt r h.tail
    have h0 : d < 65536 := h 0
    rw [val, List.length_cons, Nat.pow_succ]
    omega
/-- From place i on. -/
theorem val_drop (a : List Nat) (i : Nat) : val (a.drop i) = a.getD i 0 + 65536 * val (a.drop (i + 1)) := by
  rcases Nat.lt_or_ge i a.length with h | h
  · rw [List.drop_eq_getElem_cons h, val]
    simp [h]
  · rw [List.drop_of_length_le h, List.drop_of_length_le (by omega)]
    simp [val, h]
theorem val_split (a : List Nat) (i : Nat) (h : Dig a) : ∃ r, r < 65536 ^ i ∧ val a = r + 65536 ^ i * val (a.drop i) := by
  induction i with
  | zero => exact ⟨0, by simp, by simp⟩
  | succ i ih =>
    obtain ⟨r, hr, e⟩ := ih
    have hd := h i
    refine ⟨r + 65536 ^ i * a.getD i 0, ?_, ?_⟩
    · rw [Nat.pow_succ]
      have h1 : 65536 ^ i * a.getD i 0 ≤ 65536 ^ i * 65535 := Nat.mul_le_mul_left _ (by omega)
      omega
    · rw [e, val_drop a i, Nat.mul_add, Nat.pow_succ, Nat.mul_assoc]
      omega
/-- Above place i they are the same, and at i one is greater. -/
theorem val_less (a b : List Nat) (i : Nat) (ha : Dig a) (hb : Dig b) (h : val (a.drop (i + 1)) = val (b.drop (i + 1))) (hlt : a.getD i 0 < b.getD i 0) : val a < val b := by
  obtain ⟨r, hr, ea⟩ := val_split a i ha
  obtain ⟨s, hs, eb⟩ := val_split b i hb
  rw [ea, eb, val_drop a i, val_drop b i, h]
  have h1 : 65536 ^ i * (a.getD i 0 + 65536 * val (b.drop (i + 1)) + 1) ≤ 65536 ^ i * (b.getD i 0 + 65536 * val (b.drop (i + 1))) := Nat.mul_le_mul_left _ (by omega)
  rw [Nat.mul_add _ _ 1] at h1
  omega
theorem val_same (a b : List Nat) (i : Nat) (h : val (a.drop (i + 1)) = val (b.drop (i + 1))) (he : a.getD i 0 = b.getD i 0) : val (a.drop i) = val (b.drop i) := by
  rw [val_drop a i, val_drop b i, h, he]
/-- The digits of a number of 64 bits. -/
def dig4 (n : Nat) : List Nat := [n % 65536, n / 65536 % 65536, n / 4294967296 % 65536, n / 281474976710656 % 65536]
theorem dig4_val (n : Nat) (h : n < 18446744073709551616) : val (dig4 n) = n := by
  simp only [dig4, val]; omega
theorem dig_of (a : List Nat) (h : ∀ x ∈ a, x < 65536) : Dig a := fun k => by
  rcases Nat.lt_or_ge k a.length with hk | hk
  · have := h a[k] (List.getElem_mem hk)
    simpa [hk] using this
  · simp [hk]
theorem dig4_dig (n : Nat) : Dig (dig4 n) := dig_of _ (by intro x hx; simp [dig4] at hx; rcases hx with rfl | rfl | rfl | rfl <;> omega)
theorem rep_dig (n : Nat) : Dig (List.replicate n 0) := dig_of _ (by intro x hx; have := List.eq_of_mem_replicate hx; omega)
/-- Two numbers whose powers stand about one number in the same way are the same. -/
theorem root_one (k x y N : Nat) (hk : 0 < k) (h1 : x ^ k ≤ N) (h2 : N < (x + 1) ^ k) (h3 : y ^ k ≤ N) (h4 : N < (y + 1) ^ k) : x = y := by
  rcases Nat.lt_trichotomy x y with h | h | h
  · have := Nat.pow_le_pow_left (show x + 1 ≤ y from h) k
    omega
  · exact h
  · have := Nat.pow_le_pow_left (show y + 1 ≤ x from h) k
    omega
end Go.Proofs.YtlplgpmadfmjjaaDoor
