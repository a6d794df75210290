/- Sums, products and parts of numbers, limb by limb, as plain numbers; rows that turn cell by cell. It hangs on no program. -/
import Derived.Test.YtppgpdckaaabeaaWideB
namespace Go.Proofs.Ytppgpdckaaabeaa
/-- What goes over into limb k of a sum. -/
def lcy (N M k : Nat) : Nat := (N % 2 ^ (64 * k) + M % 2 ^ (64 * k)) / 2 ^ (64 * k)
theorem pos64 (k : Nat) : 0 < 2 ^ (64 * k) := Nat.two_pow_pos _
theorem pow64_succ (k : Nat) : 2 ^ (64 * (k + 1)) = 2 ^ (64 * k) * 18446744073709551616 := by rw [Nat.mul_add, Nat.pow_add]
theorem limb_def (N k : Nat) : limb N k = N / 2 ^ (64 * k) % 18446744073709551616 := rfl
theorem lmod_next (N k : Nat) : N % 2 ^ (64 * (k + 1)) = N % 2 ^ (64 * k) + 2 ^ (64 * k) * limb N k := by rw [pow64_succ, Nat.mod_mul, limb_def]
theorem limb_div (N k : Nat) : N / 2 ^ (64 * k) = N / 2 ^ (64 * (k + 1)) * 18446744073709551616 + limb N k := by
  rw [limb_def, pow64_succ, ← Nat.div_div_eq_div_mul]
  omega
theorem lcy_zero (N M : Nat) : lcy N M 0 = 0 := by simp [lcy, Nat.mod_one]
theorem lcy_le (N M k : Nat) : lcy N M k ≤ 1 := by
  have h1 := Nat.mod_lt N (pos64 k)
  have h2 := Nat.mod_lt M (pos64 k)
  unfold lcy
  refine Nat.le_of_lt_succ ((Nat.div_lt_iff_lt_mul (pos64 k)).2 ?_)
  omega
theorem lcy_succ (N M k : Nat) : lcy N M (k + 1) = (limb N k + limb M k + lcy N M k) / 18446744073709551616 := by
  unfold lcy
  rw [lmod_next, lmod_next, pow64_succ, ← Nat.div_div_eq_div_mul]
  have e : N % 2 ^ (64 * k) + 2 ^ (64 * k) * limb N k + (M % 2 ^ (64 * k) + 2 ^ (64 * k) * limb M k) = (N % 2 ^ (64 * k) + M % 2 ^ (64 * k)) + 2 ^ (64 * k) * (limb N k + limb M k) := by
    rw [Nat.mul_add]; omega
  rw [e, Nat.add_mul_div_left _ _ (pos64 k)]
  congr 1; omega
theorem limb_add (N M k : Nat) : limb (N + M) k = (limb N k + limb M k + lcy N M k) % 18446744073709551616 := by
  have h1 := Nat.div_add_mod N (2 ^ (64 * k))
  have h2 := Nat.div_add_mod M (2 ^ (64 * k))
  have e : N + M = (N % 2 ^ (64 * k) + M % 2 ^ (64 * k)) + 2 ^ (64 * k) * (N / 2 ^ (64 * k) + M / 2 ^ (64 * k)) := by rw [Nat.mul_add]; omega
  have e2 : (N + M) / 2 ^ (64 * k) = lcy N M k + (N / 2 ^ (64 * k) + M / 2 ^ (64 * k)) := by
    rw [e, Nat.add_mul_div_left _ _ (pos64 k)]; rfl
  rw [limb_def, limb_def, limb_def, e2]
  omega
theorem lcy_top (N M : Nat) (hN : N < 2 ^ 256) (hM : M < 2 ^ 256) : lcy N M 4 = (N + M) / 2 ^ 256 := by
  unfold lcy
  rw [show 2 ^ (64 * 4) = 2 ^ 256 from rfl, Nat.mod_eq_of_lt hN, Nat.mod_eq_of_lt hM]
theorem limb_top (N c k : Nat) (hk : k < 4) : limb (N + c * 2 ^ 256) k = limb N k := by
  have e : (2 : Nat) ^ 256 = 2 ^ (64 * k) * (18446744073709551616 * 2 ^ (64 * (3 - k))) := by
    rw [← Nat.mul_assoc, ← pow64_succ, ← Nat.pow_add]; congr 1; omega
  rw [limb_def, limb_def, e, Nat.mul_left_comm, Nat.add_mul_div_left _ _ (pos64 k), Nat.mul_left_comm, Nat.add_mul_mod_self_left]
/-- A difference, limb by limb. -/
theorem sub_limb (N M D c k : Nat) (h : M + D = N + c * 2 ^ 256) (hk : k < 4) :
    (limb N k + 18446744073709551616 - limb M k - lcy M D k) % 18446744073709551616 = limb D k ∧ (if limb N k < limb M k + lcy M D k then 1 else 0) = lcy M D (k + 1) := by
  have e := limb_add M D k
  rw [h, limb_top N c k hk] at e
  have e2 := lcy_succ M D k
  have h1 := limb_lt M k
  have h2 := limb_lt D k
  have h3 := lcy_le M D k
  rw [e2]
  generalize limb N k = x at *
  generalize limb M k = y at *
  generalize limb D k = z at *
  generalize lcy M D k = b at *
  subst e
  clear e2 h
  constructor
  · omega
  · split <;> omega
/-- What goes over into limb k of a product. -/
def mcy (N n k : Nat) : Nat := N % 2 ^ (64 * k) * n / 2 ^ (64 * k)
theorem mcy_zero (N n : Nat) : mcy N n 0 = 0 := by simp [mcy, Nat.mod_one]
theorem mcy_le (N n k : Nat) : mcy N n k ≤ n := by
  unfold mcy
  have h := Nat.mod_lt N (pos64 k)
  refine Nat.le_of_lt_succ ((Nat.div_lt_iff_lt_mul (pos64 k)).2 ?_)
  have := Nat.mul_le_mul_right n (Nat.le_of_lt h)
  have := pos64 k
  show _ < (n + 1) * _
  rw [Nat.add_mul n 1, Nat.one_mul, Nat.mul_comm n]
  omega
theorem mcy_succ (N n k : Nat) : mcy N n (k + 1) = (limb N k * n + mcy N n k) / 18446744073709551616 := by
  unfold mcy
  rw [lmod_next, pow64_succ, ← Nat.div_div_eq_div_mul, Nat.add_mul, Nat.mul_assoc, Nat.add_mul_div_left _ _ (pos64 k), Nat.add_comm]
theorem limb_mul (N n k : Nat) : limb (N * n) k = (limb N k * n + mcy N n k) % 18446744073709551616 := by
  have h1 := Nat.div_add_mod N (2 ^ (64 * k))
  have e : N * n = N % 2 ^ (64 * k) * n + 2 ^ (64 * k) * (N / 2 ^ (64 * k) * n) := by
    rw [← Nat.mul_assoc, ← Nat.add_mul]; congr 1; omega
  have e2 : N * n / 2 ^ (64 * k) = mcy N n k + N / 2 ^ (64 * k) * n := by rw [e, Nat.add_mul_div_left _ _ (pos64 k)]; rfl
  rw [limb_def, limb_def, e2, Nat.add_mod, Nat.mul_mod, ← Nat.add_mod, Nat.add_comm, Nat.add_mod]
  conv => rhs; rw [Nat.add_mod, Nat.mul_mod, Nat.mod_mod]
theorem mcy_top (N n : Nat) (hN : N < 2 ^ 256) : mcy N n 4 = N * n / 2 ^ 256 := by
  unfold mcy
  rw [show 2 ^ (64 * 4) = 2 ^ 256 from rfl, Nat.mod_eq_of_lt hN]
/-- A part, limb by limb, the greatest first. -/
theorem part_limb (N n k : Nat) (hn : 0 < n) : (N / 2 ^ (64 * (k + 1)) % n * 18446744073709551616 + limb N k) / n = limb (N / n) k ∧ (N / 2 ^ (64 * (k + 1)) % n * 18446744073709551616 + limb N k) % n = N / 2 ^ (64 * k) % n := by
  have h := limb_div N k
  have hl := limb_lt N k
  have e : N / n / 2 ^ (64 * k) = N / 2 ^ (64 * k) / n := by rw [Nat.div_div_eq_div_mul, Nat.div_div_eq_div_mul, Nat.mul_comm]
  rw [limb_def (N / n), e, h]
  generalize limb N k = l at *
  generalize N / 2 ^ (64 * (k + 1)) = q at *
  have hq := Nat.div_add_mod q n
  have hr := Nat.mod_lt q hn
  generalize q / n = d at *
  generalize q % n = r at *
  have e2 : q * 18446744073709551616 + l = (r * 18446744073709551616 + l) + n * (d * 18446744073709551616) := by
    rw [← hq, ← Nat.mul_assoc]; omega
  rw [e2, Nat.add_mul_div_left _ _ hn, Nat.add_mul_mod_self_left, Nat.add_mul_mod_self_right]
  have : (r * 18446744073709551616 + l) / n < 18446744073709551616 := by
    rw [Nat.div_lt_iff_lt_mul hn]
    have := Nat.mul_le_mul_right 18446744073709551616 (show r + 1 ≤ n from hr)
    rw [Nat.mul_comm 18446744073709551616]
    omega
  exact ⟨(Nat.mod_eq_of_lt this).symm, rfl⟩
/-- A row whose first k cells have turned. -/
def mix {α : Type} (A B : List α) (k : Nat) : List α := A.take k ++ B.drop k
section
variable {α : Type} {A B : List α} {k : Nat}
theorem mix_zero : mix A B 0 = B := by simp [mix]
theorem mix_all (h : A.length = k) (hB : B.length = k) : mix A B k = A := by simp [mix, ← h, List.drop_eq_nil_of_le (show B.length ≤ A.length by omega)]
theorem mix_len (h : A.length = B.length) : (mix A B k).length = B.length := by simp [mix]; omega
theorem mix_left (i : Nat) (hi : i < k) (hk : k ≤ A.length) : (mix A B k)[i]? = A[i]? := by
  rw [mix, List.getElem?_append_left (by simp; omega), List.getElem?_take_of_lt hi]
theorem mix_right (i : Nat) (hi : k ≤ i) (hk : k ≤ A.length) : (mix A B k)[i]? = B[i]? := by
  have e : (A.take k).length = k := by simp; omega
  rw [mix, List.getElem?_append_right (by omega), e, List.getElem?_drop]; congr 1; omega
theorem mix_set {v : α} (hv : A[k]? = some v) (h : A.length = B.length) : (mix A B k).set k v = mix A B (k + 1) := by
  have hk : k < A.length := (List.getElem?_eq_some_iff.1 hv).1
  refine List.ext_getElem? fun i => ?_
  rw [List.getElem?_set]
  rcases Nat.lt_trichotomy i k with hi | hi | hi
  · rw [if_neg (by omega), mix_left i hi (by omega), mix_left i (by omega) (by omega)]
  · subst hi
    rw [if_pos rfl, if_pos (by rw [mix_len h]; omega), mix_left i (by omega) (by omega), hv]
  · rw [if_neg (by omega), mix_right i (by omega) (by omega), mix_right i (by omega) (by omega)]
theorem mix_back {v : α} (hv : B[k]? = some v) (h : A.length = B.length) : (mix A B (k + 1)).set k v = mix A B k := by
  have hk : k < B.length := (List.getElem?_eq_some_iff.1 hv).1
  refine List.ext_getElem? fun i => ?_
  rw [List.getElem?_set]
  rcases Nat.lt_trichotomy i k with hi | hi | hi
  · rw [if_neg (by omega), mix_left i (by omega) (by omega), mix_left i (by omega) (by omega)]
  · subst hi
    rw [if_pos rfl, if_pos (by rw [mix_len h]; omega), mix_right i (by omega) (by omega), hv]
  · rw [if_neg (by omega), mix_right i (by omega) (by omega), mix_right i (by omega) (by omega)]
end
end Go.Proofs.Ytppgpdckaaabeaa
