/- Numbers of 256 bits as plain numbers: their limbs of 64 bits, their digits of base 256. It hangs on no program. -/
namespace Go.Proofs.Ytppgpdckaaabeaa
def limb (N i : Nat) : Nat := N / 2 ^ (64 * i) % 2 ^ 64
def dg (N i : Nat) : Nat := N / 256 ^ i % 256
theorem limb_lt (N i : Nat) : limb N i < 18446744073709551616 := Nat.mod_lt _ (by decide)
theorem dg_lt (N i : Nat) : dg N i < 256 := Nat.mod_lt _ (by decide)
theorem pow256 (i : Nat) : 256 ^ i = 2 ^ (8 * i) := by rw [Nat.pow_mul]
theorem mod_div_mod (A s : Nat) (h : s + 8 ≤ 64) : A % 2 ^ 64 / 2 ^ s % 256 = A / 2 ^ s % 256 := by
  have e : 2 ^ 64 = 2 ^ s * 2 ^ (64 - s) := by rw [← Nat.pow_add]; congr 1; omega
  have e2 : 2 ^ (64 - s) = 2 ^ 8 * 2 ^ (64 - s - 8) := by rw [← Nat.pow_add]; congr 1; omega
  rw [e, Nat.mod_mul_right_div_self, e2, show 256 = 2 ^ 8 from rfl, Nat.mod_mul_right_mod]
theorem limb_dg (N i : Nat) : limb N (i / 8) / 2 ^ (8 * (i % 8)) % 256 = dg N i := by
  unfold limb dg
  rw [mod_div_mod _ _ (by omega), Nat.div_div_eq_div_mul, ← Nat.pow_add, pow256]
  congr 3; omega
theorem lt_limbs (N : Nat) (h : N < 2 ^ 256) : N = limb N 0 + 2 ^ 64 * limb N 1 + 2 ^ 128 * limb N 2 + 2 ^ 192 * limb N 3 := by
  unfold limb
  simp only [Nat.mul_zero, Nat.pow_zero, Nat.div_one, Nat.reducePow, Nat.reduceMul] at *
  omega
/-- One more digit, the greatest. -/
theorem limb_put (S x k j : Nat) (hS : S < 256 ^ k) (hx : x < 256) : limb (S + x * 256 ^ k) j = if j = k / 8 then limb S j ||| x * 2 ^ (8 * (k % 8)) else limb S j := by
  rw [pow256] at *
  unfold limb
  split
  · rename_i e
    subst e
    have e1 : 2 ^ (8 * k) = 2 ^ (64 * (k / 8)) * 2 ^ (8 * (k % 8)) := by rw [← Nat.pow_add]; congr 1; omega
    have hq : S / 2 ^ (64 * (k / 8)) < 2 ^ (8 * (k % 8)) := by
      rw [Nat.div_lt_iff_lt_mul (Nat.two_pow_pos _), Nat.mul_comm, ← e1]; exact hS
    have e2 : (S + x * 2 ^ (8 * k)) / 2 ^ (64 * (k / 8)) = S / 2 ^ (64 * (k / 8)) + x * 2 ^ (8 * (k % 8)) := by
      rw [e1, show x * (2 ^ (64 * (k / 8)) * 2 ^ (8 * (k % 8))) = 2 ^ (64 * (k / 8)) * (x * 2 ^ (8 * (k % 8))) from by rw [Nat.mul_left_comm]]
      exact Nat.add_mul_div_left _ _ (Nat.two_pow_pos _)
    rw [e2]
    generalize S / 2 ^ (64 * (k / 8)) = q at *
    have hr : 8 * (k % 8) + 8 ≤ 64 := by omega
    generalize 8 * (k % 8) = s at *
    have h8 : x * 2 ^ s + 2 ^ s ≤ 2 ^ (s + 8) := by
      rw [Nat.pow_add, show (2 : Nat) ^ 8 = 256 from rfl, Nat.mul_comm (2 ^ s) 256, show x * 2 ^ s + 2 ^ s = (x + 1) * 2 ^ s from by rw [Nat.add_mul, Nat.one_mul]]
      exact Nat.mul_le_mul_right _ hx
    have h64 : 2 ^ (s + 8) ≤ 2 ^ 64 := Nat.pow_le_pow_right (by decide) hr
    rw [Nat.mod_eq_of_lt (show q + x * 2 ^ s < 2 ^ 64 by omega), Nat.mod_eq_of_lt (show q < 2 ^ 64 by omega)]
    rw [Nat.or_comm, Nat.mul_comm x, ← Nat.two_pow_add_eq_or_of_lt hq, Nat.add_comm]
  · rename_i hj
    rcases Nat.lt_or_gt_of_ne hj with h | h
    · have e1 : 2 ^ (8 * k) = 2 ^ (64 * j) * (2 ^ 64 * 2 ^ (8 * k - 64 * j - 64)) := by
        rw [← Nat.pow_add, ← Nat.pow_add]; congr 1; omega
      have e2 : (S + x * 2 ^ (8 * k)) / 2 ^ (64 * j) = S / 2 ^ (64 * j) + 2 ^ 64 * (x * 2 ^ (8 * k - 64 * j - 64)) := by
        rw [e1, show x * (2 ^ (64 * j) * (2 ^ 64 * 2 ^ (8 * k - 64 * j - 64))) = 2 ^ (64 * j) * (2 ^ 64 * (x * 2 ^ (8 * k - 64 * j - 64))) from by rw [Nat.mul_left_comm, Nat.mul_left_comm x]]
        exact Nat.add_mul_div_left _ _ (Nat.two_pow_pos _)
      rw [e2, Nat.add_mul_mod_self_left]
    · have h1 : 2 ^ (8 * k + 8) ≤ 2 ^ (64 * j) := Nat.pow_le_pow_right (by decide) (by omega)
      have h2 : S + x * 2 ^ (8 * k) < 2 ^ (8 * k + 8) := by
        rw [Nat.pow_add, show (2 : Nat) ^ 8 = 256 from rfl]
        have : (x + 1) * 2 ^ (8 * k) ≤ 256 * 2 ^ (8 * k) := Nat.mul_le_mul_right _ hx
        rw [Nat.add_mul, Nat.one_mul] at this
        omega
      rw [Nat.div_eq_of_lt (show S + x * 2 ^ (8 * k) < 2 ^ (64 * j) by omega), Nat.div_eq_of_lt (show S < 2 ^ (64 * j) by omega)]
/-- The number of digits, the least first. -/
def val : List Nat → Nat
  | [] => 0
  | d :: l => d + 256 * val l
theorem val_append (l m : List Nat) : val (l ++ m) = val l + 256 ^ l.length * val m := by
  induction l with
  | nil => simp [val]
  | cons d l ih => simp only [List.cons_append, val, ih, List.length_cons, Nat.pow_succ]; rw [Nat.mul_add, ← Nat.add_assoc, ← Nat.mul_assoc, Nat.mul_comm 256 (256 ^ l.length)]
theorem val_snoc (l : List Nat) (d : Nat) : val (l ++ [d]) = val l + d * 256 ^ l.length := by
  rw [val_append]; simp [val, Nat.mul_comm]
theorem val_lt (l : List Nat) (h : ∀ d ∈ l, d < 256) : val l < 256 ^ l.length := by
  induction l with
  | nil => simp [val]
  | cons d l ih =>
    have h1 := h d List.mem_cons_self
    have h2 := ih (fun x hx => h x (List.mem_cons_of_mem _ hx))
    simp only [val, List.length_cons, Nat.pow_succ]
    omega
/-- A number's first n digits. -/
def dgs (N n : Nat) : List Nat := (List.range n).map (dg N)
theorem dgs_len (N n : Nat) : (dgs N n).length = n := by simp [dgs]
theorem dgs_succ (N n : Nat) : dgs N (n + 1) = dgs N n ++ [dg N n] := by simp [dgs, List.range_succ]
theorem dgs_val (N n : Nat) : val (dgs N n) = N % 256 ^ n := by
  induction n with
  | zero => simp [dgs, val, Nat.mod_one]
  | succ n ih =>
    rw [dgs_succ, val_snoc, ih, dgs_len, dg, Nat.pow_succ, Nat.mod_mul, Nat.mul_comm (256 ^ n)]
theorem dgs_get (N n i : Nat) (h : i < n) : (dgs N n)[i]? = some (dg N i) := by simp [dgs, h]
theorem dgs_lt (N n : Nat) : ∀ d ∈ dgs N n, d < 256 := by
  intro d hd; simp [dgs] at hd; obtain ⟨i, _, rfl⟩ := hd; exact dg_lt _ _
end Go.Proofs.Ytppgpdckaaabeaa
