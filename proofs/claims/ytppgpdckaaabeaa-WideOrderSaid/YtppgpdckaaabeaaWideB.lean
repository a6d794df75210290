/- Sums, differences, products and parts of numbers, digit by digit, as plain numbers. It hangs on no program. -/
import Derived.Test.YtppgpdckaaabeaaWideA
namespace Go.Proofs.Ytppgpdckaaabeaa
/-- What goes over into digit k of a sum. -/
def cy (N M k : Nat) : Nat := (N % 256 ^ k + M % 256 ^ k) / 256 ^ k
theorem pos256 (k : Nat) : 0 < 256 ^ k := Nat.pow_pos (by decide)
theorem mod_next (N k : Nat) : N % 256 ^ (k + 1) = N % 256 ^ k + 256 ^ k * dg N k := by
  rw [Nat.pow_succ, Nat.mod_mul, dg]
theorem cy_zero (N M : Nat) : cy N M 0 = 0 := by simp [cy, Nat.mod_one]
theorem cy_le (N M k : Nat) : cy N M k ≤ 1 := by
  have h1 := Nat.mod_lt N (pos256 k)
  have h2 := Nat.mod_lt M (pos256 k)
  unfold cy
  have : (N % 256 ^ k + M % 256 ^ k) / 256 ^ k < 2 := by
    rw [Nat.div_lt_iff_lt_mul (pos256 k)]; omega
  omega
theorem cy_succ (N M k : Nat) : cy N M (k + 1) = (dg N k + dg M k + cy N M k) / 256 := by
  unfold cy
  rw [mod_next, mod_next, Nat.pow_succ, ← Nat.div_div_eq_div_mul]
  have e : N % 256 ^ k + 256 ^ k * dg N k + (M % 256 ^ k + 256 ^ k * dg M k) = (N % 256 ^ k + M % 256 ^ k) + 256 ^ k * (dg N k + dg M k) := by
    rw [Nat.mul_add]; omega
  rw [e, Nat.add_mul_div_left _ _ (pos256 k)]
  congr 1; omega
theorem add_div_cy (N M k : Nat) : (N + M) / 256 ^ k = N / 256 ^ k + M / 256 ^ k + cy N M k := by
  unfold cy
  have h1 := Nat.div_add_mod N (256 ^ k)
  have h2 := Nat.div_add_mod M (256 ^ k)
  have e : N + M = (N % 256 ^ k + M % 256 ^ k) + 256 ^ k * (N / 256 ^ k + M / 256 ^ k) := by rw [Nat.mul_add]; omega
  rw [e, Nat.add_mul_div_left _ _ (pos256 k)]
  omega
theorem dg_add (N M k : Nat) : dg (N + M) k = (dg N k + dg M k + cy N M k) % 256 := by
  unfold dg
  rw [add_div_cy]
  omega
theorem cy_top (N M : Nat) (hN : N < 256 ^ 32) (hM : M < 256 ^ 32) : cy N M 32 = (N + M) / 256 ^ 32 := by
  unfold cy
  rw [Nat.mod_eq_of_lt hN, Nat.mod_eq_of_lt hM]
/-- A difference: digit k of N, less that of M and what is owed, is that of the difference, or 256 less. -/
theorem sub_step (M D k : Nat) : dg (M + D) k + 256 * cy M D (k + 1) = dg M k + dg D k + cy M D k := by
  rw [dg_add, cy_succ]; omega
/-- A product's digit. -/
theorem mod_step (N k : Nat) (W : Nat) : N * (W % 256 ^ (k + 1)) = N * (W % 256 ^ k) + N * dg W k * 256 ^ k := by
  rw [mod_next, Nat.mul_add]
  congr 1
  rw [Nat.mul_assoc, Nat.mul_comm (dg W k)]
theorem dg_zero_of_lt (N i : Nat) (h : N < 256 ^ i) : dg N i = 0 := by unfold dg; rw [Nat.div_eq_of_lt h]
theorem mod_self_of_lt (N k : Nat) (h : N < 256 ^ k) : N % 256 ^ k = N := Nat.mod_eq_of_lt h
theorem dg_div (N i : Nat) : N / 256 ^ i = 256 * (N / 256 ^ (i + 1)) + dg N i := by
  unfold dg
  rw [Nat.pow_succ, ← Nat.div_div_eq_div_mul]
  omega
/-- A part by ten, digit by digit, the greatest first. -/
theorem ten_step (N i : Nat) : (N / 256 ^ (i + 1) % 10 * 256 + dg N i) / 10 = dg (N / 10) i ∧ (N / 256 ^ (i + 1) % 10 * 256 + dg N i) % 10 = N / 256 ^ i % 10 := by
  have h := dg_div N i
  have hd := dg_lt N i
  have e : N / 10 / 256 ^ i = N / 256 ^ i / 10 := by rw [Nat.div_div_eq_div_mul, Nat.div_div_eq_div_mul, Nat.mul_comm]
  unfold dg at *
  rw [e]
  omega
/-- val, where one digit turns. -/
theorem val_set (l : List Nat) (p v : Nat) (h : p < l.length) : val (l.set p v) + l.getD p 0 * 256 ^ p = val l + v * 256 ^ p := by
  induction l generalizing p with
  | nil => simp at h
  | cons d l ih =>
    cases p with
    | zero => simp [val]; omega
    | succ p =>
      have := ih p (by simpa using h)
      simp only [List.set_cons_succ, val, List.getD_cons_succ, Nat.pow_succ]
      have e1 : l.getD p 0 * (256 ^ p * 256) = 256 * (l.getD p 0 * 256 ^ p) := by rw [← Nat.mul_assoc, Nat.mul_comm]
      have e2 : v * (256 ^ p * 256) = 256 * (v * 256 ^ p) := by rw [← Nat.mul_assoc, Nat.mul_comm]
      rw [e1, e2]
      omega
theorem val_zero_iff (l : List Nat) : val l = 0 ↔ ∀ d ∈ l, d = 0 := by
  induction l with
  | nil => simp [val]
  | cons d l ih =>
    simp only [val, List.mem_cons, forall_eq_or_imp]
    constructor
    · intro h
      exact ⟨by omega, ih.1 (by omega)⟩
    · rintro ⟨rfl, h⟩
      have := ih.2 h
      omega
theorem val_split (l : List Nat) (k : Nat) (h : k ≤ l.length) : val l = val (l.take k) + 256 ^ k * val (l.drop k) := by
  have e := val_append (l.take k) (l.drop k)
  rw [List.take_append_drop, List.length_take, Nat.min_eq_left h] at e
  exact e
theorem val_rep (n : Nat) : val (List.replicate n 0) = 0 := (val_zero_iff _).2 (fun _ hd => (List.mem_replicate.1 hd).2)
/-- A number's text: its digits of base ten. -/
def decF : Nat → Nat → List UInt8
  | 0, _ => []
  | f + 1, n => if n / 10 = 0 then [UInt8.ofNat (48 + n % 10)] else decF f (n / 10) ++ [UInt8.ofNat (48 + n % 10)]
theorem decF_more (f n : Nat) (h : n < f) : decF (f + 1) n = decF f n := by
  induction f generalizing n with
  | zero => omega
  | succ f ih =>
    rw [decF, show decF (f + 1) n = (if n / 10 = 0 then [UInt8.ofNat (48 + n % 10)] else decF f (n / 10) ++ [UInt8.ofNat (48 + n % 10)]) from rfl]
    by_cases h0 : n / 10 = 0
    · rw [if_pos h0, if_pos h0]
    · rw [if_neg h0, if_neg h0, ih _ (by omega)]
theorem decF_big (n f g : Nat) (h : n < f) (hg : f ≤ g) : decF g n = decF f n := by
  induction g with
  | zero => omega
  | succ g ih =>
    rcases Nat.lt_or_ge g f with h1 | h1
    · rw [show g + 1 = f by omega]
    · rw [decF_more g n (by omega), ih h1]
def dec (n : Nat) : List UInt8 := decF (n + 1) n
theorem dec_one (n : Nat) (h : n / 10 = 0) : dec n = [UInt8.ofNat (48 + n % 10)] := by rw [dec, decF, if_pos h]
theorem dec_more (n : Nat) (h : n / 10 ≠ 0) : dec n = dec (n / 10) ++ [UInt8.ofNat (48 + n % 10)] := by
  rw [dec, decF, if_neg h, dec, decF_big (n / 10) (n / 10 + 1) n (by omega) (by omega)]
end Go.Proofs.Ytppgpdckaaabeaa
