/- Long division of two digits by one, as plain numbers. It hangs on no program. -/
namespace Go.Proofs.Ytppgpdckaaabeaa
/-- What holds of a guessed digit q and its rest r: of u digits by Y = y1 * 2^32 + y0, behind which v comes. -/
structure Guess (u v y1 y0 q r : Nat) : Prop where
  sum : q * y1 + r = u
  ge : (u * 4294967296 + v) / (y1 * 4294967296 + y0) ≤ q
  le : q ≤ 4294967297
  rest : r < 4294967296
section
variable {u v y1 y0 q r : Nat}
theorem Guess.start (h1 : 2147483648 ≤ y1) (h2 : y1 < 4294967296) (h0 : y0 < 4294967296) (hv : v < 4294967296) (hu : u < y1 * 4294967296 + y0) : Guess u v y1 y0 (u / y1) (u % y1) := by
  have hm : u / y1 * y1 + u % y1 = u := by rw [Nat.mul_comm]; exact Nat.div_add_mod u y1
  have hr : u % y1 < y1 := Nat.mod_lt _ (by omega)
  refine ⟨hm, ?_, ?_, by omega⟩
  · refine Nat.le_of_lt_succ ((Nat.div_lt_iff_lt_mul (by omega)).2 ?_)
    have e : (u / y1 + 1) * (y1 * 4294967296 + y0) = (u / y1 * y1 + y1) * 4294967296 + (u / y1 + 1) * y0 := by
      rw [Nat.mul_add, ← Nat.mul_assoc, Nat.add_mul (u / y1) 1 y1, Nat.one_mul]
    show _ < (u / y1 + 1) * _
    rw [e]
    have : u + 1 ≤ u / y1 * y1 + y1 := by omega
    have := Nat.mul_le_mul_right 4294967296 this
    have := Nat.zero_le ((u / y1 + 1) * y0)
    omega
  · refine Nat.le_of_lt_succ ((Nat.div_lt_iff_lt_mul (by omega)).2 ?_)
    show u < 4294967298 * y1
    omega
/-- The rest of it, times 2^32, with v: what must not be less than q * y0. -/
theorem guess_tested {P : Nat} (hs : q * y1 + r = u) (hP : P = q * (y1 * 4294967296 + y0)) : P + r * 4294967296 = u * 4294967296 + q * y0 := by
  rw [hP, Nat.mul_add, ← Nat.mul_assoc, ← hs, Nat.add_mul]
  omega
theorem guess_less_aux {P R U v Z : Nat} (t : P + R = U + Z) (h : R + v < Z) : U + v < P := by omega
theorem lt_of_prod {T Y P : Nat} (hP : P = q * Y) (hY : 0 < Y) (h : T < P) : T / Y < q := (Nat.div_lt_iff_lt_mul hY).2 (hP ▸ h)
theorem le_of_prod {T Y P : Nat} (hP : P = q * Y) (hY : 0 < Y) (h : P ≤ T) : q ≤ T / Y := (Nat.le_div_iff_mul_le hY).2 (hP ▸ h)
/-- It was too great. -/
theorem Guess.less (g : Guess u v y1 y0 q r) (hY : 0 < y1 * 4294967296 + y0) (hu : u < y1 * 4294967296 + y0) (hv : v < 4294967296) (h : 4294967296 ≤ q ∨ r * 4294967296 + v < q * y0) : 0 < q ∧ (u * 4294967296 + v) / (y1 * 4294967296 + y0) ≤ q - 1 ∧ (q - 1) * y1 + (r + y1) = u := by
  have hq : (u * 4294967296 + v) / (y1 * 4294967296 + y0) < q := by
    obtain ⟨P, hP⟩ : ∃ P, P = q * (y1 * 4294967296 + y0) := ⟨_, rfl⟩
    have t := guess_tested g.sum hP
    refine lt_of_prod hP hY ?_
    rcases h with h | h
    · have h3 : 4294967296 * (y1 * 4294967296 + y0) ≤ P := by rw [hP]; exact Nat.mul_le_mul_right _ h
      clear hP
      omega
    · exact guess_less_aux t h
  have h0 : 0 < q := Nat.lt_of_le_of_lt (Nat.zero_le _) hq
  refine ⟨h0, Nat.le_sub_one_of_lt hq, ?_⟩
  have := g.sum
  obtain ⟨p, rfl⟩ : ∃ p, q = p + 1 := ⟨q - 1, by omega⟩
  rw [Nat.add_mul, Nat.one_mul] at this
  simp only [Nat.add_sub_cancel]
  omega
/-- It is right. -/
theorem Guess.right (g : Guess u v y1 y0 q r) (hY : 0 < y1 * 4294967296 + y0) (h : q * y0 ≤ r * 4294967296 + v) : q = (u * 4294967296 + v) / (y1 * 4294967296 + y0) := by
  obtain ⟨P, hP⟩ : ∃ P, P = q * (y1 * 4294967296 + y0) := ⟨_, rfl⟩
  have t := guess_tested g.sum hP
  refine Nat.le_antisymm (le_of_prod hP hY ?_) g.ge
  clear hP
  omega
/-- Behind a correction whose rest is great. -/
theorem Guess.over (hs : q * y1 + r = u) (hge : (u * 4294967296 + v) / (y1 * 4294967296 + y0) ≤ q) (hle : q ≤ 4294967296) (h0 : y0 < 4294967296) (hY : 0 < y1 * 4294967296 + y0) (hr : 4294967296 ≤ r) : q = (u * 4294967296 + v) / (y1 * 4294967296 + y0) := by
  obtain ⟨P, hP⟩ : ∃ P, P = q * (y1 * 4294967296 + y0) := ⟨_, rfl⟩
  have t := guess_tested hs hP
  have hq : q * y0 ≤ 4294967296 * y0 := Nat.mul_le_mul_right _ hle
  refine Nat.le_antisymm (le_of_prod hP hY ?_) hge
  clear hP
  omega
end
theorem two_digits' (u a b Y q1 r1 : Nat) (e1 : Y * q1 + r1 = u * 4294967296 + a) : u * 18446744073709551616 + (a * 4294967296 + b) = (r1 * 4294967296 + b) + Y * (q1 * 4294967296) := by
  rw [← Nat.mul_assoc]; omega
/-- Two digits, one behind the other. -/
theorem two_digits (u a b Y : Nat) (hY : 0 < Y) (ha : a < 4294967296) (hb : b < 4294967296) :
    (u * 18446744073709551616 + (a * 4294967296 + b)) / Y = (u * 4294967296 + a) / Y * 4294967296 + ((u * 4294967296 + a) % Y * 4294967296 + b) / Y ∧
    (u * 18446744073709551616 + (a * 4294967296 + b)) % Y = ((u * 4294967296 + a) % Y * 4294967296 + b) % Y := by
  have e := two_digits' u a b Y _ _ (Nat.div_add_mod (u * 4294967296 + a) Y)
  rw [e, Nat.add_mul_div_left _ _ hY, Nat.add_mul_mod_self_left]
  exact ⟨Nat.add_comm _ _, rfl⟩
/-- What both are shifted by goes out of it. -/
theorem shifted (T y s : Nat) : T * 2 ^ s / (y * 2 ^ s) = T / y ∧ T * 2 ^ s % (y * 2 ^ s) / 2 ^ s = T % y := by
  have h := Nat.two_pow_pos s
  refine ⟨Nat.mul_div_mul_right _ _ h, ?_⟩
  rw [Nat.mul_mod_mul_right, Nat.mul_div_cancel _ h]
/-- Two digits of 64 bits, shifted. -/
theorem shift_two (hi lo s : Nat) (hs : s < 64) (hlo : lo < 18446744073709551616) :
    (hi * 18446744073709551616 + lo) * 2 ^ s = (hi * 2 ^ s + lo / 2 ^ (64 - s)) * 18446744073709551616 + lo * 2 ^ s % 18446744073709551616 ∧ lo / 2 ^ (64 - s) < 2 ^ s ∧ lo * 2 ^ s / 18446744073709551616 = lo / 2 ^ (64 - s) := by
  have e : 18446744073709551616 = 2 ^ (64 - s) * 2 ^ s := by rw [← Nat.pow_add, show 64 - s + s = 64 by omega]
  have h := Nat.two_pow_pos s
  have hd : lo * 2 ^ s / 18446744073709551616 = lo / 2 ^ (64 - s) := by rw [e]; exact Nat.mul_div_mul_right _ _ h
  refine ⟨?_, ?_, hd⟩
  · rw [← hd, Nat.add_mul, Nat.mul_right_comm hi, Nat.add_mul]
    have := Nat.div_add_mod (lo * 2 ^ s) 18446744073709551616
    omega
  · rw [Nat.div_lt_iff_lt_mul (Nat.two_pow_pos _), Nat.mul_comm, ← e]; exact hlo
end Go.Proofs.Ytppgpdckaaabeaa
