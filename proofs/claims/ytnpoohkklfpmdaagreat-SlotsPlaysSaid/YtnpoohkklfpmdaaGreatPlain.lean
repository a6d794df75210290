/- What was written is read again: the plain laws on bytes as lists. -/
import Derived.Test.YtnpoohkklfpmdaaGreatOpen
namespace Go.Proofs.YtnpoohkklfpmdaaGreat
open Go.RowKit

theorem ofNat_lt {n : Nat} (h : n < 256) : (UInt8.ofNat n).toNat = n := by simp; omega
theorem tkF_fld (c : UInt8) (l r : List UInt8) (h : l.length < 16777216) : tkF c (fld c l ++ r) = some (l, r) := by
  have e : (UInt8.ofNat (l.length / 65536)).toNat * 65536 + (UInt8.ofNat (l.length / 256 % 256)).toNat * 256 + (UInt8.ofNat (l.length % 256)).toNat = l.length := by
    rw [ofNat_lt (by omega), ofNat_lt (by omega), ofNat_lt (by omega)]; omega
  simp [fld, tkF, -UInt8.toNat_ofNat', e]
theorem dgF_acc : ∀ (f n : Nat) (acc : List UInt8), dgF f n acc = dgF f n [] ++ acc
  | 0, n, acc => by simp [dgF]
  | f + 1, n, acc => by
    simp only [dgF]
    split
    · simp
    · rw [dgF_acc f _ (_ :: acc), dgF_acc f _ [_]]; simp
theorem be_dgF : ∀ (f n : Nat), n < 256 ^ f → be (dgF f n []) = n
  | 0, n, h => by simp at h; subst h; rfl
  | f + 1, n, h => by
    simp only [dgF]
    split
    · rename_i h0; subst h0; rfl
    · rw [dgF_acc, be_snoc, be_dgF f _ (Nat.div_lt_of_lt_mul (by rw [Nat.pow_succ] at h; omega))]
      simp; omega
theorem head_dgF : ∀ (f n : Nat), n < 256 ^ f → 0 < n → ∃ x r, dgF f n [] = x :: r ∧ x ≠ 0
  | 0, n, h, hp => by simp at h; omega
  | f + 1, n, h, hp => by
    rw [dgF_pos f n [] hp, dgF_acc]
    by_cases h0 : n / 256 = 0
    · rw [h0, dgF_zero]
      refine ⟨_, [], rfl, fun e => ?_⟩
      have := congrArg UInt8.toNat e
      simp at this; omega
    · obtain ⟨x, r, e, hx⟩ := head_dgF f (n / 256) (Nat.div_lt_of_lt_mul (by rw [Nat.pow_succ] at h; omega)) (by omega)
      rw [e]
      exact ⟨x, r ++ [UInt8.ofNat n], rfl, hx⟩
theorem nbr_digs (n : Nat) (h : n < 18446744073709551616) : nbr (digs n) = some n := by
  rcases Nat.eq_zero_or_pos n with h0 | h0
  · subst h0; rfl
  · obtain ⟨x, r, e, hx⟩ := head_dgF 8 n (by simpa using h) h0
    have hb := be_dgF 8 n (by simpa using h)
    have hl := digs_len n
    unfold digs at hl ⊢
    rw [e] at hb hl ⊢
    simp only [nbr]
    rw [if_neg (by simp at hl; rintro (h1 | h1); · omega
                   · exact hx h1), hb]
theorem digs_inj {a b : Nat} (ha : a < 18446744073709551616) (hb : b < 18446744073709551616) (h : digs a = digs b) : a = b := by
  have h1 := nbr_digs a ha
  rw [h, nbr_digs b hb] at h1
  injection h1 with h1; exact h1.symm
theorem rdNum_fld (c : UInt8) (n : Nat) (r : List UInt8) (h : n < 18446744073709551616) : rdNum c (fld c (digs n) ++ r) = (n, some r) := by
  have := digs_len n
  simp only [rdNum, tkF_fld c (digs n) r (by omega), nbr_digs n h]
theorem rdTxt_fld (c : UInt8) (most : Int) (l r : List UInt8) (h : l.length < 16777216) (hm : (l.length : Int) ≤ most) : rdTxt c most (fld c l ++ r) = (l, some r) := by
  simp [rdTxt, tkF_fld c l r h, txtOk, hm]
theorem fld_ne (c : UInt8) (l : List UInt8) (r : List UInt8) : fld c l ++ r ≠ [] := by simp [fld]
theorem allF_flds (c : UInt8) (most : Int) : ∀ (ls : List (List UInt8)) (f : Nat), ls.length < f → (∀ l ∈ ls, l.length < 16777216 ∧ (l.length : Int) ≤ most) → allF c most f (flds c ls) = some ls
  | [], f + 1, _, _ => by simp [allF, flds]
  | l :: ls, f + 1, hf, h => by
    have h1 := h l (by simp)
    rw [flds_cons]
    simp only [allF, if_neg (fld_ne c l _), rdTxt_fld c most l _ h1.1 h1.2]
    rw [allF_flds c most ls f (by simp at hf; omega) (fun l hl => h l (by simp [hl]))]
    rfl
theorem flds_len_le (c : UInt8) (ls : List (List UInt8)) : ls.length ≤ (flds c ls).length := by
  induction ls with
  | nil => simp [flds]
  | cons l ls ih => rw [flds_cons, List.length_append, fld_len]; simp; omega
theorem rdAll_fld (c : UInt8) (many most : Int) (ls : List (List UInt8)) (r : List UInt8) (hm : (ls.length : Int) ≤ many) (h : ∀ l ∈ ls, l.length < 16777216 ∧ (l.length : Int) ≤ most) (hl : (flds c ls).length < 16777216) :
    rdAll c many most (fld c (flds c ls) ++ r) = (ls, some r) := by
  have e : allT c most (flds c ls) = some ls := allF_flds c most ls _ (by have := flds_len_le c ls; omega) h
  simp [rdAll, tkF_fld c _ r hl, e, okAll, hm]
theorem fewL_mem {ls : List (List UInt8)} {l : List UInt8} (h : l ∈ fewL ls) : l.length ≤ 30 := by
  simp only [fewL, List.mem_map] at h
  obtain ⟨a, _, rfl⟩ := h
  exact List.length_take_le _ _
theorem fewL_len (ls : List (List UInt8)) : (fewL ls).length ≤ 8 := by simp [fewL]; omega
theorem flds_len (c : UInt8) (k : Nat) : ∀ (ls : List (List UInt8)), (∀ l ∈ ls, l.length ≤ k) → (flds c ls).length ≤ ls.length * (k + 4)
  | [], _ => by simp [flds]
  | l :: ls, h => by
    have h1 := h l (by simp)
    have h2 := flds_len c k ls (fun l hl => h l (by simp [hl]))
    rw [flds_cons, List.length_append, fld_len, List.length_cons, Nat.add_mul]
    omega
theorem flds_few (c : UInt8) (ls : List (List UInt8)) : (flds c (fewL ls)).length ≤ 272 := by
  have h1 := flds_len c 30 (fewL ls) (fun l hl => fewL_mem hl)
  have h2 := fewL_len ls
  omega
theorem fld_prefix (c d : UInt8) (a b : List UInt8) (ha : a.length < 16777216) (hb : b.length < 16777216) : fld d b <+: fld c a ↔ c = d ∧ a = b := by
  constructor
  · rintro ⟨t, ht⟩
    have hcd : c = d := by simp [fld] at ht; exact ht.1.symm
    subst hcd
    have h1 := tkF_fld c b t hb
    have h2 := tkF_fld c a [] ha
    rw [ht] at h1
    rw [List.append_nil, h1] at h2
    simp only [Option.some.injEq, Prod.mk.injEq] at h2
    exact ⟨rfl, h2.1.symm⟩
  · rintro ⟨rfl, rfl⟩; exact List.prefix_refl _
theorem flds_inj (c : UInt8) (ls ms : List (List UInt8)) (hl : ∀ l ∈ ls, l.length < 16777216 ∧ (l.length : Int) ≤ 30) (hm : ∀ l ∈ ms, l.length < 16777216 ∧ (l.length : Int) ≤ 30) (h : flds c ls = flds c ms) : ls = ms := by
  have h1 := allF_flds c 30 ls (ls.length + ms.length + 1) (by omega) hl
  have h2 := allF_flds c 30 ms (ls.length + ms.length + 1) (by omega) hm
  rw [h, h2] at h1
  injection h1 with h1; exact h1.symm
end Go.Proofs.YtnpoohkklfpmdaaGreat
