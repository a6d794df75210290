import Derived.Test.YtnpoohkklfpmdaaPlain
import Derived.Test.YtnpoohkklfpmdaaLawX
import Derived.Test.YtnpoohkklfpmdaaTlvAll
import Derived.Outline
import Derived.RegionTactic
import Derived.ChangeAlike
import Derived.BigRegion
import Derived.BigQuiet
import Derived.Deep.QuietTactic
import Derived.Deep.RegionWith
import Derived.Deep.RegionLaw
import Derived.Deep.AppendLies
import Derived.Deep.Draws
import Derived.Lib.Hide
import Derived.Deep.LoopGhost
import Derived.Deep.RegionHeld3
import Derived.StillTactics
import Derived.OwnWalk
namespace Go.Proofs.Ytnpoohkklfpmdaa
open Go.RowKit
section
variable {w w' : World} {b : Nat} {st : Option (List UInt8)}
end
section
attribute [local go_sem] idx_list ext_list
end

theorem foldl_be : ∀ (r : List UInt8) (a : Nat), r.foldl (fun n b => n * 256 + b.toNat) a = a * 256 ^ r.length + be r
  | [], a => by simp [be]
  | x :: r, a => by
    have h1 := foldl_be r (a * 256 + x.toNat)
    have h2 : be (x :: r) = x.toNat * 256 ^ r.length + be r := by
      have := foldl_be r (0 * 256 + x.toNat)
      simpa [be] using this
    simp only [List.foldl_cons, List.length_cons]
    rw [h1, h2, Nat.pow_succ, Nat.add_mul, Nat.mul_assoc, Nat.mul_comm 256]
    omega
theorem be_cons (x : UInt8) (r : List UInt8) : be (x :: r) = x.toNat * 256 ^ r.length + be r := by
  have := foldl_be r (0 * 256 + x.toNat)
  simpa [be] using this
theorem be_pos {x : UInt8} {r : List UInt8} (hx : x ≠ 0) : 0 < be (x :: r) := by
  rw [be_cons]
  have : x.toNat ≠ 0 := fun e => hx (UInt8.toNat_inj.1 e)
  have h2 : 0 < 256 ^ r.length := Nat.pow_pos (by omega)
  have := Nat.mul_pos (by omega : 0 < x.toNat) h2
  omega
theorem dg_be : ∀ (n : Nat) (v : List UInt8) (f : Nat) (acc : List UInt8), v.length = n → n ≤ f → (∀ x r, v = x :: r → x ≠ 0) → dgF f (be v) acc = v ++ acc
  | 0, v, f, acc, hn, _, _ => by
    obtain rfl := List.eq_nil_of_length_eq_zero hn
    exact dgF_zero f acc
  | n + 1, v, f, acc, hn, hf, h0 => by
    have hne : v ≠ [] := by rintro rfl; simp at hn
    obtain ⟨v', y, rfl⟩ : ∃ v' y, v = v' ++ [y] := ⟨v.dropLast, v.getLast hne, (List.dropLast_concat_getLast hne).symm⟩
    have hn' : v'.length = n := by simpa using hn
    obtain ⟨f', rfl⟩ : ∃ f', f = f' + 1 := ⟨f - 1, by omega⟩
    have hy := y.toNat_lt
    have hpos : 0 < be (v' ++ [y]) := by
      cases v' with
      | nil => exact be_pos (h0 y [] rfl)
      | cons x r => exact be_pos (h0 x (r ++ [y]) rfl)
    rw [dgF_pos f' _ acc hpos]
    have e1 : be (v' ++ [y]) / 256 = be v' := by rw [be_snoc]; omega
    have e2 : UInt8.ofNat (be (v' ++ [y])) = y := by
      apply UInt8.toNat_inj.1
      rw [be_snoc]; simp
    rw [e1, e2, dg_be n v' f' (y :: acc) hn' (by omega) (fun x r hv => by
      subst hv
      exact h0 x (r ++ [y]) rfl)]
    simp
theorem nbr_or (v : List UInt8) (hv : v.length ≤ 8) : (nbr v = some (be v) ∧ digs (be v) = v) ∨ (nbr v = none ∧ digs (be v) ≠ v) := by
  cases v with
  | nil => exact .inl ⟨rfl, rfl⟩
  | cons x r =>
    by_cases hx : x = 0
    · refine .inr ⟨by simp [nbr, hx], fun e => ?_⟩
      rcases Nat.eq_zero_or_pos (be (x :: r)) with h0 | h0
      · rw [h0] at e; simp [digs, dgF] at e
      · obtain ⟨x', r', e', hx'⟩ := head_dgF 8 (be (x :: r)) (Nat.lt_of_lt_of_le (be_lt _) (Nat.pow_le_pow_right (by omega) hv)) h0
        unfold digs at e
        rw [e'] at e
        injection e with e1 _
        exact hx' (e1.trans hx)
    · left
      have hr : ¬ (7 < r.length ∨ x = 0) := by rintro (h | h); · simp at hv; omega
                                               · exact hx h
      refine ⟨by simp only [nbr]; rw [if_neg hr], ?_⟩
      have := dg_be (x :: r).length (x :: r) 8 [] rfl hv (fun x' r' e => by injection e with e1 _; rw [← e1]; exact hx)
      simpa [digs] using this
/-- A number's reading, out of a text's. -/
theorem rdNum_txt (c : UInt8) (l : List UInt8) : rdNum c l = match rdTxt c 8 l with
    | (v, some rest) => if digs (be v) = v then (be v, some rest) else (0, none)
    | (_, none) => (0, none) := by
  unfold rdNum rdTxt
  cases tkF c l with
  | none => rfl
  | some p =>
    obtain ⟨body, rest⟩ := p
    by_cases hb : body.length ≤ 8
    · have ht : txtOk body 8 = true := by simp [txtOk]; omega
      simp only [ht, if_true]
      rcases nbr_or body hb with ⟨h1, h2⟩ | ⟨h1, h2⟩
      · simp [h1, h2]
      · simp [h1, h2]
    · have ht : txtOk body 8 = false := by simp [txtOk]; omega
      have hn : nbr body = none := by
        cases body with
        | nil => simp at hb
        | cons x r => simp only [nbr]; rw [if_pos (.inl (by simp at hb; omega))]
      simp [ht, hn]

section
attribute [local go_sem] idx_list
end
end Go.Proofs.Ytnpoohkklfpmdaa
