/- Records taken field by field, as plain lists: the same as by comparing. -/
import Derived.Test.YtnpoohkklfpmdaaGreatAdl
import Derived.Test.YtnpoohkklfpmdaaGreatTlvR
namespace Go.Proofs.YtnpoohkklfpmdaaGreat
open Go.RowKit
theorem tkF_inv {c : UInt8} {s b r : List UInt8} (h : tkF c s = some (b, r)) : s = fld c b ++ r ∧ b.length < 16777216 := by
  match s with
  | [] => simp [tkF] at h
  | [_] => simp [tkF] at h
  | [_, _] => simp [tkF] at h
  | [_, _, _] => simp [tkF] at h
  | x :: a :: b' :: d :: t =>
    simp only [tkF] at h
    split at h
    · rename_i hc
      simp only [Option.some.injEq, Prod.mk.injEq] at h
      have ha := a.toNat_lt
      have hb := b'.toNat_lt
      have hd := d.toNat_lt
      have hl : b.length = a.toNat * 65536 + b'.toNat * 256 + d.toNat := by rw [← h.1, List.length_take]; omega
      refine ⟨?_, by omega⟩
      have e1 : UInt8.ofNat (b.length / 65536) = a := by apply UInt8.toNat_inj.1; simp; omega
      have e2 : UInt8.ofNat (b.length / 256 % 256) = b' := by apply UInt8.toNat_inj.1; simp; omega
      have e3 : UInt8.ofNat (b.length % 256) = d := by apply UInt8.toNat_inj.1; simp; omega
      rw [fld, e1, e2, e3, ← h.1, ← h.2, hc.1]
      simp
    · cases h
theorem rdNum_inv {c : UInt8} {s q : List UInt8} {n : Nat} (h : rdNum c s = (n, some q)) : s = fld c (digs n) ++ q := by
  rw [rdNum_txt] at h
  unfold rdTxt at h
  cases ht : tkF c s with
  | none => rw [ht] at h; simp at h
  | some p =>
    obtain ⟨v, rest⟩ := p
    rw [ht] at h
    simp only at h
    by_cases hb : txtOk v 8 = true
    · rw [if_pos hb] at h
      simp only at h
      by_cases hd : digs (be v) = v
      · rw [if_pos hd] at h
        obtain ⟨h1, h2⟩ := Prod.mk.inj h
        injection h2 with h2
        rw [← h1, ← h2, hd]
        exact (tkF_inv ht).1
      · rw [if_neg hd] at h; simp at h
    · rw [if_neg hb] at h; simp at h
/-- What the program's Take tells: the body, then the sum, each as it stands. -/
def takG (s : List UInt8) : List UInt8 × Nat × Int :=
  match rdTxt 82 s.length s with
  | (_, none) => ([], 0, 10)
  | (b, some r) => match rdNum 83 r with
    | (_, none) => ([], 0, 10)
    | (n, some q) => if n = sumN (s.take (s.length - r.length)) then (b, s.length - q.length, 0) else ([], 0, 10)
theorem takG_takP (s : List UInt8) (h : ∀ b r, tkF 82 s = some (b, r) → b.length ≤ 1048576) : takG s = takP s := by
  cases ht : tkF 82 s with
  | none => rw [takP_none ht]; unfold takG rdTxt; rw [ht]
  | some p =>
    obtain ⟨b, r⟩ := p
    have hb := h b r ht
    obtain ⟨es, hb2⟩ := tkF_inv ht
    have hr : rdTxt 82 s.length s = (b, some r) := by
      unfold rdTxt; rw [ht]; simp only
      rw [if_pos]
      have : s.length = b.length + 4 + r.length := by rw [es, List.length_append, fld_len]
      simp [txtOk]; omega
    have ef : s.take (s.length - r.length) = fld 82 b := by
      rw [es, List.length_append, Nat.add_sub_cancel, List.take_left]
    unfold takG
    rw [hr]
    simp only
    rw [ef]
    rcases hn : rdNum 83 r with ⟨n, st⟩
    have other : (∀ q, ¬ (n = sumN (fld 82 b) ∧ st = some q)) → takP s = ([], 0, 10) := by
      intro no
      rcases takP_cases s with ⟨b', h1, h2, _, _, h5⟩ | h1
      · exfalso
        have e : s = recd b' ++ s.drop (recd b').length := by rw [← h2, List.length_take, Nat.min_eq_left h5]; rw [h2]; conv => lhs; rw [← List.take_append_drop (recd b').length s]; rw [h2]
        rw [recd, List.append_assoc] at e
        by_cases hb' : b'.length < 16777216
        · have t2 := tkF_fld 82 b' (fld 83 (digs (sumN (fld 82 b'))) ++ s.drop (recd b').length) hb'
          rw [recd] at t2
          rw [← e, ht] at t2
          simp only [Option.some.injEq, Prod.mk.injEq] at t2
          obtain ⟨rfl, hr2⟩ := t2
          rw [hr2, rdNum_fld 83 _ _ (by have := sumN_lt (fld 82 b); omega)] at hn
          obtain ⟨h6, h7⟩ := Prod.mk.inj hn
          exact no _ ⟨h6.symm, h7.symm⟩
        · omega
      · exact h1
    cases st with
    | none => rw [other (fun q hq => by cases hq.2)]
    | some q =>
      simp only
      by_cases e : n = sumN (fld 82 b)
      · rw [if_pos e]
        have eq := rdNum_inv hn
        rw [e] at eq
        have e2 : s = recd b ++ q := by rw [recd, List.append_assoc, ← eq]; exact es
        rw [e2, takP_rec b q hb, List.length_append, Nat.add_sub_cancel]
      · rw [if_neg e, other (fun q hq => e hq.1)]
theorem takG_short (s : List UInt8) (h : s.length ≤ 1048580) : takG s = takP s := takG_takP s fun b r ht => by
  have := congrArg List.length (tkF_inv ht).1
  rw [List.length_append, fld_len] at this
  omega
theorem takG_rec (b : List UInt8) (hb : b.length ≤ 1048576) : takG (recd b) = (b, (recd b).length, 0) := by
  have h := takP_rec b [] hb
  rw [List.append_nil] at h
  rw [← h]
  refine takG_takP _ fun b' r ht => ?_
  rw [recd, tkF_fld 82 b _ (by omega)] at ht
  simp only [Option.some.injEq, Prod.mk.injEq] at ht
  rw [← ht.1]; exact hb
end Go.Proofs.YtnpoohkklfpmdaaGreat
