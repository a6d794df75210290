/- Records with sums, as plain lists of bytes. -/
import Derived.Test.YtnpoohkklfpmdaaGreatPlain
namespace Go.Proofs.YtnpoohkklfpmdaaGreat
def adlS (p : Nat × Nat) (c : UInt8) : Nat × Nat := ((p.1 + c.toNat) % 65521, (p.2 + (p.1 + c.toNat) % 65521) % 65521)
/-- The two parts of a text's sum. -/
def adl (l : List UInt8) : Nat × Nat := l.foldl adlS (1, 0)
theorem adl_snoc (l : List UInt8) (c : UInt8) : adl (l ++ [c]) = adlS (adl l) c := by simp [adl]
theorem adl_take (l : List UInt8) (k : Nat) (h : k < l.length) : adl (l.take (k + 1)) = adlS (adl (l.take k)) (l[k]'h) := by
  rw [List.take_add_one, List.getElem?_eq_getElem h]; exact adl_snoc _ _
theorem adl_lt (l : List UInt8) : (adl l).1 < 65521 ∧ (adl l).2 < 65521 := by
  suffices H : ∀ (l : List UInt8) (p : Nat × Nat), p.1 < 65521 ∧ p.2 < 65521 → (l.foldl adlS p).1 < 65521 ∧ (l.foldl adlS p).2 < 65521 from H l (1, 0) (by decide)
  intro l
  induction l with
  | nil => exact fun p h => h
  | cons c l ih => exact fun p h => ih _ ⟨Nat.mod_lt _ (by decide), Nat.mod_lt _ (by decide)⟩
def bsum (l : List UInt8) : Nat := l.foldl (fun n c => n + c.toNat) 0
theorem bsum_acc (l : List UInt8) (n : Nat) : l.foldl (fun n c => n + c.toNat) n = n + bsum l := by
  induction l generalizing n with
  | nil => simp [bsum]
  | cons c l ih => simp only [bsum, List.foldl_cons]; rw [ih, ih (0 + c.toNat)]; omega
theorem bsum_cons (c : UInt8) (l : List UInt8) : bsum (c :: l) = c.toNat + bsum l := by simp only [bsum, List.foldl_cons]; rw [bsum_acc]; simp [bsum]
theorem bsum_append (l m : List UInt8) : bsum (l ++ m) = bsum l + bsum m := by
  simp only [bsum, List.foldl_append]; rw [bsum_acc]; rfl
theorem adl_one (l : List UInt8) : (adl l).1 = (1 + bsum l) % 65521 := by
  suffices H : ∀ (l : List UInt8) (p : Nat × Nat), p.1 < 65521 → (l.foldl adlS p).1 = (p.1 + bsum l) % 65521 from H l (1, 0) (by decide)
  intro l
  induction l with
  | nil => exact fun p h => (Nat.mod_eq_of_lt h).symm
  | cons c l ih =>
    intro p h
    rw [List.foldl_cons, ih _ (Nat.mod_lt _ (by decide)), bsum_cons]
    show ((p.1 + c.toNat) % 65521 + bsum l) % 65521 = _
    omega
/-- A text's sum. -/
def sumN (l : List UInt8) : Nat := (adl l).2 * 65536 + (adl l).1
theorem sumN_lt (l : List UInt8) : sumN l < 4294967296 := by
  have := adl_lt l
  unfold sumN; omega
theorem sumN_inj {l m : List UInt8} (h : sumN l = sumN m) : bsum l % 65521 = bsum m % 65521 := by
  have h1 := adl_lt l
  have h2 := adl_lt m
  have h3 := adl_one l
  have h4 := adl_one m
  unfold sumN at h
  omega
/-- A record of a body. -/
def recd (l : List UInt8) : List UInt8 := fld 82 l ++ fld 83 (digs (sumN (fld 82 l)))
theorem recd_len (l : List UInt8) : l.length + 8 ≤ (recd l).length ∧ (recd l).length ≤ l.length + 16 := by
  have := digs_len (sumN (fld 82 l))
  simp only [recd, List.length_append, fld_len]; omega
theorem u8_82 : ((82 : UInt8).toNat) = 82 := rfl
/-- What a Put tells. -/
def putP (l : List UInt8) : List UInt8 × Int := if l.length ≤ 1048576 then (recd l, 0) else ([], 11)
/-- What a Take tells. -/
def takP (s : List UInt8) : List UInt8 × Nat × Int :=
  match rdTxt 82 1048576 s with
  | (b, some _) => if s.take (recd b).length = recd b then (b, (recd b).length, 0) else ([], 0, 10)
  | (_, none) => ([], 0, 10)
theorem takP_rec (b r : List UInt8) (hb : b.length ≤ 1048576) : takP (recd b ++ r) = (b, (recd b).length, 0) := by
  have e : recd b ++ r = fld 82 b ++ (fld 83 (digs (sumN (fld 82 b))) ++ r) := by rw [recd, List.append_assoc]
  have h := rdTxt_fld 82 1048576 b (fld 83 (digs (sumN (fld 82 b))) ++ r) (by omega) (by omega)
  unfold takP
  rw [e, h, ← e]
  simp only
  rw [if_pos (by simp)]
theorem takP_none {s : List UInt8} (h : tkF 82 s = none) : takP s = ([], 0, 10) := by unfold takP rdTxt; rw [h]
theorem tkF_other {c d : UInt8} (h : d ≠ c) (s : List UInt8) : tkF c (d :: s) = none := by
  match s with
  | [] => rfl
  | [_] => rfl
  | [_, _] => rfl
  | a :: b :: e :: r => rw [tkF, if_neg (fun hh => h hh.1)]
theorem tkF_short (c : UInt8) (s : List UInt8) (h : s.length < 4) : tkF c s = none := by
  match s, h with
  | [], _ => rfl
  | [_], _ => rfl
  | [_, _], _ => rfl
  | [_, _, _], _ => rfl
  | _ :: _ :: _ :: _ :: _, h => simp at h; omega
theorem tkF_cut (c : UInt8) (l r : List UInt8) (k : Nat) (hl : l.length < 16777216) (hk : k < l.length + 4) : tkF c ((fld c l ++ r).take k) = none := by
  by_cases h4 : k < 4
  · exact tkF_short _ _ (by rw [List.length_take]; omega)
  · obtain ⟨j, rfl⟩ : ∃ j, k = j + 4 := ⟨k - 4, by omega⟩
    simp only [fld, List.cons_append, List.take_succ_cons]
    rw [tkF, if_neg]
    rintro ⟨_, h⟩
    rw [ofNat_lt (n := l.length / 65536) (by omega), ofNat_lt (n := l.length / 256 % 256) (by omega), ofNat_lt (n := l.length % 256) (by omega)] at h
    rw [List.length_take] at h
    omega
theorem takP_cut (b r : List UInt8) (k : Nat) (hb : b.length < 16777216) (hk : k < b.length + 4) : takP ((recd b ++ r).take k) = ([], 0, 10) := by
  refine takP_none ?_
  rw [recd, List.append_assoc]
  exact tkF_cut 82 b _ k hb hk
theorem fld_prefix' (c : UInt8) (a b r : List UInt8) (ha : a.length < 16777216) (hb : b.length < 16777216) : fld c a <+: fld c b ++ r ↔ a = b := by
  constructor
  · rintro ⟨t, ht⟩
    have h1 := tkF_fld c a t ha
    rw [ht, tkF_fld c b r hb] at h1
    simp only [Option.some.injEq, Prod.mk.injEq] at h1
    exact h1.1.symm
  · rintro rfl; exact List.prefix_append _ _
/-- A record whose body is another one of as many bytes, with another sum of its bytes. -/
theorem takP_turned (b b' r : List UInt8) (hl : b'.length = b.length) (hb : b.length ≤ 1048576) (hs : bsum b' % 65521 ≠ bsum b % 65521) : takP (fld 82 b' ++ fld 83 (digs (sumN (fld 82 b))) ++ r) = ([], 0, 10) := by
  have h := rdTxt_fld 82 1048576 b' (fld 83 (digs (sumN (fld 82 b))) ++ r) (by omega) (by omega)
  unfold takP
  rw [List.append_assoc, h]
  simp only
  rw [if_neg]
  intro e
  have hp : recd b' <+: fld 82 b' ++ (fld 83 (digs (sumN (fld 82 b))) ++ r) := by rw [← e]; exact List.take_prefix _ _
  rw [recd, List.prefix_append_right_inj] at hp
  have h8 := digs_len (sumN (fld 82 b))
  have h8' := digs_len (sumN (fld 82 b'))
  have hd := ((fld_prefix' 83 _ _ r (by omega) (by omega)).1 hp)
  have hn := digs_inj (a := sumN (fld 82 b')) (b := sumN (fld 82 b)) (by have := sumN_lt (fld 82 b'); omega) (by have := sumN_lt (fld 82 b); omega) hd
  have hm := sumN_inj hn
  refine hs ?_
  simp only [fld, bsum_cons, hl] at hm
  omega
theorem takP_cases (s : List UInt8) : (∃ b, takP s = (b, (recd b).length, 0) ∧ s.take (recd b).length = recd b ∧ b.length ≤ 1048576 ∧ 8 ≤ (recd b).length ∧ (recd b).length ≤ s.length) ∨ takP s = ([], 0, 10) := by
  rcases hR : rdTxt 82 1048576 s with ⟨b, st⟩
  cases st with
  | none => right; unfold takP; rw [hR]
  | some r =>
    by_cases h : s.take (recd b).length = recd b
    · left
      have hb : (b.length : Int) ≤ 1048576 := by
        unfold rdTxt at hR
        split at hR
        · cases hR
        · split at hR
          · rename_i hk
            obtain ⟨rfl, _⟩ := Prod.mk.inj hR
            simpa [txtOk] using hk
          · cases hR
      refine ⟨b, ?_, h, by omega, by have := (recd_len b).1; omega, ?_⟩
      · unfold takP; rw [hR]; simp only; rw [if_pos h]
      · have := congrArg List.length h
        rw [List.length_take] at this
        omega
    · right; unfold takP; rw [hR]; simp only; rw [if_neg h]
/-- The bodies of the records with which a text begins, and how many bytes they have. -/
def allF5 : Nat → List UInt8 → List (List UInt8) × Nat
  | 0, _ => ([], 0)
  | f + 1, s => if (takP s).2.2 = 0 then ((takP s).1 :: (allF5 f (s.drop (takP s).2.1)).1, (takP s).2.1 + (allF5 f (s.drop (takP s).2.1)).2) else ([], 0)
theorem allF5_fuel : ∀ (f g : Nat) (s : List UInt8), s.length < f → s.length < g → allF5 f s = allF5 g s := by
  intro f
  induction f with
  | zero => intro g s h; omega
  | succ f ih =>
    intro g s hf hg
    obtain ⟨g, rfl⟩ : ∃ k, g = k + 1 := ⟨g - 1, by omega⟩
    rcases takP_cases s with ⟨b, h1, _, _, h8, hn⟩ | h1
    · simp only [allF5, h1, if_true]
      rw [ih g (s.drop (recd b).length) (by rw [List.length_drop]; omega) (by rw [List.length_drop]; omega)]
    · simp [allF5, h1]
def allP (s : List UInt8) : List (List UInt8) × Nat := allF5 (s.length + 1) s
theorem allP_step {s b : List UInt8} {n : Nat} (h : takP s = (b, n, 0)) : allP s = (b :: (allP (s.drop n)).1, n + (allP (s.drop n)).2) := by
  rcases takP_cases s with ⟨b', h1, _, _, h8, hn⟩ | h1
  · rw [h] at h1
    obtain ⟨rfl, h2⟩ := Prod.mk.inj h1
    obtain ⟨rfl, _⟩ := Prod.mk.inj h2
    have e := allF5_fuel s.length ((s.drop (recd b).length).length + 1) (s.drop (recd b).length) (by rw [List.length_drop]; omega) (by omega)
    rw [allP, allF5, h]
    simp only [if_true]
    rw [e]; rfl
  · rw [h] at h1
    obtain ⟨_, h2⟩ := Prod.mk.inj h1
    obtain ⟨_, h3⟩ := Prod.mk.inj h2
    cases h3
theorem allP_end {s : List UInt8} (h : takP s = ([], 0, 10)) : allP s = ([], 0) := by
  rw [allP, allF5, h]; rfl
theorem allP_rec (b s : List UInt8) (hb : b.length ≤ 1048576) : allP (recd b ++ s) = (b :: (allP s).1, (recd b).length + (allP s).2) := by
  rw [allP_step (takP_rec b s hb), List.drop_left]
theorem allP_nil : allP [] = ([], 0) := allP_end (takP_none rfl)
/-- Records, one behind the other. -/
theorem allP_all (l : List (List UInt8)) (h : ∀ b ∈ l, b.length ≤ 1048576) : allP (l.map recd).flatten = (l, (l.map recd).flatten.length) := by
  induction l with
  | nil => exact allP_nil
  | cons b l ih =>
    rw [List.map_cons, List.flatten_cons, allP_rec _ _ (h b List.mem_cons_self), ih (fun x hx => h x (List.mem_cons_of_mem _ hx)), List.length_append]
end Go.Proofs.YtnpoohkklfpmdaaGreat
