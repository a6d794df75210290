import Derived.Test.YtnpoohkklfpmdaaGreatPlain
import Derived.Test.YtnpoohkklfpmdaaGreatLawX
import Derived.Test.YtnpoohkklfpmdaaGreatTlvAll
import Derived.Outline
import Derived.RegionTactic
import Derived.ChangeAlike
import Derived.BigRegion
import Derived.BigQuiet
import Derived.Deep.QuietTactic
import Derived.Deep.RegionWith
import Derived.Deep.RegionLaw
import Derived.Deep.AppendLies
import Derived.Deep.Draws
import Derived.Lib.Hide
import Derived.Deep.LoopGhost
import Derived.Deep.RegionHeld3
import Derived.StillTactics
import Derived.OwnWalk
namespace Go.Proofs.YtnpoohkklfpmdaaGreat
open Go.RowKit
/-- The document's reader in block b: what is left; none: it is bad (whatever it has). -/
def Rf (w : World) (b : Nat) (st : Option (List UInt8)) : Prop := ∃ s : List UInt8, w.heap[b]? = some (.cells #[.string ⟨s.toArray⟩, .bool st.isNone] 108 (0, 0)) ∧ ∀ l, st = some l → s = l
section
variable {w w' : World} {b : Nat} {st : Option (List UInt8)}
theorem rf_c0 {s : List UInt8} {v : Value} (h : w.heap[b]? = some (.cells #[.string ⟨s.toArray⟩, v] 108 (0, 0))) : w.cell? ⟨b, 0, none⟩ = some (.string ⟨s.toArray⟩) := by
  unfold World.cell?; simp only [h]; rfl
theorem rf_c1 {s : List UInt8} {v : Value} (h : w.heap[b]? = some (.cells #[.string ⟨s.toArray⟩, v] 108 (0, 0))) : w.cell? ⟨b, 1, none⟩ = some v := by
  unfold World.cell?; simp only [h]; rfl
theorem rf_fz {s : List UInt8} {v : Value} (h : w.heap[b]? = some (.cells #[.string ⟨s.toArray⟩, v] 108 (0, 0))) (i : Nat) : w.frozen? ⟨b, i, none⟩ = false := by
  unfold World.frozen?; simp [h]
theorem Rf.lt (h : Rf w b st) : b < w.heap.size := by
  obtain ⟨s, h, _⟩ := h
  rcases Nat.lt_or_ge b w.heap.size with hlt | hge
  · exact hlt
  · rw [Array.getElem?_eq_none hge] at h; cases h
theorem Rf.keep (h : Rf w b st) (hb : w'.heap[b]? = w.heap[b]?) : Rf w' b st := by
  obtain ⟨s, h, hs⟩ := h
  exact ⟨s, hb.trans h, hs⟩
theorem Rf.fr {ex : List Nat} (h : Rf w b st) (hf : Fr ex w w') (hn : b ∉ ex) : Rf w' b st := h.keep (hf.block b h.lt hn)
theorem Rf.below (h : Rf w b st) (hf : Below w.heap.size w w') : Rf w' b st := h.keep (hf.block b h.lt)
theorem Rf.bad {s : List UInt8} {v : Value} (h : w.heap[b]? = some (.cells #[.string ⟨s.toArray⟩, v] 108 (0, 0))) : Rf (w.setCell ⟨b, 1, none⟩ (.bool true)) b none :=
  ⟨s, by rw [heap_set h _]; rfl, fun l h => by cases h⟩
end
section
attribute [local go_sem] idx_list ext_list
set_option maxRecDepth 100000 in
set_option maxHeartbeats 1000000 in
theorem refTxt_any (c : UInt8) (most : Int) (st : Option (List UInt8)) (b : Nat) (w : World) (hrd : Rf w b st) (hbl : ((st.getD []).length : Int) ≤ 16777215) :
    Calls Tryz.prog 70 #[.pointer (some ⟨b, 0, none⟩), .int .u8 c.toNat, .int .i64 most] w fun e w' => e = .returned (.string ⟨(rdTxt c most (st.getD [])).1.toArray⟩) ∧ Rf w' b (rdTxt c most (st.getD [])).2 ∧ Fr [b] w w' := by
  obtain ⟨s, hb, hs⟩ := hrd
  have z0 := rf_c0 hb
  have z1 := rf_c1 hb
  have f0 := rf_fz hb 0
  have f1 := rf_fz hb 1
  have Hb := Lib.hid hb
  clear hb
  cases st with
  | none =>
    clear hs hbl
    go_enter Tryz.func70, Tryz.ntmps70
    go_wp2
    go_ret
    exact ⟨rfl, Rf.bad Hb.out, (Fr.refl _ _).setCell (.inl (by simp)) _⟩
  | some l =>
    obtain rfl : s = l := hs l rfl
    clear hs
    have hs2 : (s.length : Int) ≤ 16777215 := hbl
    have hs3 : s.length < 16777216 := by omega
    clear hbl hs2
    have short : ∀ (hl : s.length < 4), Calls Tryz.prog 70 #[.pointer (some ⟨b, 0, none⟩), .int .u8 c.toNat, .int .i64 most] w fun e w' => e = .returned (.string ⟨#[]⟩) ∧ Rf w' b none ∧ Fr [b] w w' := by
      clear hs3
      intro hl
      have h4 : decide ((s.length : Int) < 4) = true := by simp; omega
      clear hl
      go_enter Tryz.func70, Tryz.ntmps70
      go_wp2
      go_ret
      exact ⟨rfl, Rf.bad Hb.out, (Fr.refl _ _).setCell (.inl (by simp)) _⟩
    rcases s with _ | ⟨x, _ | ⟨y, _ | ⟨z, _ | ⟨u, r⟩⟩⟩⟩
    · exact short (by simp)
    · exact short (by simp)
    · exact short (by simp)
    · exact short (by simp)
    · clear short
      have hr63 : (r.length : Int) ≤ 140737488351232 := by simp at hs3; omega
      clear hs3
      have hx := x.toNat_lt
      by_cases hxc : x = c
      · subst hxc
        have hy := y.toNat_lt
        have hz := z.toNat_lt
        have hu := u.toNat_lt
        obtain ⟨N, hN⟩ : ∃ N, y.toNat * 65536 + z.toNat * 256 + u.toNat = N := ⟨_, rfl⟩
        have vy : IntKind.i64.wrap (y.toNat : Int) = (y.toNat : Int) := by rw [IntKind.wrap_i64]; omega
        have vz : IntKind.i64.wrap (z.toNat : Int) = (z.toNat : Int) := by rw [IntKind.wrap_i64]; omega
        have vu : IntKind.i64.wrap (u.toNat : Int) = (u.toNat : Int) := by rw [IntKind.wrap_i64]; omega
        have v1 : IntKind.i64.wrap ((y.toNat : Int) * 65536) = (y.toNat : Int) * 65536 := by rw [IntKind.wrap_i64]; omega
        have v2 : IntKind.i64.wrap ((z.toNat : Int) * 256) = (z.toNat : Int) * 256 := by rw [IntKind.wrap_i64]; omega
        have v3 : IntKind.i64.wrap ((y.toNat : Int) * 65536 + (z.toNat : Int) * 256) = (y.toNat : Int) * 65536 + (z.toNat : Int) * 256 := by rw [IntKind.wrap_i64]; omega
        have v4 : IntKind.i64.wrap ((y.toNat : Int) * 65536 + (z.toNat : Int) * 256 + (u.toNat : Int)) = (N : Int) := by rw [IntKind.wrap_i64]; omega
        have hN2 : N ≤ 16777215 := by omega
        have VY := Lib.hid vy
        have VZ := Lib.hid vz
        have VU := Lib.hid vu
        have V1 := Lib.hid v1
        have V2 := Lib.hid v2
        have V3 := Lib.hid v3
        have V4 := Lib.hid v4
        have HN := Lib.hid hN
        have HN2 := Lib.hid hN2
        clear hN hN2 hx hy hz hu v1 v2 v3 v4 vy vz vu
        have etk : tkF x (x :: y :: z :: u :: r) = if N ≤ r.length then some (r.take N, r.drop N) else none := by
          simp only [tkF, true_and]; rw [HN.out]
        by_cases hNr : N ≤ r.length
        · rw [if_pos hNr] at etk
          by_cases hNm : (N : Int) ≤ most
          · have e : rdTxt x most ((some (x :: y :: z :: u :: r)).getD []) = (r.take N, some (r.drop N)) := by
              simp only [rdTxt, Option.getD_some, etk, txtOk, List.length_take, Nat.min_eq_left hNr, hNm, decide_true, if_true]
            rw [e]
            have d1 : decide (most < (N : Int)) = false := by simp; omega
            have d2 : decide ((r.length : Int) < (N : Int)) = false := by simp; omega
            have hNr2 : (N : Int) ≤ (r.length : Int) := by omega
            clear e etk hNm
            go_enter Tryz.func70, Tryz.ntmps70
            go_wp2_with fail
            have wy := VY.out
            have wz := VZ.out
            have wu := VU.out
            have w1 := V1.out
            have w2 := V2.out
            have w3 := V3.out
            have w4 := V4.out
            go_quiet (fail)
            clear wy wz wu w1 w2 w3 w4
            go_wp2
            go_ret
            refine ⟨?_, ⟨r.drop N, ?_, fun l h => by injection h⟩, ((Fr.refl _ _).drewN _).setCell (.inl (by simp)) _⟩
            · refine congrArg (fun q : List UInt8 => Ending.returned (.string ⟨q.toArray⟩)) ?_
              show List.drop 4 (List.take (4 + N) (x :: y :: z :: u :: r)) = _
              rw [Nat.add_comm]; rfl
            · have e2 : List.drop (4 + N) (x :: y :: z :: u :: r) = r.drop N := by rw [Nat.add_comm]; rfl
              rw [e2]
              exact heap_set (w := w.drewN _) Hb.out _
          · have e : rdTxt x most ((some (x :: y :: z :: u :: r)).getD []) = ([], none) := by
              simp only [rdTxt, Option.getD_some, etk, txtOk, List.length_take, Nat.min_eq_left hNr, hNm, decide_false]; rfl
            rw [e]
            have d1 : decide (most < (N : Int)) = true := by simp; omega
            clear e etk hNm
            go_enter Tryz.func70, Tryz.ntmps70
            go_wp2_with fail
            have wy := VY.out
            have wz := VZ.out
            have wu := VU.out
            have w1 := V1.out
            have w2 := V2.out
            have w3 := V3.out
            have w4 := V4.out
            go_quiet (fail)
            clear wy wz wu w1 w2 w3 w4
            go_wp2
            go_ret
            exact ⟨rfl, Rf.bad (w := w.drewN _) Hb.out, ((Fr.refl _ _).drewN _).setCell (.inl (by simp)) _⟩
        · rw [if_neg hNr] at etk
          have e : rdTxt x most ((some (x :: y :: z :: u :: r)).getD []) = ([], none) := by
            simp only [rdTxt, Option.getD_some, etk]
          rw [e]
          have d2 : decide ((r.length : Int) < (N : Int)) = true := by simp; omega
          clear e etk
          by_cases hNm : (N : Int) ≤ most
          · have d1 : decide (most < (N : Int)) = false := by simp; omega
            clear hNm
            go_enter Tryz.func70, Tryz.ntmps70
            go_wp2_with fail
            have wy := VY.out
            have wz := VZ.out
            have wu := VU.out
            have w1 := V1.out
            have w2 := V2.out
            have w3 := V3.out
            have w4 := V4.out
            go_quiet (fail)
            clear wy wz wu w1 w2 w3 w4
            go_wp2
            go_ret
            exact ⟨rfl, Rf.bad (w := w.drewN _) Hb.out, ((Fr.refl _ _).drewN _).setCell (.inl (by simp)) _⟩
          · have d1 : decide (most < (N : Int)) = true := by simp; omega
            clear hNm
            go_enter Tryz.func70, Tryz.ntmps70
            go_wp2_with fail
            have wy := VY.out
            have wz := VZ.out
            have wu := VU.out
            have w1 := V1.out
            have w2 := V2.out
            have w3 := V3.out
            have w4 := V4.out
            go_quiet (fail)
            clear wy wz wu w1 w2 w3 w4
            go_wp2
            go_ret
            exact ⟨rfl, Rf.bad (w := w.drewN _) Hb.out, ((Fr.refl _ _).drewN _).setCell (.inl (by simp)) _⟩
      · have e : rdTxt c most ((some (x :: y :: z :: u :: r)).getD []) = ([], none) := by simp [rdTxt, tkF, hxc]
        rw [e]
        have h1 : ((x.toNat : Int) == (c.toNat : Int)) = false := by
          have : x.toNat ≠ c.toNat := fun e => hxc (UInt8.toNat_inj.1 e)
          simp; omega
        have h2 : ((x.toNat : Int) != (c.toNat : Int)) = true := by rw [bne, h1]; rfl
        clear hxc e
        go_enter Tryz.func70, Tryz.ntmps70
        go_wp2
        go_ret
        exact ⟨rfl, Rf.bad Hb.out, (Fr.refl _ _).setCell (.inl (by simp)) _⟩
end

theorem foldl_be : ∀ (r : List UInt8) (a : Nat), r.foldl (fun n b => n * 256 + b.toNat) a = a * 256 ^ r.length + be r
  | [], a => by simp [be]
  | x :: r, a => by
    have h1 := foldl_be r (a * 256 + x.toNat)
    have h2 : be (x :: r) = x.toNat * 256 ^ r.length + be r := by
      have := foldl_be r (0 * 256 + x.toNat)
      simpa [be] using this
    simp only [List.foldl_cons, List.length_cons]
    rw [h1, h2, Nat.pow_succ, Nat.add_mul, Nat.mul_assoc, Nat.mul_comm 256]
    omega
theorem be_cons (x : UInt8) (r : List UInt8) : be (x :: r) = x.toNat * 256 ^ r.length + be r := by
  have := foldl_be r (0 * 256 + x.toNat)
  simpa [be] using this
theorem be_pos {x : UInt8} {r : List UInt8} (hx : x ≠ 0) : 0 < be (x :: r) := by
  rw [be_cons]
  have : x.toNat ≠ 0 := fun e => hx (UInt8.toNat_inj.1 e)
  have h2 : 0 < 256 ^ r.length := Nat.pow_pos (by omega)
  have := Nat.mul_pos (by omega : 0 < x.toNat) h2
  omega
theorem dg_be : ∀ (n : Nat) (v : List UInt8) (f : Nat) (acc : List UInt8), v.length = n → n ≤ f → (∀ x r, v = x :: r → x ≠ 0) → dgF f (be v) acc = v ++ acc
  | 0, v, f, acc, hn, _, _ => by
    obtain rfl := List.eq_nil_of_length_eq_zero hn
    exact dgF_zero f acc
  | n + 1, v, f, acc, hn, hf, h0 => by
    have hne : v ≠ [] := by rintro rfl; simp at hn
    obtain ⟨v', y, rfl⟩ : ∃ v' y, v = v' ++ [y] := ⟨v.dropLast, v.getLast hne, (List.dropLast_concat_getLast hne).symm⟩
    have hn' : v'.length = n := by simpa using hn
    obtain ⟨f', rfl⟩ : ∃ f', f = f' + 1 := ⟨f - 1, by omega⟩
    have hy := y.toNat_lt
    have hpos : 0 < be (v' ++ [y]) := by
      cases v' with
      | nil => exact be_pos (h0 y [] rfl)
      | cons x r => exact be_pos (h0 x (r ++ [y]) rfl)
    rw [dgF_pos f' _ acc hpos]
    have e1 : be (v' ++ [y]) / 256 = be v' := by rw [be_snoc]; omega
    have e2 : UInt8.ofNat (be (v' ++ [y])) = y := by
      apply UInt8.toNat_inj.1
      rw [be_snoc]; simp
    rw [e1, e2, dg_be n v' f' (y :: acc) hn' (by omega) (fun x r hv => by
      subst hv
      exact h0 x (r ++ [y]) rfl)]
    simp
theorem nbr_or (v : List UInt8) (hv : v.length ≤ 8) : (nbr v = some (be v) ∧ digs (be v) = v) ∨ (nbr v = none ∧ digs (be v) ≠ v) := by
  cases v with
  | nil => exact .inl ⟨rfl, rfl⟩
  | cons x r =>
    by_cases hx : x = 0
    · refine .inr ⟨by simp [nbr, hx], fun e => ?_⟩
      rcases Nat.eq_zero_or_pos (be (x :: r)) with h0 | h0
      · rw [h0] at e; simp [digs, dgF] at e
      · obtain ⟨x', r', e', hx'⟩ := head_dgF 8 (be (x :: r)) (Nat.lt_of_lt_of_le (be_lt _) (Nat.pow_le_pow_right (by omega) hv)) h0
        unfold digs at e
        rw [e'] at e
        injection e with e1 _
        exact hx' (e1.trans hx)
    · left
      have hr : ¬ (7 < r.length ∨ x = 0) := by rintro (h | h); · simp at hv; omega
                                               · exact hx h
      refine ⟨by simp only [nbr]; rw [if_neg hr], ?_⟩
      have := dg_be (x :: r).length (x :: r) 8 [] rfl hv (fun x' r' e => by injection e with e1 _; rw [← e1]; exact hx)
      simpa [digs] using this
/-- A number's reading, out of a text's. -/
theorem rdNum_txt (c : UInt8) (l : List UInt8) : rdNum c l = match rdTxt c 8 l with
    | (v, some rest) => if digs (be v) = v then (be v, some rest) else (0, none)
    | (_, none) => (0, none) := by
  unfold rdNum rdTxt
  cases tkF c l with
  | none => rfl
  | some p =>
    obtain ⟨body, rest⟩ := p
    by_cases hb : body.length ≤ 8
    · have ht : txtOk body 8 = true := by simp [txtOk]; omega
      simp only [ht, if_true]
      rcases nbr_or body hb with ⟨h1, h2⟩ | ⟨h1, h2⟩
      · simp [h1, h2]
      · simp [h1, h2]
    · have ht : txtOk body 8 = false := by simp [txtOk]; omega
      have hn : nbr body = none := by
        cases body with
        | nil => simp at hb
        | cons x r => simp only [nbr]; rw [if_pos (.inl (by simp at hb; omega))]
      simp [ht, hn]

section
attribute [local go_sem] idx_list
end
end Go.Proofs.YtnpoohkklfpmdaaGreat
