import Derived.Test.YtkhmhffphmkefaaPlain
import Derived.Test.YtkhmhffphmkefaaTlvS
import Derived.Test.YtkhmhffphmkefaaTlvC
import Derived.Outline
import Derived.RegionTactic
import Derived.ChangeAlike
import Derived.BigRegion
import Derived.BigQuiet
import Derived.Deep.QuietTactic
import Derived.Deep.RegionWith
import Derived.Deep.RegionLaw
import Derived.Deep.AppendLies
import Derived.Deep.Draws
import Derived.Lib.Hide
import Derived.Deep.LoopGhost
import Derived.Deep.RegionHeld3
import Derived.StillTactics
import Derived.OwnWalk
namespace Go.Proofs.Ytkhmhffphmkefaa
open Go.RowKit
theorem rdAll_txt (c : UInt8) (many most : Int) (l : List UInt8) (hl : (l.length : Int) ≤ 16777215) : rdAll c many most l = match rdTxt c 16777216 l with
    | (v, some rest) => if okAll many (allT c most v) then ((allT c most v).getD [], some rest) else ([], none)
    | (_, none) => ([], none) := by
  unfold rdAll rdTxt
  cases ht : tkF c l with
  | none => rfl
  | some p =>
    obtain ⟨body, rest⟩ := p
    have := (tkF_len ht).1
    have h2 : txtOk body 16777216 = true := by simp [txtOk]; omega
    simp only [h2, if_true]
theorem rdTxt_fst_len (c : UInt8) (most : Int) (l : List UInt8) : (rdTxt c most l).1.length ≤ l.length := by
  unfold rdTxt
  cases ht : tkF c l with
  | none => simp
  | some p =>
    obtain ⟨body, rest⟩ := p
    have := (tkF_len ht).1
    simp only
    split
    · exact this
    · simp
theorem ref_round {c : UInt8} {most : Int} {v0 : List UInt8} {W1 wr w2 w3 : World} {b b2 gg cp cap gk : Nat} {A : Option Addr} {acc : List (List UInt8)} {x : UInt8} {r : List UInt8} {st1 : Option (List UInt8)} {all : Option (List (List UInt8))} {o : Obj}
    (hb2 : b2 < W1.heap.size) (hbb : b ≠ b2) (hrb : Rf wr b st1) (hfr : Fr [b2] W1 wr) (hf2 : Fr [b2] wr w2) (hr2 : Rf w2 b2 (rdTxt c most (x :: r)).2)
    (own2 : w2.ownsRow W1.heap.size 9 1 (.slice A acc.length cp) acc.length (strs acc)) (hbl : b < W1.heap.size)
    (hown3 : w3.ownsRow W1.heap.size 9 1 (.slice (some ⟨gg, 0, none⟩) (acc.length + 1) cap) (acc.length + 1) (strs acc ++ [.string ⟨(rdTxt c most (x :: r)).1.toArray⟩]))
    (hgrow : (w2.alloc o).grownBy w3 (Value.slice A acc.length cp).ownBlock) (hk : r.length + 1 < gk) (hal : acc.length + (r.length + 1) ≤ v0.length)
    (hall : all = (allS c most gk (some (x :: r))).map (acc ++ ·)) :
    ∃ st acc', Rf w3 b2 st ∧ Rf w3 b st1 ∧ w3.ownsRow W1.heap.size 9 1 (.slice (some ⟨gg, 0, none⟩) (acc.length + 1) cap) acc'.length (strs acc') ∧ Fr [b2] W1 w3 ∧
      (st.getD []).length < gk - 1 ∧ acc'.length + (st.getD []).length ≤ v0.length ∧ all = (allS c most (gk - 1) st).map (acc' ++ ·) := by
  have hge := own_block_ge own2
  have key : ∀ {q : Nat} {sq : Option (List UInt8)}, q < W1.heap.size → Rf w2 q sq → Rf w3 q sq := fun {q sq} hq h => by
    have h2 : Rf (w2.alloc o) q sq := h.below ((Below.refl _ _).alloc (Nat.le_refl _) _)
    exact h2.keep (hgrow.block q h2.lt (fun e => by have := hge q e.symm; omega))
  have hlen : ((rdTxt c most (x :: r)).2.getD []).length ≤ r.length := by
    rcases hst : rdTxt c most (x :: r) with ⟨v, _ | rest⟩
    · simp
    · have := rdTxt_less hst
      simp at this ⊢; omega
  refine ⟨(rdTxt c most (x :: r)).2, acc ++ [(rdTxt c most (x :: r)).1], key hb2 hr2, key hbl (hrb.fr hf2 (by simpa using hbb)), ?_, ?_, by omega, by simp; omega, ?_⟩
  · rw [List.length_append, strs_snoc]
    exact hown3
  · exact ((hfr.trans hf2).alloc o).grown hgrow hge
  · obtain ⟨k', rfl⟩ : ∃ k', gk = k' + 1 := ⟨gk - 1, by omega⟩
    rw [hall, allS_step, Nat.add_sub_cancel, Option.map_map]
    congr 1
    funext q
    simp
set_option maxRecDepth 100000 in
set_option maxHeartbeats 4000000 in
theorem refAllR_any (c : UInt8) (many most : Int) (st : Option (List UInt8)) (b : Nat) (w : World) (hrd : Rf w b st) (hbl : ((st.getD []).length : Int) ≤ 16777215) :
    Calls Try.prog 33 #[.pointer (some ⟨b, 0, none⟩), .int .u8 c.toNat, .int .i64 many, .int .i64 most] w fun e w' => IsStrs (rdAll c many most (st.getD [])).1 e w' ∧ Rf w' b (rdAll c many most (st.getD [])).2 ∧ Fr [b] w w' := by
  obtain ⟨i0, hi, hz0, hz1, hz2⟩ := info_parts info9
  have HT := Lib.hid (refTxt_any c 16777216 st b w hrd hbl)
  have HA := Lib.hid (rdAll_txt c many most (st.getD []) hbl)
  have hv0 := rdTxt_fst_len c 16777216 (st.getD [])
  have hnone : (rdTxt c 16777216 (st.getD [])).2 = none → (rdTxt c 16777216 (st.getD [])).1 = [] := by
    unfold rdTxt
    cases tkF c (st.getD []) with
    | none => simp
    | some p =>
      obtain ⟨body, rest⟩ := p
      simp only
      split
      · simp
      · simp
  rcases hq : rdTxt c 16777216 (st.getD []) with ⟨v0, st1⟩
  rw [hq] at HT HA hv0 hnone
  clear hq
  have hv1 : v0.length ≤ 16777215 := by have : v0.length ≤ (st.getD []).length := hv0; omega
  have hq1 : v0.length + 1 ≤ maxLen := by unfold maxLen; omega
  have hq2 : (v0.length + 1) * 16 ≤ 140737488355328 := by omega
  have Hv0 : Hid ((v0.length : Int) ≤ 16777215) := Lib.hid (by omega)
  have Q1 := Lib.hid hq1
  have Q2 := Lib.hid hq2
  clear hv0 hbl hv1 hq1 hq2
  have Hnone := Lib.hid hnone
  clear hnone
  have hlt := hrd.lt
  go_enter Try.func33, Try.ntmps33
  go_wp2_with fail
  refine HT.out.mono ?_
  rintro e w1 ⟨rfl, hr1, h1⟩
  have hb1 := hr1.lt
  have hin : Rf (w1.alloc (.cells #[.string ⟨v0.toArray⟩, .bool false] 40)) w1.heap.size (some v0) := ⟨v0, heap_alloc_new w1 _, fun l h => by injection h⟩
  have hbW : Below w1.heap.size w1 (w1.alloc (.cells #[.string ⟨v0.toArray⟩, .bool false] 40)) := (Below.refl _ _).alloc (Nat.le_refl _) _
  have hrb := hr1.below hbW
  have hsz1 : w1.heap.size < (w1.alloc (.cells #[.string ⟨v0.toArray⟩, .bool false] 40)).heap.size := by simp
  go_wp2_with fail
  generalize (w1.alloc (.cells #[.string ⟨v0.toArray⟩, .bool false] 40)) = W1 at *
  generalize hall : allT c most v0 = all
  have Hall : Hid (allF c most (v0.length + 1) v0 = all) := Lib.hid hall
  have Hall0 := Lib.hid hall
  clear hall
  go_loopg [10, 11] (v0.length + 1) (fun k u s wr => ∃ st' acc, Rf wr w1.heap.size st' ∧ Rf wr b st1 ∧ wr.ownsRow W1.heap.size 9 1 u acc.length (strs acc) ∧ Fr [w1.heap.size] W1 wr ∧
      (st'.getD []).length < k ∧ acc.length + (st'.getD []).length ≤ v0.length ∧ all = (allS c most k st').map (acc ++ ·))
  case atStart => exact ⟨some v0, [], hin, hrb, World.ownsRow_nil _ _ _ _, Fr.refl _ _, by simp, by simp, by rw [← Hall.out]; simp [allS]⟩
  case round =>
    obtain ⟨st', acc, hrn, hrb', hown, hfr, hk, hal, hall⟩ := hrel
    obtain ⟨A, cp, rfl⟩ := own_form hown
    have Hk := Lib.hid hk
    have Hal := Lib.hid hal
    have Hall2 := Lib.hid hall
    have Hrn := Lib.hid hrn
    clear hk hal hall
    obtain ⟨s, hs, hss⟩ := hrn
    have z0 := rf_c0 hs
    have z1 := rf_c1 hs
    clear hs
    obtain ⟨s', hs', hss'⟩ := hrb'
    have y1 := rf_c1 hs'
    have g1 := rf_fz hs' 1
    have Hs' := Lib.hid hs'
    clear hs'
    have hF : Fr [b] w wr := (((h1.more (ex' := [b, w1.heap.size]) (by simp)).trans (Fr.of_below hbW)).trans (hfr.more (by simp))).drop (by have := h1.size; simp; omega)
    rcases st' with _ | _ | ⟨x, r⟩
    · have e : okAll many all = false := by rw [Hall2.out]; rfl
      have He := Lib.hid e
      clear e hss
      have e2 : rdAll c many most (st.getD []) = ([], none) := by
        cases st1 with
        | none => exact HA.out
        | some rest => rw [HA.out]; simp only [Hall0.out, He.out]; rfl
      have He2 := Lib.hid e2
      clear e2
      cases s with
      | nil =>
        go_wp2
        go_ret
        rw [He2.out]
        exact ⟨⟨_, _, _, rfl, Nat.le_refl _, rfl, fun h => absurd h (by omega)⟩, Rf.bad Hs'.out, hF.setCell (.inl (by simp)) _⟩
      | cons x r =>
        go_wp2
        go_ret
        rw [He2.out]
        exact ⟨⟨_, _, _, rfl, Nat.le_refl _, rfl, fun h => absurd h (by omega)⟩, Rf.bad Hs'.out, hF.setCell (.inl (by simp)) _⟩
    · obtain rfl : s = [] := hss _ rfl
      clear hss
      have e : all = some acc := by
        rw [Hall2.out]
        have hk := Hk.out
        obtain ⟨k', hk'⟩ : ∃ k', gk = k' + 1 := ⟨gk - 1, by simp at hk; omega⟩
        rw [hk']
        simp [allS, allF]
      have He := Lib.hid e
      clear e
      by_cases hm : (acc.length : Int) ≤ many
      · have d1 : decide (many < (acc.length : Int)) = false := by simp; omega
        have hok : okAll many all = true := by rw [He.out]; simp [okAll, hm]
        have Hok := Lib.hid hok
        clear hok
        cases st1 with
        | none =>
          have e2 : rdAll c many most (st.getD []) = ([], none) := HA.out
          have He2 := Lib.hid e2
          clear e2
          go_wp2
          go_ret
          rw [He2.out]
          exact ⟨⟨_, _, _, rfl, Nat.le_refl _, rfl, fun h => absurd h (by omega)⟩, ⟨s', Hs'.out, hss'⟩, hF⟩
        | some rest =>
          have e2 : rdAll c many most (st.getD []) = (acc, some rest) := by rw [HA.out]; simp only [Hall0.out, Hok.out, if_true]; rw [He.out]; rfl
          have He2 := Lib.hid e2
          clear e2
          go_wp2
          go_ret
          rw [He2.out]
          exact ⟨⟨_, _, _, rfl, own_cap hown, strsAt_own hown⟩, ⟨s', Hs'.out, hss'⟩, hF⟩
      · have d1 : decide (many < (acc.length : Int)) = true := by simp; omega
        have hok : okAll many all = false := by rw [He.out]; simp [okAll]; omega
        have Hok := Lib.hid hok
        clear hok
        have e2 : rdAll c many most (st.getD []) = ([], none) := by
          cases st1 with
          | none => exact HA.out
          | some rest => rw [HA.out]; simp only [Hall0.out, Hok.out]; rfl
        have He2 := Lib.hid e2
        clear e2
        go_wp2
        go_ret
        rw [He2.out]
        exact ⟨⟨_, _, _, rfl, Nat.le_refl _, rfl, fun h => absurd h (by omega)⟩, Rf.bad Hs'.out, hF.setCell (.inl (by simp)) _⟩
    · obtain rfl : s = x :: r := hss _ rfl
      clear hss
      have hl' : ((((some (x :: r)) : Option (List UInt8)).getD []).length : Int) ≤ 16777215 := by have p1 := Hal.out; have p2 := Hv0.out; omega
      have HTx := Lib.hid (refTxt_any c most (some (x :: r)) w1.heap.size wr Hrn.out hl')
      clear hl'
      have q1 : acc.length + 1 ≤ maxLen := by have p1 : acc.length + (r.length + 1) ≤ v0.length := Hal.out; have := Q1.out; omega
      have q2 : (acc.length + 1) * 16 ≤ 140737488355328 := by have p1 : acc.length + (r.length + 1) ≤ v0.length := Hal.out; have := Q2.out; omega
      have P1 := Lib.hid q1
      have P2 := Lib.hid q2
      clear q1 q2
      have hsw := hfr.size
      go_wp2_with fail
      refine HTx.out.mono ?_
      rintro e w2 ⟨rfl, hr2, hf2⟩
      have own2 : w2.ownsRow W1.heap.size 9 1 (.slice A acc.length cp) acc.length (strs acc) := own_fr hown hf2 fun k hk => by
        obtain rfl := List.mem_singleton.1 hk
        obtain ⟨s2, hs2, _⟩ := Hrn.out
        exact ⟨_, _, _, hs2, by decide⟩
      have hsw2 := hf2.size
      go_wp2_with (at_builtin; refine wpList_append_lies _ rfl _ _ 25 rfl W1.heap.size 9 i0 _ 1 16 Try.underlying25 hi hz0 hz1 hz2 rfl (by omega) (.slice A acc.length cp) acc.length _ rfl (own2.alloc _) ⟨w2.heap.size, 0, none⟩ 1 1 [.string ⟨(rdTxt c most ((some (x :: r)).getD [])).1.toArray⟩] rfl rfl (World.news_of_block (cs := #[.string ⟨(rdTxt c most ((some (x :: r)).getD [])).1.toArray⟩]) (t := 9) (fr := (0, 0)) (heap_alloc_new w2 _)) (by simp [Value.oneCell']) (by omega) P1.out P2.out (by simp; omega) (w2.heap.size + 1) (by simp) ?_; intro gg cap2 w3 hown3 hgrow hat hlt3)
      go_roundg (gk - 1)
      case measure => have := Hk.out; simp at this; omega
      case rel => exact ref_round hsz1 (by omega) ⟨s', Hs'.out, hss'⟩ hfr hf2 hr2 own2 (by omega) hown3 hgrow Hk.out Hal.out Hall2.out
end Go.Proofs.Ytkhmhffphmkefaa
