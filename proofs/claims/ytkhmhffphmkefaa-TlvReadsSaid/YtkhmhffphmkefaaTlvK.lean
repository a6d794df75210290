import Derived.Test.YtkhmhffphmkefaaRows
import Derived.Test.YtkhmhffphmkefaaTlvJ
import Derived.ProofKit
import Derived.OpenShut
import Derived.ShutString
import Derived.ChangeOld
import Derived.Outline
import Derived.RegionTactic
import Derived.ChangeAlike
import Derived.BigRegion
import Derived.BigQuiet
import Derived.Deep.QuietTactic
import Derived.Deep.RegionWith
import Derived.Deep.RegionLaw
import Derived.Deep.AppendLies
import Derived.Deep.Draws
import Derived.Lib.Hide
import Derived.Lib.SmallJoins
import Derived.Handy
import Derived.Deep.LoopGhost
import Derived.Deep.RegionHeld3
import Derived.StillTactics
import Derived.OwnWalk
namespace Go.Proofs.Ytkhmhffphmkefaa
open Go.RowKit
theorem own_base {w : World} {base base' size n : Nat} {e : TypeId} {v : Value} {xs : List Value} (h : w.ownsRow base e size v n xs) (hb : base' ≤ base) : w.ownsRow base' e size v n xs := by
  refine ⟨h.1, ?_⟩
  rcases h.2 with h2 | ⟨g, cap, cur, hv, hg, r⟩
  · exact Or.inl h2
  · exact Or.inr ⟨g, cap, cur, hv, by omega, r⟩
theorem strsAt_own {w : World} {base : Nat} {A : Option Addr} {cp : Nat} {ls : List (List UInt8)} (h : w.ownsRow base 9 1 (.slice A ls.length cp) ls.length (strs ls)) : StrsAt w w.heap.size A ls.length ls := by
  refine ⟨rfl, fun hn => ?_⟩
  obtain ⟨g, cap, hv, _, hlt⟩ := h.form hn
  have hA : A = some ⟨g, 0, none⟩ := by injection hv
  subst hA
  refine ⟨g, 0, rfl, hlt, fun k l hk => ?_⟩
  have := h.cells (g := g) rfl k (.string ⟨l.toArray⟩) (by simp [strs, hk])
  rwa [show (⟨g, 0, none⟩ : Addr).add k = ⟨g, 0 + k, none⟩ from by unfold Addr.add; split <;> simp_all] at this
def allT (c : UInt8) (most : Int) (body : List UInt8) : Option (List (List UInt8)) := allF c most (body.length + 1) body
def rdAll (c : UInt8) (many most : Int) (l : List UInt8) : List (List UInt8) × Option (List UInt8) :=
  match tkF c l with
  | none => ([], none)
  | some (body, rest) => if okAll many (allT c most body) then ((allT c most body).getD [], some rest) else ([], none)
theorem tkF_len {c : UInt8} {l body rest : List UInt8} (h : tkF c l = some (body, rest)) : body.length ≤ l.length ∧ rest.length ≤ l.length := by
  match l with
  | [] => simp [tkF] at h
  | [_] => simp [tkF] at h
  | [_, _] => simp [tkF] at h
  | [_, _, _] => simp [tkF] at h
  | x :: a :: b :: d :: r =>
    simp only [tkF] at h
    split at h
    · simp only [Option.some.injEq, Prod.mk.injEq] at h
      rw [← h.1, ← h.2]
      simp; omega
    · cases h
theorem call47 (args : Array Value) (W : World) : (callFunc 47 args).run Try.prog W = .ok (.enter 47 args) W := by kernel_rfl
theorem take_all (c : UInt8) (many most : Int) (l body rest : List UInt8) (b g1 g2 g3 g4 B : Nat) (W : World) (hrd : Rd W b (some l)) (ht : tkF c l = some (body, rest)) (hbl : (body.length : Int) ≤ 16777215)
    (h1 : Cl W g1 25 (.slice none 0 0)) (h2 : Cl W g2 3 (.int .i64 many)) (h3 : Cl W g3 5 (.int .u8 c.toNat)) (h4 : Cl W g4 3 (.int .i64 most))
    (n12 : g2 ≠ g1) (n13 : g3 ≠ g1) (n14 : g4 ≠ g1) (hbB : b < B) (hB : B ≤ W.heap.size) (hg : b ≠ g1) (ok : Bool) (hok : okAll many (allF c most (body.length + 1) body) = ok) :
    Calls Try.prog 42 #[.pointer (some ⟨b, 0, none⟩), .int .u8 c.toNat, .func (.func 47) #[] #[.pointer (some ⟨g1, 0, none⟩), .pointer (some ⟨g2, 0, none⟩), .pointer (some ⟨g3, 0, none⟩), .pointer (some ⟨g4, 0, none⟩)]] W fun e w' =>
      e = .returned (.bool ok) ∧ Rd w' b (if ok then some rest else none) ∧ (∃ v acc, Cl w' g1 25 v ∧ w'.ownsRow B 9 1 v acc.length (strs acc) ∧ (ok = true → allF c most (body.length + 1) body = some acc)) ∧ Fr [b, g1] W w' := by
  refine take_some c l b 47 _ body rest [g1] W hrd ht ok (fun w' => ∃ v acc, Cl w' g1 25 v ∧ w'.ownsRow B 9 1 v acc.length (strs acc) ∧ (ok = true → allF c most (body.length + 1) body = some acc)) (by simpa using hg) (fun w' hw' => ?_) (fun w' i u hR => ?_) (call47 _)
  · refine (all1 c many most body g1 g2 g3 g4 w' hbl (h1.below hw') (h2.below hw') (h3.below hw') (h4.below hw') n12 n13 n14).mono fun e w2 h => ?_
    obtain ⟨he, hf, v, acc, hc, hown, hacc⟩ := h
    rw [hok] at he hacc
    exact ⟨he, hf, v, acc, hc, own_base hown (by have := hw'.size; omega), hacc⟩
  · obtain ⟨v, acc, hc, hown, hacc⟩ := hR
    exact ⟨v, acc, hc.far (by show g1 ≠ b; omega) _, ownsRow_setCell_below hown (by show b < B; exact hbB) _, hacc⟩
/-- What 'All' tells: a slice that reads as these texts. -/
def IsStrs (ls : List (List UInt8)) (e : Ending) (w : World) : Prop := ∃ a n cap, e = .returned (.slice a n cap) ∧ n ≤ cap ∧ StrsAt w w.heap.size a n ls
theorem own_cap {w : World} {base size n cp : Nat} {A : Option Addr} {e : TypeId} {xs : List Value} (h : w.ownsRow base e size (.slice A n cp) n xs) : n ≤ cp := by
  rcases h.2 with ⟨h1, h2⟩ | ⟨g, cap, cur, hv, _, _, hnc, _⟩
  · injection h1; omega
  · injection hv; omega
theorem al4 (w : World) (o1 o2 o3 o4 : Obj) : Below w.heap.size w ((((w.alloc o1).alloc o2).alloc o3).alloc o4) := ((((Below.refl _ _).alloc (Nat.le_refl _) _).alloc (by simp) _).alloc (by simp; omega) _).alloc (by simp; omega) _
theorem new0of4 (w : World) (o2 o3 o4 : Obj) (t : Nat) (v : Value) : Cl ((((w.alloc (.cells #[v] t)).alloc o2).alloc o3).alloc o4) w.heap.size t v :=
  (((Cl.new w t v).below ((Below.refl _ _).alloc (Nat.le_refl _) _)).below ((Below.refl _ _).alloc (Nat.le_refl _) _)).below ((Below.refl _ _).alloc (Nat.le_refl _) _)
theorem new1of4 (w : World) (o1 o3 o4 : Obj) (t : Nat) (v : Value) : Cl ((((w.alloc o1).alloc (.cells #[v] t)).alloc o3).alloc o4) (w.heap.size + 1) t v :=
  ((Cl.new1 w o1 t v).below ((Below.refl _ _).alloc (Nat.le_refl _) _)).below ((Below.refl _ _).alloc (Nat.le_refl _) _)
theorem new2of4 (w : World) (o1 o2 o4 : Obj) (t : Nat) (v : Value) : Cl ((((w.alloc o1).alloc o2).alloc (.cells #[v] t)).alloc o4) (w.heap.size + 1 + 1) t v :=
  (Cl.new2 w o1 o2 t v).below ((Below.refl _ _).alloc (Nat.le_refl _) _)
set_option maxHeartbeats 1000000 in
theorem rdAll_any (c : UInt8) (many most : Int) (st : Option (List UInt8)) (b : Nat) (w : World) (hrd : Rd w b st) (hbl : ((st.getD []).length : Int) ≤ 16777215) :
    Calls Try.prog 32 #[.pointer (some ⟨b, 0, none⟩), .int .u8 c.toNat, .int .i64 many, .int .i64 most] w fun e w' => IsStrs (rdAll c many most (st.getD [])).1 e w' ∧ Rd w' b (rdAll c many most (st.getD [])).2 ∧ Fr [b] w w' := by
  have hlt := hrd.lt
  have Hbl := Lib.hid hbl
  clear hbl
  cases ht : tkF c (st.getD []) with
  | none =>
    have e : rdAll c many most (st.getD []) = ([], none) := by simp [rdAll, ht]
    rw [e]
    have H := Lib.hid ht
    clear ht e
    go_enter Try.func32, Try.ntmps32
    go_wp2_with (go_at_call 42; refine (take_none c st b _ _ (hrd.below ((((Below.refl _ _).alloc (Nat.le_refl _) _).alloc (by simp) _).alloc (by simp; omega) _ |>.alloc (by simp; omega) _)) H.out).mono ?_; rintro e w' ⟨rfl, hr2, hfr⟩)
    go_ret
    exact ⟨⟨_, _, _, rfl, Nat.le_refl _, rfl, fun h => absurd h (by omega)⟩, hr2, (((((Fr.refl _ _).alloc _).alloc _).alloc _).alloc _).trans (hfr.more (by simp))⟩
  | some p =>
    obtain ⟨body, rest⟩ := p
    obtain ⟨l, rfl⟩ : ∃ l, st = some l := by
      cases st with
      | none => simp [tkF_nil] at ht
      | some l => exact ⟨l, rfl⟩
    have hb2 : (body.length : Int) ≤ 16777215 := by have := (tkF_len ht).1; have h2 := Hbl.out; simp at this h2; omega
    have Hb2 := Lib.hid hb2
    clear hb2
    have e : rdAll c many most ((some l).getD []) = if okAll many (allT c most body) then ((allT c most body).getD [], some rest) else ([], none) := by
      simp only [rdAll, ht]
    rw [e]
    have H : Hid (tkF c l = some (body, rest)) := Lib.hid ht
    clear ht e
    generalize hall : allT c most body = all
    have Hall : Hid (allF c most (body.length + 1) body = all) := Lib.hid hall
    clear hall
    cases hok : okAll many all with
    | false =>
      have Hok : Hid (okAll many (allF c most (body.length + 1) body) = false) := Lib.hid (by rw [Hall.out]; exact hok)
      clear hok
      go_enter Try.func32, Try.ntmps32
      go_wp2_with fail
      refine (take_all c many most l body rest b (w.heap.size + 1 + 1 + 1) (w.heap.size + 1) w.heap.size (w.heap.size + 1 + 1) w.heap.size _ (hrd.below (al4 w _ _ _ _)) H.out Hb2.out (Cl.new3 w _ _ _ _ _) (new1of4 w _ _ _ _ _) (new0of4 w _ _ _ _ _) (new2of4 w _ _ _ _ _) (by omega) (by omega) (by omega) hlt (by simp; omega) (by omega) false Hok.out).mono ?_
      rintro e w' ⟨rfl, hr2, hR, hfr⟩
      go_wp2
      go_ret
      exact ⟨⟨_, _, _, rfl, Nat.le_refl _, rfl, fun h => absurd h (by omega)⟩, hr2, ((Fr.of_below (al4 w _ _ _ _)).trans hfr).drop (by simp; omega)⟩
    | true =>
      have Hok : Hid (okAll many (allF c most (body.length + 1) body) = true) := Lib.hid (by rw [Hall.out]; exact hok)
      clear hok
      go_enter Try.func32, Try.ntmps32
      go_wp2_with fail
      refine (take_all c many most l body rest b (w.heap.size + 1 + 1 + 1) (w.heap.size + 1) w.heap.size (w.heap.size + 1 + 1) w.heap.size _ (hrd.below (al4 w _ _ _ _)) H.out Hb2.out (Cl.new3 w _ _ _ _ _) (new1of4 w _ _ _ _ _) (new0of4 w _ _ _ _ _) (new2of4 w _ _ _ _ _) (by omega) (by omega) (by omega) hlt (by simp; omega) (by omega) true Hok.out).mono ?_
      rintro e w' ⟨rfl, hr2, ⟨v, acc, hc, hown, hacc⟩, hfr⟩
      have Hacc := Lib.hid (hacc rfl)
      clear hacc
      obtain ⟨A, cp, rfl⟩ := own_form hown
      have d0 := hc.cell
      go_wp2
      go_ret
      have e2 : all = some acc := by rw [← Hall.out]; exact Hacc.out
      refine ⟨?_, hr2, ((Fr.of_below (al4 w _ _ _ _)).trans hfr).drop (by simp; omega)⟩
      rw [e2]
      exact ⟨_, _, _, rfl, own_cap hown, strsAt_own hown⟩
end Go.Proofs.Ytkhmhffphmkefaa
