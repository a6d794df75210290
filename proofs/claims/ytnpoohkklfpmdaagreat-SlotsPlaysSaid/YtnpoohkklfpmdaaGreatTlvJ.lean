import Derived.Test.YtnpoohkklfpmdaaGreatRows
import Derived.Test.YtnpoohkklfpmdaaGreatTlvAll
import Derived.ProofKit
import Derived.OpenShut
import Derived.ShutString
import Derived.ChangeOld
import Derived.Outline
import Derived.RegionTactic
import Derived.ChangeAlike
import Derived.BigRegion
import Derived.BigQuiet
import Derived.Deep.QuietTactic
import Derived.Deep.RegionWith
import Derived.Deep.RegionLaw
import Derived.Deep.AppendLies
import Derived.Deep.Draws
import Derived.Lib.Hide
import Derived.Lib.SmallJoins
import Derived.Handy
import Derived.Deep.LoopGhost
import Derived.Deep.RegionHeld3
import Derived.StillTactics
import Derived.OwnWalk
namespace Go.Proofs.YtnpoohkklfpmdaaGreat
open Go.RowKit
def allF (c : UInt8) (most : Int) : Nat → List UInt8 → Option (List (List UInt8))
  | 0, _ => none
  | f + 1, l => if l = [] then some [] else match rdTxt c most l with
    | (v, some rest) => (allF c most f rest).map (v :: ·)
    | (_, none) => none
theorem rdTxt_less {c : UInt8} {most : Int} {l v rest : List UInt8} (h : rdTxt c most l = (v, some rest)) : rest.length < l.length := by
  match l with
  | [] => simp [rdTxt, tkF] at h
  | [_] => simp [rdTxt, tkF] at h
  | [_, _] => simp [rdTxt, tkF] at h
  | [_, _, _] => simp [rdTxt, tkF] at h
  | x :: a :: b :: d :: r =>
    simp only [rdTxt, tkF] at h
    split at h
    · cases h
    · rename_i body rest' hk
      split at hk
      · split at h
        · obtain ⟨rfl, rfl⟩ : body = v ∧ rest' = rest := by simpa using h
          simp only [Option.some.injEq, Prod.mk.injEq] at hk
          rw [← hk.2]
          simp; omega
        · cases h
      · cases hk
/-- The texts in a body, from a reader's state on. -/
def allS (c : UInt8) (most : Int) (f : Nat) (st : Option (List UInt8)) : Option (List (List UInt8)) := st.bind (allF c most f)
def strs (ls : List (List UInt8)) : List Value := ls.map fun l => Value.string ⟨l.toArray⟩
theorem info9 : (Tryz.prog.info? 9).map (fun i => (i.zero, i.size, i.bytes)) = some (some (.string ⟨#[]⟩), 1, 16) := by kernel_rfl
/-- What the call owns is kept where no block of its kind is turned. -/
theorem own_fr {ex : List Nat} {w w' : World} {base size n : Nat} {e : TypeId} {v : Value} {xs : List Value} (h : w.ownsRow base e size v n xs) (hf : Fr ex w w')
    (hx : ∀ k, k ∈ ex → ∃ cs t fr, w.heap[k]? = some (.cells cs t fr) ∧ t ≠ e) : w'.ownsRow base e size v n xs := by
  refine ⟨h.1, ?_⟩
  rcases h.2 with h2 | ⟨g, cap, cur, hv, hg, hh, r⟩
  · exact Or.inl h2
  · refine Or.inr ⟨g, cap, cur, hv, hg, ?_, r⟩
    have hlt : g < w.heap.size := by
      rcases Nat.lt_or_ge g w.heap.size with hlt | hge
      · exact hlt
      · rw [Array.getElem?_eq_none hge] at hh; cases hh
    refine (hf.block g hlt fun hm => ?_).trans hh
    obtain ⟨cs, t, fr, h1, h2⟩ := hx g hm
    rw [h1] at hh
    simp only [Option.some.injEq, Obj.cells.injEq] at hh
    exact h2 hh.2.1
theorem own_ne {w : World} {base size n g : Nat} {e : TypeId} {v : Value} {xs : List Value} (h : w.ownsRow base e size v n xs) {cs : Array Value} {t : TypeId} {fr : Nat × Nat} (hg : w.heap[g]? = some (.cells cs t fr)) (hne : t ≠ e) : v.ownBlock ≠ some g := by
  rcases h.2 with ⟨rfl, _⟩ | ⟨g', cap, cur, rfl, _, hh, _⟩
  · simp [Value.ownBlock]
  · intro he
    have : g' = g := by simpa [Value.ownBlock] using he
    subst this
    rw [hg] at hh
    simp only [Option.some.injEq, Obj.cells.injEq] at hh
    exact hne hh.2.1
theorem Fr.of_grown {w w' : World} {row : Option Nat} {ex : List Nat} (h : w.grownBy w' row) (hx : ∀ k, row = some k → k ∈ ex ∨ w.heap.size ≤ k) : Fr ex w w' :=
  ⟨h.os, h.tape, h.output, h.size, fun k hk hn => h.block k hk fun e => (hx k e.symm).elim hn (fun e => by omega)⟩
theorem own_rd {w w' : World} {base size n b : Nat} {v : Value} {xs : List Value} {st : Option (List UInt8)} (h : w.ownsRow base 9 size v n xs) (hf : Fr [b] w w') (hr : Rd w b st) : w'.ownsRow base 9 size v n xs :=
  own_fr h hf fun k hk => by
    obtain rfl := List.mem_singleton.1 hk
    exact ⟨_, _, _, hr, by decide⟩
theorem Cl.grown {w w' : World} {g t : Nat} {v : Value} {row : Option Nat} (h : Cl w g t v) (o : Obj) (hg : (w.alloc o).grownBy w' row) (hne : row ≠ some g) : Cl w' g t v := by
  have h2 : Cl (w.alloc o) g t v := h.below ((Below.refl _ _).alloc (Nat.le_refl _) _)
  exact (hg.block g h2.lt (Ne.symm hne)).trans h2
def okAll (many : Int) (o : Option (List (List UInt8))) : Bool := match o with | none => false | some ls => decide ((ls.length : Int) ≤ many)
theorem allS_step (c : UInt8) (most : Int) (f : Nat) (x : UInt8) (r : List UInt8) : allS c most (f + 1) (some (x :: r)) = (allS c most f (rdTxt c most (x :: r)).2).map ((rdTxt c most (x :: r)).1 :: ·) := by
  simp only [allS, Option.bind_some, allF, List.cons_ne_nil, if_false]
  rcases rdTxt c most (x :: r) with ⟨v, _ | rest⟩ <;> rfl
theorem Fr.grown {ex : List Nat} {a b c : World} {row : Option Nat} (h : Fr ex a b) (hg : b.grownBy c row) (hr : ∀ k, row = some k → a.heap.size ≤ k) : Fr ex a c :=
  ⟨hg.os.trans h.os, hg.tape.trans h.tape, hg.output.trans h.output, Nat.le_trans h.size hg.size, fun k hk hn => (hg.block k (Nat.lt_of_lt_of_le hk h.size) (fun e => by have := hr k e.symm; omega)).trans (h.block k hk hn)⟩
theorem strs_snoc (ls : List (List UInt8)) (l : List UInt8) : strs (ls ++ [l]) = strs ls ++ [.string ⟨l.toArray⟩] := by simp [strs]
theorem all_round {c : UInt8} {most : Int} {body : List UInt8} {w wr w2 w3 : World} {b g1 gg cp cap gk : Nat} {A : Option Addr} {acc : List (List UInt8)} {x : UInt8} {r : List UInt8} {all : Option (List (List UInt8))} {o : Obj}
    (hbw : w.heap.size ≤ b) (hg1 : g1 < w.heap.size) (hfr : Fr [g1] w wr) (hf2 : Fr [b] wr w2) (hr2 : Rd w2 b (rdTxt c most (x :: r)).2) (c1 : Cl w2 g1 29 (.slice A acc.length cp))
    (own2 : w2.ownsRow w.heap.size 9 1 (.slice A acc.length cp) acc.length (strs acc))
    (hown3 : w3.ownsRow w.heap.size 9 1 (.slice (some ⟨gg, 0, none⟩) (acc.length + 1) cap) (acc.length + 1) (strs acc ++ [.string ⟨(rdTxt c most (x :: r)).1.toArray⟩]))
    (hgrow : (w2.alloc o).grownBy w3 (Value.slice A acc.length cp).ownBlock) (hk : r.length + 1 < gk) (hal : acc.length + (r.length + 1) ≤ body.length)
    (hall : all = (allS c most gk (some (x :: r))).map (acc ++ ·)) :
    ∃ st acc' v, Rd (w3.setCell ⟨g1, 0, none⟩ (.slice (some ⟨gg, 0, none⟩) (acc.length + 1) cap)) b st ∧ Cl (w3.setCell ⟨g1, 0, none⟩ (.slice (some ⟨gg, 0, none⟩) (acc.length + 1) cap)) g1 29 v ∧
      (w3.setCell ⟨g1, 0, none⟩ (.slice (some ⟨gg, 0, none⟩) (acc.length + 1) cap)).ownsRow w.heap.size 9 1 v acc'.length (strs acc') ∧ Fr [g1] w (w3.setCell ⟨g1, 0, none⟩ (.slice (some ⟨gg, 0, none⟩) (acc.length + 1) cap)) ∧
      (st.getD []).length < gk - 1 ∧ acc'.length + (st.getD []).length ≤ body.length ∧ all = (allS c most (gk - 1) st).map (acc' ++ ·) := by
  have e1 : Cl w3 g1 29 (.slice A acc.length cp) := c1.grown _ hgrow (own_ne own2 c1 (by decide))
  have hr3 : Rd w3 b (rdTxt c most (x :: r)).2 := by
    have h2 : Rd (w2.alloc o) b (rdTxt c most (x :: r)).2 := hr2.below ((Below.refl _ _).alloc (Nat.le_refl _) _)
    exact h2.keep (hgrow.block b h2.lt (Ne.symm (own_ne own2 hr2 (by decide))))
  have hlen : ((rdTxt c most (x :: r)).2.getD []).length ≤ r.length := by
    rcases hst : rdTxt c most (x :: r) with ⟨v, _ | rest⟩
    · simp
    · have := rdTxt_less hst
      simp at this ⊢; omega
  refine ⟨(rdTxt c most (x :: r)).2, acc ++ [(rdTxt c most (x :: r)).1], _, hr3.keep (Below.heap_setCell _ _ _ _ (by show b ≠ g1; omega)), e1.set_ _, ?_, ?_, by omega, by simp; omega, ?_⟩
  · rw [List.length_append, strs_snoc]
    exact own_fr hown3 ((Fr.refl [g1] _).setCell (.inl (by simp)) _) fun k hk => by
      obtain rfl := List.mem_singleton.1 hk
      exact ⟨_, _, _, e1, by decide⟩
  · have f1 : Fr [g1] w w2 := ((hfr.more (ex' := [g1, b]) (by simp)).trans (hf2.more (by simp))).drop (by simp; omega)
    exact ((f1.alloc o).grown hgrow (own_block_ge own2)).setCell (.inl (by simp)) _
  · obtain ⟨k', rfl⟩ : ∃ k', gk = k' + 1 := ⟨gk - 1, by omega⟩
    rw [hall, allS_step, Nat.add_sub_cancel, Option.map_map]
    congr 1
    funext q
    simp
end Go.Proofs.YtnpoohkklfpmdaaGreat
