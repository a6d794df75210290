/- The program's device: what it is in memory; its small methods. -/
import Derived.Test.YtnpoohkklfpmdaaGreatRows
import Derived.WalkKit
import Derived.Below
import Derived.ProofKit
import Derived.OpenShut
import Derived.ShutString
import Derived.ChangeOld
import Derived.Outline
import Derived.RegionTactic
import Derived.ChangeAlike
import Derived.BigRegion
import Derived.BigQuiet
import Derived.Deep.QuietTactic
import Derived.Deep.RegionWith
import Derived.Deep.RegionLaw
import Derived.Deep.RegionHeld3
import Derived.Deep.AppendLies
import Derived.Deep.Draws
import Derived.StillTailTactics
import Derived.Lib.Hide
import Derived.Lib.SmallJoins
import Derived.Handy
import Derived.WalkSpells
import Derived.WalkLawsBesides
import Derived.Deep.LoopGhost
import Derived.Deep.DeepCutAuto
import Derived.Deep.CutBlock
import Derived.Deep.CutRange
import Derived.Deep.OwnRows
import Derived.Laws.CopyOwn
import Derived.Test.YtnpoohkklfpmdaaGreatMp
import Derived.Test.YtnpoohkklfpmdaaGreatDevDoc
namespace Go.Proofs.YtnpoohkklfpmdaaGreat
open Go.RowKit
set_option maxRecDepth 100000
set_option linter.unusedSimpArgs false
set_option linter.unusedVariables false
set_option linter.unnecessarySimpa false
theorem zsecZ : (zeroValue 88).run Tryz.prog = fun w => .ok (.agg (bcells zsec).toArray) w := by
  funext w
  kernel_rfl
def secV (l : List UInt8) : Value := .agg (bcells l).toArray
abbrev ikey (k : Int) : Lit := .int .i64 k
theorem ikeyK (k : Int) : WideAt.IsKeyLit (ikey k) := trivial
/-- What lies in the map of sectors. -/
structure Sf (ss : List (List UInt8)) (f : Tell) : Prop where
  at_ : ∀ (k : Nat) (s : List UInt8), ss[k]? = some s → (f (ikey k)).getD (secV zsec) = secV s
  sup : ∀ x, WideAt.IsKeyLit x → (f x).isSome = true → ∃ k : Nat, k < ss.length ∧ x = ikey k
/-- What lies in the map of last ones. -/
structure Ls (ws : List (Nat × List UInt8)) (n : Nat) (g : Tell) : Prop where
  at_ : ∀ k : Nat, k < n → (g (ikey k) = none ∧ ∀ s, lastW ws k s = s) ∨ ∃ (i : Nat) (x : Nat × List UInt8), g (ikey k) = some (.int .i64 (i : Nat)) ∧ ws[i]? = some x ∧ ∀ s, lastW ws k s = x.2
  sup : ∀ x, WideAt.IsKeyLit x → (g x).isSome = true → ∃ k : Nat, k < n ∧ x = ikey k
theorem ikey_ne {a b : Nat} (h : a ≠ b) : ikey a ≠ ikey b := fun e => by
  injection e with _ e; omega
theorem sup_mem {n : Nat} {f : Tell} (h : ∀ x, WideAt.IsKeyLit x → (f x).isSome = true → ∃ k : Nat, k < n ∧ x = ikey k) : ∀ x, WideAt.IsKeyLit x → (f x).isSome = true → x ∈ (List.range n).map (fun k : Nat => ikey k) := by
  intro x hx hf
  obtain ⟨k, hk, rfl⟩ := h x hx hf
  exact List.mem_map.2 ⟨k, List.mem_range.2 hk, rfl⟩
theorem sup_put {n : Nat} {f : Tell} {k : Nat} {v : Value} (h : ∀ x, WideAt.IsKeyLit x → (f x).isSome = true → ∃ k : Nat, k < n ∧ x = ikey k) (hk : k < n) : ∀ x, WideAt.IsKeyLit x → ((f.put (ikey k) v) x).isSome = true → ∃ k : Nat, k < n ∧ x = ikey k := by
  intro x hx hf
  by_cases e : x = ikey k
  · exact ⟨k, hk, e⟩
  · rw [Tell.put_other f e] at hf; exact h x hx hf
theorem sup_del {n : Nat} {f : Tell} {k : Nat} (h : ∀ x, WideAt.IsKeyLit x → (f x).isSome = true → ∃ k : Nat, k < n ∧ x = ikey k) : ∀ x, WideAt.IsKeyLit x → ((f.del (ikey k)) x).isSome = true → ∃ k : Nat, k < n ∧ x = ikey k := by
  intro x hx hf
  by_cases e : x = ikey k
  · subst e; rw [Tell.del_same f (ikeyK _)] at hf; cases hf
  · rw [Tell.del_other f e] at hf; exact h x hx hf
theorem sf_new (n : Nat) : Sf (List.replicate n zsec) (fun _ => none) :=
  ⟨fun k s hs => by
    have := List.mem_of_getElem? hs
    rw [(List.mem_replicate.1 this).2]; rfl, fun _ _ h => by cases h⟩
theorem Sf.put {ss : List (List UInt8)} {f : Tell} (h : Sf ss f) {j : Nat} (hj : j < ss.length) (s : List UInt8) : Sf (ss.set j s) (f.put (ikey j) (secV s)) := by
  refine ⟨fun k x hx => ?_, by rw [List.length_set]; exact sup_put h.sup hj⟩
  by_cases e : k = j
  · subst e
    rw [List.getElem?_set_self hj] at hx
    cases hx
    rw [Tell.put_same f (ikeyK _)]; rfl
  · rw [List.getElem?_set_ne (Ne.symm e)] at hx
    rw [Tell.put_other f (ikey_ne e)]; exact h.at_ k x hx
theorem Sf.del {ss : List (List UInt8)} {f : Tell} (h : Sf ss f) {j : Nat} (hj : j < ss.length) : Sf (ss.set j zsec) (f.del (ikey j)) := by
  refine ⟨fun k x hx => ?_, by rw [List.length_set]; exact sup_del h.sup⟩
  by_cases e : k = j
  · subst e
    rw [List.getElem?_set_self hj] at hx
    cases hx
    rw [Tell.del_same f (ikeyK _)]; rfl
  · rw [List.getElem?_set_ne (Ne.symm e)] at hx
    rw [Tell.del_other f (ikey_ne e)]; exact h.at_ k x hx
theorem ls_new (n : Nat) : Ls [] n (fun _ => none) := ⟨fun k _ => .inl ⟨rfl, fun s => rfl⟩, fun _ _ h => by cases h⟩
theorem Ls.put {ws : List (Nat × List UInt8)} {n : Nat} {g : Tell} (h : Ls ws n g) {j : Nat} (hj : j < n) (s : List UInt8) : Ls (ws ++ [(j, s)]) n (g.put (ikey j) (.int .i64 (ws.length : Nat))) := by
  refine ⟨fun k hk => ?_, sup_put h.sup hj⟩
  by_cases e : k = j
  · subst e
    right
    exact ⟨ws.length, (k, s), Tell.put_same g (ikeyK _) _, by simp, fun s' => by simp [lastW]⟩
  · rw [Tell.put_other g (ikey_ne e)]
    have hl : ∀ s', lastW (ws ++ [(j, s)]) k s' = lastW ws k s' := fun s' => by
      rw [lastW, List.foldl_append]; simp [lastW, Ne.symm e]
    rcases h.at_ k hk with ⟨h1, h2⟩ | ⟨i, x, h1, h2, h3⟩
    · exact .inl ⟨h1, fun s' => (hl s').trans (h2 s')⟩
    · refine .inr ⟨i, x, h1, ?_, fun s' => (hl s').trans (h3 s')⟩
      have hi : i < ws.length := by
        rcases Nat.lt_or_ge i ws.length with q | q
        · exact q
        · rw [List.getElem?_eq_none q] at h2; cases h2
      rw [List.getElem?_append_left hi]; exact h2
/-- The cells of the program's device. -/
def pcs (bm bl : Nat) (uw : Value) (l : Nat) (d : Dv) : List Value := [.int .i64 (d.safe.length : Nat), .map (some bm), uw, .map (some bl), .bool d.on, .bool d.armed, .int .i64 (l : Nat), .int .i64 (d.steps : Nat)]
/-- The program's device at block p. -/
structure PDs (w : World) (bm bl : Nat) (uw : Value) (l p : Nat) (d : Dv) : Prop where
  row : Rw w p (pcs bm bl uw l d) 63
  wts : w.ownsRow 0 74 2 uw d.waits.length (wrs d.waits)
  sm : ∃ f, Mp Tryz.prog 3 w bm f ∧ Sf d.safe f
  lm : ∃ g, Mp Tryz.prog 3 w bl g ∧ Ls d.waits d.safe.length g
  ne : bm ≠ bl
  lf : d.armed = true → l = d.left
def PD (w : World) (ex : List Nat) (p : Nat) (d : Dv) : Prop := ∃ bm bl uw l, ex = p :: bm :: bl :: blk uw ∧ PDs w bm bl uw l p d
theorem keyI : Go.Maps.Keyed Tryz.prog 3 := Go.Maps.int_keyed Tryz.underlying3
theorem keyAt (k : Int) (h : -9223372036854775808 ≤ k ∧ k ≤ 9223372036854775807) : keyOf Tryz.prog 3 (.int .i64 k) = some (ikey k) :=
  Go.Maps.keyOf_int_mk Tryz.underlying3 (WalkArith.wf_i64 h)
theorem mp_row {P : Program} {k : TypeId} {w : World} {b p : Nat} {f : Tell} {cs : List Value} {t : TypeId} (h : Mp P k w b f) (hr : Rw w p cs t) : b ≠ p := by
  rintro rfl
  obtain ⟨es, c, h1⟩ := h.isMap
  unfold Rw at hr
  rw [hr] at h1; cases h1
theorem mp_own {P : Program} {k : TypeId} {w : World} {b base size n : Nat} {f : Tell} {e : TypeId} {v : Value} {xs : List Value} (h : Mp P k w b f) (ho : w.ownsRow base e size v n xs) : v.ownBlock ≠ some b := by
  rcases ho.2 with ⟨rfl, _⟩ | ⟨g, cap, cur, rfl, _, hg, _⟩
  · simp [Value.ownBlock]
  · intro he
    simp only [Value.ownBlock, Option.some.injEq] at he
    subst he
    obtain ⟨es, c, h1⟩ := h.isMap
    rw [hg] at h1; cases h1
section
variable {w w' : World} {bm bl l p : Nat} {uw : Value} {d : Dv}
theorem PDs.off (h : PDs w bm bl uw l p d) : uw.ownBlock ≠ some p := own_off h.wts h.row (by decide)
theorem PDs.mp (h : PDs w bm bl uw l p d) : bm ≠ p := by obtain ⟨f, hf, _⟩ := h.sm; exact mp_row hf h.row
theorem PDs.lp (h : PDs w bm bl uw l p d) : bl ≠ p := by obtain ⟨f, hf, _⟩ := h.lm; exact mp_row hf h.row
theorem PDs.mw (h : PDs w bm bl uw l p d) : uw.ownBlock ≠ some bm := by obtain ⟨f, hf, _⟩ := h.sm; exact mp_own hf h.wts
theorem PDs.lw (h : PDs w bm bl uw l p d) : uw.ownBlock ≠ some bl := by obtain ⟨f, hf, _⟩ := h.lm; exact mp_own hf h.wts
theorem PDs.keep (h : PDs w bm bl uw l p d) (hb : ∀ b ∈ p :: bm :: bl :: blk uw, w'.heap[b]? = w.heap[b]?) : PDs w' bm bl uw l p d := by
  obtain ⟨f, hf, hf'⟩ := h.sm
  obtain ⟨g, hg, hg'⟩ := h.lm
  exact ⟨h.row.keep (hb _ (by simp)), own_keep h.wts fun k hk => hb k (by simp [mem_blk.2 hk]), ⟨f, hf.keep (hb _ (by simp)), hf'⟩, ⟨g, hg.keep (hb _ (by simp)), hg'⟩, h.ne, h.lf⟩
theorem PDs.lt (h : PDs w bm bl uw l p d) : ∀ b ∈ p :: bm :: bl :: blk uw, b < w.heap.size := by
  obtain ⟨f, hf, _⟩ := h.sm
  obtain ⟨g, hg, _⟩ := h.lm
  intro b hb
  rcases List.mem_cons.1 hb with rfl | hb
  · exact h.row.lt
  rcases List.mem_cons.1 hb with rfl | hb
  · exact hf.lt
  rcases List.mem_cons.1 hb with rfl | hb
  · exact hg.lt
  · exact own_lt h.wts (mem_blk.1 hb)
theorem PDs.below (h : PDs w bm bl uw l p d) (hb : Below w.heap.size w w') : PDs w' bm bl uw l p d := h.keep fun b hm => hb.block b (h.lt b hm)
/-- The device's own cells have turned, no other block. -/
theorem PDs.turn (h : PDs w bm bl uw l p d) {l' : Nat} {d' : Dv} (hr : Rw w' p (pcs bm bl uw l' d') 63) (hf : Fr [p] w w') (h1 : d'.safe = d.safe) (h2 : d'.waits = d.waits) (h3 : d'.armed = true → l' = d'.left) : PDs w' bm bl uw l' p d' := by
  obtain ⟨f, hm, hm'⟩ := h.sm
  obtain ⟨g, hg, hg'⟩ := h.lm
  have e1 := h.mp
  have e2 := h.lp
  refine ⟨hr, by rw [h2]; exact own_frame h.wts hf (fun k hk e => h.off (by rw [hk, List.mem_singleton.1 e])), ⟨f, hm.fr hf (by simpa using e1), by rw [h1]; exact hm'⟩, ⟨g, hg.fr hf (by simpa using e2), by rw [h1, h2]; exact hg'⟩, h.ne, h3⟩
theorem PDs.pd (h : PDs w bm bl uw l p d) : PD w (p :: bm :: bl :: blk uw) p d := ⟨bm, bl, uw, l, rfl, h⟩
end
theorem pdKeep {w w' : World} {ex : List Nat} {p : Nat} {d : Dv} (h : PD w ex p d) (hb : ∀ b ∈ ex, w'.heap[b]? = w.heap[b]?) : PD w' ex p d := by
  obtain ⟨bm, bl, uw, l, rfl, h⟩ := h
  exact ⟨bm, bl, uw, l, rfl, h.keep hb⟩
theorem pdLt {w : World} {ex : List Nat} {p : Nat} {d : Dv} (h : PD w ex p d) : ∀ b ∈ ex, b < w.heap.size := by
  obtain ⟨bm, bl, uw, l, rfl, h⟩ := h
  exact h.lt
theorem pSectors_any {p : Nat} {n : Nat} {w : World} (c0 : w.cell? ⟨p, 0, none⟩ = some (.int .i64 (n : Nat))) : Calls Tryz.prog 25 #[.pointer (some ⟨p, 0, none⟩)] w fun e w' => e = .returned (.int .i64 (n : Nat)) ∧ w = w' := by
  go_enter Tryz.func25, Tryz.ntmps25
  go_wp2
  go_ret
  exact ⟨rfl, rfl⟩
theorem pReady_any {p : Nat} {b : Bool} {w : World} (c4 : w.cell? ⟨p, 4, none⟩ = some (.bool b)) : Calls Tryz.prog 60 #[.pointer (some ⟨p, 0, none⟩)] w fun e w' => e = .returned (.int .i64 (if b then 0 else 14)) ∧ w = w' := by
  cases b
  · go_enter Tryz.func60, Tryz.ntmps60
    go_wp2
    go_ret
    exact ⟨rfl, rfl⟩
  · go_enter Tryz.func60, Tryz.ntmps60
    go_wp2
    go_ret
    exact ⟨rfl, rfl⟩
theorem pHas_any {p : Nat} {n : Nat} (k : Int) {w : World} (c0 : w.cell? ⟨p, 0, none⟩ = some (.int .i64 (n : Nat))) : Calls Tryz.prog 61 #[.pointer (some ⟨p, 0, none⟩), .int .i64 k] w fun e w' => e = .returned (.bool (decide (0 ≤ k) && decide (k < n))) ∧ w = w' := by
  by_cases h : 0 ≤ k
  · have d0 : decide (0 ≤ k) = true := decide_eq_true h
    rw [d0, Bool.true_and]
    go_enter Tryz.func61, Tryz.ntmps61
    go_wp2_with fail
    refine (pSectors_any c0).mono ?_
    rintro e w1 ⟨rfl, rfl⟩
    go_wp2
    go_ret
    exact ⟨rfl, rfl⟩
  · have d0 : decide (0 ≤ k) = false := decide_eq_false h
    rw [d0, Bool.false_and]
    go_enter Tryz.func61, Tryz.ntmps61
    go_wp2
    go_ret
    exact ⟨rfl, rfl⟩
end Go.Proofs.YtnpoohkklfpmdaaGreat
