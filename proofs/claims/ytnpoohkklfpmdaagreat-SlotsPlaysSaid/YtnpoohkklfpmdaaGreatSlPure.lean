/- SlA: Marks as plain lists of bytes: packed, unpacked, torn; the newest of two. They hang on no program.
   SlB: A log on sectors, as plain data: what is opened, what a commit does to a device, and what a crash leaves. It hangs on no program.
   SlC: A commit as what it does to a device, one thing behind the other; what power leaves of it. It hangs on no program.
   SlD: The log that sectors tell: it stays, or has one record more, whatever power and a crash do. It hangs on no program.
   SlE: A log over a device, as plain data: what Open and Commit tell and do. It hangs on no program. -/

import Derived.Test.YtnpoohkklfpmdaaGreatBase
import Derived.Test.YtnpoohkklfpmdaaGreatDevA
import Derived.Test.YtnpoohkklfpmdaaGreatAdl
import Derived.Test.YtnpoohkklfpmdaaGreatDevDoc
import Derived.Test.YtnpoohkklfpmdaaGreatDevK
/- SlA -/
namespace Go.Proofs.YtnpoohkklfpmdaaGreat
open Go.RowKit
set_option linter.unusedSimpArgs false
set_option linter.unusedVariables false
/-- A number in k bytes, the greatest first. -/
def beK : Nat → Nat → List UInt8
  | 0, _ => []
  | k + 1, n => beK k (n / 256) ++ [UInt8.ofNat n]
theorem beK_len : ∀ k n, (beK k n).length = k
  | 0, _ => rfl
  | k + 1, n => by simp [beK, beK_len k]
theorem be_beK : ∀ k n, n < 256 ^ k → be (beK k n) = n
  | 0, n, h => by simp at h; subst h; rfl
  | k + 1, n, h => by
    rw [beK, be_snoc, be_beK k (n / 256) (by rw [Nat.pow_succ] at h; omega)]
    simp; omega
theorem beK_be : ∀ (k : Nat) (l : List UInt8), l.length = k → beK k (be l) = l
  | 0, l, h => by rw [List.eq_nil_of_length_eq_zero h]; rfl
  | k + 1, l, h => by
    obtain ⟨i, x, rfl⟩ : ∃ i x, l = i ++ [x] := ⟨l.dropLast, l.getLast (by intro e; rw [e] at h; cases h), (List.dropLast_concat_getLast _).symm⟩
    have hi : i.length = k := by simp at h; exact h
    have hx := x.toNat_lt
    rw [beK, be_snoc, show (be i * 256 + x.toNat) / 256 = be i from by omega, beK_be k i hi]
    congr 2
    apply UInt8.toNat_inj.1
    simp
theorem beK_inj {k a b : Nat} (ha : a < 256 ^ k) (hb : b < 256 ^ k) (h : beK k a = beK k b) : a = b := by rw [← be_beK k a ha, ← be_beK k b hb, h]
/-- A mark. -/
structure Mk where
  ep : Nat
  sz : Nat
  ct : Nat
deriving DecidableEq
def Mk.Ok (m : Mk) : Prop := m.ep ≤ 1099511627776 ∧ m.sz ≤ 1099511627776 ∧ m.ct ≤ 1099511627776
def packM (m : Mk) : List UInt8 := beK 8 m.ep ++ (beK 8 m.sz ++ (beK 8 m.ct ++ (List.replicate 32 0 ++ beK 8 m.ep)))
theorem packM_len (m : Mk) : (packM m).length = 64 := by simp [packM, beK_len]
theorem packM_ep (m : Mk) : (packM m).take 8 = beK 8 m.ep := by
  rw [packM, List.take_append_of_le_length (by rw [beK_len]; omega), List.take_of_length_le (by rw [beK_len]; omega)]
theorem packM_rest (m : Mk) : (packM m).drop 8 = beK 8 m.sz ++ (beK 8 m.ct ++ (List.replicate 32 0 ++ beK 8 m.ep)) := by
  rw [packM, List.drop_append_of_le_length (by rw [beK_len]; omega), List.drop_of_length_le (by rw [beK_len]; omega)]; rfl
theorem packM_sz (m : Mk) : ((packM m).drop 8).take 8 = beK 8 m.sz := by
  rw [packM_rest, List.take_append_of_le_length (by rw [beK_len]; omega), List.take_of_length_le (by rw [beK_len]; omega)]
theorem packM_rest2 (m : Mk) : (packM m).drop 16 = beK 8 m.ct ++ (List.replicate 32 0 ++ beK 8 m.ep) := by
  rw [show 16 = 8 + 8 from rfl, ← List.drop_drop, packM_rest, List.drop_append_of_le_length (by rw [beK_len]; omega), List.drop_of_length_le (by rw [beK_len]; omega)]; rfl
theorem packM_ct (m : Mk) : ((packM m).drop 16).take 8 = beK 8 m.ct := by
  rw [packM_rest2, List.take_append_of_le_length (by rw [beK_len]; omega), List.take_of_length_le (by rw [beK_len]; omega)]
theorem packM_end (m : Mk) : (packM m).drop 56 = beK 8 m.ep := by
  rw [show 56 = 16 + (8 + 32) from rfl, ← List.drop_drop, packM_rest2, ← List.drop_drop, List.drop_append_of_le_length (by rw [beK_len]; omega), List.drop_of_length_le (i := 8) (by rw [beK_len]; omega), List.nil_append, List.drop_append_of_le_length (by simp), List.drop_of_length_le (by simp), List.nil_append]
theorem packM_0 : packM ⟨0, 0, 0⟩ = zsec := by decide
/-- What a sector says of a mark. -/
def readM (s : List UInt8) : Mk := ⟨be (s.take 8), be ((s.drop 8).take 8), be ((s.drop 16).take 8)⟩
instance (m : Mk) : Decidable m.Ok := by unfold Mk.Ok; infer_instance
def unpackM (s : List UInt8) : Option Mk := if s.length = 64 ∧ (readM s).Ok ∧ packM (readM s) = s then some (readM s) else none
theorem readM_pack {m : Mk} (h : m.Ok) : readM (packM m) = m := by
  obtain ⟨h1, h2, h3⟩ := h
  rw [readM, packM_ep, packM_sz, packM_ct, be_beK 8 _ (by omega), be_beK 8 _ (by omega), be_beK 8 _ (by omega)]
theorem unpackM_pack {m : Mk} (h : m.Ok) : unpackM (packM m) = some m := by
  rw [unpackM, readM_pack h, if_pos ⟨packM_len m, h, rfl⟩]
theorem unpackM_inv {s : List UInt8} {m : Mk} (h : unpackM s = some m) : s = packM m ∧ m.Ok := by
  unfold unpackM at h
  split at h
  · rename_i hh
    cases h
    exact ⟨hh.2.2.symm, hh.2.1⟩
  · cases h
theorem unpackM_0 : unpackM zsec = some ⟨0, 0, 0⟩ := by rw [← packM_0]; exact unpackM_pack ⟨by simp, by simp, by simp⟩
/-- A sector of which the first k bytes are another one's. -/
theorem mix_take {a b : List UInt8} {k j : Nat} (ha : a.length = 64) (hk : k ≤ 64) (h : j ≤ k) : (a.take k ++ b.drop k).take j = a.take j := by
  rw [List.take_append_of_le_length (by rw [List.length_take]; omega), List.take_take]; congr 1; omega
theorem mix_drop {a b : List UInt8} {k j : Nat} (ha : a.length = 64) (hk : k ≤ 64) (h : k ≤ j) : (a.take k ++ b.drop k).drop j = b.drop j := by
  rw [List.drop_append, List.drop_of_length_le (by rw [List.length_take]; omega), List.nil_append, List.drop_drop]
  congr 1
  rw [List.length_take]; omega
/-- A mark's sector torn over that of another Epoch is the one, or the other, or none. -/
theorem torn_mark {x y m : Mk} {k : Nat} (hx : x.Ok) (hy : y.Ok) (hne : x.ep ≠ y.ep) (hk : k ≤ 64) (h : unpackM ((packM x).take k ++ (packM y).drop k) = some m) : m = x ∨ m = y := by
  obtain ⟨hs, hm⟩ := unpackM_inv h
  have hlx := packM_len x
  have eqE : ∀ {a b : Nat}, a ≤ 1099511627776 → b ≤ 1099511627776 → beK 8 a = beK 8 b → a = b := fun {a b} h1 h2 h3 => beK_inj (by omega) (by omega) h3
  rcases Nat.lt_or_ge 56 k with h56 | h56
  · left
    have e1 : (packM m).take 24 = (packM x).take 24 := by rw [← hs]; exact mix_take hlx hk (by omega)
    have t8 := congrArg (List.take 8) e1
    have t16 := congrArg (fun l => (List.drop 8 l).take 8) e1
    have t24 := congrArg (fun l => (List.drop 16 l).take 8) e1
    simp only [List.take_take, List.drop_take, Nat.reduceSub, Nat.min_self, show min 8 24 = 8 from rfl, show min 8 16 = 8 from rfl] at t8 t16 t24
    rw [packM_ep, packM_ep] at t8
    rw [packM_sz, packM_sz] at t16
    rw [packM_ct, packM_ct] at t24
    obtain ⟨a, b, c⟩ := m
    obtain ⟨a', b', c'⟩ := x
    have e1 := eqE hm.1 hx.1 t8
    have e2 := eqE hm.2.1 hx.2.1 t16
    have e3 := eqE hm.2.2 hx.2.2 t24
    simp only at e1 e2 e3
    subst e1 e2 e3
    rfl
  · have e56 : (packM m).drop 56 = (packM y).drop 56 := by rw [← hs]; exact mix_drop hlx hk h56
    rw [packM_end, packM_end] at e56
    have ey := eqE hm.1 hy.1 e56
    rcases Nat.lt_or_ge k 8 with h8 | h8
    · right
      have e1 : (packM m).drop 8 = (packM y).drop 8 := by rw [← hs]; exact mix_drop hlx hk (by omega)
      have t16 := congrArg (List.take 8) e1
      have t24 := congrArg (fun l => (List.drop 8 l).take 8) e1
      simp only [List.drop_drop, Nat.reduceAdd] at t24
      rw [packM_sz, packM_sz] at t16
      rw [packM_ct, packM_ct] at t24
      obtain ⟨a, b, c⟩ := m
      obtain ⟨a', b', c'⟩ := y
      have e2 := eqE hm.2.1 hy.2.1 t16
      have e3 := eqE hm.2.2 hy.2.2 t24
      simp only at ey e2 e3
      subst ey e2 e3
      rfl
    · have e1 : (packM m).take 8 = (packM x).take 8 := by rw [← hs]; exact mix_take hlx hk h8
      rw [packM_ep, packM_ep] at e1
      exact absurd ((eqE hm.1 hx.1 e1).symm.trans ey) hne
/-- The newest mark of two sectors. -/
def newestM (a b : List UInt8) : Mk := if ((unpackM a).getD ⟨0, 0, 0⟩).ep < ((unpackM b).getD ⟨0, 0, 0⟩).ep then (unpackM b).getD ⟨0, 0, 0⟩ else (unpackM a).getD ⟨0, 0, 0⟩
end Go.Proofs.YtnpoohkklfpmdaaGreat
/- SlB -/
namespace Go.Proofs.YtnpoohkklfpmdaaGreat
open Go.RowKit
set_option linter.unusedSimpArgs false
set_option linter.unusedVariables false
abbrev Secs := List (List UInt8)
/-- All of 64 bytes. -/
def L64 (ss : Secs) : Prop := ∀ s ∈ ss, s.length = 64
theorem L64.set {ss : Secs} (h : L64 ss) (k : Nat) {x : List UInt8} (hx : x.length = 64) : L64 (ss.set k x) := fun s hs => by
  rcases List.mem_or_eq_of_mem_set hs with h1 | h1
  · exact h s h1
  · rw [h1]; exact hx
theorem L64.drop {ss : Secs} (h : L64 ss) (k : Nat) : L64 (ss.drop k) := fun s hs => h s (List.mem_of_mem_drop hs)
theorem flat_len : ∀ {ss : Secs}, L64 ss → ss.flatten.length = 64 * ss.length
  | [], _ => rfl
  | s :: ss, h => by
    have h1 := h s List.mem_cons_self
    have h2 := flat_len (ss := ss) fun x hx => h x (List.mem_cons_of_mem _ hx)
    rw [List.flatten_cons, List.length_append, h1, h2, List.length_cons]; omega
/-- One sector turned, among the bytes of all. -/
theorem flat_set : ∀ {ss : Secs} (k : Nat) (x : List UInt8), L64 ss → k < ss.length → (ss.set k x).flatten = ss.flatten.take (64 * k) ++ (x ++ ss.flatten.drop (64 * (k + 1)))
  | [], k, x, _, hk => by simp at hk
  | s :: ss, 0, x, h, _ => by
    have h1 := h s List.mem_cons_self
    rw [List.set_cons_zero, List.flatten_cons, List.flatten_cons, List.drop_append, List.drop_of_length_le (by omega)]
    simp [h1]
  | s :: ss, k + 1, x, h, hk => by
    have h1 := h s List.mem_cons_self
    have ih := flat_set (ss := ss) k x (fun y hy => h y (List.mem_cons_of_mem _ hy)) (by simpa using hk)
    have e1 : (s ++ ss.flatten).take (64 * (k + 1)) = s ++ ss.flatten.take (64 * k) := by
      rw [List.take_append, List.take_of_length_le (by omega), h1, show 64 * (k + 1) - 64 = 64 * k from by omega]
    have e2 : (s ++ ss.flatten).drop (64 * (k + 1 + 1)) = ss.flatten.drop (64 * (k + 1)) := by
      rw [List.drop_append, List.drop_of_length_le (by omega), h1, show 64 * (k + 1 + 1) - 64 = 64 * (k + 1) from by omega]; rfl
    rw [List.set_cons_succ, List.flatten_cons, List.flatten_cons, ih, e1, e2, List.append_assoc]
theorem flat_get : ∀ {ss : Secs} (k : Nat) (s : List UInt8), L64 ss → ss[k]? = some s → (ss.flatten.drop (64 * k)).take 64 = s
  | [], k, s, _, hk => by simp at hk
  | s0 :: ss, 0, s, h, hk => by
    have h1 := h s0 List.mem_cons_self
    simp at hk; subst hk
    rw [Nat.mul_zero, List.drop_zero, List.flatten_cons, List.take_append_of_le_length (by omega), List.take_of_length_le (by omega)]
  | s0 :: ss, k + 1, s, h, hk => by
    have h1 := h s0 List.mem_cons_self
    have ih := flat_get (ss := ss) k s (fun y hy => h y (List.mem_cons_of_mem _ hy)) (by simpa using hk)
    rw [List.flatten_cons, List.drop_append, List.drop_of_length_le (by omega), h1, List.nil_append, show 64 * (k + 1) - 64 = 64 * k from by omega, ih]
/-- What the log's sectors have, from the one with number 2 on. -/
def logF (ss : Secs) : List UInt8 := (ss.drop 2).flatten
theorem logF_set {ss : Secs} (h : L64 ss) (at_ : Nat) (x : List UInt8) (hk : at_ + 2 < ss.length) : logF (ss.set (2 + at_) x) = (logF ss).take (64 * at_) ++ (x ++ (logF ss).drop (64 * (at_ + 1))) := by
  unfold logF
  rw [List.drop_set, if_neg (by omega), show 2 + at_ - 2 = at_ from by omega]
  exact flat_set at_ x (h.drop 2) (by rw [List.length_drop]; omega)
theorem logF_slot {ss : Secs} (k : Nat) (x : List UInt8) (hk : k < 2) : logF (ss.set k x) = logF ss := by
  unfold logF; rw [List.drop_set, if_pos hk]
theorem logF_len {ss : Secs} (h : L64 ss) : (logF ss).length = 64 * (ss.length - 2) := by
  unfold logF; rw [flat_len (h.drop 2), List.length_drop]
/-- The piece of a text that stands in one sector; behind its end 0. -/
def chunk (all : List UInt8) (k : Nat) : List UInt8 := ((all ++ zsec).drop (64 * k)).take 64
theorem chunk_len {all : List UInt8} {k : Nat} (h : 64 * k ≤ all.length) : (chunk all k).length = 64 := by
  simp [chunk, zsec]; omega
/-- A piece that begins as the log does, or stands behind it, in part or whole, leaves the log. -/
theorem log_keep {ss : Secs} {L rc : List UInt8} {k c : Nat} {old : List UInt8} (h : L64 ss) (hk : k + 2 < ss.length) (hL : (logF ss).take L.length = L) (hle : L.length / 64 ≤ k) (hc : c ≤ 64) (ho : ss[2 + k]? = some old) :
    (logF (ss.set (2 + k) ((chunk (L ++ rc) k).take c ++ old.drop c))).take L.length = L := by
  have hF := logF_len h
  rw [logF_set h k _ hk]
  rcases Nat.lt_or_ge (64 * k) L.length with hlt | hge
  · -- the sector in which the log ends
    have hLk : L.length - 64 * k ≤ 64 := by omega
    have hold : old = ((logF ss).drop (64 * k)).take 64 := by
      refine (flat_get k old (h.drop 2) ?_).symm
      rw [List.getElem?_drop]; exact ho
    have hlen : ((logF ss).take (64 * k)).length = 64 * k := by rw [List.length_take]; omega
    rw [List.take_append, hlen, List.take_of_length_le (by omega)]
    have hx : ((chunk (L ++ rc) k).take c ++ old.drop c).length = 64 := by
      have h1 := chunk_len (all := L ++ rc) (k := k) (by rw [List.length_append]; omega)
      have h2 := h old (List.mem_of_getElem? ho)
      rw [List.length_append, List.length_take, List.length_drop]; omega
    rw [List.take_append_of_le_length (by omega)]
    have hmix : ((chunk (L ++ rc) k).take c ++ old.drop c).take (L.length - 64 * k) = L.drop (64 * k) := by
      have e1 : (chunk (L ++ rc) k).take (L.length - 64 * k) = L.drop (64 * k) := by
        unfold chunk
        rw [List.take_take, Nat.min_eq_left hLk, List.append_assoc, List.drop_append_of_le_length (by omega), List.take_append_of_le_length (by rw [List.length_drop]; omega), List.take_of_length_le (by rw [List.length_drop]; omega)]
      have e2 : old.take (L.length - 64 * k) = L.drop (64 * k) := by
        rw [hold, List.take_take, Nat.min_eq_left hLk, ← List.drop_take, hL]
      have hcl := chunk_len (all := L ++ rc) (k := k) (by rw [List.length_append]; omega)
      have hol := h old (List.mem_of_getElem? ho)
      refine List.ext_getElem? fun i => ?_
      rcases Nat.lt_or_ge i (L.length - 64 * k) with q | q
      · rcases Nat.lt_or_ge i c with qc | qc
        · rw [List.getElem?_take, if_pos q, List.getElem?_append_left (by rw [List.length_take]; omega), List.getElem?_take, if_pos qc, ← e1, List.getElem?_take, if_pos q]
        · rw [List.getElem?_take, if_pos q, List.getElem?_append_right (by rw [List.length_take]; omega), List.getElem?_drop, List.length_take, ← e2, List.getElem?_take, if_pos q]
          congr 1; omega
      · rw [List.getElem?_eq_none (by rw [List.length_take]; omega), List.getElem?_eq_none (by rw [List.length_drop]; omega)]
    rw [hmix]
    have : (logF ss).take (64 * k) = L.take (64 * k) := by
      rw [← hL, List.take_take]; congr 1; omega
    rw [this, List.take_append_drop]
  · rw [List.take_append_of_le_length (by rw [List.length_take]; omega), List.take_take, Nat.min_eq_left hge, hL]
end Go.Proofs.YtnpoohkklfpmdaaGreat
/- SlC -/
namespace Go.Proofs.YtnpoohkklfpmdaaGreat
open Go.RowKit
set_option linter.unusedSimpArgs false
set_option linter.unusedVariables false
/-- What is read of all sectors: what was written to each last. -/
def vis (d : Dv) : Secs := layW d.safe d.waits
theorem layW_get : ∀ (ws : List (Nat × List UInt8)) (ss : Secs) (k : Nat), k < ss.length → (layW ss ws)[k]? = some (lastW ws k (ss.getD k []))
  | [], ss, k, hk => by simp [layW, lastW, List.getD, List.getElem?_eq_getElem hk]
  | w :: ws, ss, k, hk => by
    have ih := layW_get ws (ss.set w.1 w.2) k (by rw [List.length_set]; exact hk)
    show (layW (ss.set w.1 w.2) ws)[k]? = _
    rw [ih]
    show some (lastW ws k _) = some (lastW ws k _)
    congr 2
    show (ss.set w.1 w.2).getD k [] = if w.1 = k then w.2 else ss.getD k []
    by_cases e : w.1 = k
    · subst e
      rw [if_pos rfl, List.getD_eq_getElem?_getD, List.getElem?_set_self hk]; rfl
    · rw [if_neg e, List.getD_eq_getElem?_getD, List.getElem?_set_ne e, ← List.getD_eq_getElem?_getD]
theorem vis_get {d : Dv} {k : Nat} (hk : k < d.safe.length) : (vis d)[k]? = some (lastW d.waits k (d.safe.getD k [])) := layW_get _ _ _ hk
theorem vis_len (d : Dv) : (vis d).length = d.safe.length := layW_len _ _
theorem vis_64 {d : Dv} (h : d.Ok) : L64 (vis d) := layW_mem _ _ h.safe fun w hw => (h.waits w hw).2
theorem readD_vis {d : Dv} {k : Nat} (hon : d.on = true) (hk : k < d.safe.length) : readD d (k : Int) = ((vis d).getD k [], 0) := by
  have hh : d.has (k : Int) = true := by simp [Dv.has]; omega
  unfold readD
  rw [hon, if_pos rfl, if_pos hh, Int.toNat_natCast]
  congr 1
  rw [List.getD_eq_getElem?_getD (l := vis d), vis_get hk]; rfl
/-- A thing done to a device. -/
inductive DAct where
  | w (k : Nat) (s : List UInt8)
  | f
def actD (d : Dv) : DAct → Dv × Int
  | .w k s => writeD d (k : Nat) s
  | .f => flushD d
def runD : Dv → List DAct → Dv × Int
  | d, [] => (d, 0)
  | d, a :: l => if (actD d a).2 = 0 then runD (actD d a).1 l else actD d a
/-- What it does to what is safe and what waits, if it goes well. -/
def eff (x : Secs × List (Nat × List UInt8)) : DAct → Secs × List (Nat × List UInt8)
  | .w k s => (x.1, x.2 ++ [(k, s)])
  | .f => (layW x.1 x.2, [])
def effs (x : Secs × List (Nat × List UInt8)) (l : List DAct) : Secs × List (Nat × List UInt8) := l.foldl eff x
/-- .. if power goes in it. -/
def cutA (x : Secs × List (Nat × List UInt8)) : DAct → Secs × List (Nat × List UInt8)
  | .w k s => (x.1, x.2 ++ [(k, s)])
  | .f => x
def Dv.st (d : Dv) : Secs × List (Nat × List UInt8) := (d.safe, d.waits)
def DAct.Fits (n : Nat) : DAct → Prop
  | .w k s => k < n ∧ s.length = 64
  | .f => True
/-- A step goes well, or power goes. -/
theorem actD_cases {d : Dv} {a : DAct} (hon : d.on = true) (hf : a.Fits d.safe.length) :
    ((actD d a).2 = 0 ∧ (actD d a).1.st = eff d.st a ∧ (actD d a).1.on = true ∧ (actD d a).1.armed = d.armed ∧ (actD d a).1.steps = d.steps + 1 ∧ (actD d a).1.left ≤ d.left) ∨
    ((actD d a).2 = 14 ∧ (actD d a).1.st = cutA d.st a ∧ (actD d a).1.on = false ∧ d.armed = true ∧ (actD d a).1.steps = d.steps ∧ (actD d a).1.left ≤ d.left ∧ (actD d a).1.armed = true) := by
  obtain ⟨sf, ws, on, ar, l, st⟩ := d
  simp only at hon hf
  subst hon
  cases a with
  | w k s =>
    have hk : (⟨sf, ws, true, ar, l, st⟩ : Dv).has (k : Int) = true := by simp [Dv.has]; exact hf.1
    simp only [actD, writeD, hk, hf.2, Bool.true_and, decide_true, if_true, Int.toNat_natCast]
    unfold stepD
    cases ar with
    | false => left; simp [eff, Dv.st]
    | true =>
      by_cases hl : l = 0
      · right; subst hl; simp [cutA, Dv.st]
      · left; simp [hl, eff, Dv.st]
  | f =>
    simp only [actD, flushD, if_true]
    unfold stepD
    cases ar with
    | false => left; simp [eff, Dv.st]
    | true =>
      by_cases hl : l = 0
      · right; subst hl; simp [cutA, Dv.st]
      · left; simp [hl, eff, Dv.st]
theorem eff_len (x : Secs × List (Nat × List UInt8)) (a : DAct) : (eff x a).1.length = x.1.length := by
  cases a <;> simp [eff, layW_len]
theorem runD_cases : ∀ (l : List DAct) {d : Dv}, d.on = true → (∀ a ∈ l, a.Fits d.safe.length) →
    ((runD d l).2 = 0 ∧ (runD d l).1.st = effs d.st l ∧ (runD d l).1.on = true ∧ (runD d l).1.armed = d.armed ∧ (runD d l).1.steps ≤ d.steps + l.length ∧ (runD d l).1.left ≤ d.left) ∨
    ((runD d l).2 = 14 ∧ (∃ pre a post, l = pre ++ a :: post ∧ (runD d l).1.st = cutA (effs d.st pre) a) ∧ (runD d l).1.on = false ∧ d.armed = true ∧ (runD d l).1.steps ≤ d.steps + l.length ∧ (runD d l).1.left ≤ d.left)
  | [], d, hon, _ => .inl ⟨rfl, rfl, hon, rfl, by simp [runD], Nat.le_refl _⟩
  | a :: l, d, hon, hf => by
    rcases actD_cases hon (hf a List.mem_cons_self) with ⟨h1, h2, h3, h4, h5, h6⟩ | ⟨h1, h2, h3, h4, h5, h6, _⟩
    · have hlen : (actD d a).1.safe.length = d.safe.length := by
        have := congrArg (fun x => x.1.length) h2
        simpa [Dv.st, eff_len] using this
      have e : runD d (a :: l) = runD (actD d a).1 l := by rw [runD, if_pos h1]
      rw [e]
      rcases runD_cases l (d := (actD d a).1) h3 (fun b hb => by rw [hlen]; exact hf b (List.mem_cons_of_mem _ hb)) with ⟨g1, g2, g3, g4, g5, g6⟩ | ⟨g1, ⟨pre, b, post, e1, g2⟩, g3, g4, g5, g6⟩
      · left
        refine ⟨g1, by rw [g2, h2]; rfl, g3, g4.trans h4, by rw [List.length_cons]; omega, by omega⟩
      · right
        refine ⟨g1, ⟨a :: pre, b, post, by rw [e1]; rfl, by rw [g2, h2]; rfl⟩, g3, by rw [← h4]; exact g4, by rw [List.length_cons]; omega, by omega⟩
    · right
      have e : runD d (a :: l) = actD d a := by rw [runD, if_neg (by rw [h1]; decide)]
      rw [e]
      exact ⟨h1, ⟨[], a, l, rfl, h2⟩, h3, h4, by rw [List.length_cons]; omega, h6⟩
/-- What a commit writes of the log. -/
def secsM (L rc : List UInt8) : List (Nat × List UInt8) := (List.range' (L.length / 64) ((L.length + rc.length + 63) / 64 - L.length / 64)).map fun k => (2 + k, chunk (L ++ rc) k)
def actsC (L rc : List UInt8) (m : Mk) : List DAct := (secsM L rc).map (fun w => .w w.1 w.2) ++ [.f, .w (m.ep % 2) (packM m), .f]
theorem mem_secs {L rc : List UInt8} {w : Nat × List UInt8} (h : w ∈ secsM L rc) : ∃ k, w = (2 + k, chunk (L ++ rc) k) ∧ L.length / 64 ≤ k ∧ k < (L.length + rc.length + 63) / 64 := by
  obtain ⟨k, hk, rfl⟩ := List.mem_map.1 h
  rw [List.mem_range'_1] at hk
  exact ⟨k, rfl, hk.1, by omega⟩
theorem secs_fit {L rc : List UInt8} {w : Nat × List UInt8} {n : Nat} (h : w ∈ secsM L rc) (hn : L.length + rc.length ≤ 64 * (n - 2)) : w.1 < n ∧ w.2.length = 64 := by
  obtain ⟨k, rfl, h1, h2⟩ := mem_secs h
  exact ⟨by simp only; omega, chunk_len (by rw [List.length_append]; omega)⟩
theorem actsC_fit {L rc : List UInt8} {m : Mk} {n : Nat} (hn : L.length + rc.length ≤ 64 * (n - 2)) (h3 : 2 ≤ n) : ∀ a ∈ actsC L rc m, a.Fits n := by
  intro a ha
  rcases List.mem_append.1 ha with h | h
  · obtain ⟨w, hw, rfl⟩ := List.mem_map.1 h
    exact secs_fit hw hn
  · simp only [List.mem_cons, List.not_mem_nil, or_false] at h
    rcases h with rfl | rfl | rfl
    · trivial
    · exact ⟨by omega, packM_len m⟩
    · trivial
theorem effs_writes : ∀ (ws : List (Nat × List UInt8)) (x : Secs × List (Nat × List UInt8)), effs x (ws.map fun w => .w w.1 w.2) = (x.1, x.2 ++ ws)
  | [], x => by simp [effs]
  | w :: ws, x => by
    have := effs_writes ws (x.1, x.2 ++ [w])
    simp only [effs, List.map_cons, List.foldl_cons] at this ⊢
    rw [show eff x (.w w.1 w.2) = (x.1, x.2 ++ [w]) from rfl, this]
    simp
/-- What a whole commit leaves. -/
theorem effs_actsC (ss : Secs) (L rc : List UInt8) (m : Mk) : effs (ss, []) (actsC L rc m) = ((layW ss (secsM L rc)).set (m.ep % 2) (packM m), []) := by
  rw [actsC, effs, List.foldl_append]
  have := effs_writes (secsM L rc) (ss, [])
  rw [effs] at this
  rw [this]
  simp [eff, layW]
theorem cutA_writes (ss : Secs) (ws : List (Nat × List UInt8)) {pre post : List DAct} {a : DAct} (h : ws.map (fun w => DAct.w w.1 w.2) = pre ++ a :: post) : ∃ u, cutA (effs (ss, []) pre) a = (ss, u) ∧ ∃ v, ws = u ++ v := by
  obtain ⟨u, r, rfl, hu, hr⟩ := List.map_eq_append_iff.1 h
  obtain ⟨w, v, rfl, hw, hv⟩ := List.map_eq_cons_iff.1 hr
  refine ⟨u ++ [w], ?_, v, by simp⟩
  rw [← hu, effs_writes, ← hw]
  simp [cutA]
/-- What power leaves of a commit: some of the log's sectors wait; or all are safe, and the mark's waits. -/
theorem cut_actsC (ss : Secs) (L rc : List UInt8) (m : Mk) {pre post : List DAct} {a : DAct} (h : actsC L rc m = pre ++ a :: post) :
    (∃ u v, cutA (effs (ss, []) pre) a = (ss, u) ∧ secsM L rc = u ++ v) ∨ cutA (effs (ss, []) pre) a = (layW ss (secsM L rc), [(m.ep % 2, packM m)]) := by
  have hw := effs_writes (secsM L rc) (ss, [])
  rw [actsC] at h
  rcases List.append_eq_append_iff.1 h with ⟨x, h1, h2⟩ | ⟨x, h1, h2⟩
  · -- behind the writes
    cases x with
    | nil =>
      simp only [List.nil_append, List.cons.injEq, List.append_nil] at h1 h2
      left
      refine ⟨secsM L rc, [], ?_, by simp⟩
      rw [h1, hw, ← h2.1]
      simp [cutA]
    | cons b x =>
      simp only [List.cons_append, List.cons.injEq] at h2
      obtain ⟨rfl, h2⟩ := h2
      right
      cases x with
      | nil =>
        simp only [List.nil_append, List.cons.injEq] at h2
        rw [h1, effs, List.foldl_append, show List.foldl eff (ss, []) _ = _ from hw, ← h2.1]
        simp [eff, cutA]
      | cons b2 x =>
        simp only [List.cons_append, List.cons.injEq] at h2
        obtain ⟨rfl, h2⟩ := h2
        cases x with
        | nil =>
          simp only [List.nil_append, List.cons.injEq] at h2
          rw [h1, effs, List.foldl_append, show List.foldl eff (ss, []) _ = _ from hw, ← h2.1]
          simp [eff, cutA]
        | cons b3 x =>
          simp at h2
  · -- among the writes
    left
    cases x with
    | nil =>
      simp only [List.append_nil, List.nil_append, List.cons.injEq] at h1 h2
      refine ⟨secsM L rc, [], ?_, by simp⟩
      rw [← h1, hw, h2.1]
      simp [cutA]
    | cons b x =>
      simp only [List.cons_append, List.cons.injEq] at h2
      obtain ⟨rfl, _⟩ := h2
      obtain ⟨u, e1, v, e2⟩ := cutA_writes ss (secsM L rc) h1
      exact ⟨u, v, e1, e2⟩
end Go.Proofs.YtnpoohkklfpmdaaGreat
/- SlD -/
namespace Go.Proofs.YtnpoohkklfpmdaaGreat
open Go.RowKit
set_option linter.unusedSimpArgs false
set_option linter.unusedVariables false
def mk0 : Mk := ⟨0, 0, 0⟩
def mkO (s : List UInt8) : Mk := (unpackM s).getD mk0
theorem newestM_eq (a b : List UInt8) : newestM a b = if (mkO a).ep < (mkO b).ep then mkO b else mkO a := rfl
/-- What is opened on sectors. -/
def openM (ss : Secs) : Option (Mk × List UInt8 × Secs) :=
  if (newestM (ss.getD 0 []) (ss.getD 1 [])).sz ≤ 64 * (ss.length - 2) then
    if (allP ((logF ss).take (newestM (ss.getD 0 []) (ss.getD 1 [])).sz)).2 = (newestM (ss.getD 0 []) (ss.getD 1 [])).sz ∧ (allP ((logF ss).take (newestM (ss.getD 0 []) (ss.getD 1 [])).sz)).1.length = (newestM (ss.getD 0 []) (ss.getD 1 [])).ct then
      some (newestM (ss.getD 0 []) (ss.getD 1 []), (logF ss).take (newestM (ss.getD 0 []) (ss.getD 1 [])).sz, (allP ((logF ss).take (newestM (ss.getD 0 []) (ss.getD 1 [])).sz)).1)
    else none
  else none
/-- The log's bytes stand in the sectors; they are records. -/
structure LogIs (ss : Secs) (m : Mk) (L : List UInt8) (rs : Secs) : Prop where
  len : 3 ≤ ss.length
  l64 : L64 ss
  ok : m.Ok
  sz : m.sz = L.length
  fit : L.length ≤ 64 * (ss.length - 2)
  log : (logF ss).take L.length = L
  recs : L = (rs.map recd).flatten
  ct : m.ct = rs.length
  few : ∀ r ∈ rs, r.length ≤ 1048576
/-- Where the marks stand: m in its own sector, what is in the other one is elder. -/
structure Alw (ss : Secs) (m : Mk) (o : List UInt8) : Prop where
  here : ss[m.ep % 2]? = some (packM m)
  other : ss[1 - m.ep % 2]? = some o
  elder : (mkO o).ep < m.ep ∨ m.ep = 0 ∧ mkO o = mk0
theorem mkO_pack {m : Mk} (h : m.Ok) : mkO (packM m) = m := by rw [mkO, unpackM_pack h]; rfl
theorem Alw.newest {ss : Secs} {m : Mk} {o : List UInt8} (h : Alw ss m o) (hm : m.Ok) : newestM (ss.getD 0 []) (ss.getD 1 []) = m := by
  rcases Nat.mod_two_eq_zero_or_one m.ep with e | e
  · have h1 := h.here
    have h2 := h.other
    rw [e] at h1 h2
    rw [List.getD_eq_getElem?_getD, List.getD_eq_getElem?_getD, h1, h2, newestM_eq]
    simp only [Option.getD_some, mkO_pack hm]
    rw [if_neg]
    rcases h.elder with q | ⟨q, q2⟩
    · omega
    · have : (mkO o).ep = 0 := by rw [q2]; rfl
      omega
  · have h1 := h.here
    have h2 := h.other
    rw [e] at h1 h2
    rw [List.getD_eq_getElem?_getD, List.getD_eq_getElem?_getD, h1, h2, newestM_eq]
    simp only [Option.getD_some, mkO_pack hm]
    rcases h.elder with q | ⟨q, _⟩
    · rw [if_pos q]
    · omega
theorem openM_is {ss : Secs} {m : Mk} {L : List UInt8} {rs : Secs} {o : List UInt8} (h : LogIs ss m L rs) (ha : Alw ss m o) : openM ss = some (m, L, rs) := by
  have hall := allP_all rs h.few
  rw [← h.recs] at hall
  unfold openM
  rw [ha.newest h.ok, h.sz, if_pos h.fit, h.log, hall, if_pos ⟨rfl, h.ct.symm⟩]
/-- A new device. -/
theorem logIs_new (n : Nat) (hn : 3 ≤ n) : LogIs (List.replicate n zsec) mk0 [] [] ∧ Alw (List.replicate n zsec) mk0 zsec := by
  refine ⟨⟨by simpa using hn, fun s hs => by rw [(List.mem_replicate.1 hs).2]; rfl, ⟨by decide, by decide, by decide⟩, rfl, by simp, rfl, rfl, rfl, fun r hr => by cases hr⟩, ⟨?_, ?_, .inr ⟨rfl, ?_⟩⟩⟩
  · show (List.replicate n zsec)[0]? = some (packM mk0)
    rw [show packM mk0 = zsec from packM_0, List.getElem?_replicate, if_pos (by omega)]
  · show (List.replicate n zsec)[1]? = some zsec
    rw [List.getElem?_replicate, if_pos (by omega)]
  · rw [mkO, unpackM_0]; rfl
/-- Sectors of the same log, the marks as they were. -/
structure SameLog (ss ss' : Secs) (L : List UInt8) : Prop where
  len : ss'.length = ss.length
  l64 : L64 ss'
  slots : ∀ k, k < 2 → ss'[k]? = ss[k]?
  log : (logF ss').take L.length = L
theorem SameLog.refl {ss : Secs} {L : List UInt8} (h : L64 ss) (hL : (logF ss).take L.length = L) : SameLog ss ss L := ⟨rfl, h, fun _ _ => rfl, hL⟩
theorem SameLog.is {ss ss' : Secs} {m : Mk} {L : List UInt8} {rs : Secs} (h : LogIs ss m L rs) (s : SameLog ss ss' L) : LogIs ss' m L rs :=
  ⟨by rw [s.len]; exact h.len, s.l64, h.ok, h.sz, by rw [s.len]; exact h.fit, s.log, h.recs, h.ct, h.few⟩
theorem SameLog.alw {ss ss' : Secs} {m : Mk} {L o : List UInt8} (h : Alw ss m o) (s : SameLog ss ss' L) : Alw ss' m o :=
  ⟨(s.slots _ (by omega)).trans h.here, (s.slots _ (by omega)).trans h.other, h.elder⟩
/-- What a crash keeps of a log's sectors that wait leaves the log. -/
theorem keep_secs {ss : Secs} {L rc : List UInt8} (keep : List Bool) (torn : Int) (c : Nat) (hc : c ≤ 64) (hfit : L.length + rc.length ≤ 64 * (ss.length - 2)) (i : Nat) :
    ∀ (ws : List (Nat × List UInt8)), (∀ w ∈ ws, w ∈ secsM L rc) → SameLog ss ss L → SameLog ss (keepW keep torn c i ws ss) L := by
  intro ws hm h
  have key0 : ∀ j, j ≤ ws.length → SameLog ss (keepW keep torn c i (ws.take j) ss) L := by
    intro j
    induction j with
    | zero => exact fun _ => h
    | succ j ih =>
    intro hj
    have h1 := ih (by omega)
    obtain ⟨w, hw⟩ : ∃ w, ws[j]? = some w := ⟨_, List.getElem?_eq_getElem (by omega)⟩
    rw [keepW_take keep torn c ws i j ss w hw]
    generalize keepW keep torn c i (ws.take j) ss = T at *
    have hmw := hm w (List.mem_of_getElem? hw)
    clear hw
    obtain ⟨k, rfl, k1, k2⟩ := mem_secs hmw
    have hk : k + 2 < T.length := by rw [h1.len]; omega
    have hcl := chunk_len (all := L ++ rc) (k := k) (by rw [List.length_append]; omega)
    obtain ⟨old, ho⟩ : ∃ old, T[2 + k]? = some old := ⟨_, List.getElem?_eq_getElem (by omega)⟩
    unfold keep1
    split
    · have key : ∀ c', c' ≤ 64 → SameLog ss (T.set (2 + k) ((chunk (L ++ rc) k).take c' ++ old.drop c')) L := fun c' hc' =>
        ⟨by rw [List.length_set]; exact h1.len, h1.l64.set _ (by have := h1.l64 old (List.mem_of_getElem? ho); rw [List.length_append, List.length_take, List.length_drop]; omega),
          fun j hj => by rw [List.getElem?_set_ne (by omega)]; exact h1.slots j hj, log_keep h1.l64 hk h1.log k1 hc' ho⟩
      split
      · rw [List.getD_eq_getElem?_getD, ho]
        exact key c hc
      · have := key 64 (Nat.le_refl _)
        rw [List.take_of_length_le (by omega), List.drop_of_length_le (by have := h1.l64 old (List.mem_of_getElem? ho); omega), List.append_nil] at this
        exact this
    · exact h1
  have := key0 ws.length (Nat.le_refl _)
  rwa [List.take_length] at this
theorem take_step {α : Type} {A B x : List α} {n : Nat} (hA : A.length = n) (hx : x.length = 64) : (A ++ (x ++ B)).take (n + 64) = A ++ x := by
  rw [← List.append_assoc, List.take_append_of_le_length (by simp; omega), List.take_of_length_le (by simp; omega)]
theorem layW_snoc (ss : Secs) (ws : List (Nat × List UInt8)) (w : Nat × List UInt8) : layW ss (ws ++ [w]) = (layW ss ws).set w.1 w.2 := by simp [layW]
/-- All of a log's sectors written. -/
theorem lay_secs {ss : Secs} {L rc : List UInt8} (h64 : L64 ss) (hL : (logF ss).take L.length = L) (h2 : 2 ≤ ss.length) (hfit : L.length + rc.length ≤ 64 * (ss.length - 2)) :
    ∀ j, L.length / 64 + j ≤ (L.length + rc.length + 63) / 64 → 
      (layW ss ((List.range' (L.length / 64) j).map fun k => (2 + k, chunk (L ++ rc) k))).length = ss.length ∧ L64 (layW ss ((List.range' (L.length / 64) j).map fun k => (2 + k, chunk (L ++ rc) k))) ∧
      (∀ k, k < 2 → (layW ss ((List.range' (L.length / 64) j).map fun k => (2 + k, chunk (L ++ rc) k)))[k]? = ss[k]?) ∧
      (logF (layW ss ((List.range' (L.length / 64) j).map fun k => (2 + k, chunk (L ++ rc) k)))).take (64 * (L.length / 64 + j)) = ((L ++ rc) ++ zsec).take (64 * (L.length / 64 + j)) := by
  intro j
  induction j with
  | zero =>
    intro _
    refine ⟨rfl, h64, fun _ _ => rfl, ?_⟩
    show (logF ss).take (64 * (L.length / 64 + 0)) = _
    rw [Nat.add_zero, List.append_assoc, List.take_append_of_le_length (by omega)]
    have := congrArg (List.take (64 * (L.length / 64))) hL
    rw [List.take_take, Nat.min_eq_left (by omega)] at this
    exact this
  | succ j ih =>
    intro hj
    obtain ⟨i1, i2, i3, i4⟩ := ih (by omega)
    have e : (List.range' (L.length / 64) (j + 1)).map (fun k => (2 + k, chunk (L ++ rc) k)) = (List.range' (L.length / 64) j).map (fun k => (2 + k, chunk (L ++ rc) k)) ++ [(2 + (L.length / 64 + j), chunk (L ++ rc) (L.length / 64 + j))] := by
      rw [List.range'_1_concat, List.map_append]; rfl
    rw [e, layW_snoc]
    have hcl := chunk_len (all := L ++ rc) (k := L.length / 64 + j) (by rw [List.length_append]; omega)
    refine ⟨by rw [List.length_set]; exact i1, i2.set _ hcl, fun k hk => by rw [List.getElem?_set_ne (by omega)]; exact i3 k hk, ?_⟩
    simp only
    rw [logF_set i2 _ _ (by rw [i1]; omega), i4]
    have hl2 : (((L ++ rc) ++ zsec).take (64 * (L.length / 64 + j))).length = 64 * (L.length / 64 + j) := by rw [List.length_take]; simp [zsec]; omega
    rw [show 64 * (L.length / 64 + (j + 1)) = 64 * (L.length / 64 + j) + 64 from by omega, take_step hl2 hcl, List.take_add]
    rfl
theorem lay_all {ss : Secs} {L rc : List UInt8} (h64 : L64 ss) (hL : (logF ss).take L.length = L) (h2 : 2 ≤ ss.length) (hfit : L.length + rc.length ≤ 64 * (ss.length - 2)) : SameLog ss (layW ss (secsM L rc)) (L ++ rc) := by
  obtain ⟨i1, i2, i3, i4⟩ := lay_secs h64 hL h2 hfit ((L.length + rc.length + 63) / 64 - L.length / 64) (by omega)
  refine ⟨i1, i2, i3, ?_⟩
  have e : L.length / 64 + ((L.length + rc.length + 63) / 64 - L.length / 64) = (L.length + rc.length + 63) / 64 := by omega
  rw [e] at i4
  have := congrArg (List.take (L ++ rc).length) i4
  rw [List.take_take, List.take_take, List.length_append, Nat.min_eq_left (by omega), show ((L ++ rc) ++ zsec).take (L.length + rc.length) = L ++ rc from by rw [← List.length_append]; exact List.take_left] at this
  rw [List.length_append]
  exact this
/-- The mark behind one record more. -/
def nextM (m : Mk) (rc : List UInt8) : Mk := ⟨m.ep + 1, m.sz + rc.length, m.ct + 1⟩
theorem next_slot (m : Mk) (rc : List UInt8) : (nextM m rc).ep % 2 = 1 - m.ep % 2 ∧ 1 - (nextM m rc).ep % 2 = m.ep % 2 := by simp only [nextM]; omega
/-- One record more. -/
theorem LogIs.next {ss ss' : Secs} {m : Mk} {L r : List UInt8} {rs : Secs} (h : LogIs ss m L rs) (hr : r.length ≤ 1048576) (hfit : L.length + (recd r).length ≤ 64 * (ss.length - 2)) (hn : (nextM m (recd r)).Ok) (s : SameLog ss ss' (L ++ recd r)) :
    LogIs ss' (nextM m (recd r)) (L ++ recd r) (rs ++ [r]) :=
  ⟨by rw [s.len]; exact h.len, s.l64, hn, by simp [nextM, h.sz], by rw [s.len, List.length_append]; exact hfit, s.log, by rw [List.map_append, List.flatten_append, ← h.recs]; simp, by simp [nextM, h.ct], fun x hx => by
    rcases List.mem_append.1 hx with q | q
    · exact h.few x q
    · rw [List.mem_singleton.1 q]; exact hr⟩
/-- A mark's sector written, in part or whole. -/
theorem SameLog.slot {ss : Secs} {L : List UInt8} {k : Nat} {x : List UInt8} (h64 : L64 ss) (hL : (logF ss).take L.length = L) (hk : k < 2) (hx : x.length = 64) : L64 (ss.set k x) ∧ (logF (ss.set k x)).take L.length = L ∧ (ss.set k x).length = ss.length :=
  ⟨h64.set k hx, by rw [logF_slot k x hk]; exact hL, by simp⟩
theorem LogIs.slot {ss : Secs} {m : Mk} {L : List UInt8} {rs : Secs} (h : LogIs ss m L rs) (k : Nat) {x : List UInt8} (hk : k < 2) (hx : x.length = 64) : LogIs (ss.set k x) m L rs :=
  ⟨by simpa using h.len, h.l64.set k hx, h.ok, h.sz, by simpa using h.fit, by rw [logF_slot k x hk]; exact h.log, h.recs, h.ct, h.few⟩
/-- A whole commit. -/
theorem commit_done {ss : Secs} {m : Mk} {L r o : List UInt8} {rs : Secs} (h : LogIs ss m L rs) (ha : Alw ss m o) (hr : r.length ≤ 1048576) (hfit : L.length + (recd r).length ≤ 64 * (ss.length - 2)) (hn : (nextM m (recd r)).Ok) :
    LogIs ((layW ss (secsM L (recd r))).set ((nextM m (recd r)).ep % 2) (packM (nextM m (recd r)))) (nextM m (recd r)) (L ++ recd r) (rs ++ [r]) ∧
    Alw ((layW ss (secsM L (recd r))).set ((nextM m (recd r)).ep % 2) (packM (nextM m (recd r)))) (nextM m (recd r)) (packM m) := by
  have hs := lay_all (rc := recd r) h.l64 h.log (by have := h.len; omega) hfit
  have hl := hs.len
  have h3 := h.len
  have hnx := h.next hr hfit hn hs
  obtain ⟨e1, e2⟩ := next_slot m (recd r)
  refine ⟨hnx.slot _ (by omega) (packM_len _), ⟨?_, ?_, ?_⟩⟩
  · rw [List.getElem?_set_self (by omega)]
  · rw [e2, List.getElem?_set_ne (by rw [e1]; omega), hs.slots _ (by omega)]; exact ha.here
  · left; rw [mkO_pack h.ok]; simp [nextM]
/-- A crash in a commit: the log is as it was, or has the record. -/
theorem commit_crash {ss : Secs} {m m0 : Mk} {L r : List UInt8} {rs : Secs} (h : LogIs ss m L rs) (ha : Alw ss m (packM m0)) (h0 : m0.Ok) (hr : r.length ≤ 1048576) (hfit : L.length + (recd r).length ≤ 64 * (ss.length - 2)) (hn : (nextM m (recd r)).Ok)
    {pre post : List DAct} {a : DAct} (he : actsC L (recd r) (nextM m (recd r)) = pre ++ a :: post) (keep : List Bool) (torn : Int) (c : Nat) (hc : c ≤ 64) :
    ∃ o, (LogIs (keepW keep torn c 0 (cutA (effs (ss, []) pre) a).2 (cutA (effs (ss, []) pre) a).1) m L rs ∧ Alw (keepW keep torn c 0 (cutA (effs (ss, []) pre) a).2 (cutA (effs (ss, []) pre) a).1) m o) ∨
      (LogIs (keepW keep torn c 0 (cutA (effs (ss, []) pre) a).2 (cutA (effs (ss, []) pre) a).1) (nextM m (recd r)) (L ++ recd r) (rs ++ [r]) ∧ Alw (keepW keep torn c 0 (cutA (effs (ss, []) pre) a).2 (cutA (effs (ss, []) pre) a).1) (nextM m (recd r)) o) := by
  rcases cut_actsC ss L (recd r) (nextM m (recd r)) he with ⟨u, v, e, hu⟩ | e
  · rw [e]
    have hk := keep_secs (ss := ss) (L := L) (rc := recd r) keep torn c hc hfit 0 u (fun w hw => by rw [hu]; exact List.mem_append_left _ hw) (SameLog.refl h.l64 h.log)
    exact ⟨_, .inl ⟨hk.is h, hk.alw ha⟩⟩
  · rw [e]
    have hs := lay_all (rc := recd r) h.l64 h.log (by have := h.len; omega) hfit
    have hl := hs.len
    have h3 := h.len
    have hL : (logF (layW ss (secsM L (recd r)))).take L.length = L := by
      have := congrArg (List.take L.length) hs.log
      rw [List.take_take, List.length_append, Nat.min_eq_left (by omega), List.take_append_of_le_length (Nat.le_refl _), List.take_of_length_le (Nat.le_refl _)] at this
      exact this
    have hsL : SameLog ss (layW ss (secsM L (recd r))) L := ⟨hs.len, hs.l64, hs.slots, hL⟩
    have hold := hsL.is h
    have aold := hsL.alw ha
    have hnew := h.next hr hfit hn hs
    obtain ⟨e1, e2⟩ := next_slot m (recd r)
    generalize hS : layW ss (secsM L (recd r)) = S at *
    generalize hN : nextM m (recd r) = N at *
    have hk2 : N.ep % 2 < S.length := by omega
    have hne : m.ep % 2 ≠ N.ep % 2 := by rw [e1]; omega
    have hep : N.ep = m.ep + 1 := by rw [← hN]; rfl
    have whole : ∀ x : List UInt8, x.length = 64 → x = packM N → LogIs (S.set (N.ep % 2) x) N (L ++ recd r) (rs ++ [r]) ∧ Alw (S.set (N.ep % 2) x) N (packM m) := by
      rintro x hx rfl
      refine ⟨hnew.slot _ (by omega) hx, ⟨by rw [List.getElem?_set_self hk2], by rw [e2, List.getElem?_set_ne (Ne.symm hne)]; exact aold.here, .inl ?_⟩⟩
      rw [mkO_pack h.ok]; omega
    have lost : ∀ x : List UInt8, x.length = 64 → ((mkO x).ep < m.ep ∨ m.ep = 0 ∧ mkO x = mk0) → LogIs (S.set (N.ep % 2) x) m L rs ∧ Alw (S.set (N.ep % 2) x) m x := by
      intro x hx hel
      refine ⟨hold.slot _ (by omega) hx, ⟨by rw [List.getElem?_set_ne (Ne.symm hne)]; exact aold.here, by rw [← e1, List.getElem?_set_self hk2], hel⟩⟩
    simp only [keepW]
    split
    · split
      · rw [List.getD_eq_getElem?_getD, show S[N.ep % 2]? = some (packM m0) from by rw [e1]; exact aold.other]
        simp only [Option.getD_some]
        have hml : ((packM N).take c ++ (packM m0).drop c).length = 64 := by
          have := packM_len N; have := packM_len m0
          rw [List.length_append, List.length_take, List.length_drop]; omega
        have hne2 : N.ep ≠ m0.ep := by
          have := ha.elder
          rw [mkO_pack h0] at this
          rcases this with q | ⟨q, q2⟩
          · omega
          · rw [q2] ; simp [mk0]; omega
        cases hu : unpackM ((packM N).take c ++ (packM m0).drop c) with
        | none =>
          have hm0 : mkO ((packM N).take c ++ (packM m0).drop c) = mk0 := by rw [mkO, hu]; rfl
          refine ⟨_, .inl (lost _ hml ?_)⟩
          rw [hm0]
          rcases Nat.eq_zero_or_pos m.ep with q | q
          · exact .inr ⟨q, rfl⟩
          · left; simpa [mk0] using q
        | some z =>
          rcases torn_mark hn h0 hne2 hc hu with rfl | rfl
          · exact ⟨_, .inr (whole _ hml (unpackM_inv hu).1)⟩
          · refine ⟨_, .inl (lost _ hml ?_)⟩
            rw [mkO, hu]
            have := ha.elder
            rw [mkO_pack h0] at this
            exact this
      · exact ⟨_, .inr (whole _ (packM_len _) rfl)⟩
    · exact ⟨_, .inl ⟨hold, aold⟩⟩
end Go.Proofs.YtnpoohkklfpmdaaGreat
/- SlE -/
namespace Go.Proofs.YtnpoohkklfpmdaaGreat
open Go.RowKit
set_option linter.unusedSimpArgs false
set_option linter.unusedVariables false
/-- A log: its mark, its bytes, is it broken? -/
structure Sg where
  m : Mk
  log : List UInt8
  br : Bool
/-- What Open tells: an error, or OK. -/
def openE (d : Dv) : Int := if d.safe.length < 3 then 1 else if d.on then (if (openM (vis d)).isSome then 0 else 10) else 14
def commitD (d : Dv) (S : Sg) (r : List UInt8) : (Dv × Sg) × Int :=
  if S.br then ((d, S), 13)
  else if r.length ≤ 1048576 then
    if S.log.length + (recd r).length ≤ 64 * (d.safe.length - 2) then
      if (runD d (actsC S.log (recd r) (nextM S.m (recd r)))).2 = 0 then (((runD d (actsC S.log (recd r) (nextM S.m (recd r)))).1, ⟨nextM S.m (recd r), S.log ++ recd r, false⟩), 0)
      else (((runD d (actsC S.log (recd r) (nextM S.m (recd r)))).1, { S with br := true }), (runD d (actsC S.log (recd r) (nextM S.m (recd r)))).2)
    else ((d, S), 15)
  else ((d, S), 11)
theorem actD_ok {d : Dv} (h : d.Ok) (a : DAct) : (actD d a).1.Ok := by
  cases a with
  | w k s => exact writeD_ok h _ _
  | f => exact flushD_ok h
theorem actD_len (d : Dv) (a : DAct) : (actD d a).1.safe.length = d.safe.length := by
  cases a with
  | w k s =>
    simp only [actD, writeD]
    split
    · split
      · simp only [stepD_safe]
      · rfl
    · rfl
  | f =>
    simp only [actD, flushD]
    split
    · split
      · simp only [layW_len]
      · rw [stepD_safe]
    · rfl
theorem runD_ok : ∀ (l : List DAct) {d : Dv}, d.Ok → (runD d l).1.Ok
  | [], _, h => h
  | a :: l, d, h => by
    rw [runD]
    split
    · exact runD_ok l (actD_ok h a)
    · exact actD_ok h a
theorem runD_len : ∀ (l : List DAct) (d : Dv), (runD d l).1.safe.length = d.safe.length
  | [], _ => rfl
  | a :: l, d => by
    rw [runD]
    split
    · rw [runD_len l]; exact actD_len d a
    · exact actD_len d a
theorem secsM_len (L rc : List UInt8) : (secsM L rc).length = (L.length + rc.length + 63) / 64 - L.length / 64 := by simp [secsM]
/-- A log that goes on over a device: rs are its records; o is what stands in the elder mark's sector. -/
structure Rdy (n : Nat) (d : Dv) (S : Sg) (rs : Secs) (ar : Bool) (lf st : Nat) (o : List UInt8) : Prop where
  on : d.on = true
  waits : d.waits = []
  ok : d.Ok
  len : d.safe.length = n
  armed : d.armed = ar
  left : d.left ≤ lf
  steps : d.steps ≤ st
  br : S.br = false
  log : LogIs d.safe S.m S.log rs
  alw : Alw d.safe S.m o
theorem Rdy.vis {n : Nat} {d : Dv} {S : Sg} {rs : Secs} {ar : Bool} {lf st : Nat} {o : List UInt8} (h : Rdy n d S rs ar lf st o) : vis d = d.safe := by unfold Go.Proofs.YtnpoohkklfpmdaaGreat.vis; rw [h.waits]; rfl
theorem Rdy.opens {n : Nat} {d : Dv} {S : Sg} {rs : Secs} {ar : Bool} {lf st : Nat} {o : List UInt8} (h : Rdy n d S rs ar lf st o) : openM (Go.Proofs.YtnpoohkklfpmdaaGreat.vis d) = some (S.m, S.log, rs) := by rw [h.vis]; exact openM_is h.log h.alw
theorem Rdy.few {n : Nat} {d : Dv} {S : Sg} {rs : Secs} {ar : Bool} {lf st : Nat} {o : List UInt8} (h : Rdy n d S rs ar lf st o) (h1 : lf < 1048576) (h2 : st < 1099511627776) (h3 : n ≤ 4096) : d.Few :=
  ⟨Nat.lt_of_le_of_lt h.left (Nat.lt_trans h1 (by decide)), Nat.lt_of_le_of_lt h.steps (Nat.lt_trans h2 (by decide)), by rw [h.waits]; exact Nat.zero_lt_of_lt (by decide : 0 < 1048576), by rw [h.len]; exact h3⟩
theorem new_rdy (n : Nat) (hn : 3 ≤ n) : Rdy n (newD n) ⟨mk0, [], false⟩ [] false 0 0 zsec :=
  ⟨rfl, rfl, newD_ok n, by simp [newD], rfl, Nat.le_refl _, Nat.le_refl _, rfl, (logIs_new n hn).1, (logIs_new n hn).2⟩
theorem Rdy.arm {n : Nat} {d : Dv} {S : Sg} {rs : Secs} {ar : Bool} {lf st : Nat} {o : List UInt8} (h : Rdy n d S rs ar lf st o) (k : Nat) : Rdy n (armD d k) S rs true k st o :=
  ⟨h.on, h.waits, armD_ok h.ok _, h.len, rfl, by simp [armD], h.steps, h.br, h.log, h.alw⟩
/-- A crash of a device on which nothing waits: it is as it was. -/
theorem Rdy.crash {n : Nat} {d : Dv} {S : Sg} {rs : Secs} {ar : Bool} {lf st : Nat} {o : List UInt8} (h : Rdy n d S rs ar lf st o) (keep : List Bool) (torn cut : Int) : Rdy n (crashD d keep torn cut) S rs false lf st o := by
  have e : (crashD d keep torn cut).safe = d.safe := by simp [crashD, h.waits, keepW]
  exact ⟨rfl, rfl, crashD_ok h.ok _ _ _, by rw [e]; exact h.len, rfl, h.left, h.steps, h.br, by rw [e]; exact h.log, by rw [e]; exact h.alw⟩
/-- A Commit for which there is no room. -/
theorem commit_full {d : Dv} {S : Sg} {r : List UInt8} (hb : S.br = false) (hr : r.length ≤ 1048576) (hf : ¬ S.log.length + (recd r).length ≤ 64 * (d.safe.length - 2)) : commitD d S r = ((d, S), 15) := by
  unfold commitD; rw [hb, if_neg (by decide), if_pos hr, if_neg hf]
theorem commit_broken {d : Dv} {S : Sg} {r : List UInt8} (hb : S.br = true) : commitD d S r = ((d, S), 13) := by
  unfold commitD; rw [if_pos hb]
/-- A Commit for which there is room: it goes well, or power goes; then a crash leaves the log as it was, or with the record. -/
theorem commit_rdy {n : Nat} {d : Dv} {S : Sg} {rs : Secs} {ar : Bool} {lf st : Nat} {m0 : Mk} {r : List UInt8} (h : Rdy n d S rs ar lf st (packM m0)) (h0 : m0.Ok) (hn : n ≤ 4096) (hr : r.length ≤ 1048576) (hfit : S.log.length + (recd r).length ≤ 64 * (n - 2)) (hep : S.m.ep < 1099511627776) (hct : S.m.ct < 1099511627776) :
    (nextM S.m (recd r)).Ok ∧
    ((∃ d', commitD d S r = ((d', ⟨nextM S.m (recd r), S.log ++ recd r, false⟩), 0) ∧ Rdy n d' ⟨nextM S.m (recd r), S.log ++ recd r, false⟩ (rs ++ [r]) ar lf (st + 8192) (packM S.m)) ∨
     (ar = true ∧ ∃ d', commitD d S r = ((d', { S with br := true }), 14) ∧ d'.on = false ∧ d'.Ok ∧ d'.safe.length = n ∧ d'.steps ≤ st + 8192 ∧ d'.left ≤ lf ∧ d'.waits.length ≤ 8192 ∧
      ∀ keep torn cut, ∃ o, Rdy n (crashD d' keep torn cut) S rs false lf (st + 8192) o ∨ Rdy n (crashD d' keep torn cut) ⟨nextM S.m (recd r), S.log ++ recd r, false⟩ (rs ++ [r]) false lf (st + 8192) o)) := by
  have hlen := h.len
  have hl3 := h.log.len
  have hfit' : S.log.length + (recd r).length ≤ 64 * (d.safe.length - 2) := by rw [hlen]; exact hfit
  have hnx : (nextM S.m (recd r)).Ok := by
    have := h.log.sz
    refine ⟨?_, ?_, ?_⟩ <;> simp only [nextM] <;> omega
  refine ⟨hnx, ?_⟩
  have hacts := actsC_fit (L := S.log) (rc := recd r) (m := nextM S.m (recd r)) (n := d.safe.length) hfit' (by omega)
  have hal : (actsC S.log (recd r) (nextM S.m (recd r))).length ≤ 8192 := by
    simp only [actsC, List.length_append, List.length_map, secsM_len, List.length_cons, List.length_nil]; omega
  have hst : d.st = (d.safe, []) := by rw [Dv.st, h.waits]
  have hok := runD_ok (actsC S.log (recd r) (nextM S.m (recd r))) h.ok
  have hln := runD_len (actsC S.log (recd r) (nextM S.m (recd r))) d
  have hcd : commitD d S r = if (runD d (actsC S.log (recd r) (nextM S.m (recd r)))).2 = 0 then (((runD d (actsC S.log (recd r) (nextM S.m (recd r)))).1, ⟨nextM S.m (recd r), S.log ++ recd r, false⟩), 0)
      else (((runD d (actsC S.log (recd r) (nextM S.m (recd r)))).1, { S with br := true }), (runD d (actsC S.log (recd r) (nextM S.m (recd r)))).2) := by
    unfold commitD; rw [h.br, if_neg (by decide), if_pos hr, if_pos hfit']
  rcases runD_cases (actsC S.log (recd r) (nextM S.m (recd r))) h.on hacts with ⟨g1, g2, g3, g4, g5, g6⟩ | ⟨g1, ⟨pre, a, post, e1, g2⟩, g3, g4, g5, g6⟩
  · left
    rw [hcd, if_pos g1]
    rw [hst, effs_actsC] at g2
    obtain ⟨s1, s2⟩ := Prod.mk.inj g2
    obtain ⟨c1, c2⟩ := commit_done h.log h.alw hr hfit' hnx
    refine ⟨_, rfl, ⟨g3, s2, hok, by rw [hln]; exact hlen, by rw [g4]; exact h.armed, Nat.le_trans g6 h.left, by have := h.steps; omega, rfl, ?_, ?_⟩⟩
    · show LogIs _ _ _ _
      rw [s1]; exact c1
    · show Alw _ _ _
      rw [s1]; exact c2
  · right
    refine ⟨by rw [← h.armed]; exact g4, _, by rw [hcd, if_neg (by rw [g1]; decide), g1], g3, hok, by rw [hln]; exact hlen, by have := h.steps; omega, Nat.le_trans g6 h.left, ?_, fun keep torn cut => ?_⟩
    · have s2 := congrArg (fun x => x.2.length) g2
      simp only [Dv.st, h.waits] at s2
      rw [s2]
      rcases cut_actsC d.safe S.log (recd r) (nextM S.m (recd r)) e1 with ⟨u, v, e, hu⟩ | e
      · rw [e]
        have := congrArg List.length hu
        rw [secsM_len, List.length_append] at this
        simp only; omega
      · rw [e]; simp
    · rw [hst] at g2
      obtain ⟨o, hc⟩ := commit_crash h.log h.alw h0 hr hfit' hnx e1 keep torn (cutD cut) (cutD_le cut)
      have s1 := congrArg Prod.fst g2
      have s2 := congrArg Prod.snd g2
      simp only [Dv.st] at s1 s2
      have es : (crashD (runD d (actsC S.log (recd r) (nextM S.m (recd r)))).1 keep torn cut).safe = keepW keep torn (cutD cut) 0 (cutA (effs (d.safe, []) pre) a).2 (cutA (effs (d.safe, []) pre) a).1 := by
        simp only [crashD]; rw [s1, s2]
      have hck := crashD_ok hok keep torn cut
      have hcl := crashD_len hok keep torn cut
      refine ⟨o, hc.imp (fun q => ⟨rfl, rfl, hck, by rw [hcl, hln]; exact hlen, rfl, Nat.le_trans g6 h.left, by show _ ≤ _; have := h.steps; simp only [crashD]; omega, h.br, by rw [es]; exact q.1, by rw [es]; exact q.2⟩) (fun q => ⟨rfl, rfl, hck, by rw [hcl, hln]; exact hlen, rfl, Nat.le_trans g6 h.left, by show _ ≤ _; have := h.steps; simp only [crashD]; omega, rfl, ?_, ?_⟩)⟩
      · show LogIs _ _ _ _
        rw [es]; exact q.1
      · show Alw _ _ _
        rw [es]; exact q.2
/-- A Commit over a device that is not armed goes well, whatever stands in the elder mark's sector. -/
theorem commit_calm {n : Nat} {d : Dv} {S : Sg} {rs : Secs} {lf st : Nat} {o : List UInt8} {r : List UInt8} (h : Rdy n d S rs false lf st o) (hn : n ≤ 4096) (hr : r.length ≤ 1048576) (hfit : S.log.length + (recd r).length ≤ 64 * (n - 2)) (hep : S.m.ep < 1099511627776) (hct : S.m.ct < 1099511627776) :
    ∃ d', commitD d S r = ((d', ⟨nextM S.m (recd r), S.log ++ recd r, false⟩), 0) ∧ Rdy n d' ⟨nextM S.m (recd r), S.log ++ recd r, false⟩ (rs ++ [r]) false lf (st + 8192) (packM S.m) := by
  have hlen := h.len
  have hl3 := h.log.len
  have hfit' : S.log.length + (recd r).length ≤ 64 * (d.safe.length - 2) := by rw [hlen]; exact hfit
  have hnx : (nextM S.m (recd r)).Ok := by
    have := h.log.sz
    refine ⟨?_, ?_, ?_⟩ <;> simp only [nextM] <;> omega
  have hacts := actsC_fit (L := S.log) (rc := recd r) (m := nextM S.m (recd r)) (n := d.safe.length) hfit' (by omega)
  have hal : (actsC S.log (recd r) (nextM S.m (recd r))).length ≤ 8192 := by
    simp only [actsC, List.length_append, List.length_map, secsM_len, List.length_cons, List.length_nil]; omega
  have hst : d.st = (d.safe, []) := by rw [Dv.st, h.waits]
  have hok := runD_ok (actsC S.log (recd r) (nextM S.m (recd r))) h.ok
  have hln := runD_len (actsC S.log (recd r) (nextM S.m (recd r))) d
  rcases runD_cases (actsC S.log (recd r) (nextM S.m (recd r))) h.on hacts with ⟨g1, g2, g3, g4, g5, g6⟩ | ⟨g1, _, g3, g4, g5, g6⟩
  · rw [hst, effs_actsC] at g2
    obtain ⟨s1, s2⟩ := Prod.mk.inj g2
    obtain ⟨c1, c2⟩ := commit_done h.log h.alw hr hfit' hnx
    refine ⟨_, by unfold commitD; rw [h.br, if_neg (by decide), if_pos hr, if_pos hfit', if_pos g1], ⟨g3, s2, hok, by rw [hln]; exact hlen, by rw [g4]; exact h.armed, Nat.le_trans g6 h.left, by have := h.steps; omega, rfl, ?_, ?_⟩⟩
    · show LogIs _ _ _ _
      rw [s1]; exact c1
    · show Alw _ _ _
      rw [s1]; exact c2
  · rw [h.armed] at g4; cases g4
end Go.Proofs.YtnpoohkklfpmdaaGreat
