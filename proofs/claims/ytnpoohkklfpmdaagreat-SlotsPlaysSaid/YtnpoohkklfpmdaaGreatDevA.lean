/- A device, as plain data: what its calls make of it. It hangs on no program. -/
import Derived.Test.YtnpoohkklfpmdaaGreatBase
import Derived.Test.YtnpoohkklfpmdaaGreatFr
import Derived.Test.YtnpoohkklfpmdaaGreatKit
namespace Go.Proofs.YtnpoohkklfpmdaaGreat
open Go.RowKit
/-- A device: what is safe, what waits, is there power, is it armed, how many steps are left, how many have happened. -/
structure Dv where
  safe : List (List UInt8)
  waits : List (Nat × List UInt8)
  on : Bool
  armed : Bool
  left : Nat
  steps : Nat
def zsec : List UInt8 := List.replicate 64 0
def newD (n : Nat) : Dv := ⟨List.replicate n zsec, [], true, false, 0, 0⟩
/-- What is waiting for a sector last, or else what is safe. -/
def lastW (ws : List (Nat × List UInt8)) (k : Nat) (s : List UInt8) : List UInt8 := ws.foldl (fun s w => if w.1 = k then w.2 else s) s
/-- Is there such a sector? -/
def Dv.has (d : Dv) (k : Int) : Bool := decide (0 ≤ k) && decide (k < d.safe.length)
def readD (d : Dv) (k : Int) : List UInt8 × Int :=
  if d.on then if d.has k then (lastW d.waits k.toNat (d.safe.getD k.toNat []), 0) else ([], 1) else ([], 14)
def stepD (d : Dv) : Dv × Int :=
  if d.armed then if d.left = 0 then ({ d with on := false }, 14) else ({ d with left := d.left - 1, steps := d.steps + 1 }, 0) else ({ d with steps := d.steps + 1 }, 0)
def writeD (d : Dv) (k : Int) (s : List UInt8) : Dv × Int :=
  if d.on then if d.has k && decide (s.length = 64) then ({ (stepD d).1 with waits := d.waits ++ [(k.toNat, s)] }, (stepD d).2) else (d, 1) else (d, 14)
def layW (safe : List (List UInt8)) (ws : List (Nat × List UInt8)) : List (List UInt8) := ws.foldl (fun s w => s.set w.1 w.2) safe
def flushD (d : Dv) : Dv × Int :=
  if d.on then if (stepD d).2 = 0 then ({ (stepD d).1 with safe := layW d.safe d.waits, waits := [] }, 0) else stepD d else (d, 14)
def armD (d : Dv) (n : Int) : Dv := { d with armed := true, left := n.toNat }
/-- How many bytes of a torn sector are kept. -/
def cutD (c : Int) : Nat := if c < 0 then 0 else if 64 < c then 64 else c.toNat
/-- What a crash keeps: i is the number of the first of ws. -/
def keepW (keep : List Bool) (torn : Int) (cut : Nat) : Nat → List (Nat × List UInt8) → List (List UInt8) → List (List UInt8)
  | _, [], s => s
  | i, w :: ws, s => keepW keep torn cut (i + 1) ws (if keep.getD i false then s.set w.1 (if (i : Int) = torn then w.2.take cut ++ (s.getD w.1 []).drop cut else w.2) else s)
def crashD (d : Dv) (keep : List Bool) (torn cut : Int) : Dv := { d with safe := keepW keep torn (cutD cut) 0 d.waits d.safe, waits := [], on := true, armed := false }
def safeD (d : Dv) (k : Int) : List UInt8 := if d.has k then d.safe.getD k.toNat [] else []
/-- As devices are: sectors of 64 bytes, and what waits is for sectors that there are. -/
structure Dv.Ok (d : Dv) : Prop where
  safe : ∀ s ∈ d.safe, s.length = 64
  waits : ∀ w ∈ d.waits, w.1 < d.safe.length ∧ w.2.length = 64
theorem newD_ok (n : Nat) : (newD n).Ok := ⟨fun s hs => by rw [(List.mem_replicate.1 hs).2]; rfl, fun w hw => by cases hw⟩
theorem stepD_safe (d : Dv) : (stepD d).1.safe = d.safe := by unfold stepD; split <;> (try split) <;> rfl
theorem stepD_waits (d : Dv) : (stepD d).1.waits = d.waits := by unfold stepD; split <;> (try split) <;> rfl
theorem stepD_ok {d : Dv} (h : d.Ok) : (stepD d).1.Ok := ⟨by rw [stepD_safe]; exact h.safe, by rw [stepD_waits, stepD_safe]; exact h.waits⟩
theorem stepD_steps (d : Dv) : (stepD d).1.steps ≤ d.steps + 1 := by
  unfold stepD; split <;> (try split) <;> simp
theorem stepD_left (d : Dv) : (stepD d).1.left ≤ d.left := by
  unfold stepD; split <;> (try split) <;> simp
theorem Dv.has_lt {d : Dv} {k : Int} (h : d.has k = true) : 0 ≤ k ∧ k.toNat < d.safe.length := by
  simp [Dv.has] at h; omega
theorem writeD_ok {d : Dv} (h : d.Ok) (k : Int) (s : List UInt8) : (writeD d k s).1.Ok := by
  unfold writeD
  split
  · split
    · rename_i hk
      simp at hk
      have hl := Dv.has_lt hk.1
      refine ⟨by rw [show (Dv.mk (stepD d).1.safe _ _ _ _ _).safe = _ from rfl]; exact (stepD_ok h).safe, fun w hw => ?_⟩
      simp only at hw ⊢
      rw [stepD_safe]
      rcases List.mem_append.1 hw with h1 | h1
      · exact h.waits w h1
      · rw [List.mem_singleton.1 h1]; exact ⟨hl.2, hk.2⟩
    · exact h
  · exact h
theorem layW_len (ws : List (Nat × List UInt8)) : ∀ s, (layW s ws).length = s.length := by
  induction ws with
  | nil => exact fun s => rfl
  | cons w ws ih => intro s; show (layW (s.set w.1 w.2) ws).length = _; rw [ih]; simp
theorem layW_mem (ws : List (Nat × List UInt8)) : ∀ s, (∀ x ∈ s, x.length = 64) → (∀ w ∈ ws, w.2.length = 64) → ∀ x ∈ layW s ws, x.length = 64 := by
  induction ws with
  | nil => exact fun s h _ => h
  | cons w ws ih =>
    intro s h hw
    refine ih (s.set w.1 w.2) (fun x hx => ?_) fun y hy => hw y (List.mem_cons_of_mem _ hy)
    rcases List.mem_or_eq_of_mem_set hx with h1 | h1
    · exact h x h1
    · rw [h1]; exact hw w List.mem_cons_self
theorem layW_take (s : List (List UInt8)) (ws : List (Nat × List UInt8)) (k : Nat) (w : Nat × List UInt8) (h : ws[k]? = some w) : layW s (ws.take (k + 1)) = (layW s (ws.take k)).set w.1 w.2 := by
  rw [List.take_add_one, h]; simp [layW]
theorem lastW_take (ws : List (Nat × List UInt8)) (j k : Nat) (s : List UInt8) (w : Nat × List UInt8) (h : ws[k]? = some w) : lastW (ws.take (k + 1)) j s = if w.1 = j then w.2 else lastW (ws.take k) j s := by
  rw [List.take_add_one, h]; simp [lastW]
theorem flushD_ok {d : Dv} (h : d.Ok) : (flushD d).1.Ok := by
  unfold flushD
  split
  · split
    · exact ⟨layW_mem _ _ h.safe fun w hw => (h.waits w hw).2, fun w hw => by cases hw⟩
    · exact stepD_ok h
  · exact h
theorem armD_ok {d : Dv} (h : d.Ok) (n : Int) : (armD d n).Ok := ⟨h.safe, h.waits⟩
theorem cutD_le (c : Int) : cutD c ≤ 64 := by unfold cutD; split <;> (try split) <;> omega
/-- One that waits, at a crash. -/
def keep1 (keep : List Bool) (torn : Int) (cut i : Nat) (w : Nat × List UInt8) (s : List (List UInt8)) : List (List UInt8) := if keep.getD i false then s.set w.1 (if (i : Int) = torn then w.2.take cut ++ (s.getD w.1 []).drop cut else w.2) else s
theorem keep1_len (keep : List Bool) (torn : Int) (cut i : Nat) (w : Nat × List UInt8) (s : List (List UInt8)) : (keep1 keep torn cut i w s).length = s.length := by
  unfold keep1; split <;> simp
theorem keep1_mem {keep : List Bool} {torn : Int} {cut i : Nat} {w : Nat × List UInt8} {s : List (List UInt8)} (hc : cut ≤ 64) (hw : w.1 < s.length ∧ w.2.length = 64) (h : ∀ x ∈ s, x.length = 64) : ∀ x ∈ keep1 keep torn cut i w s, x.length = 64 := by
  intro x hx
  unfold keep1 at hx
  split at hx
  · rcases List.mem_or_eq_of_mem_set hx with h1 | h1
    · exact h x h1
    · rw [h1]
      split
      · have := h (s[w.1]'hw.1) (List.getElem_mem _)
        simp [List.getD, List.getElem?_eq_getElem hw.1, this, hw.2]; omega
      · exact hw.2
  · exact h x hx
theorem keepW_all {keep : List Bool} {torn : Int} {cut : Nat} (hc : cut ≤ 64) : ∀ (ws : List (Nat × List UInt8)) (i : Nat) (s : List (List UInt8)), (∀ w ∈ ws, w.1 < s.length ∧ w.2.length = 64) → (∀ x ∈ s, x.length = 64) → (keepW keep torn cut i ws s).length = s.length ∧ ∀ x ∈ keepW keep torn cut i ws s, x.length = 64
  | [], _, _, _, h => ⟨rfl, h⟩
  | w :: ws, i, s, hw, h => by
    have h1 := keep1_len keep torn cut i w s
    have := keepW_all (keep := keep) (torn := torn) hc ws (i + 1) (keep1 keep torn cut i w s) (fun y hy => by rw [h1]; exact hw y (List.mem_cons_of_mem _ hy)) (keep1_mem hc (hw w List.mem_cons_self) h)
    rw [h1] at this
    exact this
theorem crashD_len {d : Dv} (h : d.Ok) (keep : List Bool) (torn cut : Int) : (crashD d keep torn cut).safe.length = d.safe.length := (keepW_all (cutD_le cut) _ 0 _ h.waits h.safe).1
theorem crashD_ok {d : Dv} (h : d.Ok) (keep : List Bool) (torn cut : Int) : (crashD d keep torn cut).Ok := ⟨(keepW_all (cutD_le cut) _ 0 _ h.waits h.safe).2, fun w hw => by cases hw⟩
/-- What a crash has kept behind the first k that waited. -/
theorem keepW_take (keep : List Bool) (torn : Int) (cut : Nat) : ∀ (ws : List (Nat × List UInt8)) (i k : Nat) (s : List (List UInt8)) (w : Nat × List UInt8), ws[k]? = some w →
    keepW keep torn cut i (ws.take (k + 1)) s = keep1 keep torn cut (i + k) w (keepW keep torn cut i (ws.take k) s)
  | [], _, k, _, _, h => by simp at h
  | x :: ws, i, 0, s, w, h => by simp at h; subst h; simp [keepW, keep1]
  | x :: ws, i, k + 1, s, w, h => by
    simp only [List.take_succ_cons, keepW]
    rw [keepW_take keep torn cut ws (i + 1) k _ w (by simpa using h)]
    rw [show i + 1 + k = i + (k + 1) from by omega]
/-- What waits, as cells. -/
def wrs (ws : List (Nat × List UInt8)) : List Value := ws.flatMap fun w => [.int .i64 (w.1 : Nat), .string ⟨w.2.toArray⟩]
theorem wrs_snoc (ws : List (Nat × List UInt8)) (k : Nat) (s : List UInt8) : wrs ws ++ [.int .i64 (k : Nat), .string ⟨s.toArray⟩] = wrs (ws ++ [(k, s)]) := by simp [wrs]
theorem wrs_len (ws : List (Nat × List UInt8)) : (wrs ws).length = ws.length * 2 := by
  induction ws with
  | nil => rfl
  | cons w ws ih => simp only [wrs, List.flatMap_cons, List.length_append, List.length_cons, List.length_nil] at ih ⊢; omega
theorem wrs_at (ws : List (Nat × List UInt8)) : ∀ (k : Nat) (w : Nat × List UInt8), ws[k]? = some w → (wrs ws)[k * 2]? = some (.int .i64 (w.1 : Nat)) ∧ (wrs ws)[k * 2 + 1]? = some (.string ⟨w.2.toArray⟩) := by
  induction ws with
  | nil => intro k w h; simp at h
  | cons x ws ih =>
    intro k w h
    cases k with
    | zero => (simp at h; subst h; exact ⟨rfl, rfl⟩)
    | succ k =>
      have := ih k w (by simpa using h)
      rw [show (k + 1) * 2 = k * 2 + 2 from by omega]
      simp only [wrs, List.flatMap_cons] at this ⊢
      rw [List.getElem?_append_right (by simp), List.getElem?_append_right (by simp)]
      simpa using this
end Go.Proofs.YtnpoohkklfpmdaaGreat
