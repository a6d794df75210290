/- The walk of SlotsTorn, over whatever keeps to the interface. -/
import Derived.Test.YtnpoohkklfpmdaaRows
import Derived.WalkKit
import Derived.Below
import Derived.ProofKit
import Derived.OpenShut
import Derived.ShutString
import Derived.ChangeOld
import Derived.Outline
import Derived.RegionTactic
import Derived.ChangeAlike
import Derived.BigRegion
import Derived.BigQuiet
import Derived.Deep.QuietTactic
import Derived.Deep.RegionWith
import Derived.Deep.RegionLaw
import Derived.Deep.RegionHeld3
import Derived.Deep.AppendLies
import Derived.Deep.Draws
import Derived.StillTailTactics
import Derived.Lib.Hide
import Derived.Lib.SmallJoins
import Derived.Handy
import Derived.WalkSpells
import Derived.WalkLawsBesides
import Derived.Deep.LoopGhost
import Derived.Deep.DeepCutAuto
import Derived.Deep.CutBlock
import Derived.Deep.CutRange
import Derived.Deep.OwnRows
import Derived.Laws.CopyOwn
import Derived.Great.BuildSlice
import Derived.Test.YtnpoohkklfpmdaaSlW
import Derived.Test.YtnpoohkklfpmdaaBitsLow
namespace Go.Proofs.Ytnpoohkklfpmdaa.slotsTorn
open Go.RowKit
set_option linter.unusedSimpArgs false
set_option linter.unusedVariables false
set_option linter.unnecessarySimpa false
attribute [local go_sem] idx_list ext_list app_list
theorem mkV_eq (m n : Mk) : (mkV m = mkV n) ↔ m = n := by
  constructor
  · intro h
    obtain ⟨a, b, c⟩ := m
    obtain ⟨a', b', c'⟩ := n
    simp [mkV] at h
    simp; omega
  · rintro rfl; rfl
section
variable {PD : World → List Nat → Nat → Dv → Prop} {PO : World → List Nat → Nat → Nat → Nat → Sg → Prop} (I : Iface0 PD) (J : Iface7 PD PO)
include I J
set_option maxHeartbeats 4000000 in
theorem walk (a0 a1 a2 b0 b1 b2 z : Int) (W : World) : Calls Try.prog 3 #[.agg #[.int .i64 a0, .int .i64 a1, .int .i64 a2], .agg #[.int .i64 b0, .int .i64 b1, .int .i64 b2], .int .i64 z] W fun e w' => e = .returned (.bool true) ∧ Below W.heap.size W w' := by
  obtain ⟨x0, hx0⟩ : ∃ k : Nat, a0 % 1099511627776 = (k : Int) := ⟨(a0 % 1099511627776).toNat, by omega⟩
  obtain ⟨x1, hx1⟩ : ∃ k : Nat, a1 % 1099511627776 = (k : Int) := ⟨(a1 % 1099511627776).toNat, by omega⟩
  obtain ⟨x2, hx2⟩ : ∃ k : Nat, a2 % 1099511627776 = (k : Int) := ⟨(a2 % 1099511627776).toNat, by omega⟩
  obtain ⟨y0, hy0⟩ : ∃ k : Nat, b0 % 1099511627776 = (k : Int) := ⟨(b0 % 1099511627776).toNat, by omega⟩
  obtain ⟨y1, hy1⟩ : ∃ k : Nat, b1 % 1099511627776 = (k : Int) := ⟨(b1 % 1099511627776).toNat, by omega⟩
  obtain ⟨y2, hy2⟩ : ∃ k : Nat, b2 % 1099511627776 = (k : Int) := ⟨(b2 % 1099511627776).toNat, by omega⟩
  obtain ⟨k, hk⟩ : ∃ k : Nat, z % 64 = (k : Int) := ⟨(z % 64).toNat, by omega⟩
  have ea0 : bits .and .i64 a0 1099511627775 = (x0 : Int) := by rw [and40, hx0]
  have ea1 : bits .and .i64 a1 1099511627775 = (x1 : Int) := by rw [and40, hx1]
  have ea2 : bits .and .i64 a2 1099511627775 = (x2 : Int) := by rw [and40, hx2]
  have eb0 : bits .and .i64 b0 1099511627775 = (y0 : Int) := by rw [and40, hy0]
  have eb1 : bits .and .i64 b1 1099511627775 = (y1 : Int) := by rw [and40, hy1]
  have eb2 : bits .and .i64 b2 1099511627775 = (y2 : Int) := by rw [and40, hy2]
  have ez : bits .and .i64 z 63 = (k : Int) := by rw [and63, hk]
  have k64 : k < 64 := by omega
  have X : (⟨x0, x1, x2⟩ : Mk).Ok := ⟨by simp only; omega, by simp only; omega, by simp only; omega⟩
  have Y : (⟨y0, y1, y2⟩ : Mk).Ok := ⟨by simp only; omega, by simp only; omega, by simp only; omega⟩
  clear hx0 hx1 hx2 hy0 hy1 hy2 hk
  obtain ⟨wb, hwb⟩ : ∃ wb, wb = (W.alloc (.cells #[.int .i64 a0, .int .i64 a1, .int .i64 a2] 23)).alloc (.cells #[.int .i64 b0, .int .i64 b1, .int .i64 b2] 23) := ⟨_, rfl⟩
  have bb : Below W.heap.size W wb := by rw [hwb]; exact ((Below.refl _ _).alloc (Nat.le_refl _) _).alloc (by simp) _
  have q0 : Rw wb W.heap.size [.int .i64 a0, .int .i64 a1, .int .i64 a2] 23 := by rw [hwb]; exact (Rw.new W _ _).alloc _
  have q1 : Rw wb (W.heap.size + 1) [.int .i64 b0, .int .i64 b1, .int .i64 b2] 23 := by
    have := Rw.new (W.alloc (.cells #[.int .i64 a0, .int .i64 a1, .int .i64 a2] 23)) [.int .i64 b0, .int .i64 b1, .int .i64 b2] 23
    rw [hwb]; simpa using this
  go_enter Try.func3, Try.ntmps3
  go_wp2_with fail
  rw [← hwb]
  refine (awake7_any I J wb).mono ?_
  rintro e w1 ⟨rfl, g1⟩
  have r0 := q0.below g1
  have r1 := q1.below g1
  have b1' := bb.trans (g1.mono bb.size)
  have A0 := r0.c 0 rfl
  have A1 := r0.c 1 rfl
  have A2 := r0.c 2 rfl
  have B0 := r1.c 0 rfl
  have B1 := r1.c 1 rfl
  have B2 := r1.c 2 rfl
  have l0 := r0.lt
  have l1 := r1.lt
  clear hwb q0 q1 g1 bb r0 r1
  by_cases he : x0 = y0
  · subst he
    go_wp2
    go_ret
    exact ⟨rfl, (b1'.alloc b1'.size _).alloc (by simp; have := b1'.size; omega) _⟩
  · have he2 : ((x0 : Int) == (y0 : Int)) = false := by simp; omega
    obtain ⟨P, hP⟩ : ∃ P, P = packM ⟨x0, x1, x2⟩ := ⟨_, rfl⟩
    obtain ⟨Q, hQ⟩ : ∃ Q, Q = packM ⟨y0, y1, y2⟩ := ⟨_, rfl⟩
    have lP : (P.length : Int) = 64 := by rw [hP, packM_len]; rfl
    have lQ : (Q.length : Int) = 64 := by rw [hQ, packM_len]; rfl
    obtain ⟨mx, hmx⟩ : ∃ mx, mx = P.take k ++ Q.drop k := ⟨_, rfl⟩
    obtain ⟨u, b, hub, hcase⟩ : ∃ (u : Mk) (b : Bool), (mkO mx = u ∧ (unpackM mx).isSome = b) ∧ (b = false ∨ u = ⟨x0, x1, x2⟩ ∨ u = ⟨y0, y1, y2⟩) := by
      refine ⟨_, _, ⟨rfl, rfl⟩, ?_⟩
      cases hu : unpackM mx with
      | none => exact .inl rfl
      | some v =>
        right
        rw [hmx, hP, hQ] at hu
        have := torn_mark X Y he (by omega) hu
        have e : mkO mx = v := by rw [mkO, hmx, hP, hQ, hu]; rfl
        rwa [e]
    have hun : ∀ w, Calls Try.prog 10 #[.string ⟨mx.toArray⟩] w fun e w' => e = .returned (.tuple #[.agg #[.int .i64 (u.ep : Nat), .int .i64 (u.sz : Nat), .int .i64 (u.ct : Nat)], .bool b]) ∧ Below w.heap.size w w' := by
      intro w
      refine (J.unpack mx w (by rw [hmx, List.length_append, List.length_take, List.length_drop]; omega)).mono ?_
      rw [hub.1, hub.2]
      exact fun e w' h => h
    obtain ⟨w2, hw2⟩ : ∃ w2, w2 = (w1.alloc (.cells #[.int .i64 (x0 : Nat), .int .i64 (x1 : Nat), .int .i64 (x2 : Nat)] 23)).alloc (.cells #[.int .i64 (y0 : Nat), .int .i64 (y1 : Nat), .int .i64 (y2 : Nat)] 23) := ⟨_, rfl⟩
    have b2' : Below W.heap.size W w2 := by rw [hw2]; exact (b1'.alloc b1'.size _).alloc (by simp; have := b1'.size; omega) _
    have rX : Rw w2 w1.heap.size [.int .i64 (x0 : Nat), .int .i64 (x1 : Nat), .int .i64 (x2 : Nat)] 23 := by rw [hw2]; exact (Rw.new w1 _ _).alloc _
    have rY : Rw w2 (w1.heap.size + 1) [.int .i64 (y0 : Nat), .int .i64 (y1 : Nat), .int .i64 (y2 : Nat)] 23 := by
      have := Rw.new (w1.alloc (.cells #[.int .i64 (x0 : Nat), .int .i64 (x1 : Nat), .int .i64 (x2 : Nat)] 23)) [.int .i64 (y0 : Nat), .int .i64 (y1 : Nat), .int .i64 (y2 : Nat)] 23
      rw [hw2]; simpa using this
    have hp1 : ∀ w, Calls Try.prog 9 #[.agg #[.int .i64 (x0 : Nat), .int .i64 (x1 : Nat), .int .i64 (x2 : Nat)]] w fun e w' => e = .returned (.string ⟨P.toArray⟩) ∧ Below w.heap.size w w' := by
      intro w; rw [hP]; exact J.pack ⟨x0, x1, x2⟩ w (by have := X.1; simp only at this ⊢; omega) (by have := X.2.1; simp only at this ⊢; omega) (by have := X.2.2; simp only at this ⊢; omega)
    have hp2 : ∀ w, Calls Try.prog 9 #[.agg #[.int .i64 (y0 : Nat), .int .i64 (y1 : Nat), .int .i64 (y2 : Nat)]] w fun e w' => e = .returned (.string ⟨Q.toArray⟩) ∧ Below w.heap.size w w' := by
      intro w; rw [hQ]; exact J.pack ⟨y0, y1, y2⟩ w (by have := Y.1; simp only at this ⊢; omega) (by have := Y.2.1; simp only at this ⊢; omega) (by have := Y.2.2; simp only at this ⊢; omega)
    have HP1 := Lib.hid hp1
    have HP2 := Lib.hid hp2
    have HUN := Lib.hid hun
    have HMX := Lib.hid hmx
    clear hub hp1 hp2 hun hmx hP hQ X Y
    go_wp2_with fail
    rw [← hw2]
    clear hw2 A0 A1 A2 B0 B1 B2 l0 l1 b1'
    refine (HP1.out w2).mono ?_
    rintro e w3 ⟨rfl, g3⟩
    have b3 := b2'.trans (g3.mono b2'.size)
    have rX3 := rX.below g3
    have rY3 := rY.below g3
    have y0' := rY3.c 0 rfl
    have y1' := rY3.c 1 rfl
    have y2' := rY3.c 2 rfl
    clear rX rY g3 b2'
    go_wp2_with fail
    refine (HP2.out w3).mono ?_
    rintro e w4 ⟨rfl, g4⟩
    have b4 := b3.trans (g4.mono b3.size)
    have rX4 := rX3.below g4
    have rY4 := rY3.below g4
    clear rX3 rY3 g4 b3 y0' y1' y2'
    have kI : (k : Int) ≤ 64 := by omega
    go_wp2_with fail
    obtain ⟨b1, hb1⟩ : ∃ b1, b1 = w1.heap.size := ⟨_, rfl⟩
    obtain ⟨b0, hb0⟩ : ∃ b0, b0 = W.heap.size := ⟨_, rfl⟩
    rw [← hb1] at rX4 rY4
    have BX := Lib.hid b4
    clear b4
    go_cut [13, 14] (fun t13 t14 w' => ∃ g, t13 = .pointer (some ⟨g, 0, none⟩) ∧ t14 = .bool b ∧ Rw w' g [.int .i64 (u.ep : Nat), .int .i64 (u.sz : Nat), .int .i64 (u.ct : Nat)] 23 ∧ Below w4.heap.size w4 w')
    case first =>
      have HUM := Lib.hid (fun w => by have := HUN.out w; rw [HMX.out] at this; exact this)
      obtain ⟨O, hO⟩ : ∃ O, O = Obj.cells #[.int .i64 0, .int .i64 0, .int .i64 0] 23 := ⟨_, rfl⟩
      have hsum : ¬ (9223372036854775807 < min k P.length + (Q.length - k)) := by omega
      have hsum2 : min k P.length + (Q.length - k) ≤ 9223372036854775807 := by omega
      go_region_with (first
        | (go_at_call 10; refine (HUM.out _).mono ?_; rintro e w8 ⟨rfl, g8'⟩; have g8 := below_undrew g8'; have r8 := (Rw.new w4 [.int .i64 0, .int .i64 0, .int .i64 0] 23).below g8; have c80 := r8.c 0 rfl; have c81 := r8.c 1 rfl; have c82 := r8.c 2 rfl; have f80 := r8.f 0; have f81 := r8.f 1; have f82 := r8.f 2)
        | (go_at_call 10; refine (HUM.out _).mono ?_; rintro e w8 ⟨rfl, g8'⟩; have g8 := below_undrew g8'))
      all_goals
        go_wp2
        go_meet
        case rel => first
          | exact ⟨_, rfl, rfl, Rw.new w8 _ _, g8.alloc g8.size _⟩
          | exact ⟨_, rfl, rfl, ((r8.set 0 _).set 1 _).set 2 _, (((((Below.refl _ w4).alloc (Nat.le_refl _) _).trans (g8.mono (by simp))).setCell (Nat.le_refl _) _).setCell (Nat.le_refl _) _).setCell (Nat.le_refl _) _⟩
    case rest =>
    obtain ⟨g, rfl, rfl, rM, bM⟩ := hcut
    apply_assumption
    have rX5 := rX4.below bM
    have rY5 := rY4.below bM
    have m0 := rM.c 0 rfl
    have m1 := rM.c 1 rfl
    have m2 := rM.c 2 rfl
    have x0' := rX5.c 0 rfl
    have x1' := rX5.c 1 rfl
    have x2' := rX5.c 2 rfl
    have y0' := rY5.c 0 rfl
    have y1' := rY5.c 1 rfl
    have y2' := rY5.c 2 rfl
    have B5 := Lib.hid (BX.out.trans (bM.mono BX.out.size))
    rw [hb1] at x0' x1' x2' y0' y1' y2'
    clear rX4 rY4 rX5 rY5 rM bM hb1 hb0
    rcases hcase with rfl | rfl | rfl
    · go_wp2
      go_ret
      exact ⟨rfl, B5.out⟩
    · cases b
      · go_wp2
        go_ret
        exact ⟨rfl, B5.out⟩
      · go_wp2
        go_ret
        exact ⟨rfl, B5.out⟩
    · cases b
      · go_wp2
        go_ret
        exact ⟨rfl, B5.out⟩
      · have he3 : ((y0 : Int) == (x0 : Int)) = false := by simp; omega
        have he4 : ¬ ((y0 : Int) = (x0 : Int)) := by omega
        go_wp2
        go_ret
        exact ⟨rfl, B5.out⟩
end
end Go.Proofs.Ytnpoohkklfpmdaa.slotsTorn
