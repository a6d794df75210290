/- math/bits.Div64: what it tells. -/
import Derived.Test.YtppgpdckaaabeaaRows
import Derived.WalkKit
import Derived.Below
import Derived.ProofKit
import Derived.Outline
import Derived.RegionTactic
import Derived.ChangeAlike
import Derived.BigRegion
import Derived.BigQuiet
import Derived.Deep.QuietTactic
import Derived.Lib.Hide
import Derived.Handy
import Derived.WalkSpells
import Derived.WalkLawsBesides
import Derived.Deep.LoopGhost
import Derived.Deep.DeepCutAuto
import Derived.Deep.CutBlock
import Derived.Deep.CutRange
import Derived.Test.YtppgpdckaaabeaaBits64
import Derived.Test.YtppgpdckaaabeaaDivP
import Derived.Test.YtppgpdckaaabeaaKit
namespace Go.Proofs.Ytppgpdckaaabeaa
open Go.RowKit
set_option linter.unusedSimpArgs false
set_option linter.unusedVariables false
set_option linter.unnecessarySimpa false
set_option maxHeartbeats 1000000 in
set_option maxRecDepth 100000 in
theorem div64_small (lo y : Nat) (w : World) (h : 0 < y) (hlo : lo < 18446744073709551616) (hy : y < 18446744073709551616) :
    Calls Try.prog 41 #[.int .u64 (0 : Nat), .int .u64 (lo : Nat), .int .u64 (y : Nat)] w fun e w' => e = .returned (.tuple #[.int .u64 ((lo / y : Nat) : Int), .int .u64 ((lo % y : Nat) : Int)]) ∧ Below w.heap.size w w' := by
  have h1 : ((y : Int) == 0) = false := by simpa using (show y ≠ 0 by omega)
  have h2 : decide ((y : Int) ≤ ((0 : Nat) : Int)) = false := decide_eq_false (by omega)
  have h3 : (1 : Int) ≤ y := by omega
  obtain ⟨qq, hqq⟩ : ∃ q, q = lo / y := ⟨_, rfl⟩
  obtain ⟨rr, hrr⟩ : ∃ r, r = lo % y := ⟨_, rfl⟩
  have q1 : (lo : Int) / y = (qq : Int) := by rw [hqq]; simp
  have r1 : (lo : Int) % y = (rr : Int) := by rw [hrr]; simp
  have q2 := Nat.div_le_self lo y
  have r2 := Nat.mod_le lo y
  rw [← hqq] at q2
  rw [← hrr] at r2
  rw [← hqq, ← hrr]
  clear hqq hrr
  go_enter Try.func41, Try.ntmps41
  go_wp2
  go_quiet (fail)
  go_wp2
  go_ret2
  exact ⟨by rw [← r1]; rfl, below_drewN (Below.refl _ _) _⟩
theorem wrapN (a : Nat) (h : a < 18446744073709551616) : IntKind.u64.wrap (a : Int) = a := IntWalk.u64_in _ (by omega)
theorem wrap_mod (a : Nat) : IntKind.u64.wrap (a : Int) = ((a % 18446744073709551616 : Nat) : Int) := by
  unfold IntKind.wrap
  simp [IntKind.bits, IntKind.signed]
theorem wrap_pow (a s : Nat) (h : a * 2 ^ s < 18446744073709551616) : IntKind.u64.wrap ((a : Int) * 2 ^ s) = ((a * 2 ^ s : Nat) : Int) := by
  rw [← wrapN _ h]; congr 1 <;> simp
theorem wrap_pow_mod (a s : Nat) : IntKind.u64.wrap ((a : Int) * 2 ^ s) = ((a * 2 ^ s % 18446744073709551616 : Nat) : Int) := by
  rw [← wrap_mod]; congr 1 <;> simp
theorem wrap_mul (a b : Nat) (h : a * b < 18446744073709551616) : IntKind.u64.wrap ((a : Int) * (b : Int)) = ((a * b : Nat) : Int) := by
  rw [← wrapN _ h]; congr 1
theorem wrap_mul_mod (a b : Nat) : IntKind.u64.wrap ((a : Int) * (b : Int)) = ((a * b % 18446744073709551616 : Nat) : Int) := by
  rw [← wrap_mod]; congr 1
theorem and32 (Y : Nat) (h : Y < 18446744073709551616) : bits .and .u64 (Y : Int) 4294967295 = ((Y % 4294967296 : Nat) : Int) := by
  rw [show (4294967295 : Int) = ((4294967295 : Nat) : Int) from rfl, u64_and_nat _ _ h (by decide), show 4294967295 = 2 ^ 32 - 1 from rfl, Nat.and_two_pow_sub_one_eq_mod]
theorem or_low (h r s : Nat) (hr : r < 2 ^ s) (hs : h * 2 ^ s + r < 18446744073709551616) : bits .or .u64 ((h * 2 ^ s : Nat) : Int) (r : Int) = ((h * 2 ^ s + r : Nat) : Int) := by
  rw [u64_or_nat _ _ (by omega) (by omega), Nat.mul_comm, ← Nat.two_pow_add_eq_or_of_lt hr]
theorem wrap_add (a b : Nat) : IntKind.u64.wrap ((a : Int) + (b : Int)) = (((a + b) % 18446744073709551616 : Nat) : Int) := by
  rw [← wrap_mod]; congr 1
theorem wrap_sub (a b : Nat) (hb : b < 18446744073709551616) : IntKind.u64.wrap ((a : Int) - (b : Int)) = (((a + 18446744073709551616 - b) % 18446744073709551616 : Nat) : Int) := by
  unfold IntKind.wrap
  simp [IntKind.bits, IntKind.signed]
  omega
theorem words_aux (A v B R : Nat) (h : A + v = B + R) (hR : R < 18446744073709551616) : ((A % 18446744073709551616 + v) % 18446744073709551616 + 18446744073709551616 - B % 18446744073709551616) % 18446744073709551616 = R := by omega
/-- What the rest is: the words wrap, the rest does not. -/
theorem words_rest (u v Q R Y : Nat) (hQ : Q = (u * 4294967296 + v) / Y) (hR : R = (u * 4294967296 + v) % Y) (hb : R < 18446744073709551616) :
    ∃ A B C : Nat, IntKind.u64.wrap ((u : Int) * 4294967296) = (A : Int) ∧ IntKind.u64.wrap ((A : Int) + v) = (B : Int) ∧ IntKind.u64.wrap ((Q : Int) * Y) = (C : Int) ∧ IntKind.u64.wrap ((B : Int) - C) = (R : Int) := by
  have e : u * 4294967296 + v = Q * Y + R := by rw [hQ, hR, Nat.mul_comm _ Y]; exact (Nat.div_add_mod _ _).symm
  refine ⟨_, _, _, wrap_mul_mod u 4294967296, wrap_add _ _, wrap_mul_mod Q Y, ?_⟩
  rw [wrap_sub _ _ (Nat.mod_lt _ (by decide)), words_aux _ _ _ _ e hb]
set_option maxHeartbeats 1000000 in
set_option maxRecDepth 100000 in
theorem div64_great (hi lo y : Nat) (w : World) (h0 : 0 < hi) (h : hi < y) (hlo : lo < 18446744073709551616) (hy : y < 18446744073709551616) :
    Calls Try.prog 41 #[.int .u64 (hi : Nat), .int .u64 (lo : Nat), .int .u64 (y : Nat)] w fun e w' => e = .returned (.tuple #[.int .u64 (((hi * 18446744073709551616 + lo) / y : Nat) : Int), .int .u64 (((hi * 18446744073709551616 + lo) % y : Nat) : Int)]) ∧ Below w.heap.size w w' := by
  have h1 : ((y : Int) == 0) = false := by simpa using (show y ≠ 0 by omega)
  have h2 : decide ((y : Int) ≤ (hi : Int)) = false := decide_eq_false (by omega)
  have h3 : ((hi : Int) == 0) = false := by simpa using (show hi ≠ 0 by omega)
  obtain ⟨s, hs, hl, hu, hc⟩ := lzN y (by omega) hy w
  obtain ⟨qq, hqq⟩ : ∃ q, q = (hi * 18446744073709551616 + lo) / y := ⟨_, rfl⟩
  obtain ⟨rr, hrr⟩ : ∃ r, r = (hi * 18446744073709551616 + lo) % y := ⟨_, rfl⟩
  rw [← hqq, ← hrr]
  have HQQ := Lib.hid hqq
  have HRR := Lib.hid hrr
  clear hqq hrr
  have hS := shift_two hi lo s hs hlo
  have hSh := shifted (hi * 18446744073709551616 + lo) y s
  obtain ⟨Y, hY⟩ : ∃ Y, Y = y * 2 ^ s := ⟨_, rfl⟩
  obtain ⟨y1, hy1⟩ : ∃ a, a = Y / 4294967296 := ⟨_, rfl⟩
  obtain ⟨y0, hy0⟩ : ∃ a, a = Y % 4294967296 := ⟨_, rfl⟩
  obtain ⟨l, hlD⟩ : ∃ a, a = lo / 2 ^ (64 - s) := ⟨_, rfl⟩
  obtain ⟨u, hU⟩ : ∃ a, a = hi * 2 ^ s + l := ⟨_, rfl⟩
  obtain ⟨V, hV⟩ : ∃ a, a = lo * 2 ^ s % 18446744073709551616 := ⟨_, rfl⟩
  obtain ⟨v1, hv1⟩ : ∃ a, a = V / 4294967296 := ⟨_, rfl⟩
  obtain ⟨v0, hv0⟩ : ∃ a, a = V % 4294967296 := ⟨_, rfl⟩
  rw [← hY] at hl hu hSh
  rw [← hlD] at hS
  rw [← hU, ← hV] at hS
  obtain ⟨hS1, hS2, _⟩ := hS
  rw [hS1] at hSh
  have uY : u < Y := by
    have := Nat.mul_le_mul_right (2 ^ s) (show hi + 1 ≤ y from h)
    rw [Nat.add_mul, Nat.one_mul, ← hY] at this
    omega
  have V2 : V < 18446744073709551616 := by rw [hV]; exact Nat.mod_lt _ (by decide)
  have Y2 : y1 * 4294967296 + y0 = Y := by omega
  have k1 : IntKind.u64.wrap ((y : Int) * 2 ^ s) = (Y : Int) := by rw [wrap_pow _ _ (by omega), hY]
  have k2 : (Y : Int) / 4294967296 = (y1 : Int) := by omega
  have k3 : bits .and .u64 (Y : Int) 4294967295 = (y0 : Int) := by rw [and32 _ hu, hy0]
  have k4 : IntKind.u64.wrap ((hi : Int) * 2 ^ s) = ((hi * 2 ^ s : Nat) : Int) := wrap_pow _ _ (by omega)
  have k5 : (lo : Int) / 2 ^ (64 - s) = (l : Int) := by rw [hlD]; simp
  have k6 : bits .or .u64 ((hi * 2 ^ s : Nat) : Int) (l : Int) = (u : Int) := by rw [or_low _ _ _ hS2 (by omega), hU]
  have k7 : IntKind.u64.wrap ((lo : Int) * 2 ^ s) = (V : Int) := by rw [wrap_pow_mod, hV]
  have k8 : (V : Int) / 4294967296 = (v1 : Int) := by omega
  have k9 : bits .and .u64 (V : Int) 4294967295 = (v0 : Int) := by rw [and32 _ V2, hv0]
  have b1 : 2147483648 ≤ y1 := by omega
  have b2 : y1 < 4294967296 := by omega
  have b3 : y0 < 4294967296 := by omega
  have b4 : v1 < 4294967296 := by omega
  have b5 : v0 < 4294967296 := by omega
  have b6 : V = v1 * 4294967296 + v0 := by omega
  have HU := Lib.hid (And.intro hSh (And.intro b6 uY))
  have HY2 := Lib.hid Y2
  generalize hi * 2 ^ s = HI at k4 k6
  clear hSh hS1 hS2 uY Y2 hY hy1 hy0 hlD hU hV hv1 hv0 b6 V2 hl
  go_enter Try.func41, Try.ntmps41
  go_wp2_with fail
  refine hc.mono ?_
  rintro e w1 ⟨rfl, rfl⟩
  clear hc
  go_upto_region 12 with (fail)
  go_upto_region 15 with (fail)
  clear k1 k2 k3 k4 k5 k6 k7 k8 k9 h1 h2 h3
  have g := Guess.start b1 b2 b3 b4 (by rw [HY2.out]; exact HU.out.2.2)
  obtain ⟨q, hq⟩ : ∃ q, q = u / y1 := ⟨_, rfl⟩
  obtain ⟨r, hr⟩ : ∃ r, r = u % y1 := ⟨_, rfl⟩
  have n1 : (u : Int) / y1 = (q : Int) := by rw [hq]; simp
  have n2 : IntKind.u64.wrap ((q : Int) * y1) = ((q * y1 : Nat) : Int) := wrap_mul _ _ (by rw [hq]; have := Nat.div_mul_le_self u y1; have := HU.out.2.2; omega)
  have n3 : (u : Int) - ((q * y1 : Nat) : Int) = (r : Int) := by rw [hq, hr]; have := Nat.div_add_mod u y1; rw [Nat.mul_comm] at this; omega
  rw [← hq, ← hr] at g
  have qb := g.le
  have rb := g.rest
  have mb : q * y1 < 18446744073709551616 := by have := g.sum; have := HU.out.2.2; omega
  have G := Lib.hid g
  clear hq hr g
  generalize q * y1 = M at n2 n3 mb
  go_upto_region 16 with (fail)
  go_upto_block 0 with (fail)
  obtain ⟨Q1, hQ1⟩ : ∃ Q, Q = (u * 4294967296 + v1) / Y := ⟨_, rfl⟩
  have HQ1 := Lib.hid hQ1
  clear hQ1 n1 n2 n3 mb
  go_cut [15] (fun x w' => x = .int .u64 (Q1 : Nat) ∧ w' = w1)
  case first =>
    go_wp2
    go_loopg [15, 16] q (fun n x z w' => ∃ r : Nat, x = .int .u64 (n : Nat) ∧ z = .int .u64 (r : Nat) ∧ Hid (Guess u v1 y1 y0 n r) ∧ w' = w1)
    case atStart => exact ⟨r, rfl, rfl, G, rfl⟩
    case round =>
      obtain ⟨r', rfl, rfl, G', rfl⟩ := hrel
      have qb := G'.out.le
      have rb := G'.out.rest
      by_cases c1 : 4294967296 ≤ gk
      · have d1 : decide (4294967296 ≤ (gk : Int)) = true := by simp; omega
        have L := G'.out.less (by omega) (by rw [HY2.out]; exact HU.out.2.2) b4 (Or.inl c1)
        have L2 : (1 : Int) ≤ gk := by have := L.1; omega
        have LH := Lib.hid L
        have c2 : (4294967296 : Int) ≤ gk := by omega
        have e1 : (gk : Int) - 1 = ((gk - 1 : Nat) : Int) := by omega
        have e2 : (r' : Int) + y1 = ((r' + y1 : Nat) : Int) := by omega
        clear L c1
        by_cases c3 : 4294967296 ≤ r' + y1
        · have d2 : decide (4294967296 ≤ (r' : Int) + y1) = true := by simp; omega
          have c4 : (4294967296 : Int) ≤ r' + y1 := by omega
          have HO := Lib.hid (Guess.over LH.out.2.2 LH.out.2.1 (by omega) b3 (by omega) c3)
          clear c3
          have E1 := Lib.hid e1
          clear e1 e2
          go_wp2
          go_meet
          case rel => exact ⟨by rw [E1.out, HO.out, HQ1.out, HY2.out], rfl⟩
        · have d2 : decide (4294967296 ≤ (r' : Int) + y1) = false := by simp; omega
          have c4 : (r' : Int) + y1 < 4294967296 := by omega
          have NG := Lib.hid (show Guess u v1 y1 y0 (gk - 1) (r' + y1) from ⟨LH.out.2.2, LH.out.2.1, by omega, by omega⟩)
          clear c3
          have E1 := Lib.hid e1
          have E2 := Lib.hid e2
          clear e1 e2
          go_wp2
          go_roundg (gk - 1)
          case measure => omega
          case rel => exact ⟨r' + y1, by rw [E1.out], by rw [E2.out], NG, rfl⟩
      · have d1 : decide (4294967296 ≤ (gk : Int)) = false := by simp; omega
        have c2 : (gk : Int) < 4294967296 := by omega
        obtain ⟨Z, hZ⟩ : ∃ Z, Z = gk * y0 := ⟨_, rfl⟩
        have zb : Z ≤ 4294967295 * 4294967295 := by rw [hZ]; exact Nat.mul_le_mul (by omega) (by omega)
        have m1 : IntKind.u64.wrap ((gk : Int) * y0) = (Z : Int) := by rw [wrap_mul _ _ (by rw [← hZ]; omega), hZ]
        by_cases c5 : r' * 4294967296 + v1 < Z
        · have d3 : decide (4294967296 * (r' : Int) + v1 < (Z : Int)) = true := by simp; omega
          have c6 : 4294967296 * (r' : Int) + v1 < (Z : Int) := by omega
          have L := G'.out.less (by omega) (by rw [HY2.out]; exact HU.out.2.2) b4 (Or.inr (by rw [← hZ]; exact c5))
          have L2 : (1 : Int) ≤ gk := by have := L.1; omega
          have LH := Lib.hid L
          have e1 : (gk : Int) - 1 = ((gk - 1 : Nat) : Int) := by omega
          have e2 : (r' : Int) + y1 = ((r' + y1 : Nat) : Int) := by omega
          clear L c1 c5 hZ zb
          by_cases c3 : 4294967296 ≤ r' + y1
          · have d2 : decide (4294967296 ≤ (r' : Int) + y1) = true := by simp; omega
            have c4 : (4294967296 : Int) ≤ r' + y1 := by omega
            have HO := Lib.hid (Guess.over LH.out.2.2 LH.out.2.1 (by omega) b3 (by omega) c3)
            clear c3
            have E1 := Lib.hid e1
            clear e1 e2
            go_wp2
            go_meet
            case rel => exact ⟨by rw [E1.out, HO.out, HQ1.out, HY2.out], rfl⟩
          · have d2 : decide (4294967296 ≤ (r' : Int) + y1) = false := by simp; omega
            have c4 : (r' : Int) + y1 < 4294967296 := by omega
            have NG := Lib.hid (show Guess u v1 y1 y0 (gk - 1) (r' + y1) from ⟨LH.out.2.2, LH.out.2.1, by omega, by omega⟩)
            clear c3
            have E1 := Lib.hid e1
            have E2 := Lib.hid e2
            clear e1 e2
            go_wp2
            go_roundg (gk - 1)
            case measure => omega
            case rel => exact ⟨r' + y1, by rw [E1.out], by rw [E2.out], NG, rfl⟩
        · have d3 : decide (4294967296 * (r' : Int) + v1 < (Z : Int)) = false := by simp; omega
          have HR := Lib.hid (G'.out.right (by omega) (by rw [← hZ]; omega))
          have c6 : (Z : Int) ≤ 4294967296 * (r' : Int) + v1 := by omega
          clear c1 c5 hZ zb
          go_wp2
          go_meet
          case rel => exact ⟨by rw [HR.out, HQ1.out, HY2.out], rfl⟩
  case rest =>
  obtain ⟨rfl, rfl⟩ := hcut
  have f1 : Q1 < 4294967296 := by
    rw [HQ1.out]
    refine (Nat.div_lt_iff_lt_mul (by have := HU.out.2.2; omega)).2 ?_
    have := HU.out.2.2
    omega
  obtain ⟨U, hU⟩ : ∃ U, U = (u * 4294967296 + v1) % Y := ⟨_, rfl⟩
  have uY : U < Y := by rw [hU]; exact Nat.mod_lt _ (by have := HU.out.2.2; omega)
  have W := words_rest u v1 Q1 U Y HQ1.out hU (by omega)
  obtain ⟨A, B, C, a1, a2, a3, a4⟩ := W
  have g := Guess.start b1 b2 b3 b5 (by rw [HY2.out]; exact uY)
  obtain ⟨q2, hq⟩ : ∃ q, q = U / y1 := ⟨_, rfl⟩
  obtain ⟨r2, hr⟩ : ∃ r, r = U % y1 := ⟨_, rfl⟩
  have n1 : (U : Int) / y1 = (q2 : Int) := by rw [hq]; simp
  have n2 : IntKind.u64.wrap ((q2 : Int) * y1) = ((q2 * y1 : Nat) : Int) := wrap_mul _ _ (by rw [hq]; have := Nat.div_mul_le_self U y1; omega)
  have n3 : (U : Int) - ((q2 * y1 : Nat) : Int) = (r2 : Int) := by rw [hq, hr]; have := Nat.div_add_mod U y1; rw [Nat.mul_comm] at this; omega
  rw [← hq, ← hr] at g
  have qb2 := g.le
  have rb2 := g.rest
  have mb : q2 * y1 < 18446744073709551616 := by have := g.sum; omega
  have G2 := Lib.hid g
  have HU2 := Lib.hid hU
  have UB : U < 18446744073709551616 := by omega
  clear hq hr g hU
  generalize q2 * y1 = M at n2 n3 mb
  have UY := Lib.hid uY
  clear uY
  apply_assumption
  go_upto_region 22 with (fail)
  clear a1 a2 a3 a4
  go_upto_region 23 with (fail)
  go_upto_block 2 with (fail)
  obtain ⟨Q0, hQ0⟩ : ∃ Q, Q = (U * 4294967296 + v0) / Y := ⟨_, rfl⟩
  have HQ0 := Lib.hid hQ0
  clear hQ0 n1 n2 n3 mb
  go_cut [18] (fun x w' => x = .int .u64 (Q0 : Nat) ∧ w' = wc)
  case first =>
    go_wp2
    go_loopg [18, 16] q2 (fun n x z w' => ∃ r : Nat, x = .int .u64 (n : Nat) ∧ z = .int .u64 (r : Nat) ∧ Hid (Guess U v0 y1 y0 n r) ∧ w' = wc)
    case atStart => exact ⟨r2, rfl, rfl, G2, rfl⟩
    case round =>
      obtain ⟨r', rfl, rfl, G', rfl⟩ := hrel
      have qb := G'.out.le
      have rb := G'.out.rest
      by_cases c1 : 4294967296 ≤ gk
      · have d1 : decide (4294967296 ≤ (gk : Int)) = true := by simp; omega
        have L := G'.out.less (by omega) (by rw [HY2.out]; exact UY.out) b5 (Or.inl c1)
        have L2 : (1 : Int) ≤ gk := by have := L.1; omega
        have LH := Lib.hid L
        have c2 : (4294967296 : Int) ≤ gk := by omega
        have e1 : (gk : Int) - 1 = ((gk - 1 : Nat) : Int) := by omega
        have e2 : (r' : Int) + y1 = ((r' + y1 : Nat) : Int) := by omega
        clear L c1
        by_cases c3 : 4294967296 ≤ r' + y1
        · have d2 : decide (4294967296 ≤ (r' : Int) + y1) = true := by simp; omega
          have c4 : (4294967296 : Int) ≤ r' + y1 := by omega
          have HO := Lib.hid (Guess.over LH.out.2.2 LH.out.2.1 (by omega) b3 (by omega) c3)
          clear c3
          have E1 := Lib.hid e1
          clear e1 e2
          go_wp2
          go_meet
          case rel => exact ⟨by rw [E1.out, HO.out, HQ0.out, HY2.out], rfl⟩
        · have d2 : decide (4294967296 ≤ (r' : Int) + y1) = false := by simp; omega
          have c4 : (r' : Int) + y1 < 4294967296 := by omega
          have NG := Lib.hid (show Guess U v0 y1 y0 (gk - 1) (r' + y1) from ⟨LH.out.2.2, LH.out.2.1, by omega, by omega⟩)
          clear c3
          have E1 := Lib.hid e1
          have E2 := Lib.hid e2
          clear e1 e2
          go_wp2
          go_roundg (gk - 1)
          case measure => omega
          case rel => exact ⟨r' + y1, by rw [E1.out], by rw [E2.out], NG, rfl⟩
      · have d1 : decide (4294967296 ≤ (gk : Int)) = false := by simp; omega
        have c2 : (gk : Int) < 4294967296 := by omega
        obtain ⟨Z, hZ⟩ : ∃ Z, Z = gk * y0 := ⟨_, rfl⟩
        have zb : Z ≤ 4294967295 * 4294967295 := by rw [hZ]; exact Nat.mul_le_mul (by omega) (by omega)
        have m1 : IntKind.u64.wrap ((gk : Int) * y0) = (Z : Int) := by rw [wrap_mul _ _ (by rw [← hZ]; omega), hZ]
        by_cases c5 : r' * 4294967296 + v0 < Z
        · have d3 : decide (4294967296 * (r' : Int) + v0 < (Z : Int)) = true := by simp; omega
          have c6 : 4294967296 * (r' : Int) + v0 < (Z : Int) := by omega
          have L := G'.out.less (by omega) (by rw [HY2.out]; exact UY.out) b5 (Or.inr (by rw [← hZ]; exact c5))
          have L2 : (1 : Int) ≤ gk := by have := L.1; omega
          have LH := Lib.hid L
          have e1 : (gk : Int) - 1 = ((gk - 1 : Nat) : Int) := by omega
          have e2 : (r' : Int) + y1 = ((r' + y1 : Nat) : Int) := by omega
          clear L c1 c5 hZ zb
          by_cases c3 : 4294967296 ≤ r' + y1
          · have d2 : decide (4294967296 ≤ (r' : Int) + y1) = true := by simp; omega
            have c4 : (4294967296 : Int) ≤ r' + y1 := by omega
            have HO := Lib.hid (Guess.over LH.out.2.2 LH.out.2.1 (by omega) b3 (by omega) c3)
            clear c3
            have E1 := Lib.hid e1
            clear e1 e2
            go_wp2
            go_meet
            case rel => exact ⟨by rw [E1.out, HO.out, HQ0.out, HY2.out], rfl⟩
          · have d2 : decide (4294967296 ≤ (r' : Int) + y1) = false := by simp; omega
            have c4 : (r' : Int) + y1 < 4294967296 := by omega
            have NG := Lib.hid (show Guess U v0 y1 y0 (gk - 1) (r' + y1) from ⟨LH.out.2.2, LH.out.2.1, by omega, by omega⟩)
            clear c3
            have E1 := Lib.hid e1
            have E2 := Lib.hid e2
            clear e1 e2
            go_wp2
            go_roundg (gk - 1)
            case measure => omega
            case rel => exact ⟨r' + y1, by rw [E1.out], by rw [E2.out], NG, rfl⟩
        · have d3 : decide (4294967296 * (r' : Int) + v0 < (Z : Int)) = false := by simp; omega
          have HR := Lib.hid (G'.out.right (by omega) (by rw [← hZ]; omega))
          have c6 : (Z : Int) ≤ 4294967296 * (r' : Int) + v0 := by omega
          clear c1 c5 hZ zb
          go_wp2
          go_meet
          case rel => exact ⟨by rw [HR.out, HQ0.out, HY2.out], rfl⟩
  case rest =>
  obtain ⟨rfl, rfl⟩ := hcut
  have f2 : Q0 < 4294967296 := by
    rw [HQ0.out]
    refine (Nat.div_lt_iff_lt_mul (by have := UY.out; omega)).2 ?_
    have := UY.out
    omega
  obtain ⟨R, hR⟩ : ∃ R, R = (U * 4294967296 + v0) % Y := ⟨_, rfl⟩
  have rY : R < Y := by rw [hR]; exact Nat.mod_lt _ (by have := UY.out; omega)
  obtain ⟨A2, B2, C2, a1, a2, a3, a4⟩ := words_rest U v0 Q0 R Y HQ0.out hR (by omega)
  have T := two_digits u v1 v0 Y (by omega) b4 b5
  rw [← HU2.out, ← HQ1.out, ← HQ0.out, ← hR, ← HU.out.2.1] at T
  have T1 := T.1.symm.trans HU.out.1.1
  have T2 := HU.out.1.2
  rw [T.2] at T2
  have f3 : (Q1 : Int) * 4294967296 + Q0 = (qq : Int) := by rw [HQQ.out, ← T1]; simp
  have f4 : (R : Int) / 2 ^ s = (rr : Int) := by rw [HRR.out, ← T2]; simp
  have R2 : R < 18446744073709551616 := by omega
  clear T T1 T2 hR rY
  apply_assumption
  go_wp2

  go_ret2
  exact ⟨rfl, Below.refl _ _⟩
theorem div64_any (hi lo y : Nat) (w : World) (h : hi < y) (hlo : lo < 18446744073709551616) (hy : y < 18446744073709551616) :
    Calls Try.prog 41 #[.int .u64 (hi : Nat), .int .u64 (lo : Nat), .int .u64 (y : Nat)] w fun e w' => e = .returned (.tuple #[.int .u64 (((hi * 18446744073709551616 + lo) / y : Nat) : Int), .int .u64 (((hi * 18446744073709551616 + lo) % y : Nat) : Int)]) ∧ Below w.heap.size w w' := by
  rcases Nat.eq_zero_or_pos hi with rfl | h0
  · rw [Nat.zero_mul, Nat.zero_add]
    exact div64_small lo y w h hlo hy
  · exact div64_great hi lo y w h0 h hlo hy
end Go.Proofs.Ytppgpdckaaabeaa
