import Derived.Test.YtjabbddgjbejbaaDoorRows
import Derived.WalkKit
import Derived.Below
import Derived.ProofKit
import Derived.OpenShut
import Derived.ShutString
import Derived.ChangeOld
import Derived.Outline
import Derived.RegionTactic
import Derived.ChangeAlike
import Derived.BigRegion
import Derived.BigQuiet
import Derived.Deep.QuietTactic
import Derived.Deep.RegionWith
import Derived.Deep.RegionLaw
import Derived.Deep.RegionHeld3
import Derived.Deep.AppendLies
import Derived.Deep.Draws
import Derived.StillTailTactics
import Derived.Lib.Hide
import Derived.Lib.SmallJoins
import Derived.Handy
import Derived.Stop.BytesEq
import Derived.WalkSpells
import Derived.WalkLawsBesides
import Derived.Deep.LoopGhost
import Derived.Deep.DeepCutAuto
import Derived.Laws.CopyOwn
import Derived.Test.YtjabbddgjbejbaaDoorRefC
namespace Go.Proofs.YtjabbddgjbejbaaDoor
open Go.RowKit
set_option linter.unusedSimpArgs false
set_option linter.unusedVariables false
set_option linter.unnecessarySimpa false
theorem NumAt.of_own {w : World} {B n : Nat} {v : Value} {l : List Nat} (h : w.ownsRow B 61 1 v n (nc l)) (hn : 0 < n) : NumAt w v l := by
  have hl : l.length = n := by have := h.1; rw [nc_len] at this; omega
  rcases h.2 with ⟨_, h0⟩ | ⟨g, cap, cur, rfl, _, hg, hnc, _, hsz, ht⟩
  · omega
  · refine ⟨g, cap, by rw [hl], ?_, fun k hk => ?_⟩
    · rcases Nat.lt_or_ge g w.heap.size with hlt | hge
      · exact hlt
      · rw [Array.getElem?_eq_none hge] at hg; cases hg
    · rw [cell_of_row w g k _ _ _ hg]
      have e : (cur.toList.take (n * 1))[k]? = (nc l)[k]? := by rw [ht]
      rw [List.getElem?_take_of_lt (by omega), nc_get hk] at e
      rw [← Array.getElem?_toList]
      exact e
theorem rep_succ (c : Nat) : nc (List.replicate c 0) ++ [.int .u64 0] = nc (List.replicate (c + 1) 0) := by
  rw [List.replicate_succ']; simp [nc]
theorem most_val (c p : Nat) : val (List.replicate c 0 ++ [p]) = p * 65536 ^ c := by
  rw [val_append, val_rep, List.length_replicate]; simp [val, Nat.mul_comm]
theorem most_dig (c p : Nat) (h : p < 65536) : Dig (List.replicate c 0 ++ [p]) := dig_of _ (by
  intro x hx
  rcases List.mem_append.1 hx with h1 | h1
  · have := List.eq_of_mem_replicate h1; omega
  · simp at h1; omega)
theorem or_bit (x j : Nat) (h : x % 2 ^ (j + 1) = 0) (hx : x < 1099511627776) (hj : j < 40) : bits .or .u64 (x : Int) (IntKind.u64.wrap (2 ^ j)) = ((x + 2 ^ j : Nat) : Int) := by
  have h40 : 2 ^ j < 2 ^ 40 := Nat.pow_lt_pow_right (by omega) hj
  have e : IntKind.u64.wrap ((2 : Int) ^ j) = ((2 ^ j : Nat) : Int) := by
    rw [show ((2 : Int) ^ j) = ((2 ^ j : Nat) : Int) from by simp, IntKind.wrap_u64]; omega
  rw [e, u64_or_nat _ _ (by omega) (by omega), nat_join (j + 1) x (2 ^ j) h (Nat.pow_lt_pow_right (by omega) (by omega))]
set_option maxHeartbeats 2000000 in
set_option maxRecDepth 100000 in
theorem root2_any (p r : Nat) (w : World) (hp : p < 65536) (hr : r < 1099511627776) (h1 : r ^ 2 ≤ p * 65536 ^ 4) (h2 : p * 65536 ^ 4 < (r + 1) ^ 2) :
    Calls Tryd.prog 24 #[.int .u64 p, .bool false] w fun e w' => e = .returned (.int .u32 ((r % 4294967296 : Nat) : Int)) ∧ Below w.heap.size w w' := by
  obtain ⟨i0, hi, hz0, hz1, hz2⟩ := info_parts info61
  obtain ⟨N, hN⟩ : ∃ N, N = p * 65536 ^ 4 := ⟨_, rfl⟩
  rw [← hN] at h1 h2
  have hstart : N < (0 + 2 ^ 40) ^ 2 := Nat.lt_of_lt_of_le h2 (Nat.pow_le_pow_left (by omega) 2)
  have HN := Lib.hid hN
  have H1 := Lib.hid h1
  have H2 := Lib.hid h2
  have HST := Lib.hid hstart
  have HR := Lib.hid hr
  have HP := Lib.hid hp
  clear hN h1 h2 hstart hr hp
  go_enter Tryd.func24, Tryd.ntmps24
  go_wp2
  go_loopw [5, 6] (fun u v wr => ∃ x j : Nat, u = .int .u64 x ∧ v = .int .i64 ((j : Int) - 1) ∧ j ≤ 40 ∧ Hid (x % 2 ^ j = 0) ∧ Hid (x + 2 ^ j ≤ 1099511627776) ∧ Hid (x ^ 2 ≤ N) ∧ Hid (N < (x + 2 ^ j) ^ 2) ∧ Below w.heap.size w wr) (fun _ v _ => (intOf v + 1).toNat)
  case atStart => exact ⟨0, 40, rfl, rfl, by omega, Lib.hid rfl, Lib.hid (by decide), Lib.hid (by simp), HST, Below.refl _ _⟩
  case round =>
    obtain ⟨x, j, rfl, rfl, hj, hm, hx, ha, hb, hbel⟩ := hrel
    by_cases h0 : j = 0
    · subst h0
      have e : x = r := root_one 2 x r N (by omega) ha.out (by have := hb.out; simpa using this) H1.out H2.out
      subst e
      have xb : (x : Int) < 1099511627776 := by have := HR.out; omega
      go_wp2
      go_ret
      exact ⟨by simp, hbel⟩
    · obtain ⟨i, rfl⟩ : ∃ i, j = i + 1 := ⟨j - 1, by omega⟩
      have ej : ((i + 1 : Nat) : Int) - 1 = (i : Int) := by omega
      rw [ej]
      have hi40 : (i : Int) < 40 := by omega
      have p40 : 2 ^ (i + 1) ≤ 2 ^ 40 := Nat.pow_le_pow_right (by omega) hj
      have pp : 2 ^ (i + 1) = 2 ^ i * 2 := Nat.pow_succ 2 i
      have ppos : 0 < 2 ^ i := Nat.pow_pos (by omega)
      have hx1 : x < 1099511627776 := by have := hx.out; omega
      have eo := or_bit x i hm.out hx1 (by omega)
      have hy1 : x + 2 ^ i < 1099511627776 := by have := hx.out; omega
      have ym : (x + 2 ^ i) % 2 ^ i = 0 := by
        have d1 := Nat.dvd_of_mod_eq_zero hm.out
        rw [pp] at d1
        exact Nat.mod_eq_zero_of_dvd (Nat.dvd_add (Nat.dvd_trans (Nat.dvd_mul_right _ _) d1) (Nat.dvd_refl _))
      have xm : x % 2 ^ i = 0 := by
        have d1 := Nat.dvd_of_mod_eq_zero hm.out
        rw [pp] at d1
        exact Nat.mod_eq_zero_of_dvd (Nat.dvd_trans (Nat.dvd_mul_right _ _) d1)
      have y2 : x + 2 ^ i + 2 ^ i = x + 2 ^ (i + 1) := by omega
      obtain ⟨y, hy⟩ : ∃ y, y = x + 2 ^ i := ⟨_, rfl⟩
      rw [← hy] at eo hy1 ym y2
      have XX := Lib.hid (show x % 2 ^ i = 0 ∧ x + 2 ^ i < 1099511627776 from ⟨xm, by omega⟩)
      have HY := Lib.hid hy
      have YM := Lib.hid ym
      have Y2 := Lib.hid y2
      have Y1 := Lib.hid hy1
      clear ej h0 p40 hx1 pp ppos hy ym xm y2
      have hy64 : y < 18446744073709551616 := by omega
      have Y64 := Lib.hid hy64
      clear hy1 hy64
      go_wp2_with fail
      clear eo
      refine (digits_any y _ Y64.out).mono ?_
      rintro e w1 ⟨⟨v1, rfl, d1⟩, g1⟩
      go_wp2_with fail
      refine (digits_any y _ Y64.out).mono ?_
      rintro e w2 ⟨⟨v2, rfl, d2⟩, g2⟩
      go_wp2_with fail
      refine (times_any v1 v2 (dig4 y) (dig4 y) _ (d1.below g2) d2 (dig4_dig y) (dig4_dig y) (by simp [dig4]) (by simp [dig4])).mono ?_
      rintro e w3 ⟨⟨v3, o3, rfl, d3, q3, l3, e3⟩, g3⟩
      rw [dig4_val y Y64.out] at e3
      have b3 : Below w.heap.size w w3 := ((hbel.trans (g1.mono hbel.size)).trans (g2.mono (Nat.le_trans hbel.size g1.size))).trans (g3.mono (Nat.le_trans hbel.size (Nat.le_trans g1.size g2.size)))

      have e9 : val o3 = y ^ 2 := by rw [e3, Nat.pow_succ, Nat.pow_one]
      obtain ⟨on, hon⟩ : ∃ on, on = o3 := ⟨_, rfl⟩
      obtain ⟨vn, hvn⟩ : ∃ vn, vn = v3 := ⟨_, rfl⟩
      rw [← hon] at d3 q3 e9
      rw [← hvn] at d3
      have hln : on.length ≤ 41 := by rw [hon, l3]; simp [dig4]
      rw [← hvn]
      clear hon hvn
      have hdn := d3
      have hqn := q3
      have hen := e9
      have hbn := b3
      clear d3 q3 b3
      obtain ⟨wb, hwb⟩ : ∃ wb, wb = w3 := ⟨_, rfl⟩
      rw [← hwb] at hdn hbn
      rw [← hwb]
      clear hwb

      have HEN := Lib.hid hen
      clear hen e3 l3
      try clear e9
      try clear e5
      try clear l5
      go_wp2
      go_loopw [10, 11] (fun u v wr => ∃ c : Nat, c ≤ 4 ∧ v = .int .i64 c ∧ wr.ownsRow wb.heap.size 61 1 u c (nc (List.replicate c 0)) ∧ Below wb.heap.size wb wr) (fun _ v _ => 4 - (intOf v).toNat)
      case atStart => exact ⟨0, by omega, rfl, World.ownsRow_nil _ _ _ _, Below.refl _ _⟩
      case round =>
        obtain ⟨c, hc, rfl, hown, hbb⟩ := hrel
        obtain ⟨A, cp, rfl⟩ := own_form hown
        by_cases hct : c < 4
        · have cc : (c : Int) < 4 := by omega
          go_wp2_with (at_builtin; refine wpList_append_own _ rfl _ _ 58 rfl wb.heap.size 61 i0 (.int .u64 0) 1 8 Tryd.underlying58 hi hz0 hz1 hz2 rfl (by decide) _ _ _ rfl (hown.alloc _) ⟨wr.heap.size, 0, none⟩ 1 1 [.int .u64 0] rfl rfl ?c1a ?c2a ?c3a ?c4a ?c5a ?_)
          case c1a =>
            intro j u hj
            match j with
            | 0 => simp at hj; subst hj; exact cell_of_row _ _ _ _ _ _ (heap_alloc_new wr _)
            | j + 1 => simp at hj
          case c2a => intro u hu; simp at hu; subst hu; rfl
          case c3a => unfold maxLen; omega
          case c4a => omega
          case c5a => have := hbb.size; simp; omega
          intro v' w9 hown3 hgrow _
          have hbw : Below wb.heap.size wb w9 := (hbb.alloc hbb.size _).grown hgrow (by have := hbb.size; simp; omega) (own_block_ge hown)
          rw [rep_succ] at hown3
          clear hown hgrow
          go_wp2
          go_roundw
          case rel => exact ⟨c + 1, by omega, by go_num, hown3, hbw⟩
          case measure => simp [intOf] <;> omega
        · obtain rfl : c = 4 := by omega
          go_wp2_with (at_builtin; refine wpList_append_own _ rfl _ _ 58 rfl wb.heap.size 61 i0 (.int .u64 0) 1 8 Tryd.underlying58 hi hz0 hz1 hz2 rfl (by decide) _ _ _ rfl (hown.alloc _) ⟨wr.heap.size, 0, none⟩ 1 1 [.int .u64 (p : Int)] rfl rfl ?c1b ?c2b ?c3b ?c4b ?c5b ?_)
          case c1b =>
            intro j u hj
            match j with
            | 0 => simp at hj; subst hj; exact cell_of_row _ _ _ _ _ _ (heap_alloc_new wr _)
            | j + 1 => simp at hj
          case c2b => intro u hu; simp at hu; subst hu; rfl
          case c3b => unfold maxLen; omega
          case c4b => omega
          case c5b => have := hbb.size; simp; omega
          intro v' w9 hown3 hgrow _
          have hbw : Below wb.heap.size wb w9 := (hbb.alloc hbb.size _).grown hgrow (by have := hbb.size; simp; omega) (own_block_ge hown)
          have hn9 : NumAt w9 vn on := hdn.below hbw
          have hb9 : Below w.heap.size w w9 := hbn.trans (hbw.mono hbn.size)
          have e9 : nc (List.replicate 4 0) ++ [.int .u64 (p : Int)] = nc (List.replicate 4 0 ++ [p]) := by simp [nc]
          have hown4 : w9.ownsRow wb.heap.size 61 1 v' 5 (nc (List.replicate 4 0 ++ [p])) := by rw [← e9]; exact hown3
          have hm9 := NumAt.of_own hown4 (by omega)
          obtain ⟨A9, cp9, rfl⟩ := own_form hown3
          clear hown hgrow hown3 hown4 e9
          have gr := greater_any vn _ on (List.replicate 4 0 ++ [p]) w9 hn9 hm9 hqn (most_dig 4 p HP.out) hln (by simp)
          rw [most_val, ← HN.out, HEN.out] at gr
          have GR := Lib.hid gr
          clear gr hn9 hm9
          by_cases hab : N < y ^ 2
          · have qd : decide (N < y ^ 2) = true := by simpa using hab
            go_wp2_with fail
            refine GR.out.mono ?_
            rw [qd]
            rintro e w10 ⟨rfl, rfl⟩
            have HAB := Lib.hid hab
            clear qd hab
            go_wp2
            go_roundw
            case rel => exact ⟨x, i, rfl, by go_num, by omega, Lib.hid XX.out.1, Lib.hid (by have := XX.out.2; omega), ha, Lib.hid (by rw [← HY.out]; exact HAB.out), hb9⟩
            case measure => simp [intOf] <;> omega
          · have qd : decide (N < y ^ 2) = false := by simpa using hab
            go_wp2_with fail
            refine GR.out.mono ?_
            rw [qd]
            rintro e w10 ⟨rfl, rfl⟩
            have HAB := Lib.hid (Nat.le_of_not_lt hab)
            clear qd hab
            go_wp2
            go_roundw
            case rel => exact ⟨y, i, rfl, by go_num, by omega, YM, Lib.hid (by rw [Y2.out]; exact hx.out), HAB, Lib.hid (by rw [Y2.out]; exact hb.out), hb9⟩
            case measure => simp [intOf] <;> omega
set_option maxHeartbeats 2000000 in
set_option maxRecDepth 100000 in
theorem root3_any (p r : Nat) (w : World) (hp : p < 65536) (hr : r < 1099511627776) (h1 : r ^ 3 ≤ p * 65536 ^ 6) (h2 : p * 65536 ^ 6 < (r + 1) ^ 3) :
    Calls Tryd.prog 24 #[.int .u64 p, .bool true] w fun e w' => e = .returned (.int .u32 ((r % 4294967296 : Nat) : Int)) ∧ Below w.heap.size w w' := by
  obtain ⟨i0, hi, hz0, hz1, hz2⟩ := info_parts info61
  obtain ⟨N, hN⟩ : ∃ N, N = p * 65536 ^ 6 := ⟨_, rfl⟩
  rw [← hN] at h1 h2
  have hstart : N < (0 + 2 ^ 40) ^ 3 := Nat.lt_of_lt_of_le h2 (Nat.pow_le_pow_left (by omega) 3)
  have HN := Lib.hid hN
  have H1 := Lib.hid h1
  have H2 := Lib.hid h2
  have HST := Lib.hid hstart
  have HR := Lib.hid hr
  have HP := Lib.hid hp
  clear hN h1 h2 hstart hr hp
  go_enter Tryd.func24, Tryd.ntmps24
  go_wp2
  go_loopw [5, 6] (fun u v wr => ∃ x j : Nat, u = .int .u64 x ∧ v = .int .i64 ((j : Int) - 1) ∧ j ≤ 40 ∧ Hid (x % 2 ^ j = 0) ∧ Hid (x + 2 ^ j ≤ 1099511627776) ∧ Hid (x ^ 3 ≤ N) ∧ Hid (N < (x + 2 ^ j) ^ 3) ∧ Below w.heap.size w wr) (fun _ v _ => (intOf v + 1).toNat)
  case atStart => exact ⟨0, 40, rfl, rfl, by omega, Lib.hid rfl, Lib.hid (by decide), Lib.hid (by simp), HST, Below.refl _ _⟩
  case round =>
    obtain ⟨x, j, rfl, rfl, hj, hm, hx, ha, hb, hbel⟩ := hrel
    by_cases h0 : j = 0
    · subst h0
      have e : x = r := root_one 3 x r N (by omega) ha.out (by have := hb.out; simpa using this) H1.out H2.out
      subst e
      have xb : (x : Int) < 1099511627776 := by have := HR.out; omega
      go_wp2
      go_ret
      exact ⟨by simp, hbel⟩
    · obtain ⟨i, rfl⟩ : ∃ i, j = i + 1 := ⟨j - 1, by omega⟩
      have ej : ((i + 1 : Nat) : Int) - 1 = (i : Int) := by omega
      rw [ej]
      have hi40 : (i : Int) < 40 := by omega
      have p40 : 2 ^ (i + 1) ≤ 2 ^ 40 := Nat.pow_le_pow_right (by omega) hj
      have pp : 2 ^ (i + 1) = 2 ^ i * 2 := Nat.pow_succ 2 i
      have ppos : 0 < 2 ^ i := Nat.pow_pos (by omega)
      have hx1 : x < 1099511627776 := by have := hx.out; omega
      have eo := or_bit x i hm.out hx1 (by omega)
      have hy1 : x + 2 ^ i < 1099511627776 := by have := hx.out; omega
      have ym : (x + 2 ^ i) % 2 ^ i = 0 := by
        have d1 := Nat.dvd_of_mod_eq_zero hm.out
        rw [pp] at d1
        exact Nat.mod_eq_zero_of_dvd (Nat.dvd_add (Nat.dvd_trans (Nat.dvd_mul_right _ _) d1) (Nat.dvd_refl _))
      have xm : x % 2 ^ i = 0 := by
        have d1 := Nat.dvd_of_mod_eq_zero hm.out
        rw [pp] at d1
        exact Nat.mod_eq_zero_of_dvd (Nat.dvd_trans (Nat.dvd_mul_right _ _) d1)
      have y2 : x + 2 ^ i + 2 ^ i = x + 2 ^ (i + 1) := by omega
      obtain ⟨y, hy⟩ : ∃ y, y = x + 2 ^ i := ⟨_, rfl⟩
      rw [← hy] at eo hy1 ym y2
      have XX := Lib.hid (show x % 2 ^ i = 0 ∧ x + 2 ^ i < 1099511627776 from ⟨xm, by omega⟩)
      have HY := Lib.hid hy
      have YM := Lib.hid ym
      have Y2 := Lib.hid y2
      have Y1 := Lib.hid hy1
      clear ej h0 p40 hx1 pp ppos hy ym xm y2
      have hy64 : y < 18446744073709551616 := by omega
      have Y64 := Lib.hid hy64
      clear hy1 hy64
      go_wp2_with fail
      clear eo
      refine (digits_any y _ Y64.out).mono ?_
      rintro e w1 ⟨⟨v1, rfl, d1⟩, g1⟩
      go_wp2_with fail
      refine (digits_any y _ Y64.out).mono ?_
      rintro e w2 ⟨⟨v2, rfl, d2⟩, g2⟩
      go_wp2_with fail
      refine (times_any v1 v2 (dig4 y) (dig4 y) _ (d1.below g2) d2 (dig4_dig y) (dig4_dig y) (by simp [dig4]) (by simp [dig4])).mono ?_
      rintro e w3 ⟨⟨v3, o3, rfl, d3, q3, l3, e3⟩, g3⟩
      rw [dig4_val y Y64.out] at e3
      have b3 : Below w.heap.size w w3 := ((hbel.trans (g1.mono hbel.size)).trans (g2.mono (Nat.le_trans hbel.size g1.size))).trans (g3.mono (Nat.le_trans hbel.size (Nat.le_trans g1.size g2.size)))

      have hq3 := q3
      have e3' := Lib.hid e3
      have l3' := Lib.hid l3
      clear e3 l3
      go_wp2_with fail
      refine (digits_any y _ Y64.out).mono ?_
      rintro e w4 ⟨⟨v4, rfl, d4⟩, g4⟩
      go_wp2_with fail
      refine (times_any v3 v4 o3 (dig4 y) _ (d3.below g4) d4 q3 (dig4_dig y) (by rw [l3'.out]; simp [dig4]) (by simp [dig4])).mono ?_
      rintro e w5 ⟨⟨vn, on, rfl, hdn, hqn, l5, e5⟩, g5⟩
      rw [dig4_val y Y64.out, e3'.out] at e5
      have hbn : Below w.heap.size w w5 := (b3.trans (g4.mono b3.size)).trans (g5.mono (Nat.le_trans b3.size g4.size))
      have hen : val on = y ^ 3 := by rw [e5, Nat.pow_succ, Nat.pow_succ, Nat.pow_one]
      have hln : on.length ≤ 41 := by rw [l5, l3'.out]; simp [dig4]
      obtain ⟨wb, hwb⟩ : ∃ wb, wb = w5 := ⟨_, rfl⟩
      rw [← hwb] at hdn hbn
      rw [← hwb]
      clear hwb e5 l5
      have HEN := Lib.hid hen
      clear hen
      try clear e9
      try clear e5
      try clear l5
      go_wp2
      go_loopw [10, 11] (fun u v wr => ∃ c : Nat, c ≤ 6 ∧ v = .int .i64 c ∧ wr.ownsRow wb.heap.size 61 1 u c (nc (List.replicate c 0)) ∧ Below wb.heap.size wb wr) (fun _ v _ => 6 - (intOf v).toNat)
      case atStart => exact ⟨0, by omega, rfl, World.ownsRow_nil _ _ _ _, Below.refl _ _⟩
      case round =>
        obtain ⟨c, hc, rfl, hown, hbb⟩ := hrel
        obtain ⟨A, cp, rfl⟩ := own_form hown
        by_cases hct : c < 6
        · have cc : (c : Int) < 6 := by omega
          go_wp2_with (at_builtin; refine wpList_append_own _ rfl _ _ 58 rfl wb.heap.size 61 i0 (.int .u64 0) 1 8 Tryd.underlying58 hi hz0 hz1 hz2 rfl (by decide) _ _ _ rfl (hown.alloc _) ⟨wr.heap.size, 0, none⟩ 1 1 [.int .u64 0] rfl rfl ?c1a ?c2a ?c3a ?c4a ?c5a ?_)
          case c1a =>
            intro j u hj
            match j with
            | 0 => simp at hj; subst hj; exact cell_of_row _ _ _ _ _ _ (heap_alloc_new wr _)
            | j + 1 => simp at hj
          case c2a => intro u hu; simp at hu; subst hu; rfl
          case c3a => unfold maxLen; omega
          case c4a => omega
          case c5a => have := hbb.size; simp; omega
          intro v' w9 hown3 hgrow _
          have hbw : Below wb.heap.size wb w9 := (hbb.alloc hbb.size _).grown hgrow (by have := hbb.size; simp; omega) (own_block_ge hown)
          rw [rep_succ] at hown3
          clear hown hgrow
          go_wp2
          go_roundw
          case rel => exact ⟨c + 1, by omega, by go_num, hown3, hbw⟩
          case measure => simp [intOf] <;> omega
        · obtain rfl : c = 6 := by omega
          go_wp2_with (at_builtin; refine wpList_append_own _ rfl _ _ 58 rfl wb.heap.size 61 i0 (.int .u64 0) 1 8 Tryd.underlying58 hi hz0 hz1 hz2 rfl (by decide) _ _ _ rfl (hown.alloc _) ⟨wr.heap.size, 0, none⟩ 1 1 [.int .u64 (p : Int)] rfl rfl ?c1b ?c2b ?c3b ?c4b ?c5b ?_)
          case c1b =>
            intro j u hj
            match j with
            | 0 => simp at hj; subst hj; exact cell_of_row _ _ _ _ _ _ (heap_alloc_new wr _)
            | j + 1 => simp at hj
          case c2b => intro u hu; simp at hu; subst hu; rfl
          case c3b => unfold maxLen; omega
          case c4b => omega
          case c5b => have := hbb.size; simp; omega
          intro v' w9 hown3 hgrow _
          have hbw : Below wb.heap.size wb w9 := (hbb.alloc hbb.size _).grown hgrow (by have := hbb.size; simp; omega) (own_block_ge hown)
          have hn9 : NumAt w9 vn on := hdn.below hbw
          have hb9 : Below w.heap.size w w9 := hbn.trans (hbw.mono hbn.size)
          have e9 : nc (List.replicate 6 0) ++ [.int .u64 (p : Int)] = nc (List.replicate 6 0 ++ [p]) := by simp [nc]
          have hown4 : w9.ownsRow wb.heap.size 61 1 v' 7 (nc (List.replicate 6 0 ++ [p])) := by rw [← e9]; exact hown3
          have hm9 := NumAt.of_own hown4 (by omega)
          obtain ⟨A9, cp9, rfl⟩ := own_form hown3
          clear hown hgrow hown3 hown4 e9
          have gr := greater_any vn _ on (List.replicate 6 0 ++ [p]) w9 hn9 hm9 hqn (most_dig 6 p HP.out) hln (by simp)
          rw [most_val, ← HN.out, HEN.out] at gr
          have GR := Lib.hid gr
          clear gr hn9 hm9
          by_cases hab : N < y ^ 3
          · have qd : decide (N < y ^ 3) = true := by simpa using hab
            go_wp2_with fail
            refine GR.out.mono ?_
            rw [qd]
            rintro e w10 ⟨rfl, rfl⟩
            have HAB := Lib.hid hab
            clear qd hab
            go_wp2
            go_roundw
            case rel => exact ⟨x, i, rfl, by go_num, by omega, Lib.hid XX.out.1, Lib.hid (by have := XX.out.2; omega), ha, Lib.hid (by rw [← HY.out]; exact HAB.out), hb9⟩
            case measure => simp [intOf] <;> omega
          · have qd : decide (N < y ^ 3) = false := by simpa using hab
            go_wp2_with fail
            refine GR.out.mono ?_
            rw [qd]
            rintro e w10 ⟨rfl, rfl⟩
            have HAB := Lib.hid (Nat.le_of_not_lt hab)
            clear qd hab
            go_wp2
            go_roundw
            case rel => exact ⟨y, i, rfl, by go_num, by omega, YM, Lib.hid (by rw [Y2.out]; exact hx.out), HAB, Lib.hid (by rw [Y2.out]; exact hb.out), hb9⟩
            case measure => simp [intOf] <;> omega
end Go.Proofs.YtjabbddgjbejbaaDoor
