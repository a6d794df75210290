/- The walk of SlotsTurns, over whatever keeps to the interface. -/
import Derived.Test.YtnpoohkklfpmdaaRows
import Derived.WalkKit
import Derived.Below
import Derived.ProofKit
import Derived.OpenShut
import Derived.ShutString
import Derived.ChangeOld
import Derived.Outline
import Derived.RegionTactic
import Derived.ChangeAlike
import Derived.BigRegion
import Derived.BigQuiet
import Derived.Deep.QuietTactic
import Derived.Deep.RegionWith
import Derived.Deep.RegionLaw
import Derived.Deep.RegionHeld3
import Derived.Deep.AppendLies
import Derived.Deep.Draws
import Derived.StillTailTactics
import Derived.Lib.Hide
import Derived.Lib.SmallJoins
import Derived.Handy
import Derived.WalkSpells
import Derived.WalkLawsBesides
import Derived.Deep.LoopGhost
import Derived.Deep.DeepCutAuto
import Derived.Deep.CutBlock
import Derived.Deep.CutRange
import Derived.Deep.OwnRows
import Derived.Laws.CopyOwn
import Derived.Great.BuildSlice
import Derived.Test.YtnpoohkklfpmdaaSlW
import Derived.Test.YtnpoohkklfpmdaaBitsLow
namespace Go.Proofs.Ytnpoohkklfpmdaa.slotsTurns
open Go.RowKit
set_option linter.unusedSimpArgs false
set_option linter.unusedVariables false
set_option linter.unnecessarySimpa false
attribute [local go_sem] idx_list ext_list app_list
section
variable {PD : World → List Nat → Nat → Dv → Prop} {PO : World → List Nat → Nat → Nat → Nat → Sg → Prop} (I : Iface0 PD) (J : Iface7 PD PO)
include I J
set_option maxRecDepth 100000 in
set_option maxHeartbeats 8000000 in
theorem walk (a : Option Addr) (n cap : Nat) (ls : List (List UInt8)) (W : World) (hs : StrsAt W W.heap.size a n ls) (hcap : n ≤ cap) : Calls Try.prog 7 #[.slice a n cap] W fun e w' => e = .returned (.bool true) ∧ Below W.heap.size W w' := by
  have R0 := new_rdy 40 (by omega)
  have F0 := rdy_few7 R0 (by decide) (by decide) (by decide)
  have e0 := R0.opens
  go_enter Try.func7, Try.ntmps7
  go_wp2_with fail
  refine (awake7_any I J W).mono ?_
  rintro e w0 ⟨rfl, g0⟩
  go_wp2_with fail
  refine (I.newL (K := []) 40 g0 (by omega) (by omega) (fun k hk => by cases hk)).mono ?_
  rintro e w1 ⟨p, rfl, h1, _⟩
  go_wp2_with fail
  refine (Iface7.openOkL I J h1 F0 R0.ok (by rw [R0.len]; decide) R0.on e0).mono ?_
  rintro e w2 ⟨x, a2, c2, rfl, hca, hsa, h2, g2, _, _⟩
  rw [show (([] : Secs).length) = 0 from rfl]
  clear hsa hca g2 h1 g0
  go_wp2_with fail
  refine (Iface7.markL I J h2).mono ?_
  rw [mkV_cells]
  rintro e w3 ⟨rfl, g3⟩
  obtain ⟨h3, _⟩ := Lg.below I J h2 g3
  have boW : W.heap.size ≤ w3.heap.size := h3.bel.size
  have R0' : Rdy 40 (newD 40) ⟨⟨0, 0, 0⟩, [], false⟩ [] false 0 (0 * 8192) zsec := R0
  clear h2 g3 e0 F0 R0
  go_upto_region 8 with (fail)
  generalize hw4 : World.alloc _ _ = w4
  have hw4' : w4 = w3.alloc (.cells #[.int .i64 ((0 : Nat) : Int), .int .i64 ((0 : Nat) : Int), .int .i64 ((0 : Nat) : Int)] 23) := hw4.symm
  obtain ⟨bo, hbo⟩ : ∃ bo, bo = w3.heap.size := ⟨_, rfl⟩
  have h4 : Lg PD PO [bo] W w4 p x (newD 40) ⟨⟨0, 0, 0⟩, [], false⟩ := by
    rw [hw4']
    exact Lg.turn I J h3 (E := []) (Fr.of_below ((Below.refl _ _).alloc (Nat.le_refl _) _)) (fun b hb => by cases hb) (fun k hk => by rw [List.mem_singleton.1 hk, hbo]; exact ⟨.inr (Nat.le_refl _), by simp⟩)
  have r4 : Rw w4 bo [.int .i64 ((0 : Nat) : Int), .int .i64 ((0 : Nat) : Int), .int .i64 ((0 : Nat) : Int)] 23 := by rw [hw4', hbo]; exact Rw.new w3 _ _
  rw [← hbo] at boW
  rw [← hbo]
  clear hw4 hw4' hbo h3
  go_wp2
  go_loopw [9] (fun i wr => ∃ (t : Nat) (d : Dv) (sz : Nat) (Lb : List UInt8) (rs : Secs) (o : List UInt8), t ≤ n ∧ t ≤ 12 ∧ i = .int .i64 t ∧ Lg PD PO [bo] W wr p x d ⟨⟨t, sz, t⟩, Lb, false⟩ ∧ Rdy 40 d ⟨⟨t, sz, t⟩, Lb, false⟩ rs false 0 (t * 8192) o ∧ Lb.length ≤ t * 96 ∧ Rw wr bo [.int .i64 (t : Nat), .int .i64 (sz : Nat), .int .i64 (t : Nat)] 23) (fun i _ => n - (intOf i).toNat)
  case atStart => exact ⟨0, newD 40, 0, [], [], zsec, by omega, by omega, rfl, h4, R0', by simp, r4⟩
  case round =>
    clear h4 r4 R0'
    obtain ⟨t, d, sz, Lb, rs, o, ht, ht2, rfl, hL, hR, hlb, hrow⟩ := hrel
    by_cases hlt : t < n
    · have tl : (t : Int) < n := by omega
      by_cases hlt2 : t < 12
      · have tl2 : (t : Int) < 12 := by omega
        obtain ⟨l, hl⟩ : ∃ l, ls[t]? = some l := ⟨ls[t]'(by rw [hs.1]; omega), List.getElem?_eq_getElem _⟩
        obtain ⟨b, off, ha, hbl, hcells⟩ := hs.2 (by omega)
        subst ha
        have cl := hL.bel.cell (p := ⟨b, off + t, none⟩) hbl |>.trans (hcells t l hl)
        have lt80 : (l.take 80).length ≤ 80 := by rw [List.length_take]; omega
        have h96 := recd80 l
        obtain ⟨d', hc, R'⟩ := commit_calm (r := l.take 80) hR (by omega) (by omega) (by simp only; omega) (by simp only; omega) (by simp only; omega)
        have F := rdy_few7 hR (by decide) (by omega) (by decide)
        have F' := rdy_few7 R' (by decide) (by omega) (by decide)
        have Ft := rdy_fits hR (by simp only; omega) (by simp only; omega)
        have Mok := hR.log.ok
        simp only at hc R' h96 Mok
        generalize hrc : recd (l.take 80) = rc at hc R' h96
        simp only [nextM] at hc R'
        generalize hsz : sz + rc.length = sz' at hc R'
        have C := Lib.hid hc
        have NB := R'.alw.here
        have NO := R'.alw.other
        have Nok := R'.log.ok
        simp only at NB NO Nok
        have e1 : 1 - (t + 1) % 2 = (t + 1 + 1) % 2 := by omega
        rw [e1] at NO
        have mI : ((t : Int) + 1) % 2 = (((t + 1) % 2 : Nat) : Int) := by omega
        have mI2 : ((t : Int) + 1 + 1) % 2 = (((t + 1 + 1) % 2 : Nat) : Int) := by omega
        have MI := Lib.hid mI
        have MI2 := Lib.hid mI2
        have HR' := Lib.hid R'
        have HF' := Lib.hid F'
        have TB := Lib.hid boW
        have LB := Lib.hid hlb
        have H96 := Lib.hid h96
        have hu1 : ∀ w, Calls Try.prog 10 #[.string ⟨(packM ⟨t + 1, sz', t + 1⟩).toArray⟩] w fun e w' => e = .returned (.tuple #[.agg #[.int .i64 ((t : Int) + 1), .int .i64 (sz' : Nat), .int .i64 ((t : Int) + 1)], .bool true]) ∧ Below w.heap.size w w' := by
          intro w
          refine (J.unpack _ w (by rw [packM_len]; decide)).mono ?_
          rw [mkO_pack Nok, unpackM_pack Nok, mkV_cells]
          simp only [cast_succ]
          exact fun e w' h => h
        have hu2 : ∀ w, Calls Try.prog 10 #[.string ⟨(packM ⟨t, sz, t⟩).toArray⟩] w fun e w' => e = .returned (.tuple #[.agg #[.int .i64 (t : Nat), .int .i64 (sz : Nat), .int .i64 (t : Nat)], .bool true]) ∧ Below w.heap.size w w' := by
          intro w
          refine (J.unpack _ w (by rw [packM_len]; decide)).mono ?_
          rw [mkO_pack Mok, unpackM_pack Mok, mkV_cells]
          exact fun e w' h => h
        have HU1 := Lib.hid hu1
        have HU2 := Lib.hid hu2
        have SA1 := Lib.hid (safeD_at NB)
        have SA2 := Lib.hid (safeD_at NO)
        have SZ := Lib.hid hsz
        obtain ⟨P1, hP1⟩ : ∃ P1, P1 = packM ⟨t + 1, sz', t + 1⟩ := ⟨_, rfl⟩
        obtain ⟨P2, hP2⟩ : ∃ P2, P2 = packM ⟨t, sz, t⟩ := ⟨_, rfl⟩
        rw [← hP1] at HU1 SA1
        rw [← hP2] at HU2 SA2
        clear hc hcells hrc mI mI2 e1 R' F' hlb h96 hu1 hu2 NB NO Nok Mok hsz hP1 hP2
        go_wp2_with fail
        refine (short7_any l 80 wr (by omega)).mono ?_
        rintro e w5 ⟨rfl, rfl⟩
        rw [show (80 : Int).toNat = 80 from rfl]
        go_wp2_with fail
        refine (Iface7.commitL I J (l.take 80) hL F hR.ok Ft (by omega) (commitD_len _ _ _)).mono ?_
        rw [C.out]
        rintro e w6 ⟨rfl, h6, k6⟩
        have r6 := hrow.keep (k6 bo (by simp))
        clear hL hR F Ft hrow k6
        go_wp2_with fail
        refine (Iface7.markL I J h6).mono ?_
        rw [mkV_cells]
        rintro e w7 ⟨rfl, g7⟩
        simp only [cast_succ]
        obtain ⟨h7, k7⟩ := Lg.below I J h6 g7
        have r7 := r6.keep (k7 bo (by simp))
        clear h6 r6 g7 k7
        have ba8 : Below w7.heap.size w7 (w7.alloc (.cells #[.int .i64 ((t : Int) + 1), .int .i64 (sz' : Nat), .int .i64 ((t : Int) + 1)] 23)) := (Below.refl _ _).alloc (Nat.le_refl _) _
        have rM8 := Rw.new w7 [.int .i64 ((t : Int) + 1), .int .i64 (sz' : Nat), .int .i64 ((t : Int) + 1)] 23
        obtain ⟨h8, k8⟩ := Lg.below I J h7 ba8
        have r8 := r7.keep (k8 bo (by simp))
        go_wp2_with fail
        rw [MI.out]
        refine (I.safeD7 _ h8.ld HF'.out.few HR'.out.ok).mono ?_
        rw [SA1.out]
        rintro e w9 ⟨rfl, g9⟩
        obtain ⟨h9, k9⟩ := Lg.below I J h8 g9
        have r9 := r8.keep (k9 bo (by simp))
        have rM9 := rM8.below g9
        clear h7 h8 r7 r8 ba8 k8 g9 k9 rM8
        generalize hbm : w7.heap.size = bm at *
        go_wp2_with fail
        refine (HU1.out w9).mono ?_
        rintro e w10 ⟨rfl, g10⟩
        obtain ⟨h10, k10⟩ := Lg.below I J h9 g10
        have r10 := r9.keep (k10 bo (by simp))
        have rM10 := rM9.below g10
        clear h9 r9 rM9 g10 k10
        have ba11 : Below w10.heap.size w10 (w10.alloc (.cells #[.int .i64 ((t : Int) + 1), .int .i64 (sz' : Nat), .int .i64 ((t : Int) + 1)] 23)) := (Below.refl _ _).alloc (Nat.le_refl _) _
        have rA11 := Rw.new w10 [.int .i64 ((t : Int) + 1), .int .i64 (sz' : Nat), .int .i64 ((t : Int) + 1)] 23
        obtain ⟨h11, k11⟩ := Lg.below I J h10 ba11
        have r11 := r10.keep (k11 bo (by simp))
        have rM11 := rM10.below ba11
        have cM11 := rM11.c 0 rfl
        have lM10 := rM10.lt
        have cM10 := rM10.c 0 rfl
        go_wp2_with fail
        rw [MI2.out]
        refine (I.safeD7 _ h11.ld HF'.out.few HR'.out.ok).mono ?_
        rw [SA2.out]
        rintro e w12 ⟨rfl, g12⟩
        obtain ⟨h12, k12⟩ := Lg.below I J h11 g12
        have r12 := r11.keep (k12 bo (by simp))
        have rM12 := rM11.below g12
        have rA12 := rA11.below g12
        clear h10 h11 r10 r11 rM10 rM11 rA11 ba11 k11 g12 k12 cM11 cM10 lM10
        generalize hba : w10.heap.size = ba at *
        go_wp2_with fail
        refine (HU2.out w12).mono ?_
        rintro e w13 ⟨rfl, g13⟩
        obtain ⟨h13, k13⟩ := Lg.below I J h12 g13
        have r13 := r12.keep (k13 bo (by simp))
        have rM13 := rM12.below g13
        have rA13 := rA12.below g13
        clear h12 r12 rM12 rA12 g13 k13
        obtain ⟨w14, hw14⟩ : ∃ w14, w14 = w13.alloc (.cells #[.int .i64 (t : Nat), .int .i64 (sz : Nat), .int .i64 (t : Nat)] 23) := ⟨_, rfl⟩
        have ba14 : Below w13.heap.size w13 w14 := by rw [hw14]; exact (Below.refl _ _).alloc (Nat.le_refl _) _
        have rB14 : Rw w14 w13.heap.size [.int .i64 (t : Nat), .int .i64 (sz : Nat), .int .i64 (t : Nat)] 23 := by rw [hw14]; exact Rw.new w13 _ _
        obtain ⟨h14, k14⟩ := Lg.below I J h13 ba14
        have r14 := r13.keep (k14 bo (by simp))
        have rM14 := rM13.below ba14
        have rA14 := rA13.below ba14
        have o0 := r14.c 0 rfl
        have o1 := r14.c 1 rfl
        have o2 := r14.c 2 rfl
        have p0 := rM14.c 0 rfl
        have p1 := rM14.c 1 rfl
        have p2 := rM14.c 2 rfl
        have q0 := rA14.c 0 rfl
        have q1 := rA14.c 1 rfl
        have q2 := rA14.c 2 rfl
        have s0 := rB14.c 0 rfl
        have s1 := rB14.c 1 rfl
        have s2 := rB14.c 2 rfl
        have oo0 := r13.c 0 rfl
        have oo1 := r13.c 1 rfl
        have oo2 := r13.c 2 rfl
        have ol := r13.lt
        have pp0 := rM13.c 0 rfl
        have pp1 := rM13.c 1 rfl
        have pp2 := rM13.c 2 rfl
        have pl := rM13.lt
        have qq0 := rA13.c 0 rfl
        have qq1 := rA13.c 1 rfl
        have qq2 := rA13.c 2 rfl
        have ql := rA13.lt
        have H14 := Lib.hid h14
        have R14 := Lib.hid r14
        have RM14 := Lib.hid rM14
        have HW14 := Lib.hid hw14
        clear h13 r13 rM13 rA13 ba14 rB14 k14 r14 rM14 rA14 h14 hw14
        go_wp2_with fail
        rw [← HW14.out]
        refine (I.waitingD7 H14.out.ld HF'.out.few).mono ?_
        rw [show d'.waits.length = 0 from by rw [HR'.out.waits]; rfl]
        rintro e w15 ⟨⟨a15, c15, rfl, _, _⟩, g15⟩
        obtain ⟨h15, k15⟩ := Lg.below I J H14.out g15
        have r15 := R14.out.keep (k15 bo (by simp))
        have rM15 := RM14.out.below g15
        have o0' := r15.c 0 rfl
        have o1' := r15.c 1 rfl
        have o2' := r15.c 2 rfl
        have fo0 := r15.f 0
        have fo1 := r15.f 1
        have fo2 := r15.f 2
        have p0' := rM15.c 0 rfl
        have p1' := rM15.c 1 rfl
        have p2' := rM15.c 2 rfl
        have hf15 : Fr [bo] w15 (((w15.setCell ⟨bo, 0, none⟩ (.int .i64 ((t : Int) + 1))).setCell ⟨bo, 1, none⟩ (.int .i64 (sz' : Nat))).setCell ⟨bo, 2, none⟩ (.int .i64 ((t : Int) + 1))) := (((Fr.refl _ _).setCell (.inl (by simp)) _).setCell (.inl (by simp)) _).setCell (.inl (by simp)) _
        have L16 := Lib.hid (Lg.turn I J h15 hf15 (fun b hb => by rw [List.mem_singleton.1 hb]; exact ⟨by simp, TB.out⟩) (K' := [bo]) (fun k hk => by rw [List.mem_singleton.1 hk]; exact ⟨.inl (by simp), Nat.lt_of_lt_of_le r15.lt hf15.size⟩))
        have R16 := Lib.hid (((r15.set 0 (.int .i64 ((t : Int) + 1))).set 1 (.int .i64 (sz' : Nat))).set 2 (.int .i64 ((t : Int) + 1)))
        clear o0 o1 o2 p0 p1 p2 q0 q1 q2 s0 s1 s2 oo0 oo1 oo2 ol pp0 pp1 pp2 pl qq0 qq1 qq2 ql h15 k15 r15 rM15 g15 hf15 H14 R14 RM14 HW14
        go_wp2
        go_roundw
        case rel =>
          have HR := HR'.out
          exact ⟨t + 1, d', sz', Lb ++ rc, rs ++ [l.take 80], packM ⟨t, sz, t⟩, by omega, by omega, by go_num, L16.out, by rw [show (t + 1) * 8192 = t * 8192 + 8192 from by omega]; exact HR, by have := LB.out; have := H96.out; rw [List.length_append]; omega, by rw [cast_succ]; exact R16.out⟩
        case measure => simp [intOf]; omega
      · have tl2 : ¬ ((t : Int) < 12) := by omega
        have BW := Lib.hid hL.bel
        clear hL hR hrow
        go_wp2
        go_ret
        exact ⟨rfl, BW.out⟩
    · have tl : ¬ ((t : Int) < n) := by omega
      have BW := Lib.hid hL.bel
      clear hL hR hrow
      go_wp2
      go_ret
      exact ⟨rfl, BW.out⟩
end
end Go.Proofs.Ytnpoohkklfpmdaa.slotsTurns
