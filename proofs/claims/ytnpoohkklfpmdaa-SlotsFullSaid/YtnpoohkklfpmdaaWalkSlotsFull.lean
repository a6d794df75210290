/- The walk of SlotsFull, over whatever keeps to the interface. -/
import Derived.Test.YtnpoohkklfpmdaaRows
import Derived.WalkKit
import Derived.Below
import Derived.ProofKit
import Derived.OpenShut
import Derived.ShutString
import Derived.ChangeOld
import Derived.Outline
import Derived.RegionTactic
import Derived.ChangeAlike
import Derived.BigRegion
import Derived.BigQuiet
import Derived.Deep.QuietTactic
import Derived.Deep.RegionWith
import Derived.Deep.RegionLaw
import Derived.Deep.RegionHeld3
import Derived.Deep.AppendLies
import Derived.Deep.Draws
import Derived.StillTailTactics
import Derived.Lib.Hide
import Derived.Lib.SmallJoins
import Derived.Handy
import Derived.WalkSpells
import Derived.WalkLawsBesides
import Derived.Deep.LoopGhost
import Derived.Deep.DeepCutAuto
import Derived.Deep.CutBlock
import Derived.Deep.CutRange
import Derived.Deep.OwnRows
import Derived.Laws.CopyOwn
import Derived.Great.BuildSlice
import Derived.Test.YtnpoohkklfpmdaaSlW
import Derived.Test.YtnpoohkklfpmdaaSlN
import Derived.Test.YtnpoohkklfpmdaaLawY
import Derived.Test.YtnpoohkklfpmdaaBitsLow
namespace Go.Proofs.Ytnpoohkklfpmdaa.slotsFull
open Go.RowKit
set_option linter.unusedSimpArgs false
set_option linter.unusedVariables false
set_option linter.unnecessarySimpa false
attribute [local go_sem] idx_list ext_list app_list
section
variable {PD : World → List Nat → Nat → Dv → Prop} {PO : World → List Nat → Nat → Nat → Nat → Sg → Prop} (I : Iface0 PD) (J : Iface7 PD PO)
include I J
theorem room_any {K : List Nat} {W w : World} {p x N R : Nat} {d : Dv} {S : Sg} (h : Lg PD PO K W w p x d S) (hS : S.Fits d.safe.length) (hl : d.safe.length = N) (hn : N ≤ 4096) (hR : R + S.log.length = 64 * (N - 2)) (n : Nat) :
    Calls Try.prog 18 #[.pointer (some ⟨x, 0, none⟩)] (w.drewN n) fun e w' => e = .returned (.int .i64 (R : Int)) ∧ ∃ m, w' = w.drewN m := by
  have hb : Below w.heap.size w (w.drewN n) := below_drewN (Below.refl _ _) n
  refine Calls.quiet_of ((Iface7.roomL I J (Lg.below I J h hb).1 hS (by omega)).mono fun e w' ⟨he, hw⟩ => ⟨?_, hw⟩)
  rw [he, show 64 * (d.safe.length - 2) - S.log.length = R from by rw [hl]; omega]
set_option maxRecDepth 100000 in
set_option maxHeartbeats 8000000 in
theorem walk (z : Int) (a : Option Addr) (n cap : Nat) (ls : List (List UInt8)) (W : World) (hs : StrsAt W W.heap.size a n ls) (hcap : n ≤ cap) : Calls Try.prog 5 #[.int .i64 z, .slice a n cap] W fun e w' => e = .returned (.bool true) ∧ Below W.heap.size W w' := by
  obtain ⟨k, hk⟩ : ∃ k : Nat, z % 8 = (k : Int) := ⟨(z % 8).toNat, by omega⟩
  have ez : bits .and .i64 z 7 = (k : Int) := by rw [and7, hk]
  have k8 : k < 8 := by omega
  obtain ⟨N, hN⟩ : ∃ N, N = 3 + k := ⟨_, rfl⟩
  have eN : (3 : Int) + (k : Int) = (N : Nat) := by omega
  have N3 : 3 ≤ N := by omega
  have N10 : N ≤ 10 := by omega
  have R0 := new_rdy N N3
  have F0 := rdy_few7 R0 (by decide) (by decide) (by omega)
  have Ft0 := rdy_fits R0 (by decide) (by decide)
  have e0 := R0.opens
  have eR : ((64 * (N - 2) : Nat) : Int) = ((N : Int) - 2) * 64 := by omega
  obtain ⟨i0, hi, hz0, hz1, hz2⟩ := info_parts infoStr
  have HE := Lib.hid eN
  have HR := Lib.hid eR
  clear hk hN eN eR
  go_enter Try.func5, Try.ntmps5
  go_wp2_with fail
  refine (awake7_any I J W).mono ?_
  rintro e w0 ⟨rfl, g0⟩
  go_wp2_with fail
  rw [HE.out]
  refine (I.newL (K := []) N g0 (by omega) (by omega) (fun k hk => by cases hk)).mono ?_
  rintro e w1 ⟨p, rfl, h1, _⟩
  go_wp2_with fail
  refine (Iface7.openOkL I J h1 F0 R0.ok (by rw [R0.len]; omega) R0.on e0).mono ?_
  rintro e w2 ⟨x, a2, c2, rfl, hca, hsa, h2, g2, _, _⟩
  rw [show (([] : Secs).length) = 0 from rfl]
  clear hsa hca g2 h1 g0 e0
  have RM := room_any I J h2 Ft0 R0.len (by omega) (R := 64 * (N - 2)) (by simp)
  have RM0 := Lib.hid (RM 0)
  rw [HR.out] at RM0
  clear RM
  go_wp2_with fail
  refine (RM0.out).mono ?_
  rintro e w3 ⟨rfl, m3, hm3⟩
  have g3 : Below w2.heap.size w2 w3 := by rw [hm3]; exact below_drewN (Below.refl _ _) m3
  obtain ⟨h3, _⟩ := Lg.below I J h2 g3
  have R0' : Rdy N (newD N) ⟨⟨0, 0, 0⟩, [], false⟩ [] false 0 (0 * 8192) zsec := R0
  clear h2 g3 F0 Ft0 R0 RM0 hm3
  go_wp2
  go_loopw [12, 11] (fun i vt wr => ∃ (t ep sz : Nat) (d : Dv) (Lb : List UInt8) (rs : Secs) (o : List UInt8) (tc : Nat) (ta : Option Addr), t ≤ n ∧ t ≤ 30 ∧ i = .int .i64 t ∧ vt = .slice ta rs.length tc ∧ Lg PD PO (blk (.slice ta rs.length tc)) W wr p x d ⟨⟨ep, sz, ep⟩, Lb, false⟩ ∧ Rdy N d ⟨⟨ep, sz, ep⟩, Lb, false⟩ rs false 0 (t * 8192) o ∧ ep ≤ t ∧ rs.length ≤ t ∧ wr.ownsRow W.heap.size 9 1 (.slice ta rs.length tc) rs.length (strs rs)) (fun i _ _ => n - (intOf i).toNat)
  case atStart => exact ⟨0, 0, 0, newD N, [], [], zsec, 0, none, by omega, by omega, rfl, rfl, h3, R0', by omega, by simp, World.ownsRow_nil _ _ _ _⟩
  case round =>
    clear h3 R0'
    obtain ⟨t, ep, sz, d, Lb, rs, o, tc, ta, ht, ht2, rfl, rfl, hL, hR, hep, hrl, hrow⟩ := hrel
    by_cases hlt : t < n
    · have tl : (t : Int) < n := by omega
      by_cases hlt2 : t < 30
      · have tl2 : (t : Int) < 30 := by omega
        obtain ⟨l, hl⟩ : ∃ l, ls[t]? = some l := ⟨ls[t]'(by rw [hs.1]; omega), List.getElem?_eq_getElem _⟩
        obtain ⟨b, off, ha, hbl, hcells⟩ := hs.2 (by omega)
        subst ha
        have cl := hL.bel.cell (p := ⟨b, off + t, none⟩) hbl |>.trans (hcells t l hl)
        have lt80 : (l.take 80).length ≤ 80 := by rw [List.length_take]; omega
        have near := recd_near (l.take 80) lt80
        have F := rdy_few7 hR (by decide) (by omega) (by omega)
        have Ft := rdy_fits hR (by simp only; omega) (by simp only; omega)
        have hlen := hR.len
        have hft := Ft.fit
        have hsz := Ft.sz
        rw [hlen] at hft
        simp only at hft hsz
        subst hsz
        obtain ⟨R, hRm⟩ : ∃ R, R + Lb.length = 64 * (N - 2) := ⟨64 * (N - 2) - Lb.length, by omega⟩
        go_wp2_with fail
        refine (short7_any l 80 wr (by omega)).mono ?_
        rintro e w4 ⟨rfl, rfl⟩
        rw [show (80 : Int).toNat = 80 from rfl]
        generalize hx : l.take 80 = r at *
        clear hx
        go_wp2_with fail
        refine (room_any I J hL Ft hlen (by omega) hRm 0).mono ?_
        rintro e w5 ⟨rfl, m5, hm5⟩
        have g5 : Below wr.heap.size wr w5 := by rw [hm5]; exact below_drewN (Below.refl _ _) m5
        obtain ⟨h5, _⟩ := Lg.below I J hL g5
        have o5 := own_below hrow g5
        clear hL hrow g5 hm5 cl hcells
        go_wp2_with fail
        refine (Iface7.markL I J h5).mono ?_
        rw [mkV_cells]
        rintro e w6 ⟨rfl, g6⟩
        obtain ⟨h6, _⟩ := Lg.below I J h5 g6
        have o6 := own_below o5 g6
        clear h5 o5 g6
        go_upto_region 14 with (fail)
        generalize hw7 : World.alloc _ _ = w7
        have hw7' : w7 = w6.alloc (.cells #[.int .i64 (ep : Nat), .int .i64 (Lb.length : Nat), .int .i64 (ep : Nat)] 23) := hw7.symm
        have b7 : Below w6.heap.size w6 w7 := by rw [hw7']; exact (Below.refl _ _).alloc (Nat.le_refl _) _
        have h7 : Lg PD PO (w6.heap.size :: blk (.slice ta rs.length tc)) W w7 p x d ⟨⟨ep, Lb.length, ep⟩, Lb, false⟩ :=
          Lg.turn I J h6 (E := []) (Fr.of_below b7) (fun b hb => by cases hb) (fun k hk => by
            rcases List.mem_cons.1 hk with q | q
            · subst q; exact ⟨.inr (Nat.le_refl _), by rw [hw7']; simp⟩
            · exact ⟨.inl q, Nat.lt_of_lt_of_le (h6.lt q) b7.size⟩)
        have r7 : Rw w7 w6.heap.size [.int .i64 (ep : Nat), .int .i64 (Lb.length : Nat), .int .i64 (ep : Nat)] 23 := by rw [hw7']; exact Rw.new w6 _ _
        have o7 := own_below o6 b7
        have zW6 := h6.bel.size
        have ltm : ∀ k, (Value.slice ta rs.length tc).ownBlock = some k → k < w6.heap.size := fun k hk => own_lt o6 hk
        clear hw7 hw7' b7 h6 o6
        generalize w6.heap.size = bm at *
        by_cases hfit : Lb.length + (recd r).length ≤ 64 * (N - 2)
        · obtain ⟨d', hc, R'⟩ := commit_calm (r := r) hR (by omega) (by omega) (by simp only; omega) (by simp only; omega) (by simp only; omega)
          generalize hrc : recd r = rc at hc R' near hfit
          simp only [nextM] at hc R'
          obtain ⟨sz', hsz'⟩ : ∃ sz', sz' = Lb.length + rc.length := ⟨_, rfl⟩
          rw [← hsz'] at hc R'
          obtain ⟨Q, hQ⟩ : ∃ Q, R = Q + rc.length := ⟨R - rc.length, by omega⟩
          have F' := rdy_few7 R' (by decide) (by omega) (by omega)
          have Ft' := rdy_fits R' (by simp only; omega) (by simp only; omega)
          have hlen' := R'.len
          have hQm : Q + (Lb ++ rc).length = 64 * (N - 2) := by rw [List.length_append]; omega
          subst hQ
          have HSZ := Lib.hid hsz'
          have C := Lib.hid hc
          have HQM := Lib.hid hQm
          have HNR := Lib.hid near
          have HRR := Lib.hid R'
          have HFT := Lib.hid Ft'
          clear hc R' Ft' F' hrc hsz' hQm near hfit hft
          go_wp2_with fail
          refine (Iface7.commitL I J r h7 F hR.ok Ft (by omega) (commitD_len _ _ _)).mono ?_
          rw [C.out]
          rintro e w8 ⟨rfl, h8, k8⟩
          have r8 := r7.keep (k8 bm (by simp))
          have o8 := own_keep o7 (fun k hk => k8 k (by simp [mem_blk.2 hk]))
          clear h7 r7 o7 k8 F Ft hR
          go_wp2_with fail
          refine (Iface7.markL I J h8).mono ?_
          rw [mkV_cells]
          rintro e w9 ⟨rfl, g9⟩
          simp only [cast_succ]
          obtain ⟨h9, k9⟩ := Lg.below I J h8 g9
          have r9 := r8.keep (k9 bm (by simp))
          have o9 := own_below o8 g9
          clear h8 r8 o8 g9 k9
          go_upto_region 16 with (fail)
          generalize hw10 : World.alloc _ _ = w10
          have hw10' : w10 = w9.alloc (.cells #[.int .i64 ((ep : Int) + 1), .int .i64 (sz' : Nat), .int .i64 ((ep : Int) + 1)] 23) := hw10.symm
          have b10 : Below w9.heap.size w9 w10 := by rw [hw10']; exact (Below.refl _ _).alloc (Nat.le_refl _) _
          have rN10 : Rw w10 w9.heap.size [.int .i64 ((ep : Int) + 1), .int .i64 (sz' : Nat), .int .i64 ((ep : Int) + 1)] 23 := by rw [hw10']; exact Rw.new w9 _ _
          obtain ⟨h10, k10⟩ := Lg.below I J h9 b10
          have r10 := r9.keep (k10 bm (by simp))
          have o10 := own_below o9 b10
          have lt9 : ∀ k, (Value.slice ta rs.length tc).ownBlock = some k → k < w9.heap.size := fun k hk => own_lt o9 hk
          have bm9 : bm < w9.heap.size := r9.lt
          have z10 := h10.bel.size
          clear hw10 hw10' b10 k10 h9 r9 o9
          generalize w9.heap.size = bn at *
          go_upto_region 18 with (first
            | (at_builtin; refine wpList_append_lies _ rfl (.tmp 74) (.tmp 76) 29 rfl W.heap.size 9 i0 (.string ⟨#[]⟩) 1 16 Try.underlying29 hi hz0 hz1 hz2 rfl (by decide) (.slice ta rs.length tc) rs.length (strs rs) rfl (o10.alloc _) ⟨w10.heap.size, 0, none⟩ 1 1 [.string ⟨r.toArray⟩] rfl rfl (World.news_of_block (cs := #[.string ⟨r.toArray⟩]) (t := 9) (fr := (0, 0)) (heap_alloc_new w10 _)) (by simp [Value.oneCell']) (by decide) (by unfold maxLen; omega) (by omega) (by simp; omega) _ rfl ?_; intro g cap2 w11 own11 grow11 hat11 hlt11)
            | fail)
          rw [← strs_snoc] at own11
          have hf11 : Fr (blk (.slice ta rs.length tc)) w10 w11 := (Fr.of_below ((Below.refl _ _).alloc (Nat.le_refl _) _)).trans (Fr.grownRow grow11)
          have hat' : (Value.slice ta rs.length tc).ownBlock = some g ∨ g = w10.heap.size + 1 := hat11.imp id (fun q => by simpa using q)
          have r11 := r10.fr hf11 (fun hin => by have := ltm bm (mem_blk.1 hin); omega)
          have rN11 := rN10.fr hf11 (fun hin => by have := lt9 bn (mem_blk.1 hin); omega)
          have h11 : Lg PD PO (bm :: blk (.slice (some ⟨g, 0, none⟩) (rs.length + 1) cap2)) W w11 p x d' ⟨⟨ep + 1, sz', ep + 1⟩, Lb ++ rc, false⟩ :=
            Lg.turn I J h10 hf11 (fun b hb => ⟨by simp [hb], own_block_ge o10 b (mem_blk.1 hb)⟩) (fun k hk => by
              rcases List.mem_cons.1 hk with q | q
              · subst q; exact ⟨.inl (by simp), r11.lt⟩
              · have q' : k = g := by rw [mem_blk] at q; simpa [Value.ownBlock, eq_comm] using q
                subst q'
                refine ⟨?_, hlt11⟩
                rcases hat' with e | e
                · exact .inl (by simp [mem_blk.2 e])
                · right; omega)
          have RQ := room_any I J h11 HFT.out hlen' (by omega) HQM.out
          have s1 : IntKind.i64.wrap ((ep : Int) + 1) = (ep : Int) + 1 := IntWalk.i64_in _ (by omega)
          have s2 : IntKind.i64.wrap ((sz' : Int) - Lb.length) = (rc.length : Int) := by
            have := HSZ.out; have := HNR.out
            rw [show (sz' : Int) - Lb.length = rc.length from by omega]; exact IntWalk.i64_in _ (by omega)
          have s3 : IntKind.i64.wrap ((Q : Int) + rc.length - Q) = (rc.length : Int) := by
            have := HNR.out
            rw [show (Q : Int) + rc.length - Q = rc.length from by omega]; exact IntWalk.i64_in _ (by omega)
          have s4 : IntKind.i64.wrap ((r.length : Int) + 9) = (r.length : Int) + 9 := IntWalk.i64_in _ (by omega)
          have s5 : decide ((rc.length : Int) < (r.length : Int) + 9) = false := decide_eq_false (by have := HNR.out; omega)
          have s6 : (((ep : Int) + 1) != ((ep : Int) + 1)) = false := by simp
          have s7 : ((rc.length : Int) != (rc.length : Int)) = false := by simp
          have c0 := r11.c 0 rfl
          have c1 := r11.c 1 rfl
          have c2 := r11.c 2 rfl
          have n0 := rN11.c 0 rfl
          have n1 := rN11.c 1 rfl
          have n2 := rN11.c 2 rfl
          have lm := r11.lt
          have ln := rN11.lt
          have h11h := Lib.hid h11
          have own11h := Lib.hid own11
          have zz : W.heap.size ≤ g := by
            rcases hat' with e | e
            · exact own_block_ge o10 g e
            · omega
          clear r10 rN10 h10 o10 hf11 hat' hat11 grow11 h11 r11 rN11 lt9 ltm own11
          go_quiet ((go_at_call 18; exact RQ _))
          go_wp2
          go_roundw
          case rel =>
            have e1 : (rs ++ [r]).length = rs.length + 1 := by simp
            have hl11 := h11h.out.less (K' := blk (.slice (some ⟨g, 0, none⟩) (rs.length + 1) cap2)) (fun k hk => List.mem_cons_of_mem _ hk)
            have b11 : Below w11.heap.size w11 (w11.drewN nq) := below_drewN (Below.refl _ _) nq
            exact ⟨t + 1, ep + 1, sz', d', Lb ++ rc, rs ++ [r], _, cap2, some ⟨g, 0, none⟩, by omega, by omega, by go_num, by rw [e1], by rw [e1]; exact (Lg.below I J hl11 b11).1, by rw [show (t + 1) * 8192 = t * 8192 + 8192 from by omega]; exact HRR.out, by omega, by omega, by rw [e1]; exact own_below own11h.out b11⟩
          case measure => simp [intOf]; omega
        · have hc := commit_full (d := d) (S := ⟨⟨ep, Lb.length, ep⟩, Lb, false⟩) (r := r) rfl (by omega) (by rw [hlen]; exact hfit)
          have C := Lib.hid hc
          have HR := Lib.hid hR
          have HFT := Lib.hid Ft
          have HF := Lib.hid F
          have HQM := Lib.hid hRm
          have hno : ¬ ((r.length : Int) + 13 ≤ (R : Int)) := by omega
          clear hc hft hfit near hR Ft F hRm
          go_wp2_with fail
          refine (Iface7.commitL I J r h7 HF.out HR.out.ok HFT.out (by omega) (commitD_len _ _ _)).mono ?_
          rw [C.out]
          rintro e w8 ⟨rfl, h8, k8⟩
          have r8 := r7.keep (k8 bm (by simp))
          have o8 := own_keep o7 (fun k hk => k8 k (by simp [mem_blk.2 hk]))
          clear h7 r7 o7 k8
          go_wp2_with fail
          refine (Iface7.markL I J h8).mono ?_
          rw [mkV_cells]
          rintro e w9 ⟨rfl, g9⟩
          obtain ⟨h9, k9⟩ := Lg.below I J h8 g9
          have r9 := r8.keep (k9 bm (by simp))
          have o9 := own_below o8 g9
          clear h8 r8 o8 g9 k9
          go_upto_region 16 with (fail)
          generalize hw10 : World.alloc _ _ = w10
          have hw10' : w10 = w9.alloc (.cells #[.int .i64 (ep : Nat), .int .i64 (Lb.length : Nat), .int .i64 (ep : Nat)] 23) := hw10.symm
          have b10 : Below w9.heap.size w9 w10 := by rw [hw10']; exact (Below.refl _ _).alloc (Nat.le_refl _) _
          have rN10 : Rw w10 w9.heap.size [.int .i64 (ep : Nat), .int .i64 (Lb.length : Nat), .int .i64 (ep : Nat)] 23 := by rw [hw10']; exact Rw.new w9 _ _
          obtain ⟨h10, k10⟩ := Lg.below I J h9 b10
          have r10 := r9.keep (k10 bm (by simp))
          have o10 := own_below o9 b10
          clear hw10 hw10' b10 k10 h9 r9 o9
          generalize w9.heap.size = bn at *
          have c0 := r10.c 0 rfl
          have c1 := r10.c 1 rfl
          have c2 := r10.c 2 rfl
          have n0 := rN10.c 0 rfl
          have n1 := rN10.c 1 rfl
          have n2 := rN10.c 2 rfl
          have lm := r10.lt
          have ln := rN10.lt
          have RQ := room_any I J h10 HFT.out hlen (by omega) HQM.out 0
          go_wp2_with fail
          refine RQ.mono ?_
          rintro e w11 ⟨rfl, m11, hm11⟩
          have b11 : Below w10.heap.size w10 w11 := by rw [hm11]; exact below_drewN (Below.refl _ _) m11
          obtain ⟨h11, k11⟩ := Lg.below I J h10 b11
          have o11 := own_below o10 b11
          clear h10 o10 b11 hm11 r10 rN10 c0 c1 c2 n0 n1 n2 lm ln RQ k11
          go_wp2_with fail
          refine (Iface7.brokenL I J h11).mono ?_
          rintro e w12 ⟨rfl, rfl⟩
          go_wp2
          go_roundw
          case rel => exact ⟨t + 1, ep, Lb.length, d, Lb, rs, o, tc, ta, by omega, by omega, by go_num, rfl, h11.less (fun k hk => List.mem_cons_of_mem _ hk), HR.out.more (by omega), by omega, by omega, o11⟩
          case measure => simp [intOf]; omega
      · have tl2 : ¬ ((t : Int) < 30) := by omega
        have F := rdy_few7 hR (by decide) (by omega) (by omega)
        have HF := Lib.hid F
        have HRD := Lib.hid hR
        clear F hR
        go_wp2_with fail
        refine (Iface7.openOkL I J hL.ld HF.out HRD.out.ok (by rw [HRD.out.len]; omega) HRD.out.on HRD.out.opens).mono ?_
        rintro e w9 ⟨y, a9, c9, rfl, hca, hsa, h9, g9, _, _⟩
        have o9 := own_below hrow g9
        have bW9 := h9.bel
        clear hL hrow h9 g9
        go_wp2_with fail
        refine (Same_any a9 ta rs.length rs.length c9 tc rs rs w9 hsa (strsAt_own o9) (by omega)).mono ?_
        rintro e w10 ⟨rfl, g10⟩
        rw [decide_eq_true rfl]
        clear hsa o9
        go_wp2
        go_ret
        exact ⟨rfl, bW9.trans (g10.mono bW9.size)⟩
    · have tl : ¬ ((t : Int) < n) := by omega
      have F := rdy_few7 hR (by decide) (by omega) (by omega)
      have HF := Lib.hid F
      have HRD := Lib.hid hR
      clear F hR
      go_wp2_with fail
      refine (Iface7.openOkL I J hL.ld HF.out HRD.out.ok (by rw [HRD.out.len]; omega) HRD.out.on HRD.out.opens).mono ?_
      rintro e w9 ⟨y, a9, c9, rfl, hca, hsa, h9, g9, _, _⟩
      have o9 := own_below hrow g9
      have bW9 := h9.bel
      clear hL hrow h9 g9
      go_wp2_with fail
      refine (Same_any a9 ta rs.length rs.length c9 tc rs rs w9 hsa (strsAt_own o9) (by omega)).mono ?_
      rintro e w10 ⟨rfl, g10⟩
      rw [decide_eq_true rfl]
      clear hsa o9
      go_wp2
      go_ret
      exact ⟨rfl, bW9.trans (g10.mono bW9.size)⟩
end
end Go.Proofs.Ytnpoohkklfpmdaa.slotsFull
