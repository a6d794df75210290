/- The walk of SlotsWhole, over whatever keeps to the interface. -/
import Derived.Test.YtnpoohkklfpmdaaRows
import Derived.WalkKit
import Derived.Below
import Derived.ProofKit
import Derived.OpenShut
import Derived.ShutString
import Derived.ChangeOld
import Derived.Outline
import Derived.RegionTactic
import Derived.ChangeAlike
import Derived.BigRegion
import Derived.BigQuiet
import Derived.Deep.QuietTactic
import Derived.Deep.RegionWith
import Derived.Deep.RegionLaw
import Derived.Deep.RegionHeld3
import Derived.Deep.AppendLies
import Derived.Deep.Draws
import Derived.StillTailTactics
import Derived.Lib.Hide
import Derived.Lib.SmallJoins
import Derived.Handy
import Derived.WalkSpells
import Derived.WalkLawsBesides
import Derived.Deep.LoopGhost
import Derived.Deep.DeepCutAuto
import Derived.Deep.CutBlock
import Derived.Deep.CutRange
import Derived.Deep.OwnRows
import Derived.Laws.CopyOwn
import Derived.Great.BuildSlice
import Derived.Test.YtnpoohkklfpmdaaSlW
import Derived.Test.YtnpoohkklfpmdaaLawY
import Derived.Test.YtnpoohkklfpmdaaBitsLow
namespace Go.Proofs.Ytnpoohkklfpmdaa.slotsWhole
open Go.RowKit
set_option linter.unusedSimpArgs false
set_option linter.unusedVariables false
set_option linter.unnecessarySimpa false
attribute [local go_sem] idx_list ext_list app_list
theorem strs_snoc (ls : List (List UInt8)) (l : List UInt8) : strs ls ++ [.string ⟨l.toArray⟩] = strs (ls ++ [l]) := by simp [strs]
section
variable {PD : World → List Nat → Nat → Dv → Prop} {PO : World → List Nat → Nat → Nat → Nat → Sg → Prop} (I : Iface0 PD) (J : Iface7 PD PO)
include I J
theorem app_step {K : List Nat} {W w w6 : World} {p x : Nat} {d : Dv} {S : Sg} {v1 v2 : Value} {B n1 n2 g m c : Nat} {xs1 xs2 : List Value} {cs : List Value} {t : TypeId} {o : Obj} (h : Lg PD PO K W w p x d S)
    (hv1 : w.ownsRow (B + 1) 9 1 v1 n1 xs1) (hv2 : w.ownsRow (B + 1) 9 1 v2 n2 xs2) (hdis : ∀ b ∈ blk v1, b ∉ blk v2) (hK1 : ∀ b ∈ blk v1, b ∈ K) (hB : W.heap.size ≤ B) (hr : Rw w B cs t)
    (hgrow : (w.alloc o).grownBy w6 v1.ownBlock) (hat : v1.ownBlock = some g ∨ g = w.heap.size + 1) (hlt : g < w6.heap.size) :
    w6.ownsRow (B + 1) 9 1 v2 n2 xs2 ∧ Rw w6 B cs t ∧ (∀ b ∈ blk (.slice (some ⟨g, 0, none⟩) m c), b ∉ blk v2) ∧ ∀ K' : List Nat, (∀ k ∈ K', k ∈ K ∨ k = g) → Lg PD PO K' W w6 p x d S := by
  have hf : Fr (blk v1) w w6 := (Fr.of_below ((Below.refl _ _).alloc (Nat.le_refl _) _)).trans (Fr.grownRow hgrow)
  have ge1 : ∀ b ∈ blk v1, B + 1 ≤ b := fun b hb => own_block_ge hv1 b (mem_blk.1 hb)
  refine ⟨own_frame hv2 hf (fun k hk hin => hdis k hin (mem_blk.2 hk)), hr.fr hf (fun hin => by have := ge1 _ hin; omega), fun b hb hin => ?_, fun K' hK' => Lg.turn I J h hf (fun b hb => ⟨hK1 b hb, by have := ge1 b hb; omega⟩) (fun k hk => ?_)⟩
  · rw [mem_blk] at hb
    simp only [Value.ownBlock, Option.some.injEq] at hb
    subst hb
    rcases hat with e | e
    · exact hdis _ (mem_blk.2 e) hin
    · have := own_lt hv2 (mem_blk.1 hin); omega
  · rcases hK' k hk with q | rfl
    · exact ⟨.inl q, Nat.lt_of_lt_of_le (h.lt q) hf.size⟩
    · refine ⟨?_, hlt⟩
      rcases hat with e | e
      · exact .inl (hK1 _ (mem_blk.2 e))
      · right; omega
set_option maxRecDepth 100000 in
set_option maxHeartbeats 8000000 in
theorem walk (a : Option Addr) (n cap : Nat) (ls : List (List UInt8)) (z : Int) (ka : Option Addr) (kn kc : Nat) (keep : List Bool) (torn cut : Int) (W : World) (hs : StrsAt W W.heap.size a n ls) (hcap : n ≤ cap)
    (hb : BoolsAt W ka kn keep) (hkc : kn ≤ kc) (hkm : (kn : Int) ≤ 9223372036854775807) (hkb : ∀ b off, 0 < kn → ka = some ⟨b, off, none⟩ → b < W.heap.size) :
    Calls Try.prog 4 #[.slice a n cap, .int .i64 z, .agg #[.slice ka kn kc, .int .i64 torn, .int .i64 cut]] W fun e w' => e = .returned (.bool true) ∧ Below W.heap.size W w' := by
  obtain ⟨k, hk⟩ : ∃ k : Nat, z % 64 = (k : Int) := ⟨(z % 64).toNat, by omega⟩
  have ez : bits .and .i64 z 63 = (k : Int) := by rw [and63, hk]
  have k64 : k < 64 := by omega
  have P0 := ph_start k k64
  have R0 := new_rdy 30 (by omega)
  have F0 := rdy_few7 R0 (by decide) (by decide) (by decide)
  have e0 := R0.opens
  obtain ⟨i0, hi, hz0, hz1, hz2⟩ := info_parts infoStr
  obtain ⟨wb, hwb⟩ : ∃ wb, wb = W.alloc (.cells #[.slice ka kn kc, .int .i64 torn, .int .i64 cut] 32) := ⟨_, rfl⟩
  have bb : Below W.heap.size W wb := by rw [hwb]; exact (Below.refl _ _).alloc (Nat.le_refl _) _
  have q0 : Rw wb W.heap.size [.slice ka kn kc, .int .i64 torn, .int .i64 cut] 32 := by rw [hwb]; exact Rw.new W _ _
  go_enter Try.func4, Try.ntmps4
  go_wp2_with fail
  rw [← hwb]
  refine (awake7_any I J wb).mono ?_
  rintro e w0 ⟨rfl, g0⟩
  have b0 := bb.trans (g0.mono bb.size)
  have q1 := q0.below g0
  clear hwb bb q0 g0
  go_wp2_with fail
  refine (I.newL (K := [W.heap.size]) 30 b0 (by omega) (by omega) (fun k hk => by rw [List.mem_singleton.1 hk]; exact q1.lt)).mono ?_
  rintro e w1 ⟨p, rfl, h1, k1⟩
  have q2 := q1.keep (k1 W.heap.size (by simp))
  clear q1 k1 b0
  go_wp2_with fail
  refine (Iface7.openOkL I J h1 F0 R0.ok (by rw [R0.len]; decide) R0.on e0).mono ?_
  rintro e w2 ⟨x, a2, c2, rfl, hca, hsa, h2, g2, _, _⟩
  rw [show (([] : Secs).length) = 0 from rfl]
  have q3 := q2.below g2
  clear hsa hca g2 h1 q2
  go_wp2_with fail
  refine (Iface7.armL I J (k : Int) h2).mono ?_
  rintro e w3 ⟨rfl, h3, k3⟩
  have q4 := q3.keep (k3 W.heap.size (by simp))
  obtain ⟨bc, hbc⟩ : ∃ bc, bc = W.heap.size := ⟨_, rfl⟩
  rw [← hbc] at h3 q4
  have bcW : W.heap.size ≤ bc := by omega
  clear q3 k3 h2 e0 F0 R0 hk
  generalize armD (newD 30) (k : Int) = da at *
  go_wp2
  rw [← hbc]
  clear hbc
  go_loopw [14, 12, 13] (fun i vt vg wr => ∃ (t : Nat) (d : Dv) (S : Sg) (told going : Secs) (tc gc : Nat) (ta ga : Option Addr), t ≤ n ∧ t ≤ 10 ∧ i = .int .i64 t ∧ vt = .slice ta told.length tc ∧ vg = .slice ga going.length gc ∧ Lg PD PO (bc :: (blk (.slice ta told.length tc) ++ blk (.slice ga going.length gc))) W wr p x d S ∧ Ph d S told going t ∧ wr.ownsRow (bc + 1) 9 1 (.slice ta told.length tc) told.length (strs told) ∧ wr.ownsRow (bc + 1) 9 1 (.slice ga going.length gc) going.length (strs going) ∧ (∀ b ∈ blk (.slice ta told.length tc), b ∉ blk (.slice ga going.length gc)) ∧ Rw wr bc [.slice ka kn kc, .int .i64 torn, .int .i64 cut] 32) (fun i _ _ _ => n - (intOf i).toNat)
  case atStart => exact ⟨0, da, _, [], [], 0, 0, none, none, by omega, by omega, rfl, rfl, rfl, h3, P0, World.ownsRow_nil _ _ _ _, World.ownsRow_nil _ _ _ _, by simp [blk, Value.ownBlock], q4⟩
  case round =>
    clear h3 P0 q4 da
    obtain ⟨t, d, S, told, going, tc, gc, ta, ga, ht, ht2, rfl, rfl, rfl, hL, hP, ho1, ho2, hdis, hrow⟩ := hrel
    by_cases hlt : t < n
    · have tl : (t : Int) < n := by omega
      by_cases hlt2 : t < 10
      · have tl2 : (t : Int) < 10 := by omega
        obtain ⟨l, hl⟩ : ∃ l, ls[t]? = some l := ⟨ls[t]'(by rw [hs.1]; omega), List.getElem?_eq_getElem _⟩
        obtain ⟨b, off, ha, hbl, hcells⟩ := hs.2 (by omega)
        subst ha
        have cl := hL.bel.cell (p := ⟨b, off + t, none⟩) hbl |>.trans (hcells t l hl)
        have lt80 : (l.take 80).length ≤ 80 := by rw [List.length_take]; omega
        have hF := hP.few (by omega)
        have hO := hP.ok
        have hFt := hP.fits
        have hcase := ph_commit (r := l.take 80) hP (by omega) lt80 (recd80 l)
        have htold := hP.2.2.1
        go_wp2_with fail
        refine (short7_any l 80 wr (by omega)).mono ?_
        rintro e w5 ⟨rfl, rfl⟩
        rw [show (80 : Int).toNat = 80 from rfl]
        go_wp2_with fail
        refine (Iface7.commitL I J (l.take 80) hL hF hO hFt (by omega) (commitD_len _ _ _)).mono ?_
        rintro e w6 ⟨rfl, h6, k6⟩
        have r6 := hrow.keep (k6 bc (by simp))
        have o61 := own_keep ho1 (fun k hk => k6 k (by simp [mem_blk.2 hk]))
        have o62 := own_keep ho2 (fun k hk => k6 k (by simp [mem_blk.2 hk]))
        have z6 := h6.bel.size
        generalize hcd : commitD d S (l.take 80) = cd at *
        obtain ⟨⟨d6, S6⟩, er⟩ := cd
        simp only at hcase h6 ⊢
        clear hL hP hF hO hFt hrow ho1 ho2 k6 hcells cl hcd hs
        generalize hx : l.take 80 = r at *
        clear hx
        rcases hcase with ⟨rfl, rfl, hP6⟩ | ⟨rfl, rfl, hP6⟩ | ⟨hg1, rfl, hP6⟩
        · have C6 := Lib.hid hP6
          clear hP6
          go_wp2_with (at_builtin; refine wpList_append_lies _ rfl (.tmp 65) (.tmp 67) 29 rfl (bc + 1) 9 i0 (.string ⟨#[]⟩) 1 16 Try.underlying29 hi hz0 hz1 hz2 rfl (by decide) (.slice ta told.length tc) told.length (strs told) rfl (o61.alloc _) ⟨w6.heap.size, 0, none⟩ 1 1 [.string ⟨r.toArray⟩] rfl rfl (World.news_of_block (cs := #[.string ⟨r.toArray⟩]) (t := 9) (fr := (0, 0)) (heap_alloc_new w6 _)) (by simp [Value.oneCell']) (by decide) (by unfold maxLen; omega) (by omega) (by have := r6.lt; simp; omega) _ rfl ?_; intro g cap2 w7 hown7 hgrow hat hlt7)
          rw [strs_snoc] at hown7
          have hat' : (Value.slice ta told.length tc).ownBlock = some g ∨ g = w6.heap.size + 1 := hat.imp id (fun q => by simpa using q)
          obtain ⟨a1, a2, a3, a4⟩ := app_step (m := told.length + 1) (c := cap2) I J h6 o61 o62 hdis (fun b hb => by simp [hb]) bcW r6 hgrow hat' hlt7
          have e1 : (told ++ [r]).length = told.length + 1 := by simp
          go_wp2
          go_roundw
          case rel => exact ⟨t + 1, d6, S6, told ++ [r], [], cap2, gc, some ⟨g, 0, none⟩, ga, by omega, by omega, by go_num, by rw [e1], rfl, a4 _ (fun k hk => by
            simp only [List.mem_cons, List.mem_append] at hk
            rcases hk with q | q | q
            · left; simp [q]
            · right; rw [e1, mem_blk] at q; simpa [Value.ownBlock, eq_comm] using q
            · left; exact List.mem_cons_of_mem _ (List.mem_append_right _ q)), C6.out, by rw [e1]; exact hown7, a1, by rw [e1]; exact a3, a2⟩
          case measure => simp [intOf]; omega
        · have C6 := Lib.hid hP6
          clear hP6
          go_wp2_with (at_builtin; refine wpList_append_lies _ rfl (.tmp 71) (.tmp 73) 29 rfl (bc + 1) 9 i0 (.string ⟨#[]⟩) 1 16 Try.underlying29 hi hz0 hz1 hz2 rfl (by decide) (.slice ga 0 gc) 0 (strs []) rfl (o62.alloc _) ⟨w6.heap.size, 0, none⟩ 1 1 [.string ⟨r.toArray⟩] rfl rfl (World.news_of_block (cs := #[.string ⟨r.toArray⟩]) (t := 9) (fr := (0, 0)) (heap_alloc_new w6 _)) (by simp [Value.oneCell']) (by decide) (by unfold maxLen; omega) (by omega) (by have := r6.lt; simp; omega) _ rfl ?_; intro g cap2 w7 hown7 hgrow hat hlt7)
          rw [show strs ([] : Secs) ++ [.string ⟨r.toArray⟩] = strs [r] from rfl] at hown7
          have hat' : (Value.slice ga 0 gc).ownBlock = some g ∨ g = w6.heap.size + 1 := hat.imp id (fun q => by simpa using q)
          obtain ⟨a1, a2, a3, a4⟩ := app_step (m := 1) (c := cap2) I J h6 o62 o61 (fun b hb hin => hdis b hin hb) (fun b hb => by
            simp only [List.mem_cons, List.mem_append]; exact .inr (.inr hb)) bcW r6 hgrow hat' hlt7
          go_wp2
          go_roundw
          case rel => exact ⟨t + 1, d6, S6, told, [r], tc, cap2, ta, some ⟨g, 0, none⟩, by omega, by omega, by go_num, rfl, rfl, a4 _ (fun k hk => by
            simp only [List.mem_cons, List.mem_append] at hk
            rcases hk with q | q | q
            · left; simp [q]
            · left; simp [q]
            · right; rw [mem_blk] at q; simpa [Value.ownBlock, eq_comm] using q), C6.out, a1, hown7, (fun b hb hin => a3 b hin hb), a2⟩
          case measure => simp [intOf]; omega
        · have C6 := Lib.hid hP6
          clear hP6
          have hg0 : ¬ ((going.length : Int) = 0) := by omega
          go_wp2
          go_roundw
          case rel => exact ⟨t + 1, d6, S6, told, going, tc, gc, ta, ga, by omega, by omega, by go_num, rfl, rfl, h6, C6.out, o61, o62, hdis, r6⟩
          case measure => simp [intOf]; omega
      · have tl2 : ¬ ((t : Int) < 10) := by omega
        have hF := hP.few (by omega)
        have hO := hP.ok
        have hlen := hP.len
        have hgl : going.length ≤ 1 := by obtain ⟨_, _, _, ⟨q, _⟩ | ⟨r, q, _⟩⟩ := hP <;> rw [q] <;> simp
        have htold := hP.2.2.1
        obtain ⟨⟨m2, L2, br2⟩, rs, o, hB2, hR2, hrs⟩ := ph_crash hP keep torn cut
        have eb : br2 = false := hR2.br
        subst eb
        have hrl : rs.length ≤ 12 := by
          rcases hrs with q | q
          · rw [q]; omega
          · rw [q, List.length_append]; omega
        have hep := hB2.ep
        have hct := hB2.ct
        have hll := hB2.len
        simp only at hep hct hll
        have F2 := rdy_few7 hR2 (by decide) (by omega) (by decide)
        have Ft2 := rdy_fits hR2 (by simp only; omega) (by simp only; omega)
        have q0 := hrow.c 0 rfl
        have q1 := hrow.c 1 rfl
        have q2 := hrow.c 2 rfl
        have ql := hrow.lt
        have hbw : BoolsAt wr ka kn keep := hb.fr (ex := []) (Fr.of_below hL.bel) (fun b off h0 e hin => by cases hin)
        have hrec := recd80 [108, 97, 115, 116]
        rw [show List.take 80 [(108 : UInt8), 97, 115, 116] = [108, 97, 115, 116] from rfl] at hrec
        obtain ⟨d3, hc3, hR3⟩ := commit_calm (r := [108, 97, 115, 116]) hR2 (by decide) (by decide) (by simp only; omega) (by simp only; omega) (by simp only; omega)
        have F3 := rdy_few7 hR3 (by decide) (by omega) (by decide)
        have hR4 := hR3.crash [] 0 0
        have F4 := rdy_few7 hR4 (by decide) (by omega) (by decide)
        have HF := Lib.hid hF
        have HO := Lib.hid hO
        have HR2 := Lib.hid hR2
        have HR3 := Lib.hid hR3
        have HR4 := Lib.hid hR4
        have HC3 := Lib.hid hc3
        have HF2 := Lib.hid F2
        have HF3 := Lib.hid F3
        have HF4 := Lib.hid F4
        have HFT := Lib.hid Ft2
        have HB := Lib.hid hbw
        have HRS := Lib.hid hrs
        have HG := Lib.hid hgl
        have hgn : ¬ ((1 : Int) < going.length) := by omega
        clear hF hO hR2 hR3 hR4 hc3 F2 F3 F4 Ft2 hbw hrs hP hB2 hgl hrec hep hct hll
        go_wp2_with fail
        refine (I.crashD7 ka kn kc keep torn cut hL.ld HF.out.few HO.out (by omega) HB.out hkc hkm (fun b off h0 e => .inl (hkb b off h0 e))).mono ?_
        rintro e w8 ⟨rfl, h8, k8⟩
        have o81 := own_keep ho1 (fun k hk => k8 k (by simp [mem_blk.2 hk]))
        have o82 := own_keep ho2 (fun k hk => k8 k (by simp [mem_blk.2 hk]))
        generalize crashD d keep torn cut = d2 at *
        clear hL hrow ho1 ho2 k8 q0 q1 q2 ql
        go_wp2_with fail
        refine (Iface7.openOkL I J h8 HF2.out HR2.out.ok (by rw [HR2.out.len]; decide) HR2.out.on HR2.out.opens).mono ?_
        rintro e w9 ⟨y, a9, c9, rfl, hca, hsa, _, g9, ow9, h9⟩
        have o91 := own_below o81 g9
        have o92 := own_below o82 g9
        have z8 := h8.bel.size
        have z9 := g9.size
        have b9 : bc + 1 ≤ w8.heap.size := h8.lt (by simp)
        clear g9 o81 o82 h8
        go_wp2_with fail
        refine (Same_any a9 ta rs.length told.length c9 tc rs told w9 hsa (strsAt_own o91) (by omega)).mono ?_
        rintro e w10 ⟨rfl, g10⟩
        have o101 := own_below o91 g10
        have o102 := own_below o92 g10
        have ow10 := own_below ow9 g10
        obtain ⟨h10, _⟩ := Lg.below I J h9 g10
        have z10 := g10.size
        clear o91 o92 hsa h9 g10 ow9
        obtain ⟨M, hM⟩ : ∃ M, M = told.length + going.length := ⟨_, rfl⟩
        go_wp2_with (first
          | (at_builtin; refine wpList_append_all _ rfl (.tmp 110) (.tmp 111) 29 rfl w10.heap.size (bc + 1) 9 i0 (.string ⟨#[]⟩) 16 Try.underlying29 hi hz0 hz1 hz2 rfl (.slice none 0 0) 0 (strs []) rfl (World.ownsRow_nil _ _ _ _) (.slice ta told.length tc) told.length (strs told) rfl o101 (strs_one _) (by unfold maxLen; omega) (by omega) (Nat.le_refl _) told.length (Nat.zero_add _) (strs told) (strs_app [] told) ?_; intro A1 cap1 w11 own11 grow11 at11; have b11 : Below w10.heap.size w10 w11 := (Fr.grownRow grow11).below (Nat.le_refl _) (fun b hb => by cases hb); have o112 := own_below o102 b11)
          | (at_builtin; refine wpList_append_all _ rfl (.tmp 113) (.tmp 114) 29 rfl w10.heap.size (bc + 1) 9 i0 (.string ⟨#[]⟩) 16 Try.underlying29 hi hz0 hz1 hz2 rfl (.slice A1 told.length cap1) told.length (strs told) rfl own11 (.slice ga going.length gc) going.length (strs going) rfl o112 (strs_one _) (by unfold maxLen; omega) (by omega) b11.size M hM.symm (strs (told ++ going)) (strs_app told going) ?_; intro A2 cap2 w12 own12 grow12 at12; have b12 : Below w10.heap.size w11 w12 := (Fr.grownRow grow12).below b11.size (fun b hb => own_block_ge own11 b (by simpa using hb)))
          | fail)
        have b13 := b11.trans (b12.mono (Nat.le_refl _))
        have ow12 := own_below ow10 b13
        obtain ⟨h12, _⟩ := Lg.below I J h10 b13
        have own12' : w12.ownsRow w10.heap.size 9 1 (.slice A2 (told ++ going).length cap2) (told ++ going).length (strs (told ++ going)) := by rw [List.length_append, ← hM]; exact own12
        have s12 : StrsAt w12 w12.heap.size A2 (told.length + going.length) (told ++ going) := by rw [← List.length_append]; exact strsAt_own own12'
        have z12 := b13.size
        clear b11 o112 own11 grow11 at11 b12 own12 grow12 at12 own12' ow10 h10 b13 o101 o102
        refine (Same_any a9 A2 rs.length (told.length + going.length) c9 cap2 rs (told ++ going) w12 (strsAt_own ow12) s12 (by omega)).mono ?_
        rintro e w13 ⟨rfl, g13⟩
        have ow13 := own_below ow12 g13
        obtain ⟨h13, _⟩ := Lg.below I J h12 g13
        have z13 := g13.size
        clear h12 ow12 s12 g13
        obtain ⟨one, ho1⟩ : ∃ one, one = decide (rs = told) := ⟨_, rfl⟩
        obtain ⟨two, ho2⟩ : ∃ two, two = decide (rs = told ++ going) := ⟨_, rfl⟩
        rw [← ho1, ← ho2]
        have h12t : one = true ∨ two = true := by rw [ho1, ho2]; rcases HRS.out with q | q <;> simp [q]
        clear ho1 ho2
        have fin : ∀ (u : Bool), one = u → True := fun _ _ => trivial
        clear fin
        by_cases e1 : one = true
        · subst e1
          clear h12t
          go_wp2_with fail
          refine (Iface7.commitL I J [108, 97, 115, 116] h13 HF2.out HR2.out.ok HFT.out (by decide) (commitD_len _ _ _)).mono ?_
          rw [HC3.out]
          rintro e w14 ⟨rfl, h14, k14⟩
          have ow14 := own_keep ow13 (fun k hk => k14 k (by simp [mem_blk.2 hk]))
          clear h13 ow13 k14
          go_wp2_with fail
          refine (I.crashD7 none 0 0 [] 0 0 h14.ld HF3.out.few HR3.out.ok (by rw [HR3.out.len]; decide) (boolsNil _) (Nat.le_refl 0) (by decide) (fun b off h => absurd h (by omega))).mono ?_
          rintro e w15 ⟨rfl, h15, k15⟩
          have ow15 := own_keep ow14 (fun k hk => k15 k (by simp [mem_blk.2 hk]))
          clear h14 ow14 k15
          generalize crashD d3 [] 0 0 = d4 at *
          go_wp2_with fail
          refine (Iface7.openOkL I J h15 HF4.out HR4.out.ok (by rw [HR4.out.len]; decide) HR4.out.on HR4.out.opens).mono ?_
          rintro e w16 ⟨y2, a16, c16, rfl, hca16, hsa16, _, g16, om16, h16⟩
          have ow16 := own_base (base' := W.heap.size) (own_below ow15 g16) z8
          have bW16 := h16.bel
          have lt15 : ∀ k, (Value.slice a9 rs.length c9).ownBlock = some k → k < w15.heap.size := fun k hk => own_lt ow15 hk
          have z16 := g16.size
          have z15 := h15.bel.size
          have zW := bW16.size
          clear h15 ow15 g16 hsa16 h16
          have e16 : (rs ++ [[108, 97, 115, 116]]).length = rs.length + 1 := by simp
          rw [e16] at hca16
          rw [e16]
          go_wp2_with (first
            | (at_builtin; refine wpList_append_lies _ rfl (.tmp 137) (.tmp 138) 29 rfl W.heap.size 9 i0 (.string ⟨#[]⟩) 1 16 Try.underlying29 hi hz0 hz1 hz2 rfl (by decide) (.slice a9 rs.length c9) rs.length (strs rs) rfl (ow16.alloc _) ⟨w16.heap.size, 0, none⟩ 1 1 [.string ⟨[108, 97, 115, 116].toArray⟩] rfl rfl (World.news_of_block (cs := #[.string ⟨[108, 97, 115, 116].toArray⟩]) (t := 9) (fr := (0, 0)) (heap_alloc_new w16 _)) (by simp [Value.oneCell']) (by decide) (by unfold maxLen; omega) (by omega) (by simp; omega) _ rfl ?_; intro g cap2 w17 own17 grow17 hat17 hlt17)
            | fail)
          rw [show strs rs ++ [Value.string ⟨[108, 97, 115, 116].toArray⟩] = strs (rs ++ [[108, 97, 115, 116]]) from strs_snoc rs [108, 97, 115, 116]] at own17
          have hf17 : Fr (blk (.slice a9 rs.length c9)) w16 w17 := (Fr.of_below ((Below.refl _ _).alloc (Nat.le_refl _) _)).trans (Fr.grownRow grow17)
          have om17 := own_frame om16 hf17 (fun k hk hin => by have := own_block_ge om16 k hk; have := lt15 k (mem_blk.1 hin); omega)
          have bW17 := bW16.trans (hf17.below zW (fun b hb => own_block_ge ow16 b (mem_blk.1 hb)))
          have s17 : StrsAt w17 w17.heap.size a16 (rs.length + 1) (rs ++ [[108, 97, 115, 116]]) := by rw [← e16]; exact strsAt_own om17
          have t17 : StrsAt w17 w17.heap.size (some ⟨g, 0, none⟩) (rs.length + 1) (rs ++ [[108, 97, 115, 116]]) := by rw [← e16]; rw [← e16] at own17; exact strsAt_own own17
          clear ow16 om16 own17 grow17 hat17 hf17 om17
          refine (Same_any a16 (some ⟨g, 0, none⟩) (rs.length + 1) (rs.length + 1) c16 cap2 _ _ w17 s17 t17 (by omega)).mono ?_
          rintro e w18 ⟨rfl, g18⟩
          rw [decide_eq_true rfl]
          go_wp2
          go_ret
          exact ⟨rfl, bW17.trans (g18.mono bW17.size)⟩
        · have e1' : one = false := by simpa using e1
          have e2 := h12t.resolve_left e1
          subst e1' e2
          clear h12t e1
          go_wp2_with fail
          refine (Iface7.commitL I J [108, 97, 115, 116] h13 HF2.out HR2.out.ok HFT.out (by decide) (commitD_len _ _ _)).mono ?_
          rw [HC3.out]
          rintro e w14 ⟨rfl, h14, k14⟩
          have ow14 := own_keep ow13 (fun k hk => k14 k (by simp [mem_blk.2 hk]))
          clear h13 ow13 k14
          go_wp2_with fail
          refine (I.crashD7 none 0 0 [] 0 0 h14.ld HF3.out.few HR3.out.ok (by rw [HR3.out.len]; decide) (boolsNil _) (Nat.le_refl 0) (by decide) (fun b off h => absurd h (by omega))).mono ?_
          rintro e w15 ⟨rfl, h15, k15⟩
          have ow15 := own_keep ow14 (fun k hk => k15 k (by simp [mem_blk.2 hk]))
          clear h14 ow14 k15
          generalize crashD d3 [] 0 0 = d4 at *
          go_wp2_with fail
          refine (Iface7.openOkL I J h15 HF4.out HR4.out.ok (by rw [HR4.out.len]; decide) HR4.out.on HR4.out.opens).mono ?_
          rintro e w16 ⟨y2, a16, c16, rfl, hca16, hsa16, _, g16, om16, h16⟩
          have ow16 := own_base (base' := W.heap.size) (own_below ow15 g16) z8
          have bW16 := h16.bel
          have lt15 : ∀ k, (Value.slice a9 rs.length c9).ownBlock = some k → k < w15.heap.size := fun k hk => own_lt ow15 hk
          have z16 := g16.size
          have z15 := h15.bel.size
          have zW := bW16.size
          clear h15 ow15 g16 hsa16 h16
          have e16 : (rs ++ [[108, 97, 115, 116]]).length = rs.length + 1 := by simp
          rw [e16] at hca16
          rw [e16]
          go_wp2_with (first
            | (at_builtin; refine wpList_append_lies _ rfl (.tmp 137) (.tmp 138) 29 rfl W.heap.size 9 i0 (.string ⟨#[]⟩) 1 16 Try.underlying29 hi hz0 hz1 hz2 rfl (by decide) (.slice a9 rs.length c9) rs.length (strs rs) rfl (ow16.alloc _) ⟨w16.heap.size, 0, none⟩ 1 1 [.string ⟨[108, 97, 115, 116].toArray⟩] rfl rfl (World.news_of_block (cs := #[.string ⟨[108, 97, 115, 116].toArray⟩]) (t := 9) (fr := (0, 0)) (heap_alloc_new w16 _)) (by simp [Value.oneCell']) (by decide) (by unfold maxLen; omega) (by omega) (by simp; omega) _ rfl ?_; intro g cap2 w17 own17 grow17 hat17 hlt17)
            | fail)
          rw [show strs rs ++ [Value.string ⟨[108, 97, 115, 116].toArray⟩] = strs (rs ++ [[108, 97, 115, 116]]) from strs_snoc rs [108, 97, 115, 116]] at own17
          have hf17 : Fr (blk (.slice a9 rs.length c9)) w16 w17 := (Fr.of_below ((Below.refl _ _).alloc (Nat.le_refl _) _)).trans (Fr.grownRow grow17)
          have om17 := own_frame om16 hf17 (fun k hk hin => by have := own_block_ge om16 k hk; have := lt15 k (mem_blk.1 hin); omega)
          have bW17 := bW16.trans (hf17.below zW (fun b hb => own_block_ge ow16 b (mem_blk.1 hb)))
          have s17 : StrsAt w17 w17.heap.size a16 (rs.length + 1) (rs ++ [[108, 97, 115, 116]]) := by rw [← e16]; exact strsAt_own om17
          have t17 : StrsAt w17 w17.heap.size (some ⟨g, 0, none⟩) (rs.length + 1) (rs ++ [[108, 97, 115, 116]]) := by rw [← e16]; rw [← e16] at own17; exact strsAt_own own17
          clear ow16 om16 own17 grow17 hat17 hf17 om17
          refine (Same_any a16 (some ⟨g, 0, none⟩) (rs.length + 1) (rs.length + 1) c16 cap2 _ _ w17 s17 t17 (by omega)).mono ?_
          rintro e w18 ⟨rfl, g18⟩
          rw [decide_eq_true rfl]
          go_wp2
          go_ret
          exact ⟨rfl, bW17.trans (g18.mono bW17.size)⟩
    · have tl : ¬ ((t : Int) < n) := by omega
      have hF := hP.few (by omega)
      have hO := hP.ok
      have hlen := hP.len
      have hgl : going.length ≤ 1 := by obtain ⟨_, _, _, ⟨q, _⟩ | ⟨r, q, _⟩⟩ := hP <;> rw [q] <;> simp
      have htold := hP.2.2.1
      obtain ⟨⟨m2, L2, br2⟩, rs, o, hB2, hR2, hrs⟩ := ph_crash hP keep torn cut
      have eb : br2 = false := hR2.br
      subst eb
      have hrl : rs.length ≤ 12 := by
        rcases hrs with q | q
        · rw [q]; omega
        · rw [q, List.length_append]; omega
      have hep := hB2.ep
      have hct := hB2.ct
      have hll := hB2.len
      simp only at hep hct hll
      have F2 := rdy_few7 hR2 (by decide) (by omega) (by decide)
      have Ft2 := rdy_fits hR2 (by simp only; omega) (by simp only; omega)
      have q0 := hrow.c 0 rfl
      have q1 := hrow.c 1 rfl
      have q2 := hrow.c 2 rfl
      have ql := hrow.lt
      have hbw : BoolsAt wr ka kn keep := hb.fr (ex := []) (Fr.of_below hL.bel) (fun b off h0 e hin => by cases hin)
      have hrec := recd80 [108, 97, 115, 116]
      rw [show List.take 80 [(108 : UInt8), 97, 115, 116] = [108, 97, 115, 116] from rfl] at hrec
      obtain ⟨d3, hc3, hR3⟩ := commit_calm (r := [108, 97, 115, 116]) hR2 (by decide) (by decide) (by simp only; omega) (by simp only; omega) (by simp only; omega)
      have F3 := rdy_few7 hR3 (by decide) (by omega) (by decide)
      have hR4 := hR3.crash [] 0 0
      have F4 := rdy_few7 hR4 (by decide) (by omega) (by decide)
      have HF := Lib.hid hF
      have HO := Lib.hid hO
      have HR2 := Lib.hid hR2
      have HR3 := Lib.hid hR3
      have HR4 := Lib.hid hR4
      have HC3 := Lib.hid hc3
      have HF2 := Lib.hid F2
      have HF3 := Lib.hid F3
      have HF4 := Lib.hid F4
      have HFT := Lib.hid Ft2
      have HB := Lib.hid hbw
      have HRS := Lib.hid hrs
      have HG := Lib.hid hgl
      have hgn : ¬ ((1 : Int) < going.length) := by omega
      clear hF hO hR2 hR3 hR4 hc3 F2 F3 F4 Ft2 hbw hrs hP hB2 hgl hrec hep hct hll
      go_wp2_with fail
      refine (I.crashD7 ka kn kc keep torn cut hL.ld HF.out.few HO.out (by omega) HB.out hkc hkm (fun b off h0 e => .inl (hkb b off h0 e))).mono ?_
      rintro e w8 ⟨rfl, h8, k8⟩
      have o81 := own_keep ho1 (fun k hk => k8 k (by simp [mem_blk.2 hk]))
      have o82 := own_keep ho2 (fun k hk => k8 k (by simp [mem_blk.2 hk]))
      generalize crashD d keep torn cut = d2 at *
      clear hL hrow ho1 ho2 k8 q0 q1 q2 ql
      go_wp2_with fail
      refine (Iface7.openOkL I J h8 HF2.out HR2.out.ok (by rw [HR2.out.len]; decide) HR2.out.on HR2.out.opens).mono ?_
      rintro e w9 ⟨y, a9, c9, rfl, hca, hsa, _, g9, ow9, h9⟩
      have o91 := own_below o81 g9
      have o92 := own_below o82 g9
      have z8 := h8.bel.size
      have z9 := g9.size
      have b9 : bc + 1 ≤ w8.heap.size := h8.lt (by simp)
      clear g9 o81 o82 h8
      go_wp2_with fail
      refine (Same_any a9 ta rs.length told.length c9 tc rs told w9 hsa (strsAt_own o91) (by omega)).mono ?_
      rintro e w10 ⟨rfl, g10⟩
      have o101 := own_below o91 g10
      have o102 := own_below o92 g10
      have ow10 := own_below ow9 g10
      obtain ⟨h10, _⟩ := Lg.below I J h9 g10
      have z10 := g10.size
      clear o91 o92 hsa h9 g10 ow9
      obtain ⟨M, hM⟩ : ∃ M, M = told.length + going.length := ⟨_, rfl⟩
      go_wp2_with (first
        | (at_builtin; refine wpList_append_all _ rfl (.tmp 110) (.tmp 111) 29 rfl w10.heap.size (bc + 1) 9 i0 (.string ⟨#[]⟩) 16 Try.underlying29 hi hz0 hz1 hz2 rfl (.slice none 0 0) 0 (strs []) rfl (World.ownsRow_nil _ _ _ _) (.slice ta told.length tc) told.length (strs told) rfl o101 (strs_one _) (by unfold maxLen; omega) (by omega) (Nat.le_refl _) told.length (Nat.zero_add _) (strs told) (strs_app [] told) ?_; intro A1 cap1 w11 own11 grow11 at11; have b11 : Below w10.heap.size w10 w11 := (Fr.grownRow grow11).below (Nat.le_refl _) (fun b hb => by cases hb); have o112 := own_below o102 b11)
        | (at_builtin; refine wpList_append_all _ rfl (.tmp 113) (.tmp 114) 29 rfl w10.heap.size (bc + 1) 9 i0 (.string ⟨#[]⟩) 16 Try.underlying29 hi hz0 hz1 hz2 rfl (.slice A1 told.length cap1) told.length (strs told) rfl own11 (.slice ga going.length gc) going.length (strs going) rfl o112 (strs_one _) (by unfold maxLen; omega) (by omega) b11.size M hM.symm (strs (told ++ going)) (strs_app told going) ?_; intro A2 cap2 w12 own12 grow12 at12; have b12 : Below w10.heap.size w11 w12 := (Fr.grownRow grow12).below b11.size (fun b hb => own_block_ge own11 b (by simpa using hb)))
        | fail)
      have b13 := b11.trans (b12.mono (Nat.le_refl _))
      have ow12 := own_below ow10 b13
      obtain ⟨h12, _⟩ := Lg.below I J h10 b13
      have own12' : w12.ownsRow w10.heap.size 9 1 (.slice A2 (told ++ going).length cap2) (told ++ going).length (strs (told ++ going)) := by rw [List.length_append, ← hM]; exact own12
      have s12 : StrsAt w12 w12.heap.size A2 (told.length + going.length) (told ++ going) := by rw [← List.length_append]; exact strsAt_own own12'
      have z12 := b13.size
      clear b11 o112 own11 grow11 at11 b12 own12 grow12 at12 own12' ow10 h10 b13 o101 o102
      refine (Same_any a9 A2 rs.length (told.length + going.length) c9 cap2 rs (told ++ going) w12 (strsAt_own ow12) s12 (by omega)).mono ?_
      rintro e w13 ⟨rfl, g13⟩
      have ow13 := own_below ow12 g13
      obtain ⟨h13, _⟩ := Lg.below I J h12 g13
      have z13 := g13.size
      clear h12 ow12 s12 g13
      obtain ⟨one, ho1⟩ : ∃ one, one = decide (rs = told) := ⟨_, rfl⟩
      obtain ⟨two, ho2⟩ : ∃ two, two = decide (rs = told ++ going) := ⟨_, rfl⟩
      rw [← ho1, ← ho2]
      have h12t : one = true ∨ two = true := by rw [ho1, ho2]; rcases HRS.out with q | q <;> simp [q]
      clear ho1 ho2
      have fin : ∀ (u : Bool), one = u → True := fun _ _ => trivial
      clear fin
      by_cases e1 : one = true
      · subst e1
        clear h12t
        go_wp2_with fail
        refine (Iface7.commitL I J [108, 97, 115, 116] h13 HF2.out HR2.out.ok HFT.out (by decide) (commitD_len _ _ _)).mono ?_
        rw [HC3.out]
        rintro e w14 ⟨rfl, h14, k14⟩
        have ow14 := own_keep ow13 (fun k hk => k14 k (by simp [mem_blk.2 hk]))
        clear h13 ow13 k14
        go_wp2_with fail
        refine (I.crashD7 none 0 0 [] 0 0 h14.ld HF3.out.few HR3.out.ok (by rw [HR3.out.len]; decide) (boolsNil _) (Nat.le_refl 0) (by decide) (fun b off h => absurd h (by omega))).mono ?_
        rintro e w15 ⟨rfl, h15, k15⟩
        have ow15 := own_keep ow14 (fun k hk => k15 k (by simp [mem_blk.2 hk]))
        clear h14 ow14 k15
        generalize crashD d3 [] 0 0 = d4 at *
        go_wp2_with fail
        refine (Iface7.openOkL I J h15 HF4.out HR4.out.ok (by rw [HR4.out.len]; decide) HR4.out.on HR4.out.opens).mono ?_
        rintro e w16 ⟨y2, a16, c16, rfl, hca16, hsa16, _, g16, om16, h16⟩
        have ow16 := own_base (base' := W.heap.size) (own_below ow15 g16) z8
        have bW16 := h16.bel
        have lt15 : ∀ k, (Value.slice a9 rs.length c9).ownBlock = some k → k < w15.heap.size := fun k hk => own_lt ow15 hk
        have z16 := g16.size
        have z15 := h15.bel.size
        have zW := bW16.size
        clear h15 ow15 g16 hsa16 h16
        have e16 : (rs ++ [[108, 97, 115, 116]]).length = rs.length + 1 := by simp
        rw [e16] at hca16
        rw [e16]
        go_wp2_with (first
          | (at_builtin; refine wpList_append_lies _ rfl (.tmp 137) (.tmp 138) 29 rfl W.heap.size 9 i0 (.string ⟨#[]⟩) 1 16 Try.underlying29 hi hz0 hz1 hz2 rfl (by decide) (.slice a9 rs.length c9) rs.length (strs rs) rfl (ow16.alloc _) ⟨w16.heap.size, 0, none⟩ 1 1 [.string ⟨[108, 97, 115, 116].toArray⟩] rfl rfl (World.news_of_block (cs := #[.string ⟨[108, 97, 115, 116].toArray⟩]) (t := 9) (fr := (0, 0)) (heap_alloc_new w16 _)) (by simp [Value.oneCell']) (by decide) (by unfold maxLen; omega) (by omega) (by simp; omega) _ rfl ?_; intro g cap2 w17 own17 grow17 hat17 hlt17)
          | fail)
        rw [show strs rs ++ [Value.string ⟨[108, 97, 115, 116].toArray⟩] = strs (rs ++ [[108, 97, 115, 116]]) from strs_snoc rs [108, 97, 115, 116]] at own17
        have hf17 : Fr (blk (.slice a9 rs.length c9)) w16 w17 := (Fr.of_below ((Below.refl _ _).alloc (Nat.le_refl _) _)).trans (Fr.grownRow grow17)
        have om17 := own_frame om16 hf17 (fun k hk hin => by have := own_block_ge om16 k hk; have := lt15 k (mem_blk.1 hin); omega)
        have bW17 := bW16.trans (hf17.below zW (fun b hb => own_block_ge ow16 b (mem_blk.1 hb)))
        have s17 : StrsAt w17 w17.heap.size a16 (rs.length + 1) (rs ++ [[108, 97, 115, 116]]) := by rw [← e16]; exact strsAt_own om17
        have t17 : StrsAt w17 w17.heap.size (some ⟨g, 0, none⟩) (rs.length + 1) (rs ++ [[108, 97, 115, 116]]) := by rw [← e16]; rw [← e16] at own17; exact strsAt_own own17
        clear ow16 om16 own17 grow17 hat17 hf17 om17
        refine (Same_any a16 (some ⟨g, 0, none⟩) (rs.length + 1) (rs.length + 1) c16 cap2 _ _ w17 s17 t17 (by omega)).mono ?_
        rintro e w18 ⟨rfl, g18⟩
        rw [decide_eq_true rfl]
        go_wp2
        go_ret
        exact ⟨rfl, bW17.trans (g18.mono bW17.size)⟩
      · have e1' : one = false := by simpa using e1
        have e2 := h12t.resolve_left e1
        subst e1' e2
        clear h12t e1
        go_wp2_with fail
        refine (Iface7.commitL I J [108, 97, 115, 116] h13 HF2.out HR2.out.ok HFT.out (by decide) (commitD_len _ _ _)).mono ?_
        rw [HC3.out]
        rintro e w14 ⟨rfl, h14, k14⟩
        have ow14 := own_keep ow13 (fun k hk => k14 k (by simp [mem_blk.2 hk]))
        clear h13 ow13 k14
        go_wp2_with fail
        refine (I.crashD7 none 0 0 [] 0 0 h14.ld HF3.out.few HR3.out.ok (by rw [HR3.out.len]; decide) (boolsNil _) (Nat.le_refl 0) (by decide) (fun b off h => absurd h (by omega))).mono ?_
        rintro e w15 ⟨rfl, h15, k15⟩
        have ow15 := own_keep ow14 (fun k hk => k15 k (by simp [mem_blk.2 hk]))
        clear h14 ow14 k15
        generalize crashD d3 [] 0 0 = d4 at *
        go_wp2_with fail
        refine (Iface7.openOkL I J h15 HF4.out HR4.out.ok (by rw [HR4.out.len]; decide) HR4.out.on HR4.out.opens).mono ?_
        rintro e w16 ⟨y2, a16, c16, rfl, hca16, hsa16, _, g16, om16, h16⟩
        have ow16 := own_base (base' := W.heap.size) (own_below ow15 g16) z8
        have bW16 := h16.bel
        have lt15 : ∀ k, (Value.slice a9 rs.length c9).ownBlock = some k → k < w15.heap.size := fun k hk => own_lt ow15 hk
        have z16 := g16.size
        have z15 := h15.bel.size
        have zW := bW16.size
        clear h15 ow15 g16 hsa16 h16
        have e16 : (rs ++ [[108, 97, 115, 116]]).length = rs.length + 1 := by simp
        rw [e16] at hca16
        rw [e16]
        go_wp2_with (first
          | (at_builtin; refine wpList_append_lies _ rfl (.tmp 137) (.tmp 138) 29 rfl W.heap.size 9 i0 (.string ⟨#[]⟩) 1 16 Try.underlying29 hi hz0 hz1 hz2 rfl (by decide) (.slice a9 rs.length c9) rs.length (strs rs) rfl (ow16.alloc _) ⟨w16.heap.size, 0, none⟩ 1 1 [.string ⟨[108, 97, 115, 116].toArray⟩] rfl rfl (World.news_of_block (cs := #[.string ⟨[108, 97, 115, 116].toArray⟩]) (t := 9) (fr := (0, 0)) (heap_alloc_new w16 _)) (by simp [Value.oneCell']) (by decide) (by unfold maxLen; omega) (by omega) (by simp; omega) _ rfl ?_; intro g cap2 w17 own17 grow17 hat17 hlt17)
          | fail)
        rw [show strs rs ++ [Value.string ⟨[108, 97, 115, 116].toArray⟩] = strs (rs ++ [[108, 97, 115, 116]]) from strs_snoc rs [108, 97, 115, 116]] at own17
        have hf17 : Fr (blk (.slice a9 rs.length c9)) w16 w17 := (Fr.of_below ((Below.refl _ _).alloc (Nat.le_refl _) _)).trans (Fr.grownRow grow17)
        have om17 := own_frame om16 hf17 (fun k hk hin => by have := own_block_ge om16 k hk; have := lt15 k (mem_blk.1 hin); omega)
        have bW17 := bW16.trans (hf17.below zW (fun b hb => own_block_ge ow16 b (mem_blk.1 hb)))
        have s17 : StrsAt w17 w17.heap.size a16 (rs.length + 1) (rs ++ [[108, 97, 115, 116]]) := by rw [← e16]; exact strsAt_own om17
        have t17 : StrsAt w17 w17.heap.size (some ⟨g, 0, none⟩) (rs.length + 1) (rs ++ [[108, 97, 115, 116]]) := by rw [← e16]; rw [← e16] at own17; exact strsAt_own own17
        clear ow16 om16 own17 grow17 hat17 hf17 om17
        refine (Same_any a16 (some ⟨g, 0, none⟩) (rs.length + 1) (rs.length + 1) c16 cap2 _ _ w17 s17 t17 (by omega)).mono ?_
        rintro e w18 ⟨rfl, g18⟩
        rw [decide_eq_true rfl]
        go_wp2
        go_ret
        exact ⟨rfl, bW17.trans (g18.mono bW17.size)⟩
end
end Go.Proofs.Ytnpoohkklfpmdaa.slotsWhole
