/- The document's device: Crash. -/
import Derived.Test.YtmpcfdjpklmfmaaRows
import Derived.WalkKit
import Derived.Below
import Derived.ProofKit
import Derived.OpenShut
import Derived.ShutString
import Derived.ChangeOld
import Derived.Outline
import Derived.RegionTactic
import Derived.ChangeAlike
import Derived.BigRegion
import Derived.BigQuiet
import Derived.Deep.QuietTactic
import Derived.Deep.RegionWith
import Derived.Deep.RegionLaw
import Derived.Deep.RegionHeld3
import Derived.Deep.AppendLies
import Derived.Deep.Draws
import Derived.StillTailTactics
import Derived.Lib.Hide
import Derived.Lib.SmallJoins
import Derived.Handy
import Derived.WalkSpells
import Derived.WalkLawsBesides
import Derived.Deep.LoopGhost
import Derived.Deep.DeepCutAuto
import Derived.Deep.CutBlock
import Derived.Deep.CutRange
import Derived.Deep.OwnRows
import Derived.Laws.CopyOwn
import Derived.Test.YtmpcfdjpklmfmaaDevU
namespace Go.Proofs.Ytmpcfdjpklmfmaa
open Go.RowKit
set_option linter.unusedSimpArgs false
set_option linter.unusedVariables false
set_option linter.unnecessarySimpa false
/-- A slice of truths, read in w. -/
def BoolsAt (w : World) (a : Option Addr) (n : Nat) (ls : List Bool) : Prop :=
  ls.length = n ∧ (0 < n → ∃ b off, a = some ⟨b, off, none⟩ ∧ b < w.heap.size ∧ ∀ k x, ls[k]? = some x → w.cell? ⟨b, off + k, none⟩ = some (.bool x))
theorem BoolsAt.fr {ex : List Nat} {w w' : World} {a : Option Addr} {n : Nat} {ls : List Bool} (h : BoolsAt w a n ls) (hf : Fr ex w w') (hn : ∀ b off, 0 < n → a = some ⟨b, off, none⟩ → b ∉ ex) : BoolsAt w' a n ls :=
  ⟨h.1, fun h0 => by
    obtain ⟨b, off, e, hlt, hc⟩ := h.2 h0
    exact ⟨b, off, e, Nat.lt_of_lt_of_le hlt hf.size, fun k x hk => (hf.cell (p := ⟨b, off + k, none⟩) hlt (hn b off h0 e)).trans (hc k x hk)⟩⟩
theorem Lay.below {W w w' : World} {us uw : Value} {p : Nat} {d : Dv} {sf : List (List UInt8)} (h : Lay W w us uw p d sf) (hb : Below w.heap.size w w') : Lay W w' us uw p d sf :=
  ⟨h.row.below hb, own_below h.safe hb, own_below h.waits hb, h.fr.then_below (hb.mono h.fr.size)⟩
theorem Lay.drew1 {W w : World} {us uw : Value} {p : Nat} {d : Dv} {sf : List (List UInt8)} (h : Lay W w us uw p d sf) : Lay W w.drew us uw p d sf := ⟨h.row, h.safe, h.waits, h.fr.drew⟩
set_option maxHeartbeats 2000000 in
theorem refCrash_any (us uw : Value) (p : Nat) (d : Dv) (a : Option Addr) (kn kc : Nat) (keep : List Bool) (torn cut : Int) (w : World) (h : R6 w us uw p d) (hd : d.Few) (hk : d.Ok) (hb : BoolsAt w a kn keep) (hkc : kn ≤ kc) (hkm : (kn : Int) ≤ 9223372036854775807) (hoff : ∀ b off, 0 < kn → a = some ⟨b, off, none⟩ → b ∉ p :: blk us) :
    Calls Try.prog 19 #[.pointer (some ⟨p, 0, none⟩), .slice a kn kc, .int .i64 torn, .int .i64 cut] w fun e w' => e = .returned (.tuple #[]) ∧ R6 w' us (.slice none 0 0) p (crashD d keep torn cut) ∧ Fr (p :: blk us) w w' := by
  obtain ⟨c, hc⟩ : ∃ c, c = cutD cut := ⟨_, rfl⟩
  have hc64 : c ≤ 64 := by rw [hc]; exact cutD_le cut
  have eC : crashD d keep torn cut = { d with safe := keepW keep torn c 0 d.waits d.safe, waits := [], on := true, armed := false } := by rw [hc]; rfl
  rw [eC]
  have L0 : Lay w w us uw p d d.safe := ⟨h.row, h.safe, h.waits, Fr.refl _ _⟩
  obtain ⟨A2, cp, rfl⟩ := own_form h.waits
  have hml := hd.waits
  have hsm := hd.safe
  have HK := Lib.hid hk
  obtain ⟨m, hm⟩ : ∃ m, m = d.waits.length := ⟨_, rfl⟩
  have HM := Lib.hid hm
  rw [← hm] at hml
  obtain ⟨c1, hc1⟩ : ∃ c1 : Int, c1 = if cut < 0 then 0 else cut := ⟨_, rfl⟩
  have hcc : (c : Int) = if 64 < c1 then 64 else c1 := by rw [hc, hc1]; unfold cutD; split <;> (try split) <;> (try split) <;> omega
  have HC1 := Lib.hid hc1
  have HCC := Lib.hid hcc
  clear eC hc hd hk h hc1 hcc
  go_enter Try.func19, Try.ntmps19
  refine wp_seq_k (fun K hK => ?_)
  go_cut [3] (fun v w' => v = .int .i64 c1 ∧ w = w')
  case first =>
    have e := HC1.out
    by_cases q : cut < 0
    · rw [if_pos q] at e
      subst e
      have dq : decide (cut < 0) = true := decide_eq_true q
      go_wp2_with fail
      go_meet
      case rel => exact ⟨rfl, rfl⟩
    · rw [if_neg q] at e
      have dq : decide (cut < 0) = false := decide_eq_false q
      have E := Lib.hid e
      clear e
      go_wp2_with fail
      go_meet
      case rel => exact ⟨by rw [E.out], rfl⟩
  case rest =>
    obtain ⟨rfl, rfl⟩ := hcut
    apply hK
    clear hK
    refine wp_seq_k (fun K hK => ?_)
    go_cut [3] (fun v w' => v = .int .i64 (c : Nat) ∧ w = w')
    case first =>
      have e := HCC.out
      by_cases q : 64 < c1
      · rw [if_pos q] at e
        have dq : decide (64 < c1) = true := decide_eq_true q
        go_wp2_with fail
        go_meet
        case rel => exact ⟨by rw [e], rfl⟩
      · rw [if_neg q] at e
        have dq : decide (64 < c1) = false := decide_eq_false q
        go_wp2_with fail
        go_meet
        case rel => exact ⟨by rw [e], rfl⟩
    case rest =>
      obtain ⟨rfl, rfl⟩ := hcut
      apply hK
      clear hK HC1 HCC
      go_wp2
      go_loopw [8, 9, 10] (fun i _ _ wr => ∃ t : Nat, t ≤ m ∧ i = .int .i64 t ∧ Lay w wr us (.slice A2 d.waits.length cp) p d (keepW keep torn c 0 (d.waits.take t) d.safe)) (fun i _ _ _ => m - (intOf i).toNat)
      case atStart => exact ⟨0, by omega, rfl, L0⟩
      case round =>
        obtain ⟨t, ht, rfl, hL⟩ := hrel
        have r1 := hL.row.c 1 rfl
        have r0 := hL.row.c 0 rfl
        rw [← hm] at r1
        by_cases hlt : t < m
        · have tl : (t : Int) < m := by omega
          obtain ⟨y, hy⟩ : ∃ y, d.waits[t]? = some y := ⟨d.waits[t]'(by omega), List.getElem?_eq_getElem _⟩
          have hl := Lib.hid (keepW_take keep torn c d.waits 0 t d.safe y hy)
          have hbt := hb.fr hL.fr hoff
          by_cases hkt : keep.getD t false = true
          · have hq : t < kn := by
              rcases Nat.lt_or_ge t kn with h | h
              · exact h
              · rw [List.getD_eq_getElem?_getD, List.getElem?_eq_none (by rw [hb.1]; exact h)] at hkt; simp at hkt
            have d3 : decide ((kn : Int) ≤ t) = false := decide_eq_false (by omega)
            obtain ⟨x, hx⟩ : ∃ x, keep[t]? = some x := ⟨keep[t]'(by rw [hb.1]; exact hq), List.getElem?_eq_getElem _⟩
            have hxt : x = true := by
              rw [List.getD_eq_getElem?_getD, hx] at hkt; simpa using hkt
            obtain ⟨bb, off, ea, _, hcb⟩ := hbt.2 (by omega)
            have cb := hcb t x hx
            rw [hxt] at cb
            subst ea
            have tk : (t : Int) < kn := by omega
            have hl2 : keepW keep torn c 0 (d.waits.take (t + 1)) d.safe = (keepW keep torn c 0 (d.waits.take t) d.safe).set y.1 (if (t : Int) = torn then y.2.take c ++ ((keepW keep torn c 0 (d.waits.take t) d.safe).getD y.1 []).drop c else y.2) := by
              rw [hl.out, keep1, Nat.zero_add, if_pos (by simpa using hkt)]
            have HL2 := Lib.hid hl2
            obtain ⟨sf, hsf⟩ : ∃ sf, sf = keepW keep torn c 0 (d.waits.take t) d.safe := ⟨_, rfl⟩
            have hsl : sf.length = d.safe.length ∧ ∀ z ∈ sf, z.length = 64 := by
              rw [hsf]
              exact keepW_all hc64 _ 0 _ (fun z hz => HK.out.waits z (List.mem_of_mem_take hz)) HK.out.safe
            rw [← hsf] at HL2 hL
            have hy2 := HK.out.waits y (List.mem_of_getElem? hy)
            obtain ⟨a1, a2⟩ := wrs_at d.waits t y hy
            obtain ⟨g2, cap2, e2, hc2, _, _, ca, _⟩ := own_cell hL.waits a1
            obtain ⟨g3, cap3, e3, hc3, _, _, cbb, _⟩ := own_cell hL.waits a2
            rw [e2] at e3
            obtain ⟨rfl, rfl⟩ : g2 = g3 ∧ cap2 = cap3 := by simpa using e3
            simp only [Value.slice.injEq] at e2
            obtain ⟨rfl, _, rfl⟩ := e2
            obtain ⟨gs, caps, e4, hcs, _, ltg, cc, fc⟩ := own_cell hL.safe (svs_at sf y.1 (by rw [hsl.1]; exact hy2.1))
            subst e4
            obtain ⟨yi, ys⟩ := y
            simp only at ca cbb HL2 hy2 cc fc
            obtain ⟨yn, yl⟩ := hy2
            have S64 := Lib.hid (show (sf.getD yi []).length = 64 from by
              have hlt : yi < sf.length := by rw [hsl.1]; exact yn
              rw [List.getD_eq_getElem?_getD, List.getElem?_eq_getElem hlt]; exact hsl.2 _ (List.getElem_mem _))
            obtain ⟨n, hn⟩ : ∃ n, n = d.safe.length := ⟨_, rfl⟩
            rw [← hn] at r0 hcs yn
            have hyn : (yi : Int) < n := by omega
            have HN := Lib.hid hn
            clear hl2 hcb hx hxt hkt hl hsf e3 a1 a2 hsl
            go_upto_region 9 with (fail)
            obtain ⟨w2, hw2⟩ : ∃ w2, w2 = wr.alloc (Obj.cells #[Value.int IntKind.i64 (yi : Nat), Value.string ⟨ys.toArray⟩] 64) := ⟨_, rfl⟩
            have bw2 : Below wr.heap.size wr w2 := by rw [hw2]; exact (Below.refl _ _).alloc (Nat.le_refl _) _
            have rq : Rw w2 wr.heap.size [Value.int IntKind.i64 (yi : Nat), Value.string ⟨ys.toArray⟩] 64 := by rw [hw2]; exact Rw.new wr _ _
            rw [← hw2]
            have hL2 := hL.below bw2
            have cc2 := (bw2.cell (p := ⟨gs, yi, none⟩) ltg).trans cc
            have fc2 : w2.frozen? ⟨gs, yi, none⟩ = false := (World.frozen?_of_block (bw2.block gs ltg)).trans fc
            have r02 := hL2.row.c 0 rfl
            rw [← hn] at r02
            have q0 := rq.c 0 rfl
            have q1 := rq.c 1 rfl
            generalize hqs : wr.heap.size = q at *
            obtain ⟨s0, hs0⟩ : ∃ s0, s0 = sf.getD yi [] := ⟨_, rfl⟩
            rw [← hs0] at S64 HL2 cc2
            have s64 := S64.out
            have s64I : (s0.length : Int) = 64 := by omega
            have ys64I : (ys.length : Int) = 64 := by omega
            have cI : (c : Int) ≤ 64 := by omega
            clear hw2 rq bw2 hL cc fc ca cbb r0 r1 cb hb hbt hqs hs0 S64 hn
            by_cases hto : (t : Int) = torn
            · subst hto
              have HL3 := Lib.hid (HL2.out.trans (by rw [if_pos rfl]))
              clear HL2 s64 yl
              go_wp2
              go_region
              rw [show (ByteArray.mk ys.toArray).extract 0 c ++ (ByteArray.mk s0.toArray).extract c s0.length = ⟨(ys.take c ++ s0.drop c).toArray⟩ from by rw [ext_list, ext_list, app_list]; simp]
              generalize ys.take c ++ s0.drop c = sx at *
              go_wp2
              go_region
              all_goals
                go_wp2
                go_roundw
                case rel => exact ⟨t + 1, by omega, by go_num, by rw [HL3.out]; exact (hL2.store yi sx).drew1.drew1⟩
                case measure => simp [intOf]; omega
            · have hto2 : ((t : Int) == torn) = false := by simpa using hto
              have HL3 := Lib.hid (HL2.out.trans (by rw [if_neg hto]))
              clear HL2
              go_wp2
              go_region
              all_goals
                go_wp2
                go_roundw
                case rel => exact ⟨t + 1, by omega, by go_num, by rw [HL3.out]; exact (hL2.store yi ys).drew _⟩
                case measure => simp [intOf]; omega
          · have hl2 : keepW keep torn c 0 (d.waits.take (t + 1)) d.safe = keepW keep torn c 0 (d.waits.take t) d.safe := by
              rw [hl.out, keep1, if_neg (by simpa using hkt)]
            have HL2 := Lib.hid hl2
            clear hl2
            by_cases hq : t < kn
            · have d3 : decide ((kn : Int) ≤ t) = false := decide_eq_false (by omega)
              obtain ⟨x, hx⟩ : ∃ x, keep[t]? = some x := ⟨keep[t]'(by rw [hb.1]; exact hq), List.getElem?_eq_getElem _⟩
              have hxf : x = false := by
                rw [List.getD_eq_getElem?_getD, hx] at hkt; simpa using hkt
              obtain ⟨bb, off, ea, _, hcb⟩ := hbt.2 (by omega)
              have cb := hcb t x hx
              rw [hxf] at cb
              subst ea
              have tk : (t : Int) < kn := by omega
              clear hcb hx hxf hkt hl
              go_wp2
              go_roundw
              case rel => exact ⟨t + 1, by omega, by go_num, by rw [HL2.out]; exact hL⟩
              case measure => simp [intOf]; omega
            · have d3 : decide ((kn : Int) ≤ t) = true := decide_eq_true (by omega)
              clear hkt hl
              go_wp2
              go_roundw
              case rel => exact ⟨t + 1, by omega, by go_num, by rw [HL2.out]; exact hL⟩
              case measure => simp [intOf]; omega
        · have tl : ¬ ((t : Int) < m) := by omega
          have f1 := hL.row.f 1
          have f2 := hL.row.f 2
          have f3 := hL.row.f 3
          have r2 := hL.row.c 2 rfl
          have r3 := hL.row.c 3 rfl
          have hmm := HM.out
          have e : d.waits.take t = d.waits := List.take_of_length_le (by omega)
          rw [e] at hL
          clear e hmm
          go_wp2
          go_end0
          have o1 := own_off hL.safe hL.row (by decide)
          have hf := ((hL.fr.store (p := ⟨p, 1, none⟩) List.mem_cons_self (.slice none 0 0)).store (p := ⟨p, 2, none⟩) List.mem_cons_self (.bool true)).store (p := ⟨p, 3, none⟩) List.mem_cons_self (.bool false)
          refine ⟨rfl, ⟨((hL.row.set 1 _).set 2 _).set 3 _, ?_, World.ownsRow_nil _ _ _ _⟩, hf⟩
          have hlen := (keepW_all (keep := keep) (torn := torn) hc64 d.waits 0 d.safe HK.out.waits HK.out.safe).1
          simp only [hlen]
          exact ownsRow_setCell_other (a := ⟨p, 3, none⟩) (ownsRow_setCell_other (a := ⟨p, 2, none⟩) (ownsRow_setCell_other (a := ⟨p, 1, none⟩) hL.safe o1 _) o1 _) o1 _
end Go.Proofs.Ytmpcfdjpklmfmaa
