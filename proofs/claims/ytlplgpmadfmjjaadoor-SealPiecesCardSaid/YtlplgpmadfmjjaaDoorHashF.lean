import Derived.Test.YtlplgpmadfmjjaaDoorRows
import Derived.WalkKit
import Derived.Below
import Derived.ProofKit
import Derived.OpenShut
import Derived.ShutString
import Derived.ChangeOld
import Derived.Outline
import Derived.RegionTactic
import Derived.ChangeAlike
import Derived.BigRegion
import Derived.BigQuiet
import Derived.Deep.QuietTactic
import Derived.Deep.RegionWith
import Derived.Deep.RegionLaw
import Derived.Deep.RegionHeld3
import Derived.Deep.AppendLies
import Derived.Deep.Draws
import Derived.StillTailTactics
import Derived.Lib.Hide
import Derived.Lib.SmallJoins
import Derived.Handy
import Derived.Deep.LoopGhost
import Derived.Deep.DeepCutAuto
import Derived.Laws.CopyOwn
import Derived.Test.YtlplgpmadfmjjaaDoorHashE
namespace Go.Proofs.YtlplgpmadfmjjaaDoor
open Go.RowKit
set_option linter.unusedSimpArgs false
set_option linter.unusedVariables false
def strLen (v : Value) : Nat := match v with | .string s => s.size | _ => 0
theorem slice53 (b u : Nat) (w : World) (h : u < 64) : (Instr.sliceAt 61 (.pointer (some ⟨b, 8, none⟩)) (some (.int .i64 (u : Int))) none none).run Tryd.prog w = .ok (.slice (some ⟨b, 8 + u, none⟩) (64 - u) (64 - u)) w := by
  have hl : Tryd.prog.arrayLen 61 = 64 := by kernel_rfl
  have he : Tryd.prog.elem 61 = 5 := by kernel_rfl
  have hz : (sizeOf 5).run Tryd.prog w = .ok 1 w := by kernel_rfl
  rw [run_sliceAt_array_l w 61 ⟨b, 8, none⟩ (by rw [hl, he]; exact Tryd.underlying61) .i64 u (by omega) (by rw [hl]; omega), hl, he, hz]
  show Result.ok (slicedAt ⟨b, 8, none⟩ (u : Int).toNat 64 64 1) w = _
  rw [Int.toNat_natCast]
  unfold slicedAt
  rw [if_neg (by omega)]
  simp [Addr.add]
theorem hfr5' {ex : List Nat} {w w' : World} (h : Fr ex w.drew w') : Fr ex w w' := ⟨h.os, h.tape, h.output, h.size, h.block⟩
theorem has_full {w : World} {b n u g : Nat} {lc tk : List UInt8} {A A' : List (BitVec 32)} {blk blk2 : List UInt8} (hk : blk.length = 64) (hS : sum8 A = blks lc (lc.length / 64)) (hB : blk.take (lc.length % 64) = lc.drop (64 * (lc.length / 64)))
    (hn : n = lc.length) (hu : u = n % 64) (ht : tk.length = g) (hf : u + g = 64) (h2 : blk2 = blk.take u ++ (tk ++ blk.drop (u + g))) (hA' : sum8 A' = compress (sum8 A) blk2) (hA8 : A'.length = 8) (hl2 : blk2.length = 64)
    (hrow : w.heap[b]? = some (.cells (uc A' ++ (bcells blk2 ++ [Value.int .i64 ((n + g : Nat) : Int)])).toArray 63 (0, 0))) : Has w b (lc ++ tk) := by
  subst hn hu ht h2
  obtain ⟨a, b', c⟩ := step_full A lc tk blk hk hS hB hf
  refine ⟨A', _, hA8, hl2, hA'.trans a, ?_, ?_⟩
  · rw [b', c]; rfl
  · rw [List.length_append]; exact hrow
theorem has_part {w : World} {b n u g : Nat} {lc tk : List UInt8} {A : List (BitVec 32)} {blk blk2 : List UInt8} (hk : blk.length = 64) (hS : sum8 A = blks lc (lc.length / 64)) (hB : blk.take (lc.length % 64) = lc.drop (64 * (lc.length / 64)))
    (hn : n = lc.length) (hu : u = n % 64) (ht : tk.length = g) (hf : u + g < 64) (h2 : blk2 = blk.take u ++ (tk ++ blk.drop (u + g))) (hA8 : A.length = 8) (hl2 : blk2.length = 64)
    (hrow : w.heap[b]? = some (.cells (hcells A blk2 (n + g)).toArray 63 (0, 0))) : Has w b (lc ++ tk) := by
  subst hn hu ht h2
  obtain ⟨a, b'⟩ := step_part A lc tk blk hk hS hB hf
  refine ⟨A, _, hA8, hl2, a, b', ?_⟩
  rw [List.length_append]; exact hrow
section
attribute [local go_sem] ext_list
set_option maxHeartbeats 1000000 in
set_option maxRecDepth 100000 in
theorem Write_any (b : Nat) (l s : List UInt8) (w : World) (ht : Tabs w) (hb1 : 1 < b) (hh : Has w b l) (hlen : (l.length : Int) + s.length ≤ 1152921504606846976) :
    Calls Tryd.prog 26 #[.pointer (some ⟨b, 0, none⟩), .string ⟨s.toArray⟩] w fun e w' => e = .returned (.tuple #[]) ∧ Has w' b (l ++ s) ∧ Fr [b] w w' := by
  have HL := Lib.hid hlen
  clear hlen
  go_enter Tryd.func26, Tryd.ntmps26
  go_wp2
  go_loopw [1] (fun v wr => ∃ c r : List UInt8, s = c ++ r ∧ v = .string ⟨r.toArray⟩ ∧ Has wr b (l ++ c) ∧ Fr [b] w wr) (fun v _ => strLen v)
  case atStart => exact ⟨[], s, rfl, rfl, by simpa using hh, Fr.refl _ _⟩
  case round =>
    obtain ⟨c, r, hs, rfl, hc, hfr⟩ := hrel
    by_cases hr : r = []
    · subst hr
      obtain rfl : s = c := by simpa using hs
      go_wp2
      go_end0
      exact ⟨rfl, hc, hfr⟩
    · have hr0 : 0 < r.length := by cases r <;> simp_all
      obtain ⟨A, blk, hA, hblk, hS, hB, hrow⟩ := id hc
      have hlc : (l ++ c).length + r.length ≤ 1152921504606846976 := by have := HL.out; rw [hs] at this; simp at this ⊢; omega
      obtain ⟨lc, hlce⟩ : ∃ lc, lc = l ++ c := ⟨_, rfl⟩
      rw [← hlce] at hS hB hrow hlc
      have c72 : wr.cell? ⟨b, 72, none⟩ = some (.int .i64 lc.length) := cell_row hrow (hcells_n A blk _ hA hblk)
      obtain ⟨n, hn⟩ : ∃ n, n = lc.length := ⟨_, rfl⟩
      obtain ⟨u, hu⟩ : ∃ u, u = n % 64 := ⟨_, rfl⟩
      have hu64 : u < 64 := by omega
      have eu : (n : Int) % 64 = (u : Int) := by omega
      rw [← hn] at c72
      have hnb : (n : Int) ≤ 1152921504606846976 := by omega
      have hrb : (r.length : Int) ≤ 1152921504606846976 := by omega
      have u1 : (u : Int) < 64 := by omega
      have HR := Lib.hid hrow
      have HS := Lib.hid hS
      have HB := Lib.hid hB
      have HN := Lib.hid hn
      have HU := Lib.hid hu
      have HSS := Lib.hid hs
      have HLC := Lib.hid hlc
      have HLE := Lib.hid hlce
      have HA := Lib.hid hA
      have HK := Lib.hid hblk
      clear hrow hS hB hn hu hs hlc hlce hA hblk hc
      have hsl := slice53 b u wr hu64
      obtain ⟨g, hg⟩ : ∃ g, g = Nat.min r.length (64 - u) := ⟨_, rfl⟩
      have hg1 : g ≤ r.length := by rw [hg]; exact Nat.min_le_left _ _
      have hg2 : u + g ≤ 64 := by have h2 := Nat.min_le_right r.length (64 - u); have h3 : g ≤ 64 - u := by rw [hg]; exact h2
                                  omega
      have hg3 : 0 < g := by rw [hg]; exact Nat.lt_min.2 ⟨hr0, by omega⟩
      have HG := Lib.hid hg
      clear hg
      have hfit : 8 + u + g ≤ (hcells A blk lc.length).length := by
        unfold hcells; simp [uc_len, bcells_len, HA.out, HK.out]; omega
      have HF := Lib.hid hfit
      clear hfit
      go_wp2_with (refine wpList_copy_text rfl (.tmp 20) (.tmp 21) 45 9 rfl 5 Tryd.underlying45 info5 b (8 + u) (64 - u) (64 - u) g r rfl rfl (hcells A blk lc.length) 63 HR.out HG.out HF.out ?_)
      intro w2 hrow2 hf2
      have hcl : (r.take g).length = g := by rw [List.length_take]; omega
      have hrow3 := hcells_copy A blk (r.take g) lc.length u HA.out HK.out (by omega)
      rw [hcl] at hrow3
      rw [hrow3] at hrow2
      have hbl := copy_len blk (r.take g) u HK.out (by omega)
      rw [hcl] at hbl
      obtain ⟨blk2, hb2⟩ : ∃ blk2, blk2 = blk.take u ++ (r.take g ++ blk.drop (u + g)) := ⟨_, rfl⟩
      rw [← hb2] at hrow2 hbl
      have c72' : w2.cell? ⟨b, 72, none⟩ = some (.int .i64 n) := by rw [HN.out]; exact cell_row hrow2 (hcells_n A blk2 _ HA.out hbl)
      have f72' : w2.frozen? ⟨b, 72, none⟩ = false := frozen_of_row w2 _ 72 _ _ hrow2
      have hfr2 := hfr.trans hf2
      have HR2 := Lib.hid hrow2
      have HB2 := Lib.hid hb2
      have HCL := Lib.hid hcl
      have HBL := Lib.hid hbl
      clear c72 hrow3 hrow2 hb2 hcl hbl hf2 hsl
      by_cases hfull : u + g = 64
      · have q1 : ((u : Int) + g == 64) = true := by simp; omega
        go_wp2_with fail
        have hrow4 : (w2.setCell ⟨b, 72, none⟩ (.int .i64 ((n : Int) + g))).heap[b]? = some (.cells (hcells A blk2 (n + g)).toArray 63 (0, 0)) := by
          rw [← hcells_set A blk2 lc.length (n + g) HA.out HBL.out, Int.natCast_add]; exact set_row HR2.out
        have hfr4 : Fr [b] w (w2.setCell ⟨b, 72, none⟩ (.int .i64 ((n : Int) + g))) := hfr2.setCell (Or.inl (by simp)) _
        clear f72' c72' hfr2
        generalize World.setCell w2 _ _ = w3 at *
        have lt3 : b < w3.heap.size := Nat.lt_of_lt_of_le hh.lt hfr4.size
        have t3 := ht.fr hfr4 (fun k hk => by simp at hk; omega)
        have b64 := has_block HA.out HBL.out lt3 hrow4
        have H4 := Lib.hid hrow4
        clear hrow4
        go_region_with (go_at_call 29; refine (mix_any b A blk2 (bcells blk2 ++ [.int .i64 ((n + g : Nat) : Int)]) 63 _ (t3.heap (by rfl)) HA.out (by exact b64) (by exact H4.out)).mono ?_; rintro e w5 ⟨rfl, A', hA', hA8, hrow5, hfr5⟩)
        all_goals
          go_wp2
          go_roundw
          case rel =>
            refine ⟨c ++ r.take g, r.drop g, by rw [List.append_assoc, List.take_append_drop]; exact HSS.out, rfl, ?_, hfr4.trans (hfr5' hfr5)⟩
            rw [← List.append_assoc, ← HLE.out]
            exact has_full HK.out HS.out HB.out HN.out HU.out HCL.out hfull HB2.out hA' hA8 HBL.out hrow5
          case measure => simp [strLen, ByteArray.size]; omega
      · have q1 : ((u : Int) + g == 64) = false := by simp; omega
        have hrow4 : (w2.setCell ⟨b, 72, none⟩ (.int .i64 ((n : Int) + g))).heap[b]? = some (.cells (hcells A blk2 (n + g)).toArray 63 (0, 0)) := by
          rw [← hcells_set A blk2 lc.length (n + g) HA.out HBL.out, Int.natCast_add]; exact set_row HR2.out
        have hfr4 : Fr [b] w (w2.setCell ⟨b, 72, none⟩ (.int .i64 ((n : Int) + g))) := hfr2.setCell (Or.inl (by simp)) _
        have H4 := Lib.hid hrow4
        clear hrow4
        go_wp2
        go_roundw
        case rel =>
          refine ⟨c ++ r.take g, r.drop g, by rw [List.append_assoc, List.take_append_drop]; exact HSS.out, rfl, ?_, hfr4⟩
          rw [← List.append_assoc, ← HLE.out]
          exact has_part HK.out HS.out HB.out HN.out HU.out HCL.out (by omega) HB2.out HA.out HBL.out H4.out
        case measure => simp [strLen, ByteArray.size]; omega
end
end Go.Proofs.YtlplgpmadfmjjaaDoor
