import Derived.Test.YtkhmhffphmkefaaRows
import Derived.Test.YtkhmhffphmkefaaTlvA
import Derived.ProofKit
import Derived.OpenShut
import Derived.ShutString
import Derived.ChangeOld
import Derived.Outline
import Derived.RegionTactic
import Derived.ChangeAlike
import Derived.BigRegion
import Derived.BigQuiet
import Derived.Deep.QuietTactic
import Derived.Deep.RegionWith
import Derived.Deep.RegionLaw
import Derived.Deep.AppendLies
import Derived.Deep.Draws
import Derived.Lib.Hide
import Derived.Lib.SmallJoins
namespace Go.Proofs.Ytkhmhffphmkefaa
open Go.RowKit

theorem info5 : (Try.prog.info? 5).map (fun i => (i.zero, i.size, i.bytes)) = some (some (.int .u8 0), 1, 1) := by kernel_rfl

set_option maxHeartbeats 400000 in
theorem All_any (c : UInt8) (a : Option Addr) (n cap : Nat) (ls : List (List UInt8)) (w : World) (hr : StrsAt w w.heap.size a n ls) (hn : (n : Int) ≤ 140737488351232) (hlen : ((flds c ls).length : Int) < 16777215) :
    Calls Try.prog 20 #[.int .u8 c.toNat, .slice a n cap] w fun e w' => e = .returned (.string ⟨(fld c (flds c ls)).toArray⟩) ∧ Below w.heap.size w w' := by
  have Hlen := Lib.hid hlen
  clear hlen
  obtain ⟨i0, hi, hz0, hz1, hz2⟩ := info_parts info5
  go_enter Try.func20, Try.ntmps20
  go_wp2
  go_loopw [5, 10] (fun v i wr => ∃ k : Nat, k ≤ n ∧ i = .int .i64 k ∧ wr.ownsRow w.heap.size 5 1 v (flds c (ls.take k)).length (bcells (flds c (ls.take k))) ∧ Below w.heap.size w wr) (fun _ i _ => n - (intOf i).toNat)
  case atStart => exact ⟨0, Nat.zero_le _, rfl, World.ownsRow_nil _ _ _ _, Below.refl _ _⟩
  case round =>
    obtain ⟨k, hk, rfl, hown, hbel⟩ := hrel
    have hle := flds_take_le c ls k
    have hF : ∃ m, m = (flds c (ls.take k)).length := ⟨_, rfl⟩
    obtain ⟨m, hm⟩ := hF
    obtain ⟨A, cp, rfl⟩ := own_form hown
    rw [← hm] at hown hle ⊢
    have hm1 : decide ((16777215 : Int) ≤ (m : Int)) = false := by have := Hlen.out; simp; omega
    have Hm := Lib.hid hm
    clear hm hle
    by_cases hlt : k < n
    · obtain ⟨b, off, rfl, hb, hcell⟩ := hr.2 (by omega)
      have hkl : k < ls.length := by rw [hr.1]; exact hlt
      have hget := List.getElem?_eq_getElem hkl
      have hcw := hcell k _ hget
      have hc : wr.cell? ⟨b, off + k, none⟩ = some (.string ⟨ls[k].toArray⟩) := (hbel.cell (p := ⟨b, off + k, none⟩) hb).trans hcw
      have hstep := flds_take_succ c ls k _ hget
      have hle2 := flds_take_le c ls (k + 1)
      rw [hstep, List.length_append, fld_len, ← Hm.out] at hle2
      have hlk : (ls[k].length : Int) ≤ 16777215 := by have := Hlen.out; omega
      obtain ⟨l, hl⟩ : ∃ l, l = ls[k] := ⟨_, rfl⟩
      rw [← hl] at hc hstep hle2 hlk
      have Hs := Lib.hid hstep
      have Hlk := Lib.hid hlk
      have Hle2 := Lib.hid hle2
      clear hlk hle2
      clear hstep hcw hcell hget hl
      have hsz := hbel.size
      go_wp2_with (first | (go_at_call 18; refine (Text_any _ l _ Hlk.out).mono ?_; rintro e w' ⟨rfl, hb2⟩) | (at_builtin; refine Lib.wpList_append_own_string _ rfl _ _ 65 9 rfl w.heap.size 5 i0 Try.underlying65 Try.underlying9 hi hz0 hz1 hz2 _ m _ rfl (own_below hown ‹Below wr.heap.size wr _›) _ rfl ?c1 ?c2 ?c3 ?_))
      case c1 => 
        show m + (fld c l).length ≤ maxLen
        have := Hle2.out; have := Hlen.out; rw [fld_len]; unfold maxLen; omega
      case c2 =>
        show m + (fld c l).length ≤ _
        have := Hle2.out; have := Hlen.out; rw [fld_len]; omega
      case c3 => have := hb2.size; omega
      intro v' w2 hown3 hgrow _
      have hbel2 : Below w.heap.size w w2 := (hbel.trans (hb2.mono hbel.size)).grown hgrow (by have := hb2.size; omega) (own_block_ge (own_below hown hb2))
      have e1 : m + (fld c l).length = (flds c (ls.take (k + 1))).length := by
        rw [Hs.out, List.length_append, ← Hm.out]
      have e2 : bcells (flds c (List.take k ls)) ++ Lib.strCells ⟨(fld c l).toArray⟩ = bcells (flds c (ls.take (k + 1))) := by
        rw [Hs.out, bcells_append, strCells_list]
      rw [e1, e2] at hown3
      clear e1 e2 hown hgrow hb2 hsz
      go_wp2
      go_roundw
      case rel => exact ⟨k + 1, by omega, by go_num, hown3, hbel2⟩
      case measure => simp [intOf]; omega
    · have hkn : ls.take k = ls := List.take_of_length_le (by rw [hr.1]; omega)
      have hconv := run_b2s_own (P := Try.prog) wr 65 9 5 _ (flds c (ls.take k)) w.heap.size m Try.underlying65 Try.underlying5 Try.underlying9 hown
      rw [hkn] at hconv
      have Hl2 : Hid (((flds c ls).length : Int) ≤ 16777215) := Lib.hid (Int.le_of_lt Hlen.out)
      clear hkn hown
      go_wp2_with (go_at_call 18; refine (Text_any _ (flds c ls) _ Hl2.out).mono ?_; rintro e w' ⟨rfl, hb2⟩)
      go_ret
      exact ⟨rfl, hbel.trans (hb2.mono hbel.size)⟩
end Go.Proofs.Ytkhmhffphmkefaa
