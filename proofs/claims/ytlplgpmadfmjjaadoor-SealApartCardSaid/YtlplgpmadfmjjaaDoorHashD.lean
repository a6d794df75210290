import Derived.Test.YtlplgpmadfmjjaaDoorRows
import Derived.WalkKit
import Derived.Below
import Derived.ProofKit
import Derived.OpenShut
import Derived.ShutString
import Derived.ChangeOld
import Derived.Outline
import Derived.RegionTactic
import Derived.ChangeAlike
import Derived.BigRegion
import Derived.BigQuiet
import Derived.Deep.QuietTactic
import Derived.Deep.RegionWith
import Derived.Deep.RegionLaw
import Derived.Deep.RegionHeld3
import Derived.Deep.AppendLies
import Derived.Deep.Draws
import Derived.StillTailTactics
import Derived.Lib.Hide
import Derived.Lib.SmallJoins
import Derived.Handy
import Derived.Deep.LoopGhost
import Derived.Deep.DeepCutAuto
import Derived.Test.YtlplgpmadfmjjaaDoorHashC
import Derived.Test.YtlplgpmadfmjjaaDoorFr
namespace Go.Proofs.YtlplgpmadfmjjaaDoor
open Go.RowKit
set_option linter.unusedSimpArgs false
set_option linter.unusedVariables false
theorem turn_e (x : BitVec 32) (w : World) : Calls Tryd.prog 35 #[.int .u32 x.toNat, .int .i64 6, .int .i64 11, .int .i64 25] w fun e w' => e = .returned (.int .u32 (turn3 x 6 11 25).toNat) ∧ w' = w :=
  (turn_any x 6 11 25 w (by decide) (by decide) (by decide)).mono fun _ _ ⟨a, b⟩ => ⟨a, b.symm⟩
theorem turn_a (x : BitVec 32) (w : World) : Calls Tryd.prog 35 #[.int .u32 x.toNat, .int .i64 2, .int .i64 13, .int .i64 22] w fun e w' => e = .returned (.int .u32 (turn3 x 2 13 22).toNat) ∧ w = w' :=
  turn_any x 2 13 22 w (by decide) (by decide) (by decide)
theorem ch_q (x y z : BitVec 32) (w : World) :
    Calls Tryd.prog 36 #[.int .u32 x.toNat, .int .u32 y.toNat, .int .u32 z.toNat] w fun e w' => e = .returned (.int .u32 (chF x y z).toNat) ∧ w' = w :=
  (ch_any x y z w).mono fun _ _ ⟨a, b⟩ => ⟨a, b.symm⟩
theorem uc_cell8 {w : World} {b : Nat} {A : List (BitVec 32)} {t : TypeId} {fr : Nat × Nat} (h : w.heap[b]? = some (.cells (uc A).toArray t fr)) {k : Nat} (hk : k < A.length) : w.cell? ⟨b, k, none⟩ = some (.int .u32 (A.getD k 0).toNat) :=
  cell_row h (uc_get hk)
def s8v (i : Nat) (s : S8) : Value := .int .u32 ((s.list).getD i 0).toNat
theorem rounds_len (w : List (BitVec 32)) (s : S8) (n : Nat) : (rounds w s n).list.length = 8 := rfl
theorem val_u32 {a b : Int} (h : a = b) : Value.int .u32 a = .int .u32 b := by rw [h]
theorem sum_a (a b c d e f g : BitVec 32) : (((a.toNat : Int) + b.toNat + c.toNat + d.toNat + e.toNat) % 4294967296 + ((f.toNat : Int) + g.toNat) % 4294967296) % 4294967296 = (((a + b + c + d + e) + (f + g)).toNat : Int) := by
  simp only [BitVec.toNat_add]; omega
theorem sum_e (x a b c d e : BitVec 32) : ((x.toNat : Int) + ((a.toNat : Int) + b.toNat + c.toNat + d.toNat + e.toNat) % 4294967296) % 4294967296 = ((x + (a + b + c + d + e)).toNat : Int) := by
  simp only [BitVec.toNat_add]; omega
theorem ix8 (S : S8) (k : Nat) (hk : k < 8) (w : World) : Sem.run Tryd.prog (Instr.index 58 (Value.agg #[Value.int IntKind.u32 ↑S.a.toNat, Value.int IntKind.u32 ↑S.b.toNat, Value.int IntKind.u32 ↑S.c.toNat, Value.int IntKind.u32 ↑S.d.toNat, Value.int IntKind.u32 ↑S.e.toNat, Value.int IntKind.u32 ↑S.f.toNat, Value.int IntKind.u32 ↑S.g.toNat, Value.int IntKind.u32 ↑S.h.toNat]) (Value.int IntKind.i64 ↑k)) w = .ok (.int .u32 (S.list.getD k 0).toNat) w := by
  obtain rfl | rfl | rfl | rfl | rfl | rfl | rfl | rfl : k = 0 ∨ k = 1 ∨ k = 2 ∨ k = 3 ∨ k = 4 ∨ k = 5 ∨ k = 6 ∨ k = 7 := by omega
  all_goals kernel_rfl
theorem zip_assoc (X Y Z : List (BitVec 32)) : List.zipWith (· + ·) X (List.zipWith (· + ·) Y Z) = List.zipWith (· + ·) (List.zipWith (· + ·) X Y) Z := by
  induction X generalizing Y Z with
  | nil => simp
  | cons x X ih =>
    cases Y with
    | nil => simp
    | cons y Y =>
      cases Z with
      | nil => simp
      | cons z Z => simp [ih, BitVec.add_assoc]
set_option maxHeartbeats 1000000 in
set_option maxRecDepth 100000 in
/-- The rounds, and what they add. -/
theorem mix_any (b : Nat) (A : List (BitVec 32)) (l : List UInt8) (r : List Value) (t : TypeId) (w : World) (ht : Tabs w) (hA : A.length = 8) (hl : B64At w b l)
    (hb : w.heap[b]? = some (.cells (uc A ++ r).toArray t (0, 0))) :
    Calls Tryd.prog 29 #[.pointer (some ⟨b, 0, none⟩), .pointer (some ⟨b, 8, none⟩)] w fun e w' => e = .returned (.tuple #[]) ∧ ∃ A' : List (BitVec 32), sum8 A' = compress (sum8 A) l ∧ A'.length = 8 ∧ w'.heap[b]? = some (.cells (uc A' ++ r).toArray t (0, 0)) ∧ Fr [b] w w' := by
  have hbs := hl.2.1
  have ha : U8At w b A := ⟨hA, hbs, fun k hk => cell_row hb (by rw [List.getElem?_append_left (by rw [uc_len]; omega)]; exact uc_get (by omega))⟩
  have B0 := Lib.hid hb
  clear hb
  go_enter Tryd.func29, Tryd.ntmps29
  go_wp2_with fail
  refine (widened_any b l w hl).mono ?_
  rintro e w1 ⟨rfl, h1⟩
  have hW64 : (uc (sched l 48)).toArray.size = 64 := by simp [uc, sched_len]
  have HW := Lib.hid hW64
  clear hW64
  go_wp2_with (refine wpList_store_row rfl 66 (.tmp 4) (.tmp 20) rfl w1.heap.size (uc (sched l 48)).toArray rfl rfl 66 _ (heap_alloc_new w1 _) (by rw [HW.out]; exact info70) (by rw [HW.out]; rfl) (ones_uc _) ?_)
  have t1 := ht.below h1
  have a1 := ha.below h1
  generalize hw2 : World.setRow _ _ _ = w2
  have r2 : w2.heap[w1.heap.size]? = some (.cells (uc (sched l 48)).toArray 66 (0, 0)) := by rw [← hw2]; exact setRow_heap _ _ _ _ _ _ (heap_alloc_new w1 _)
  have h2 : Below w1.heap.size w1 w2 := by rw [← hw2]; exact below_setRow ((Below.refl _ _).alloc (Nat.le_refl _) _) (Nat.le_refl _) _
  have z2 : w1.heap.size < w2.heap.size := by rw [← hw2]; simp
  clear hw2
  have t2 := t1.below h2
  have a2 := a1.below h2
  refine (whole_any b A w2 t2 a2).mono ?_
  rintro e w3 ⟨rfl, h3⟩
  have R3 := Lib.hid ((h3.block _ z2).trans r2)
  clear r2
  have t3 := t2.below h3
  have a3 := a2.below h3
  have hW8 : (uc (sum8 A)).toArray.size = 8 := by simp [uc, sum8_len hA]
  have H8 := Lib.hid hW8
  clear hW8
  go_wp2_with (refine wpList_store_row rfl 60 (.tmp 5) (.tmp 22) rfl w3.heap.size (uc (sum8 A)).toArray rfl rfl 60 _ (heap_alloc_new w3 _) (by rw [H8.out]; exact info51) (by rw [H8.out]; rfl) (ones_uc _) ?_)
  generalize hw4 : World.setRow _ _ _ = w4
  have r4 : w4.heap[w3.heap.size]? = some (.cells (uc (sum8 A)).toArray 60 (0, 0)) := by rw [← hw4]; exact setRow_heap _ _ _ _ _ _ (heap_alloc_new w3 _)
  have h4 : Below w3.heap.size w3 w4 := by rw [← hw4]; exact below_setRow ((Below.refl _ _).alloc (Nat.le_refl _) _) (Nat.le_refl _) _
  have z3 : w3.heap.size < w4.heap.size := by rw [← hw4]; simp
  clear hw4
  have z23 := h3.size
  have R4 := Lib.hid ((h4.block _ (show w1.heap.size < w3.heap.size by omega)).trans R3.out)
  have t4 := t3.below h4
  have bel4 : Below w.heap.size w w4 := ((h1.trans (h2.mono h1.size)).trans (h3.mono (Nat.le_trans h1.size h2.size))).trans (h4.mono (Nat.le_trans h1.size (by omega)))
  have l8 := sum8_len hA
  have c0 := uc_cell8 r4 (k := 0) (by rw [l8]; decide)
  have c1 := uc_cell8 r4 (k := 1) (by rw [l8]; decide)
  have c2 := uc_cell8 r4 (k := 2) (by rw [l8]; decide)
  have c3 := uc_cell8 r4 (k := 3) (by rw [l8]; decide)
  have c4 := uc_cell8 r4 (k := 4) (by rw [l8]; decide)
  have c5 := uc_cell8 r4 (k := 5) (by rw [l8]; decide)
  have c6 := uc_cell8 r4 (k := 6) (by rw [l8]; decide)
  have c7 := uc_cell8 r4 (k := 7) (by rw [l8]; decide)
  have hs0 : s8 (sum8 A) = ⟨(sum8 A).getD 0 0, (sum8 A).getD 1 0, (sum8 A).getD 2 0, (sum8 A).getD 3 0, (sum8 A).getD 4 0, (sum8 A).getD 5 0, (sum8 A).getD 6 0, (sum8 A).getD 7 0⟩ := rfl
  clear r4
  generalize (sum8 A).getD 0 0 = x0 at c0 hs0
  generalize (sum8 A).getD 1 0 = x1 at c1 hs0
  generalize (sum8 A).getD 2 0 = x2 at c2 hs0
  generalize (sum8 A).getD 3 0 = x3 at c3 hs0
  generalize (sum8 A).getD 4 0 = x4 at c4 hs0
  generalize (sum8 A).getD 5 0 = x5 at c5 hs0
  generalize (sum8 A).getD 6 0 = x6 at c6 hs0
  generalize (sum8 A).getD 7 0 = x7 at c7 hs0
  have HS0 := Lib.hid hs0
  have L8 := Lib.hid l8
  clear hs0 l8
  go_wp2
  go_quiet (fail)
  go_wp2
  go_loopw [6, 7, 8, 9, 10, 11, 12, 13, 39] (fun va vb vc vd ve vf vg vh i wr => ∃ k m : Nat, ∃ S : S8, k ≤ 64 ∧ i = .int .i64 k ∧ Hid (rounds (sched l 48) (s8 (sum8 A)) k = S) ∧ va = .int .u32 S.a.toNat ∧ vb = .int .u32 S.b.toNat ∧ vc = .int .u32 S.c.toNat ∧ vd = .int .u32 S.d.toNat ∧ ve = .int .u32 S.e.toNat ∧ vf = .int .u32 S.f.toNat ∧ vg = .int .u32 S.g.toNat ∧ vh = .int .u32 S.h.toNat ∧ wr = w4.drewN m) (fun _ _ _ _ _ _ _ _ i _ => 64 - (intOf i).toNat)
  case atStart => exact ⟨0, nq, _, by omega, rfl, Lib.hid HS0.out, rfl, rfl, rfl, rfl, rfl, rfl, rfl, rfl, rfl⟩
  case round =>
    obtain ⟨k, m, S, hk, rfl, hS, rfl, rfl, rfl, rfl, rfl, rfl, rfl, rfl, hw⟩ := hrel
    clear c0 c1 c2 c3 c4 c5 c6 c7
    by_cases hlt : k < 64
    · have q0 : wr.cell? ⟨0, k, none⟩ = some (.int .u32 (ks.getD k 0).toNat) := by rw [hw]; exact t4.1 k hlt
      have q1 : wr.cell? ⟨w1.heap.size, k, none⟩ = some (.int .u32 ((sched l 48).getD k 0).toNat) := by rw [hw]; exact uc_cell8 R4.out (k := k) (by rw [sched_len]; exact hlt)
      have Hw := Lib.hid hw
      clear hw
      have kk : (k : Int) < 64 := by omega
      have hr : rounds (sched l 48) (s8 (sum8 A)) (k + 1) = rnd S (ks.getD k 0) ((sched l 48).getD k 0) := by rw [rounds, hS.out]
      generalize ks.getD k 0 = xk at q0 hr
      generalize (sched l 48).getD k 0 = xw at q1 hr
      have HR := Lib.hid hr
      clear hr
      go_wp2
      go_quiet ((first | (go_at_call 35; exact Calls.quiet_of_same (turn_e S.e _)) | (go_at_call 36; exact Calls.quiet_of_same (ch_q S.e S.f S.g _))))
      go_wp2_with (first | (go_at_call 35; refine (turn_a S.a _).mono ?_; rintro e w1 ⟨rfl, rfl⟩) | (go_at_call 37; refine (maj_any S.a S.b S.c _).mono ?_; rintro e w1 ⟨rfl, rfl⟩))
      go_roundw
      case rel =>
        refine ⟨k + 1, _, _, by omega, by go_num, Lib.hid HR.out, ?_, rfl, rfl, rfl, ?_, rfl, rfl, rfl, by rw [Hw.out, World.drewN_drewN]⟩
        · exact val_u32 (sum_a _ _ _ _ _ _ _)
        · exact val_u32 (sum_e _ _ _ _ _ _)
      case measure => simp [intOf]; omega
    · obtain rfl : k = 64 := by omega
      have hb4 := (bel4.block b hbs).trans B0.out
      have hwb : wr.heap[b]? = some (.cells (uc A ++ r).toArray t (0, 0)) := by rw [hw]; exact hb4
      have belw : Below w.heap.size w wr := by rw [hw]; exact below_drewN bel4 m
      clear hw hb4 R4 R3
      obtain ⟨na, hna⟩ : ∃ na, na = List.zipWith (· + ·) A S.list := ⟨_, rfl⟩
      have NA := Lib.hid hna
      have BW := Lib.hid hwb
      rw [show ((64 : Nat) : Int) = 64 from rfl]
      clear hna hwb
      go_wp2
      go_loopw [88] (fun i wz => ∃ k : Nat, ∃ M : List (BitVec 32), k ≤ 8 ∧ i = .int .i64 k ∧ M.length = 8 ∧ M.take k = na.take k ∧ M.drop k = A.drop k ∧ wz.heap[b]? = some (.cells (uc M ++ r).toArray t (0, 0)) ∧ Fr [b] w wz) (fun i _ => 8 - (intOf i).toNat)
      case atStart => exact ⟨0, A, by omega, rfl, hA, rfl, rfl, BW.out, Fr.of_below belw⟩
      case round =>
        clear BW belw
        obtain ⟨k, M, hk, rfl, hM, hT, hD, hz, hfr⟩ := hrel
        by_cases hlt : k < 8
        · have ek : M.getD k 0 = A.getD k 0 := by
            have e := congrArg (·[0]?) hD
            simp only [List.getElem?_drop, Nat.add_zero] at e
            rw [List.getD_eq_getElem?_getD, List.getD_eq_getElem?_getD, e]
          have c0 : wr.cell? ⟨b, k, none⟩ = some (.int .u32 (M.getD k 0).toNat) := cell_row hz (by rw [List.getElem?_append_left (by rw [uc_len]; omega)]; exact uc_get (by omega))
          have f0 : wr.frozen? ⟨b, k, none⟩ = false := frozen_of_row wr _ k _ _ hz
          have hn : na[k]? = some (A.getD k 0 + S.list.getD k 0) := by
            have hl8 : S.list.length = 8 := rfl
            rw [NA.out]; simp [List.getElem?_zipWith, hA, hl8, hlt]
          have kk : (k : Int) < 8 := by omega
          rw [ek] at c0
          have hix := ix8 S k hlt wr
          generalize A.getD k 0 = x at c0 hn
          generalize S.list.getD k 0 = y at hix hn
          clear ek
          have HM := Lib.hid hM
          have HT := Lib.hid hT
          have HD := Lib.hid hD
          have HZ := Lib.hid hz
          have HN := Lib.hid hn
          clear hM hT hD hz hn
          go_wp2
          go_region
          go_wp2
          go_roundw
          case rel =>
            refine ⟨k + 1, M.set k (x + y), by omega, by go_num, by simpa using HM.out, take_set _ _ _ _ HT.out (by rw [HM.out]; omega) HN.out, ?_, ?_, ?_⟩
            · rw [List.drop_set_of_lt (by omega), ← List.drop_drop, HD.out, List.drop_drop]
            · rw [heap_drew, add32, ← uc_set, ← List.set_append_left _ _ (by rw [uc_len, HM.out]; exact hlt)]; exact set_row HZ.out
            · exact (hfr.setCell (Or.inl (by simp)) _).drew
          case measure => simp [intOf]; omega
        · obtain rfl : k = 8 := by omega
          have hnl : na.length = 8 := by
            have hl8 : S.list.length = 8 := rfl
            rw [NA.out]; simp [hA, hl8]
          have e := take_all _ _ 8 hT hM hnl
          rw [e] at hz
          clear hT hM hD e
          have HZ := Lib.hid hz
          have HNL := Lib.hid hnl
          clear hz hnl
          go_wp2
          go_end0
          refine ⟨rfl, na, ?_, HNL.out, HZ.out, hfr⟩
          unfold compress
          rw [hS.out, NA.out]
          exact zip_assoc _ _ _
end Go.Proofs.YtlplgpmadfmjjaaDoor
