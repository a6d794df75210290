/- What is read answers the document's reader: for every text, every list of calls and either way of choosing the letter, the law TlvReads returns true, and its arguments read afterwards as they read before. No condition. -/
import Derived.Test.YtkhmhffphmkefaaPlain
import Derived.Test.YtkhmhffphmkefaaLawX
import Derived.Test.YtkhmhffphmkefaaTlvT
import Derived.Test.YtkhmhffphmkefaaTlvU
import Derived.Test.YtkhmhffphmkefaaTlvC
import Derived.Outline
import Derived.RegionTactic
import Derived.ChangeAlike
import Derived.BigRegion
import Derived.BigQuiet
import Derived.Deep.QuietTactic
import Derived.Deep.RegionWith
import Derived.Deep.RegionLaw
import Derived.Deep.AppendLies
import Derived.Deep.Draws
import Derived.Lib.Hide
import Derived.Deep.LoopGhost
import Derived.Deep.RegionHeld3
import Derived.StillTactics
import Derived.OwnWalk
import Derived.Deep.Cut
import Derived.Deep.CutRange
namespace Go.Proofs.Ytkhmhffphmkefaa.tlvReads
open Go.RowKit
/-- A slice that reads as these texts, in memory that was made since. -/
def NewStrs (B : Nat) (ls : List (List UInt8)) (e : Ending) (w : World) : Prop := ∃ a n cap, e = .returned (.slice a n cap) ∧ StrsAt w w.heap.size a n ls ∧ (0 < n → ∀ x off, a = some ⟨x, off, none⟩ → B ≤ x)
theorem own_new {w : World} {base n cp x off : Nat} {A : Option Addr} {xs : List Value} (h : w.ownsRow base 9 1 (.slice A n cp) n xs) (hn : 0 < n) (hx : A = some ⟨x, off, none⟩) : base ≤ x := by
  obtain ⟨g, cap, hv, hge, hlt⟩ := h.form hn
  have hA : A = some ⟨g, 0, none⟩ := by injection hv
  rw [hx] at hA
  injection hA with hA
  injection hA with h1
  omega
set_option maxHeartbeats 1000000 in
theorem rdAll_new (c : UInt8) (many most : Int) (st : Option (List UInt8)) (b : Nat) (w : World) (hrd : Rd w b st) (hbl : ((st.getD []).length : Int) ≤ 16777215) :
    Calls Try.prog 32 #[.pointer (some ⟨b, 0, none⟩), .int .u8 c.toNat, .int .i64 many, .int .i64 most] w fun e w' => NewStrs w.heap.size (rdAll c many most (st.getD [])).1 e w' ∧ Rd w' b (rdAll c many most (st.getD [])).2 ∧ Fr [b] w w' := by
  have hlt := hrd.lt
  have Hbl := Lib.hid hbl
  clear hbl
  cases ht : tkF c (st.getD []) with
  | none =>
    have e : rdAll c many most (st.getD []) = ([], none) := by simp [rdAll, ht]
    rw [e]
    have H := Lib.hid ht
    clear ht e
    go_enter Try.func32, Try.ntmps32
    go_wp2_with (go_at_call 42; refine (take_none c st b _ _ (hrd.below ((((Below.refl _ _).alloc (Nat.le_refl _) _).alloc (by simp) _).alloc (by simp; omega) _ |>.alloc (by simp; omega) _)) H.out).mono ?_; rintro e w' ⟨rfl, hr2, hfr⟩)
    go_ret
    exact ⟨⟨_, _, _, rfl, ⟨rfl, fun h => absurd h (by omega)⟩, fun h => absurd h (by omega)⟩, hr2, (((((Fr.refl _ _).alloc _).alloc _).alloc _).alloc _).trans (hfr.more (by simp))⟩
  | some p =>
    obtain ⟨body, rest⟩ := p
    obtain ⟨l, rfl⟩ : ∃ l, st = some l := by
      cases st with
      | none => simp [tkF_nil] at ht
      | some l => exact ⟨l, rfl⟩
    have hb2 : (body.length : Int) ≤ 16777215 := by have := (tkF_len ht).1; have h2 := Hbl.out; simp at this h2; omega
    have Hb2 := Lib.hid hb2
    clear hb2
    have e : rdAll c many most ((some l).getD []) = if okAll many (allT c most body) then ((allT c most body).getD [], some rest) else ([], none) := by
      simp only [rdAll, ht]
    rw [e]
    have H : Hid (tkF c l = some (body, rest)) := Lib.hid ht
    clear ht e
    generalize hall : allT c most body = all
    have Hall : Hid (allF c most (body.length + 1) body = all) := Lib.hid hall
    clear hall
    cases hok : okAll many all with
    | false =>
      have Hok : Hid (okAll many (allF c most (body.length + 1) body) = false) := Lib.hid (by rw [Hall.out]; exact hok)
      clear hok
      go_enter Try.func32, Try.ntmps32
      go_wp2_with fail
      refine (take_all c many most l body rest b (w.heap.size + 1 + 1 + 1) (w.heap.size + 1) w.heap.size (w.heap.size + 1 + 1) w.heap.size _ (hrd.below (al4 w _ _ _ _)) H.out Hb2.out (Cl.new3 w _ _ _ _ _) (new1of4 w _ _ _ _ _) (new0of4 w _ _ _ _ _) (new2of4 w _ _ _ _ _) (by omega) (by omega) (by omega) hlt (by simp; omega) (by omega) false Hok.out).mono ?_
      rintro e w' ⟨rfl, hr2, hR, hfr⟩
      go_wp2
      go_ret
      exact ⟨⟨_, _, _, rfl, ⟨rfl, fun h => absurd h (by omega)⟩, fun h => absurd h (by omega)⟩, hr2, ((Fr.of_below (al4 w _ _ _ _)).trans hfr).drop (by simp; omega)⟩
    | true =>
      have Hok : Hid (okAll many (allF c most (body.length + 1) body) = true) := Lib.hid (by rw [Hall.out]; exact hok)
      clear hok
      go_enter Try.func32, Try.ntmps32
      go_wp2_with fail
      refine (take_all c many most l body rest b (w.heap.size + 1 + 1 + 1) (w.heap.size + 1) w.heap.size (w.heap.size + 1 + 1) w.heap.size _ (hrd.below (al4 w _ _ _ _)) H.out Hb2.out (Cl.new3 w _ _ _ _ _) (new1of4 w _ _ _ _ _) (new0of4 w _ _ _ _ _) (new2of4 w _ _ _ _ _) (by omega) (by omega) (by omega) hlt (by simp; omega) (by omega) true Hok.out).mono ?_
      rintro e w' ⟨rfl, hr2, ⟨v, acc, hc, hown, hacc⟩, hfr⟩
      have Hacc := Lib.hid (hacc rfl)
      clear hacc
      obtain ⟨A, cp, rfl⟩ := own_form hown
      have d0 := hc.cell
      go_wp2
      go_ret
      have e2 : all = some acc := by rw [← Hall.out]; exact Hacc.out
      refine ⟨?_, hr2, ((Fr.of_below (al4 w _ _ _ _)).trans hfr).drop (by simp; omega)⟩
      rw [e2]
      exact ⟨_, _, _, rfl, strsAt_own hown, fun hn x off hx => own_new hown hn hx⟩
theorem allF_len {c : UInt8} {most : Int} (f : Nat) : ∀ (l : List UInt8) (ls : List (List UInt8)), allF c most f l = some ls → ls.length < f := by
  induction f with
  | zero => intro l ls h; cases h
  | succ f ih =>
    intro l ls h
    unfold allF at h
    split at h
    · injection h with h; subst h; simp
    · split at h
      · rename_i v rest _
        rw [Option.map_eq_some_iff] at h
        obtain ⟨ls', h', rfl⟩ := h
        have := ih _ _ h'
        simp; omega
      · cases h
theorem rdAll_fst_len (c : UInt8) (many most : Int) (l : List UInt8) : (rdAll c many most l).1.length ≤ l.length := by
  unfold rdAll
  cases ht : tkF c l with
  | none => simp
  | some p =>
    have h1 := (tkF_len ht).1
    simp only
    split
    · cases ha : allT c most p.1 with
      | none => simp
      | some ls => have := allF_len _ _ _ ha; simp; omega
    · simp
theorem all_keep {w5 w6 : World} {b2 : Nat} {A : Option Addr} {m : Nat} {ls : List (List UInt8)} (h : StrsAt w5 w5.heap.size A m ls) (hf : Fr [b2] w5 w6)
    (hne : 0 < m → ∀ x off, A = some ⟨x, off, none⟩ → x ≠ b2) : StrsAt w6 w6.heap.size A m ls :=
  ⟨h.1, fun hn => by
    obtain ⟨x, off, e, hlt, hc⟩ := h.2 hn
    refine ⟨x, off, e, Nat.lt_of_lt_of_le hlt hf.size, fun k l hk => ?_⟩
    exact (World.cell?_of_block (w := w5) (hf.block x hlt (by simpa using hne hn x off e))).trans (hc k l hk)⟩
set_option maxHeartbeats 8000000 in
set_option maxRecDepth 100000 in
theorem walk (l : List UInt8) (a : Option Addr) (n cap : Nat) (next : Bool) (W : World) (_hl : l.length ≤ maxLen) (_hnc : n ≤ cap) (_hcm : cap ≤ maxLen) (hs : CallsAt W W.heap.size a n) :
    Calls Try.prog 4 #[.string ⟨l.toArray⟩, .slice a n cap, .bool next] W fun e w' => e = .returned (.bool true) ∧ Below W.heap.size W w' := by
  clear _hl
  go_enter Try.func4, Try.ntmps4
  go_wp2_with fail
  refine (awake_any _).mono ?_
  rintro e w1 ⟨rfl, h1⟩
  go_wp2_with fail
  refine (short_any l 200 _ (by omega)).mono ?_
  rintro e w2 ⟨rfl, rfl⟩
  have ht : (l.take 200).length ≤ 200 := List.length_take_le _ _
  generalize htx : l.take (200 : Int).toNat = tx
  rw [show (200 : Int).toNat = 200 from rfl] at htx
  rw [htx] at ht
  clear htx
  go_wp2_with fail
  refine (Read_any tx _).mono ?_
  rintro e w2 ⟨b, rfl, hb, hrd, h2⟩
  have c2 := h1.trans (h2.mono h1.size)
  go_wp2_with fail
  have hrf : Rf (w2.alloc (.cells #[.string ⟨tx.toArray⟩, .bool false] 40)) w2.heap.size (some tx) := ⟨tx, heap_alloc_new w2 _, fun l h => by injection h⟩
  have hA : Below w2.heap.size w2 (w2.alloc (.cells #[.string ⟨tx.toArray⟩, .bool false] 40)) := (Below.refl _ _).alloc (Nat.le_refl _) _
  have hrd3 := hrd.below hA
  have c3 := c2.trans (hA.mono c2.size)
  have hb2 : b < w2.heap.size := hrd.lt
  have hsz3 : w2.heap.size < (w2.alloc (.cells #[.string ⟨tx.toArray⟩, .bool false] 40)).heap.size := by simp
  have hWb : W.heap.size ≤ b := by have := h1.size; omega
  generalize (w2.alloc (.cells #[.string ⟨tx.toArray⟩, .bool false] 40)) = w3 at *
  generalize w2.heap.size = b2 at *
  clear hA h2 h1 c2 hrd
  go_loopg [10] 20 (fun f i wr => ∃ (k : Nat) (st : Option (List UInt8)), f + k = 20 ∧ k ≤ n ∧ i = .int .i64 k ∧ Rd wr b st ∧ Rf wr b2 st ∧ Below W.heap.size W wr ∧ (st.getD []).length ≤ 200)
  case atStart => exact ⟨0, some tx, rfl, Nat.zero_le _, rfl, hrd3, hrf, c3, ht⟩
  case round =>
    clear hrd3 hrf c3 ht hsz3
    obtain ⟨k, st, hgk, hk, rfl, hrd, hrf, hbel, hst⟩ := hrel
    have hk20 : k ≤ 20 := by omega
    by_cases hlt : k < n
    · by_cases h20 : k < 20
      · obtain ⟨q, off, rfl, hq, hcell⟩ := hs (by omega)
        obtain ⟨kind, lt, many, most, hmost, h0, h1, h2, h3⟩ := hcell k hlt
        have e0 : wr.cell? ⟨q, off + k * 4, none⟩ = some (.int .i64 kind) := (hbel.cell (p := ⟨q, _, none⟩) hq).trans h0
        have e1 : wr.cell? ⟨q, off + k * 4 + 1, none⟩ = some (.int .u8 lt.toNat) := (hbel.cell (p := ⟨q, _, none⟩) hq).trans h1
        have e2 : wr.cell? ⟨q, off + k * 4 + 2, none⟩ = some (.int .i64 many) := (hbel.cell (p := ⟨q, _, none⟩) hq).trans h2
        have e3 : wr.cell? ⟨q, off + k * 4 + 3, none⟩ = some (.int .i64 most) := (hbel.cell (p := ⟨q, _, none⟩) hq).trans h3
        have Hmost := Lib.hid hmost
        clear h0 h1 h2 h3 hcell hmost
        go_wp2_with fail
        have hg : Cb (wr.alloc (.cells #[.int .i64 kind, .int .u8 lt.toNat, .int .i64 many, .int .i64 most] 42)) wr.heap.size kind lt many most := heap_alloc_new wr _
        have hA : Below wr.heap.size wr (wr.alloc (.cells #[.int .i64 kind, .int .u8 lt.toNat, .int .i64 many, .int .i64 most] 42)) := (Below.refl _ _).alloc (Nat.le_refl _) _
        have hrd4 := hrd.below hA
        have hrf4 := hrf.below hA
        have hbel4 := hbel.trans (hA.mono hbel.size)
        have hbg : b2 < wr.heap.size := hrf.lt
        have hWg : W.heap.size ≤ wr.heap.size := hbel.size
        generalize (wr.alloc (.cells #[.int .i64 kind, .int .u8 lt.toNat, .int .i64 many, .int .i64 most] 42)) = w4 at *
        generalize wr.heap.size = g at *
        clear hA e0 e1 e2 e3 hrd hrf hbel
        refine (Next_any st b _ hrd4).mono ?_
        rintro e w5 ⟨rfl, rfl⟩
        generalize hsb : (!(st.getD []).isEmpty) = sb
        generalize hlet : ((st.getD []).headD 0) = letter
        have HNx := Lib.hid (refNext_any st b2 _ hrf4)
        rw [hsb, hlet] at HNx
        clear hsb hlet
        go_wp2_with fail
        refine HNx.out.mono ?_
        rintro e w5 ⟨rfl, rfl⟩
        clear HNx
        go_upto_region 15 with (fail)
        go_cut [62] from 27 to 150 (fun v w => v = .bool (next && sb) ∧ w = w4)
        case first =>
          cases next with
          | false =>
            go_wp2_with fail
            go_meet
            case rel => exact ⟨rfl, rfl⟩
          | true =>
            go_wp2_with fail
            go_meet
            case rel => exact ⟨by simp, rfl⟩
        case rest =>
        obtain ⟨rfl, rfl⟩ := hcut
        go_upto_if 62 with (fail)
        go_cut [] from 27 to 150 (fun w => ∃ lt' : UInt8, Cb w g kind lt' many most ∧ Rd w b st ∧ Rf w b2 st ∧ Below W.heap.size W w)
        case first =>
          have z1 := hg.fz 1
          have z2 := hg.c1
          have f5 : Fr [g] wc (wc.setCell ⟨g, 1, none⟩ (.int .u8 letter.toNat)) := (Fr.refl _ _).setCell (.inl (by simp)) _
          have hrd6 := hrd4.fr f5 (by simp; omega)
          have hrf6 := hrf4.fr f5 (by simp; omega)
          have hbel6 := hbel4.trans (f5.below hbel4.size (by simp; omega))
          have hg6 := hg.set_ letter
          generalize (next && sb) = bb
          cases bb with
          | false =>
            go_wp2_with fail
            go_meet
            case rel => exact ⟨lt, hg, hrd4, hrf4, hbel4⟩
          | true =>
            go_wp2_with fail
            go_meet
            case rel => exact ⟨letter, hg6, hrd6, hrf6, hbel6⟩
        case rest =>
        clear hrd4 hrf4 hbel4 hg
        obtain ⟨ltr, hg, hrd, hrf, hbel⟩ := hcut
        have k0 := hg.c0
        have k1 := hg.c1
        have k2 := hg.c2
        have k3 := hg.c3
        go_upto_region 17 with (fail)
        go_cut [16] from 27 to 150 (fun v w => v = .bool true ∧ w = wc)
        case first =>
          go_wp2_with fail
          go_meet
          case rel => exact ⟨rfl, rfl⟩
        case rest =>
        obtain ⟨rfl, hw⟩ := hcut
        subst hw
        apply_assumption
        refine wp_seq_k (fun K hK => ?_)
        go_cut [16] from 27 to 150 (fun v w => v = .bool true ∧ ∃ st' : Option (List UInt8), Rd w b st' ∧ Rf w b2 st' ∧ Below W.heap.size W w ∧ (st'.getD []).length ≤ 200)
        case first =>
          have fin : ∀ {w5 w6 : World} {st1 : Option (List UInt8)}, Rd w5 b st1 → Rf w6 b2 st1 → Fr [b] wc w5 → Fr [b2] w5 w6 → (st1.getD []).length ≤ (st.getD []).length →
              Rd w6 b st1 ∧ Rf w6 b2 st1 ∧ Below W.heap.size W w6 ∧ (st1.getD []).length ≤ 200 := fun {w5 w6 st1} r5 r6 f5 f6 hle => by
            have p5 := hbel.trans (f5.below hbel.size (by simpa using hWb))
            exact ⟨r5.fr f6 (by simp; omega), r6, p5.trans (f6.below p5.size (by simp; omega)), by omega⟩
          have fin2 : ∀ {w5 w6 w7 : World} {st1 : Option (List UInt8)}, Rd w5 b st1 → Rf w6 b2 st1 → Fr [b] wc w5 → Fr [b2] w5 w6 → (st1.getD []).length ≤ (st.getD []).length → Below w6.heap.size w6 w7 →
              Rd w7 b st1 ∧ Rf w7 b2 st1 ∧ Below W.heap.size W w7 ∧ (st1.getD []).length ≤ 200 := fun {w5 w6 w7 st1} r5 r6 f5 f6 hle h7 => by
            obtain ⟨p1, p2, p3, p4⟩ := fin r5 r6 f5 f6 hle
            exact ⟨p1.below h7, p2.below h7, p3.trans (h7.mono p3.size), p4⟩
          have L0 := rdNum_len ltr (st.getD [])
          have L1 := rdInt_len ltr most (st.getD [])
          have L2 := rdTxt_len ltr most (st.getD [])
          have L3 := rdAll_len ltr many most (st.getD [])
          have L4 := rdAll_fst_len ltr many most (st.getD [])
          have B4 : (((rdAll ltr many most (st.getD [])).1.length : Nat) : Int) ≤ 140737488351232 := by omega
          have HB4 := Lib.hid B4
          have hst2 : ((st.getD []).length : Int) ≤ 16777215 := by omega
          have Hst2 := Lib.hid hst2
          have Hst := Lib.hid hst
          clear B4 hst2 L4 hst
          go_upto_if 85 with (fail)
          generalize (bits BinOp.and IntKind.i64 kind 3) = kk
          rcases Bool.eq_false_or_eq_true (kk == 0) with e0 | e0
          · go_wp2_with fail
            go_region_held3 (fun w' => w'.cell? ⟨g, 1, none⟩ = some (.int .u8 ltr.toNat))
              (first | go_keep | exact a1 | exact b1)
              (first
                | (go_at_call 25; refine (rdNum_any ltr st b _ (by exact hrd)).mono ?_; rintro e w5 ⟨rfl, hr5, h5'⟩; have h5 := h5'.undrew; have hg5 := hg.fr h5 (by simp; omega); have a1 := hg5.c1; have hf5 := hrf.fr h5 (by simp; omega))
                | (go_at_call 26; refine (refNumR_any ltr st b2 _ (by exact hf5) Hst2.out).mono ?_; rintro e w6 ⟨rfl, hr6, h6⟩; have hg6 := hg5.fr h6 (by simp; omega); have b1 := hg6.c1))
            go_wp2_with fail
            go_meet
            case rel => exact ⟨by simp, _, fin hr5 hr6 h5 h6 L0⟩
          · rcases Bool.eq_false_or_eq_true (kk == 1) with e1 | e1
            · go_wp2_with fail
              go_region_held3 (fun w' => w'.cell? ⟨g, 1, none⟩ = some (.int .u8 ltr.toNat) ∧ w'.cell? ⟨g, 3, none⟩ = some (.int .i64 most))
                (first | go_keep | exact ⟨a1, a3⟩ | exact ⟨b1, b3⟩)
                (first
                  | (go_at_call 27; refine (rdInt_any ltr most st b _ (by exact hrd) Hmost.out.1 Hmost.out.2).mono ?_; rintro e w5 ⟨rfl, hr5, h5'⟩; have h5 := h5'.undrew; have hg5 := hg.fr h5 (by simp; omega); have a1 := hg5.c1; have a3 := hg5.c3; have hf5 := hrf.fr h5 (by simp; omega))
                  | (go_at_call 28; refine (refIntR_any ltr most st b2 _ (by exact hf5) Hst2.out Hmost.out.1 Hmost.out.2).mono ?_; rintro e w6 ⟨rfl, hr6, h6⟩; have hg6 := hg5.fr h6 (by simp; omega); have b1 := hg6.c1; have b3 := hg6.c3))
              go_wp2_with fail
              go_meet
              case rel => exact ⟨by simp, _, fin hr5 hr6 h5 h6 L1⟩
            · rcases Bool.eq_false_or_eq_true (kk == 2) with e2 | e2
              · go_wp2_with fail
                go_region_held3 (fun w' => w'.cell? ⟨g, 1, none⟩ = some (.int .u8 ltr.toNat) ∧ w'.cell? ⟨g, 3, none⟩ = some (.int .i64 most))
                  (first | go_keep | exact ⟨a1, a3⟩ | exact ⟨b1, b3⟩)
                  (first
                    | (go_at_call 29; refine (rdTxt_any ltr most st b _ (by exact hrd)).mono ?_; rintro e w5 ⟨rfl, hr5, h5'⟩; have h5 := h5'.undrew; have hg5 := hg.fr h5 (by simp; omega); have a1 := hg5.c1; have a3 := hg5.c3; have hf5 := hrf.fr h5 (by simp; omega))
                    | (go_at_call 30; refine (refTxt_any ltr most st b2 _ (by exact hf5) Hst2.out).mono ?_; rintro e w6 ⟨rfl, hr6, h6⟩; have hg6 := hg5.fr h6 (by simp; omega); have b1 := hg6.c1; have b3 := hg6.c3))
                go_wp2_with fail
                go_meet
                case rel => exact ⟨by simp, _, fin hr5 hr6 h5 h6 L2⟩
              · go_wp2_with fail
                go_region_held3 (fun w' => w'.cell? ⟨g, 1, none⟩ = some (.int .u8 ltr.toNat) ∧ w'.cell? ⟨g, 2, none⟩ = some (.int .i64 many) ∧ w'.cell? ⟨g, 3, none⟩ = some (.int .i64 most))
                  (first | go_keep | exact ⟨a1, a2, a3⟩ | exact ⟨b1, b2', b3⟩ | exact ⟨d1, d2, d3⟩)
                  (first
                    | (go_at_call 32; refine (rdAll_new ltr many most st b _ (by exact hrd) Hst2.out).mono ?_; rintro e w5 ⟨⟨A3, m3, cp3, rfl, hz3, hx3⟩, hr5, h5'⟩; have h5 := h5'.undrew; have hg5 := hg.fr h5 (by simp; omega); have a1 := hg5.c1; have a2 := hg5.c2; have a3 := hg5.c3; have hf5 := hrf.fr h5 (by simp; omega))
                    | (go_at_call 33; refine (refAllR_any ltr many most st b2 _ (by exact hf5) Hst2.out).mono ?_; rintro e w6 ⟨⟨A4, m4, cp4, rfl, hcp4, hz4⟩, hr6, h6⟩; have hg6 := hg5.fr h6 (by simp; omega); have b1 := hg6.c1; have b2' := hg6.c2; have b3 := hg6.c3; have hz5 := all_keep hz3 h6 (fun hn x off hx => by have := hx3 hn x off hx; have : wc.heap.size ≤ x := this; have := hg.lt_; omega))
                    | (go_at_call 31; refine (Same_any A3 A4 m3 m4 cp3 cp4 _ _ _ hz5 hz4 (by rw [← hz3.1]; exact HB4.out)).mono ?_; rintro e w7 ⟨rfl, h7⟩; have hg7 := hg6.fr (ex := []) (Fr.of_below h7) (by simp); have d1 := hg7.c1; have d2 := hg7.c2; have d3 := hg7.c3))
                go_wp2_with fail
                go_meet
                case rel => exact ⟨by simp, _, fin2 hr5 hr6 h5 h6 L3 h7⟩
        case rest =>
        clear hrd hrf hbel hg k0 k1 k2 k3 hst
        obtain ⟨rfl, st', hrd, hrf, hbel, hst⟩ := hcut
        have hsz := hbel.size
        clear Hmost
        have hss : (st'.isSome == st'.isNone) = false := by cases st' <;> rfl
        obtain ⟨s, hs1, hs2⟩ := hrf
        have y1 := rf_c1 hs1
        have hrf : Rf wc b2 st' := ⟨s, hs1, hs2⟩
        have HG := Lib.hid (show ∀ w' : World, w'.heap = wc.heap → Calls Try.prog 34 #[.pointer (some ⟨b, 0, none⟩)] w' (fun e w'' => e = .returned (.bool st'.isSome) ∧ w' = w'') from fun w' h => Good_any _ _ w' (hrd.keep (by rw [h])))
        have HL := Lib.hid (show ∀ w' : World, w'.heap = wc.heap → Calls Try.prog 35 #[.pointer (some ⟨b, 0, none⟩)] w' (fun e w'' => e = .returned (.int .i64 (st'.getD []).length) ∧ w' = w'') from fun w' h => Left_any _ _ w' (hrd.keep (by rw [h])))
        have HM := Lib.hid (show ∀ w' : World, w'.heap = wc.heap → Calls Try.prog 36 #[.pointer (some ⟨b2, 0, none⟩)] w' (fun e w'' => e = .returned (.int .i64 (st'.getD []).length) ∧ w' = w'') from fun w' h => refLeft_any _ _ w' (hrf.keep (by rw [h])))
        have HE := Lib.hid (show ∀ w' : World, w'.heap = wc.heap → Calls Try.prog 37 #[.pointer (some ⟨b, 0, none⟩)] w' (fun e w'' => e = .returned (.int .i64 (endOf st')) ∧ w' = w'') from fun w' h => End_any _ _ w' (hrd.keep (by rw [h])))
        have HF := Lib.hid (show ∀ w' : World, w'.heap = wc.heap → Calls Try.prog 38 #[.pointer (some ⟨b2, 0, none⟩)] w' (fun e w'' => e = .returned (.int .i64 (endOf st')) ∧ w' = w'') from fun w' h => refEnd_any _ _ w' (hrf.keep (by rw [h])))
        generalize hlen : (st'.getD []).length = len at HL HM
        generalize hen : endOf st' = en at HE HF
        generalize hso : st'.isSome = so at HG hss
        generalize hno : st'.isNone = no at y1 hss
        have Hst := Lib.hid hst
        clear hs1 hs2 hen hlen hso hno hst
        have q1 : ((len : Int) != (len : Int)) = false := by simp
        have q2 : (en != en) = false := by simp
        apply hK
        go_upto_region 26 with (fail)
        go_quiet ((first
          | (go_at_call 34; exact Calls.quiet_of_same ((HG.out _ (by exact rfl)).mono fun _ _ h => ⟨h.1, h.2.symm⟩))
          | (go_at_call 35; exact Calls.quiet_of_same ((HL.out _ (by exact rfl)).mono fun _ _ h => ⟨h.1, h.2.symm⟩))
          | (go_at_call 36; exact Calls.quiet_of_same ((HM.out _ (by exact rfl)).mono fun _ _ h => ⟨h.1, h.2.symm⟩))
          | (go_at_call 37; exact Calls.quiet_of_same ((HE.out _ (by exact rfl)).mono fun _ _ h => ⟨h.1, h.2.symm⟩))
          | (go_at_call 38; exact Calls.quiet_of_same ((HF.out _ (by exact rfl)).mono fun _ _ h => ⟨h.1, h.2.symm⟩))))
        clear q1 q2
        go_wp2_with fail
        go_roundg (gk - 1)
        case measure => omega
        case rel => exact ⟨k + 1, st', by omega, by omega, by go_num, hrd.keep rfl, hrf.keep rfl, below_drewN hbel _, Hst.out⟩
      · obtain rfl : k = 20 := by omega
        go_wp2
        go_ret
        exact ⟨rfl, hbel⟩
    · obtain rfl : k = n := by omega
      go_wp2
      go_ret
      exact ⟨rfl, hbel⟩
open Go.ChangeShapes Go.WideShapes Go.ChangeAt
set_option maxRecDepth 100000 in
theorem lifted (os : Os) (started : os.Started) (H : Type) (enc : TypeId × Value → H) :
    ReturnsInHanded {} Try.checked os 4 .any (Rows.tlvReadsSpec.pre6 enc Try.prog Try.f4 Rows.tlvReadsRow.domain false) (Rows.tlvReadsSpec.post enc Try.prog Try.f4 false true false false) := by
  refine returnsInHanded_of_change (C := Try.checked) own started (by kernel_rfl) Try.func4
    (ChangeSpec.witness6 (enc := enc) (C := Try.checked) false ⟨#[], #[.string ⟨#[]⟩, .slice none 0 0, .bool false], []⟩ 8 (by kernel_rfl) (by kernel_rfl) (by kernel_rfl) (by kernel_rfl)) ?_
  intro W base args ds gs before hval0 hW hcnd _
  have hval : ∀ (j : Nat) t v, Try.f4.params[j]? = some t → args[j]? = some v → Value.okWide Try.prog W .any base t v := hval0
  have hW' := hW
  obtain ⟨p, q, hA0, hV, rfl, hfz, hnd⟩ := hW
  have hA : DataW.TrodAll enc Try.prog W 0 (fun _ => true) true Try.f4.params.toList args.toList ds p := hA0
  rw [Try.params4] at hA hval
  obtain ⟨v0, vs0, d0, ds0, p0, q0, hargs, rfl, rfl, h0, r0⟩ := trodAll_cons hA
  obtain ⟨v1, vs1, d1, ds1, p1, q1, rfl, rfl, rfl, h1, r1⟩ := trodAll_cons r0
  obtain ⟨v2, vs2, d2, ds2, p2, q2, rfl, rfl, rfl, h2, r2⟩ := trodAll_cons r1
  obtain ⟨rfl, rfl, rfl⟩ := trodAll_nil r2
  obtain rfl : args = #[v0, v1, v2] := by cases args; simp_all
  obtain ⟨rfl, rfl⟩ := trodVars_none hV
  have k0 := h0
  have lt0 : ∀ x ∈ p0, x.block < W.heap.size := by obtain ⟨m, hm⟩ := k0; exact DataW.trod_lt m _ _ _ hm
  have k1 := h1
  have lt1 : ∀ x ∈ p1, x.block < W.heap.size := by obtain ⟨m, hm⟩ := k1; exact DataW.trod_lt m _ _ _ hm
  have k2 := h2
  have lt2 : ∀ x ∈ p2, x.block < W.heap.size := by obtain ⟨m, hm⟩ := k2; exact DataW.trod_lt m _ _ _ hm
  obtain ⟨lx0, rfl, hlx0⟩ := op_str (hval 0 9 v0 rfl rfl) h0
  obtain ⟨ax1, nx1, kx1, rfl, hncx1, hcmx1, hsx1⟩ := op_calls (hval 1 35 v1 rfl rfl) h1
  obtain ⟨bx2, rfl⟩ := op_bool (hval 2 4 v2 rfl rfl) h2
  clear hA0 hval0
  refine (walk lx0 ax1 nx1 kx1 bx2 W hlx0 hncx1 hcmx1 hsx1).mono fun e W' ⟨he, bel⟩ => ?_
  subst he
  exact ⟨_, rfl, _, _, _, [], _, [], hW', trodAll_mk1 (shut_bool Try.underlying4 _), trodAll_cons_mk (Below.trod laidOut (by kernel_rfl) (of_decide_eq_true (by kernel_rfl)) k0 bel lt0) (trodAll_cons_mk (Below.trod laidOut (by kernel_rfl) (of_decide_eq_true (by kernel_rfl)) k1 bel lt1) (trodAll_cons_mk (Below.trod laidOut (by kernel_rfl) (of_decide_eq_true (by kernel_rfl)) k2 bel lt2) (trodAll_mk0))), rfl, bel.frame _, fun h => by cases h⟩

theorem over : Rows.tlvReadsRow.holds Try.pinned (OpenSpec.ofChange Rows.tlvReadsSpec) :=
  OpenClaim.holds_of_wide 4 Try.f4 rfl rfl rfl rfl rfl rfl rfl ⟨rfl, rfl, rfl, rfl, rfl⟩ rfl rfl rfl rfl rfl (by kernel_rfl) Try.func4 (by kernel_rfl)
    (of_decide_eq_true (by kernel_rfl)) (by unfold Func.isWrapper; first | (rw [if_pos (by decide +kernel)]; kernel_rfl) | (rw [if_neg (by decide +kernel)]; exact ⟨rfl, rfl⟩))
    (fun os started H enc _ => lifted os started H enc)

theorem proved : Rows.TlvReadsSaid := over
end Go.Proofs.Ytkhmhffphmkefaa.tlvReads
