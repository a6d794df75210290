/- Words and small laws of this seat's texts that hang on no program: bytes as lists, what a conversion of few bytes gives. -/
import Derived.WalkKit
import Derived.Below
import Derived.Laws.IdiomStrings
import Derived.Lib.Strings
import Derived.Laws.BitsAllLaws
import Derived.Laws.BitsLemmas
import Derived.Lib.AppendStr
import Derived.Maps.AppendAt
import Derived.WalkSpells
import Derived.WalkLawsBesides
namespace Go.Proofs.YtnpoohkklfpmdaaGreat
open Go.RowKit

theorem ext_list (l : List UInt8) (a b : Nat) : (ByteArray.mk l.toArray).extract a b = ⟨((l.take b).drop a).toArray⟩ := by
  apply ByteArray.ext
  apply Array.toList_inj.1
  rw [Lib.extract_data]
  simp [List.drop_take]

theorem app_list (a b : List UInt8) : ByteArray.mk a.toArray ++ ByteArray.mk b.toArray = ⟨(a ++ b).toArray⟩ := by
  apply ByteArray.ext
  apply Array.toList_inj.1
  simp [ByteArray.data_append]

theorem run_b2s1 {P : Program} (w : World) (src dst e : TypeId) (a : Addr) (c : Nat)
    (hs : P.underlying src = some (.slice e)) (he : P.underlying e = some (.int .u8)) (hd : P.underlying dst = some .string) :
    (convert src dst (.slice (some a) 1 c)).run P w = match w.cell? a with
      | some (.int .u8 n) => .ok (.string ⟨[UInt8.ofNat n.toNat].toArray⟩) w
      | _ => (Conv.bytesToString (.slice (some a) 1 c)).run P w := by
  rw [run_convert_bytes_string w src dst e (some a) 1 c hs he hd]
  split
  · rename_i n h
    have hl := run_loadCells_list (P := P) w a ([n].map (Value.int .u8)) (fun j v hj => by
      match j with
      | 0 => simp at hj; subst hj; simpa [Addr.add] using h
      | j + 1 => simp at hj)
    have := run_bytesToString w a 1 c [n] hl
    rw [this]
    rfl
  · rfl

theorem run_b2s4 {P : Program} (w : World) (src dst e : TypeId) (a : Addr) (c : Nat)
    (hs : P.underlying src = some (.slice e)) (he : P.underlying e = some (.int .u8)) (hd : P.underlying dst = some .string) :
    (convert src dst (.slice (some a) 4 c)).run P w = match w.cell? a, w.cell? (a.add 1), w.cell? (a.add 2), w.cell? (a.add 3) with
      | some (.int .u8 x), some (.int .u8 y), some (.int .u8 z), some (.int .u8 u) => .ok (.string ⟨[UInt8.ofNat x.toNat, UInt8.ofNat y.toNat, UInt8.ofNat z.toNat, UInt8.ofNat u.toNat].toArray⟩) w
      | _, _, _, _ => (Conv.bytesToString (.slice (some a) 4 c)).run P w := by
  rw [run_convert_bytes_string w src dst e (some a) 4 c hs he hd]
  split
  · rename_i x y z u h0 h1 h2 h3
    have hl := run_loadCells_list (P := P) w a ([x, y, z, u].map (Value.int .u8)) (fun j v hj => by
      match j with
      | 0 => simp at hj; subst hj; simpa [Addr.add] using h0
      | 1 => simp at hj; subst hj; exact h1
      | 2 => simp at hj; subst hj; exact h2
      | 3 => simp at hj; subst hj; exact h3
      | j + 4 => simp at hj)
    have := run_bytesToString w a 4 c [x, y, z, u] hl
    rw [this]
    rfl
  · rfl

theorem run_b2s3 {P : Program} (w : World) (src dst e : TypeId) (a : Addr) (c : Nat)
    (hs : P.underlying src = some (.slice e)) (he : P.underlying e = some (.int .u8)) (hd : P.underlying dst = some .string) :
    (convert src dst (.slice (some a) 3 c)).run P w = match w.cell? a, w.cell? (a.add 1), w.cell? (a.add 2) with
      | some (.int .u8 x), some (.int .u8 y), some (.int .u8 z) => .ok (.string ⟨[UInt8.ofNat x.toNat, UInt8.ofNat y.toNat, UInt8.ofNat z.toNat].toArray⟩) w
      | _, _, _ => (Conv.bytesToString (.slice (some a) 3 c)).run P w := by
  rw [run_convert_bytes_string w src dst e (some a) 3 c hs he hd]
  split
  · rename_i x y z h0 h1 h2
    have hl := run_loadCells_list (P := P) w a ([x, y, z].map (Value.int .u8)) (fun j v hj => by
      match j with
      | 0 => simp at hj; subst hj; simpa [Addr.add] using h0
      | 1 => simp at hj; subst hj; exact h1
      | 2 => simp at hj; subst hj; exact h2
      | j + 3 => simp at hj)
    have := run_bytesToString w a 3 c [x, y, z] hl
    rw [this]
    rfl
  · rfl

theorem run_b2s0 {P : Program} (w : World) (src dst e : TypeId) (a : Addr) (c : Nat)
    (hs : P.underlying src = some (.slice e)) (he : P.underlying e = some (.int .u8)) (hd : P.underlying dst = some .string) :
    (convert src dst (.slice (some a) 0 c)).run P w = .ok (.string ⟨([] : List UInt8).toArray⟩) w := by
  have := run_convert_bytes_back (P := P) w src dst e a c [] hs he hd (fun j hj => by simp at hj)
  simpa using this

/-- The bytes as cells. -/
def bcells (l : List UInt8) : List Value := l.map fun b => Value.int .u8 b.toNat
theorem bcells_len (l : List UInt8) : (bcells l).length = l.length := by simp [bcells]

/-- What stands behind j cells in a block of cells is read as a string. -/
theorem run_b2s_tail {P : Program} (w : World) (src dst e : TypeId) (b j k c : Nat) (z : Value) (l : List UInt8) (t : TypeId) (fr : Nat × Nat)
    (hs : P.underlying src = some (.slice e)) (he : P.underlying e = some (.int .u8)) (hd : P.underlying dst = some .string)
    (hb : w.heap[b]? = some (.cells (List.replicate j z ++ bcells l).toArray t fr)) (hk : k = l.length) :
    (convert src dst (.slice (some ⟨b, j, none⟩) k c)).run P w = .ok (.string ⟨l.toArray⟩) w := by
  subst hk
  refine run_convert_bytes_back (P := P) w src dst e _ c l hs he hd (fun i hi => ?_)
  have e1 : (⟨b, j, none⟩ : Addr).add i = ⟨b, j + i, none⟩ := by unfold Addr.add; split <;> simp_all
  rw [e1]
  unfold World.cell?
  simp only [hb]
  simp [bcells, hi]

theorem setCell_tail {w : World} {b i : Nat} {z : Value} {l : List UInt8} {t : TypeId} {fr : Nat × Nat} (x : UInt8)
    (hb : w.heap[b]? = some (.cells (List.replicate (i + 1) z ++ bcells l).toArray t fr)) :
    (w.setCell ⟨b, i, none⟩ (.int .u8 x.toNat)).heap[b]? = some (.cells (List.replicate i z ++ bcells (x :: l)).toArray t fr) := by
  simp only [World.setCell, Array.getElem?_modify, hb]
  simp only [↓reduceIte, Option.map_some, Option.isSome_none, Bool.false_eq_true, Option.some.injEq, Obj.cells.injEq, and_true]
  apply Array.toList_inj.1
  rw [Array.toList_setIfInBounds]
  simp only [List.replicate_succ', List.append_assoc, bcells, List.map_cons]
  rw [List.set_append_right _ _ (by simp)]
  simp

theorem cell_tail {w : World} {b i : Nat} {z : Value} {l : List UInt8} {t : TypeId} {fr : Nat × Nat}
    (hb : w.heap[b]? = some (.cells (List.replicate (i + 1) z ++ bcells l).toArray t fr)) : w.cell? ⟨b, i, none⟩ = some z := by
  unfold World.cell?
  simp only [hb]
  simp [List.replicate_succ']

/-- A field: its letter, its body's length in three bytes, its body. -/
def fld (c : UInt8) (l : List UInt8) : List UInt8 := c :: UInt8.ofNat (l.length / 65536) :: UInt8.ofNat (l.length / 256 % 256) :: UInt8.ofNat (l.length % 256) :: l
theorem fld_eq (c : UInt8) (l : List UInt8) : (ByteArray.mk (fld c l).toArray) = ByteArray.mk #[c] ++ ByteArray.mk #[UInt8.ofNat (l.length / 65536), UInt8.ofNat (l.length / 256 % 256), UInt8.ofNat (l.length % 256)] ++ ByteArray.mk l.toArray := by
  apply ByteArray.ext
  apply Array.toList_inj.1
  simp [fld, ByteArray.data_append]

theorem fld_eq4 (c : UInt8) (l : List UInt8) : (ByteArray.mk (fld c l).toArray) = ByteArray.mk #[c, UInt8.ofNat (l.length / 65536), UInt8.ofNat (l.length / 256 % 256), UInt8.ofNat (l.length % 256)] ++ ByteArray.mk l.toArray := by
  apply ByteArray.ext
  apply Array.toList_inj.1
  simp [fld, ByteArray.data_append]

theorem ofNat_mod (m : Nat) : UInt8.ofNat (m % 256) = UInt8.ofNat m := by
  apply UInt8.toNat_inj.1; simp

theorem or_lo (a b : Nat) (hb : b < 256) : a * 256 ||| b = a * 256 + b := by
  have := Nat.two_pow_add_eq_or_of_lt (i := 8) (b := b) (by omega) a
  rw [Nat.mul_comm a 256]
  exact this.symm
theorem ofInt_nat64 (a : Nat) (ha : a < 18446744073709551616) : (BitVec.ofInt 64 (a : Int)).toNat = a := by
  rw [BitVec.ofInt_natCast, BitVec.toNat_ofNat]; exact Nat.mod_eq_of_lt (by omega)
/-- 'a<<8 | b' on an int. -/
theorem lor_i64 (a b : Nat) (ha : a < 36028797018963968) (hb : b < 256) : bits .or .i64 ((a : Int) * 256) (b : Int) = ((a * 256 + b : Nat) : Int) := by
  have e : (a : Int) * 256 = ((a * 256 : Nat) : Int) := by simp
  rw [e]
  show IntKind.i64.wrap ((BitVec.ofInt 64 ((a * 256 : Nat) : Int) ||| BitVec.ofInt 64 (b : Int)).toNat : Int) = _
  rw [BitVec.toNat_or, ofInt_nat64 (a * 256) (by omega), ofInt_nat64 b (by omega), or_lo a b hb, IntKind.wrap_i64]
  omega
/-- 'a<<8 | b' on a uint64. -/
theorem lor_u64 (a b : Nat) (ha : a < 72057594037927936) (hb : b < 256) : bits .or .u64 ((a : Int) * 256) (b : Int) = ((a * 256 + b : Nat) : Int) := by
  have e : (a : Int) * 256 = ((a * 256 : Nat) : Int) := by simp
  rw [e]
  show IntKind.u64.wrap ((BitVec.ofInt 64 ((a * 256 : Nat) : Int) ||| BitVec.ofInt 64 (b : Int)).toNat : Int) = _
  rw [BitVec.toNat_or, ofInt_nat64 (a * 256) (by omega), ofInt_nat64 b (by omega), or_lo a b hb, IntKind.wrap_u64]
  omega

/-- The bytes of a number, the greatest first: bytes of n, put ahead of acc, at most f of them. -/
def dgF : Nat → Nat → List UInt8 → List UInt8
  | 0, _, acc => acc
  | f + 1, n, acc => if n = 0 then acc else dgF f (n / 256) (UInt8.ofNat n :: acc)
def digs (n : Nat) : List UInt8 := dgF 8 n []
theorem dgF_zero (f : Nat) (acc : List UInt8) : dgF f 0 acc = acc := by cases f <;> simp [dgF]
theorem dgF_pos (f n : Nat) (acc : List UInt8) (h : 0 < n) : dgF (f + 1) n acc = dgF f (n / 256) (UInt8.ofNat n :: acc) := by
  simp [dgF]; omega

/-- A slice of texts, read in w below block B. -/
def StrsAt (w : World) (B : Nat) (a : Option Addr) (n : Nat) (ls : List (List UInt8)) : Prop :=
  ls.length = n ∧ (0 < n → ∃ b off, a = some ⟨b, off, none⟩ ∧ b < B ∧ ∀ k l, ls[k]? = some l → w.cell? ⟨b, off + k, none⟩ = some (.string ⟨l.toArray⟩))
theorem StrsAt.mono {w w' : World} {B B' : Nat} {a : Option Addr} {n : Nat} {ls : List (List UInt8)} (h : StrsAt w B a n ls) (hb : ∀ k, k < B → w'.heap[k]? = w.heap[k]?) (hB : B ≤ B') : StrsAt w' B' a n ls :=
  ⟨h.1, fun hn => by
    obtain ⟨b, off, e, hlt, hc⟩ := h.2 hn
    exact ⟨b, off, e, by omega, fun k l hk => (World.cell?_of_block (w := w) (hb b hlt)).trans (hc k l hk)⟩⟩
theorem StrsAt.below {w w' : World} {B B' : Nat} {a : Option Addr} {n : Nat} {ls : List (List UInt8)} (h : StrsAt w B a n ls) (hb : Below B w w') (hB : B ≤ B') : StrsAt w' B' a n ls := h.mono hb.block hB

/-- The fields of texts, one behind the other. -/
def flds (c : UInt8) (ls : List (List UInt8)) : List UInt8 := (ls.map (fld c)).flatten
theorem flds_snoc (c : UInt8) (ls : List (List UInt8)) (l : List UInt8) : flds c (ls ++ [l]) = flds c ls ++ fld c l := by simp [flds]
theorem fld_len (c : UInt8) (l : List UInt8) : (fld c l).length = l.length + 4 := by simp [fld]
theorem flds_cons (c : UInt8) (l : List UInt8) (ls : List (List UInt8)) : flds c (l :: ls) = fld c l ++ flds c ls := by simp [flds]
theorem flds_take_succ (c : UInt8) (ls : List (List UInt8)) (k : Nat) (l : List UInt8) (h : ls[k]? = some l) : flds c (ls.take (k + 1)) = flds c (ls.take k) ++ fld c l := by
  rw [List.take_add_one, h]; simp [flds]
theorem flds_take_le (c : UInt8) (ls : List (List UInt8)) (k : Nat) : (flds c (ls.take k)).length ≤ (flds c ls).length := by
  have h : flds c ls = flds c (ls.take k) ++ flds c (ls.drop k) := by
    rw [flds, flds, flds, ← List.flatten_append, ← List.map_append, List.take_append_drop]
  rw [h, List.length_append]; omega
theorem bcells_append (a b : List UInt8) : bcells (a ++ b) = bcells a ++ bcells b := by simp [bcells]
theorem strCells_list (l : List UInt8) : Lib.strCells ⟨l.toArray⟩ = bcells l := by simp [Lib.strCells, bcells]
theorem bcells_inj {a b : List UInt8} (h : bcells a = bcells b) : a = b := by
  induction a generalizing b with
  | nil => cases b <;> simp_all [bcells]
  | cons x a ih =>
    cases b with
    | nil => simp [bcells] at h
    | cons y b =>
      simp only [bcells, List.map_cons, List.cons.injEq, Value.int.injEq, true_and] at h
      have h1 : x.toNat = y.toNat := by omega
      rw [ih h.2, UInt8.toNat_inj.1 h1]

/-- 'string(b)' of a row of bytes that the call owns. -/
theorem run_b2s_own {P : Program} (w : World) (src dst e : TypeId) (v : Value) (l : List UInt8) (base n : Nat)
    (hs : P.underlying src = some (.slice e)) (he : P.underlying e = some (.int .u8)) (hd : P.underlying dst = some .string)
    (hown : w.ownsRow base e 1 v n (bcells l)) :
    (convert src dst v).run P w = .ok (.string ⟨l.toArray⟩) w := by
  have hlen : l.length = n := by simpa [bcells] using hown.1
  rcases hown.2 with ⟨rfl, h0⟩ | ⟨g, cap, cur, rfl, _, hg, hnc, _⟩
  · have : l = [] := List.eq_nil_of_length_eq_zero (by omega)
    subst this
    rw [run_convert_bytes_string w src dst e none 0 0 hs he hd]
    simp [Conv.bytesToString]
    rfl
  · subst hlen
    refine run_convert_bytes_back (P := P) w src dst e _ cap l hs he hd (fun i hi => ?_)
    exact hown.cells (g := g) rfl i _ (by simp [bcells, List.getElem?_eq_getElem hi])

theorem own_form {w : World} {base size n : Nat} {e : TypeId} {v : Value} {xs : List Value} (h : w.ownsRow base e size v n xs) : ∃ A c, v = .slice A n c := by
  rcases h.2 with ⟨rfl, rfl⟩ | ⟨g, cap, cur, rfl, _⟩
  · exact ⟨_, _, rfl⟩
  · exact ⟨_, _, rfl⟩
theorem own_block_ge {w : World} {base size n : Nat} {e : TypeId} {v : Value} {xs : List Value} (h : w.ownsRow base e size v n xs) : ∀ k, v.ownBlock = some k → base ≤ k := by
  intro k hk
  rcases h.2 with ⟨rfl, rfl⟩ | ⟨g, cap, cur, rfl, hg, _⟩
  · simp [Value.ownBlock] at hk
  · simp [Value.ownBlock] at hk; omega
/-- What the call owns is kept where the old blocks are. -/
theorem own_below {w w' : World} {base size n : Nat} {e : TypeId} {v : Value} {xs : List Value} (h : w.ownsRow base e size v n xs) (hb : Below w.heap.size w w') : w'.ownsRow base e size v n xs := by
  refine ⟨h.1, ?_⟩
  rcases h.2 with h2 | ⟨g, cap, cur, hv, hg, hh, r⟩
  · exact Or.inl h2
  · refine Or.inr ⟨g, cap, cur, hv, hg, ?_, r⟩
    rw [hb.block g (by
      rcases Nat.lt_or_ge g w.heap.size with hlt | hge
      · exact hlt
      · rw [Array.getElem?_eq_none hge] at hh; cases hh)]
    exact hh

/-- Bytes as a number, the greatest first. -/
def be (l : List UInt8) : Nat := l.foldl (fun n b => n * 256 + b.toNat) 0
theorem be_snoc (l : List UInt8) (x : UInt8) : be (l ++ [x]) = be l * 256 + x.toNat := by simp [be]
theorem be_lt_aux : ∀ (l : List UInt8) (a : Nat), l.foldl (fun n b => n * 256 + b.toNat) a < (a + 1) * 256 ^ l.length
  | [], a => by simp
  | x :: l, a => by
    have := be_lt_aux l (a * 256 + x.toNat)
    have hx := x.toNat_lt
    simp only [List.foldl_cons, List.length_cons]
    refine Nat.lt_of_lt_of_le this ?_
    rw [Nat.pow_succ, Nat.mul_comm (256 ^ l.length) 256, ← Nat.mul_assoc]
    exact Nat.mul_le_mul_right _ (by omega)
theorem be_lt (l : List UInt8) : be l < 256 ^ l.length := by
  have := be_lt_aux l 0
  simpa [be] using this
theorem be_take_succ (l : List UInt8) (k : Nat) (x : UInt8) (h : l[k]? = some x) : be (l.take (k + 1)) = be (l.take k) * 256 + x.toNat := by
  rw [List.take_add_one, h]; exact be_snoc _ _
/-- A number's body. -/
def nbr : List UInt8 → Option Nat
  | [] => some 0
  | x :: r => if 7 < r.length ∨ x = 0 then none else some (be (x :: r))
end Go.Proofs.YtnpoohkklfpmdaaGreat
