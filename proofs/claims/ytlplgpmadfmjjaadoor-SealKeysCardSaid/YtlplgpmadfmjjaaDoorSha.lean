/- SHA-256 as a plain function on lists: numbers of 32 bits, blocks of 64 bytes. It hangs on no program. -/
namespace Go.Proofs.YtlplgpmadfmjjaaDoor
def rotr (x : BitVec 32) (k : Nat) : BitVec 32 := (x >>> k) ||| (x <<< (32 - k))
def turn3 (x : BitVec 32) (i j k : Nat) : BitVec 32 := rotr x i ^^^ rotr x j ^^^ rotr x k
def move3 (x : BitVec 32) (i j k : Nat) : BitVec 32 := rotr x i ^^^ rotr x j ^^^ (x >>> k)
def chF (x y z : BitVec 32) : BitVec 32 := z ^^^ (x &&& (y ^^^ z))
def majF (x y z : BitVec 32) : BitVec 32 := (x &&& y) ||| (z &&& (x ||| y))
def h0s : List (BitVec 32) := [0x6a09e667, 0xbb67ae85, 0x3c6ef372, 0xa54ff53a, 0x510e527f, 0x9b05688c, 0x1f83d9ab, 0x5be0cd19]
def ks : List (BitVec 32) := [
  0x428a2f98, 0x71374491, 0xb5c0fbcf, 0xe9b5dba5,
  0x3956c25b, 0x59f111f1, 0x923f82a4, 0xab1c5ed5,
  0xd807aa98, 0x12835b01, 0x243185be, 0x550c7dc3,
  0x72be5d74, 0x80deb1fe, 0x9bdc06a7, 0xc19bf174,
  0xe49b69c1, 0xefbe4786, 0x0fc19dc6, 0x240ca1cc,
  0x2de92c6f, 0x4a7484aa, 0x5cb0a9dc, 0x76f988da,
  0x983e5152, 0xa831c66d, 0xb00327c8, 0xbf597fc7,
  0xc6e00bf3, 0xd5a79147, 0x06ca6351, 0x14292967,
  0x27b70a85, 0x2e1b2138, 0x4d2c6dfc, 0x53380d13,
  0x650a7354, 0x766a0abb, 0x81c2c92e, 0x92722c85,
  0xa2bfe8a1, 0xa81a664b, 0xc24b8b70, 0xc76c51a3,
  0xd192e819, 0xd6990624, 0xf40e3585, 0x106aa070,
  0x19a4c116, 0x1e376c08, 0x2748774c, 0x34b0bcb5,
  0x391c0cb3, 0x4ed8aa4a, 0x5b9cca4f, 0x682e6ff3,
  0x748f82ee, 0x78a5636f, 0x84c87814, 0x8cc70208,
  0x90befffa, 0xa4506ceb, 0xbef9a3f7, 0xc67178f2]
structure S8 where
  a : BitVec 32
  b : BitVec 32
  c : BitVec 32
  d : BitVec 32
  e : BitVec 32
  f : BitVec 32
  g : BitVec 32
  h : BitVec 32
def rT (s : S8) (k w : BitVec 32) : BitVec 32 := s.h + turn3 s.e 6 11 25 + chF s.e s.f s.g + k + w
def rU (s : S8) : BitVec 32 := turn3 s.a 2 13 22 + majF s.a s.b s.c
def rnd (s : S8) (k w : BitVec 32) : S8 := ⟨rT s k w + rU s, s.a, s.b, s.c, s.d + rT s k w, s.e, s.f, s.g⟩
def rounds (w : List (BitVec 32)) (s : S8) : Nat → S8
  | 0 => s
  | n + 1 => rnd (rounds w s n) (ks.getD n 0) (w.getD n 0)
/-- Four bytes, the greatest first. -/
def be4 (l : List UInt8) (i : Nat) : BitVec 32 := (((l.getD (4 * i) 0).toBitVec.setWidth 32 <<< 24 ||| (l.getD (4 * i + 1) 0).toBitVec.setWidth 32 <<< 16) ||| (l.getD (4 * i + 2) 0).toBitVec.setWidth 32 <<< 8) ||| (l.getD (4 * i + 3) 0).toBitVec.setWidth 32
def nextW (w : List (BitVec 32)) (i : Nat) : BitVec 32 := move3 (w.getD (i - 2) 0) 17 19 10 + w.getD (i - 7) 0 + move3 (w.getD (i - 15) 0) 7 18 3 + w.getD (i - 16) 0
def wide16 (b : List UInt8) : List (BitVec 32) := (List.range 16).map (be4 b)
def sched (b : List UInt8) : Nat → List (BitVec 32)
  | 0 => wide16 b
  | n + 1 => sched b n ++ [nextW (sched b n) (16 + n)]
def s8 (l : List (BitVec 32)) : S8 := ⟨l.getD 0 0, l.getD 1 0, l.getD 2 0, l.getD 3 0, l.getD 4 0, l.getD 5 0, l.getD 6 0, l.getD 7 0⟩
def S8.list (s : S8) : List (BitVec 32) := [s.a, s.b, s.c, s.d, s.e, s.f, s.g, s.h]
def compress (H : List (BitVec 32)) (b : List UInt8) : List (BitVec 32) := List.zipWith (· + ·) H (rounds (sched b 48) (s8 H) 64).list
/-- The numbers behind the first n blocks. -/
def blks (l : List UInt8) : Nat → List (BitVec 32)
  | 0 => h0s
  | n + 1 => compress (blks l n) ((l.drop (64 * n)).take 64)
def be8 (n : Nat) : List UInt8 := (List.range 8).map fun i => UInt8.ofNat (n >>> (56 - 8 * i))
/-- What stands behind a text of n bytes. -/
def padS (n : Nat) : List UInt8 := (128 :: List.replicate ((119 - n % 64) % 64) 0) ++ be8 (8 * n)
def outB (H : List (BitVec 32)) : List UInt8 := (List.range 32).map fun i => UInt8.ofNat ((H.getD (i / 4) 0).toNat >>> (24 - 8 * (i % 4)))
/-- The hash of a text. -/
def sha (l : List UInt8) : List UInt8 := outB (blks (l ++ padS l.length) ((l ++ padS l.length).length / 64))

theorem compress_len (H : List (BitVec 32)) (b : List UInt8) (h : H.length = 8) : (compress H b).length = 8 := by
  simp [compress, S8.list, h]
theorem blks_len (l : List UInt8) (n : Nat) : (blks l n).length = 8 := by
  induction n with
  | zero => rfl
  | succ n ih => exact compress_len _ _ ih
theorem sched_len (b : List UInt8) (n : Nat) : (sched b n).length = 16 + n := by
  induction n with
  | zero => simp [sched, wide16]
  | succ n ih => simp [sched, ih]; omega
theorem outB_len (H : List (BitVec 32)) : (outB H).length = 32 := by simp [outB]
theorem sha_len (l : List UInt8) : (sha l).length = 32 := outB_len _
theorem be8_len (n : Nat) : (be8 n).length = 8 := by simp [be8]
/-- What stands behind does not turn the blocks ahead. -/
theorem blks_append (l r : List UInt8) (n : Nat) (h : 64 * n ≤ l.length) : blks (l ++ r) n = blks l n := by
  induction n with
  | zero => rfl
  | succ n ih =>
    simp only [blks]
    rw [ih (by omega), List.drop_append_of_le_length (by omega), List.take_append_of_le_length (by simp; omega)]
theorem padS_len (n : Nat) : (padS n).length = 9 + (119 - n % 64) % 64 := by simp [padS, be8]; omega
theorem pad_mod (n : Nat) : (n + (padS n).length) % 64 = 0 := by rw [padS_len]; omega
set_option maxRecDepth 100000 in
theorem sha_abc : sha [97, 98, 99] = [0xba,0x78,0x16,0xbf,0x8f,0x01,0xcf,0xea,0x41,0x41,0x40,0xde,0x5d,0xae,0x22,0x23,0xb0,0x03,0x61,0xa3,0x96,0x17,0x7a,0x9c,0xb4,0x10,0xff,0x61,0xf2,0x00,0x15,0xad] := by decide +kernel
end Go.Proofs.YtlplgpmadfmjjaaDoor
