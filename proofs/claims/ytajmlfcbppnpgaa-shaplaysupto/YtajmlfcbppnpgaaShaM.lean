
import Derived.WalkKit
import Derived.Laws.BitsAllLaws
namespace Go.Proofs.Ytajmlfcbppnpgaa

/-! The sum of 256 bits, as plain mathematics; nothing of the program. -/
abbrev Wd := BitVec 32
def rotr (x : Wd) (n : Nat) : Wd := (x >>> n) ||| (x <<< (32 - n))
def sm0 (x : Wd) : Wd := (rotr x 7 ^^^ rotr x 18) ^^^ (x >>> 3)
def sm1 (x : Wd) : Wd := (rotr x 17 ^^^ rotr x 19) ^^^ (x >>> 10)
def bg0 (x : Wd) : Wd := (rotr x 2 ^^^ rotr x 13) ^^^ rotr x 22
def bg1 (x : Wd) : Wd := (rotr x 6 ^^^ rotr x 11) ^^^ rotr x 25
def chW (e f g : Wd) : Wd := (e &&& f) ^^^ (~~~e &&& g)
def majW (a b c : Wd) : Wd := ((a &&& b) ^^^ (a &&& c)) ^^^ (b &&& c)
structure S8 where
  (a b c d e f g h : Wd)
def S8.toL (s : S8) : List Wd := [s.a, s.b, s.c, s.d, s.e, s.f, s.g, s.h]
def S8.add (s t : S8) : S8 := ⟨s.a + t.a, s.b + t.b, s.c + t.c, s.d + t.d, s.e + t.e, s.f + t.f, s.g + t.g, s.h + t.h⟩
def kL : List Wd := [
  0x428a2f98#32, 0x71374491#32, 0xb5c0fbcf#32, 0xe9b5dba5#32, 0x3956c25b#32, 0x59f111f1#32, 0x923f82a4#32, 0xab1c5ed5#32, 0xd807aa98#32, 0x12835b01#32, 0x243185be#32, 0x550c7dc3#32, 0x72be5d74#32, 0x80deb1fe#32, 0x9bdc06a7#32, 0xc19bf174#32,
  0xe49b69c1#32, 0xefbe4786#32, 0x0fc19dc6#32, 0x240ca1cc#32, 0x2de92c6f#32, 0x4a7484aa#32, 0x5cb0a9dc#32, 0x76f988da#32, 0x983e5152#32, 0xa831c66d#32, 0xb00327c8#32, 0xbf597fc7#32, 0xc6e00bf3#32, 0xd5a79147#32, 0x06ca6351#32, 0x14292967#32,
  0x27b70a85#32, 0x2e1b2138#32, 0x4d2c6dfc#32, 0x53380d13#32, 0x650a7354#32, 0x766a0abb#32, 0x81c2c92e#32, 0x92722c85#32, 0xa2bfe8a1#32, 0xa81a664b#32, 0xc24b8b70#32, 0xc76c51a3#32, 0xd192e819#32, 0xd6990624#32, 0xf40e3585#32, 0x106aa070#32,
  0x19a4c116#32, 0x1e376c08#32, 0x2748774c#32, 0x34b0bcb5#32, 0x391c0cb3#32, 0x4ed8aa4a#32, 0x5b9cca4f#32, 0x682e6ff3#32, 0x748f82ee#32, 0x78a5636f#32, 0x84c87814#32, 0x8cc70208#32, 0x90befffa#32, 0xa4506ceb#32, 0xbef9a3f7#32, 0xc67178f2#32]
def init8 : S8 := ⟨0x6A09E667#32, 0xBB67AE85#32, 0x3C6EF372#32, 0xA54FF53A#32, 0x510E527F#32, 0x9B05688C#32, 0x1F83D9AB#32, 0x5BE0CD19#32⟩
def bw (b : UInt8) : Wd := BitVec.ofNat 32 b.toNat
/-- Word t of a block. -/
def wordB (l : List UInt8) (t : Nat) : Wd := ((bw (l[4 * t]?.getD 0) <<< 24 ||| bw (l[4 * t + 1]?.getD 0) <<< 16) ||| bw (l[4 * t + 2]?.getD 0) <<< 8) ||| bw (l[4 * t + 3]?.getD 0)
def wAt (W : List Wd) (t : Nat) : Wd := W[t]?.getD 0#32
def nextW (l : List UInt8) (W : List Wd) (t : Nat) : Wd := if t < 16 then wordB l t else ((sm1 (wAt W (t - 2)) + wAt W (t - 7)) + sm0 (wAt W (t - 15))) + wAt W (t - 16)
/-- The first n words of the schedule. -/
def sched (l : List UInt8) : Nat → List Wd
  | 0 => []
  | n + 1 => sched l n ++ [nextW l (sched l n) n]
def rnd (k w : Wd) (s : S8) : S8 :=
  ⟨((((s.h + bg1 s.e) + chW s.e s.f s.g) + k + w) + bg0 s.a) + majW s.a s.b s.c, s.a, s.b, s.c, s.d + (((s.h + bg1 s.e) + chW s.e s.f s.g) + k + w), s.e, s.f, s.g⟩
def rndN (W : List Wd) : Nat → S8 → S8
  | 0, s => s
  | t + 1, s => rnd (wAt kL t) (wAt W t) (rndN W t s)
def stepB (s : S8) (l : List UInt8) : S8 := (rndN (sched l 64) 64 s).add s
/-- Behind i blocks. -/
def stB (l : List UInt8) : Nat → S8
  | 0 => init8
  | i + 1 => stepB (stB l i) ((l.drop (64 * i)).take 64)
def be8 (n : Nat) : List UInt8 := (List.range 8).map fun i => UInt8.ofNat (n / 256 ^ (7 - i))
/-- How many zeros. -/
def padZ (n : Nat) : Nat := (119 - n % 64) % 64
def padL (l : List UInt8) : List UInt8 := l ++ [0x80] ++ List.replicate (padZ l.length) 0 ++ be8 (8 * l.length)
def digL (s : S8) : Nat → UInt8 := fun i => UInt8.ofNat ((wAt s.toL (i / 4)).toNat / 2 ^ (24 - 8 * (i % 4)))
def shaL (l : List UInt8) : Nat → UInt8 := digL (stB (padL l) ((padL l).length / 64))
theorem padL_length (l : List UInt8) : (padL l).length % 64 = 0 := by
  simp only [padL, be8, padZ, List.length_append, List.length_cons, List.length_nil, List.length_replicate, List.length_map, List.length_range]
  omega
theorem sched_length (l : List UInt8) (n : Nat) : (sched l n).length = n := by
  induction n with
  | zero => rfl
  | succ n ih => rw [sched, List.length_append, ih]; rfl
theorem sha_abc0 : shaL [97, 98, 99] 0 = 0xba := by decide +kernel
theorem sha_abc31 : shaL [97, 98, 99] 31 = 0xad := by decide +kernel

/-! Bridges to the walk's numbers -/
theorem wd_lt (x : Wd) : x.toNat < 4294967296 := x.isLt
theorem add_wd (x y : Wd) : ((x.toNat : Int) + (y.toNat : Int)) % 4294967296 = ((x + y).toNat : Int) := by rw [BitVec.toNat_add]; omega
theorem xor_wd (x y : Wd) : bits .xor .u32 (x.toNat : Int) (y.toNat : Int) = ((x ^^^ y).toNat : Int) := by
  rw [u32_xor_nat _ _ (wd_lt x) (wd_lt y), BitVec.toNat_xor]
theorem and_wd (x y : Wd) : bits .and .u32 (x.toNat : Int) (y.toNat : Int) = ((x &&& y).toNat : Int) := by
  rw [u32_and_nat _ _ (wd_lt x) (wd_lt y), BitVec.toNat_and]
theorem or_wd (x y : Wd) : bits .or .u32 (x.toNat : Int) (y.toNat : Int) = ((x ||| y).toNat : Int) := by
  rw [u32_or_nat _ _ (wd_lt x) (wd_lt y), BitVec.toNat_or]
theorem not_wd (x : Wd) : (4294967295 : Int) - (x.toNat : Int) = ((~~~x).toNat : Int) := by
  have := wd_lt x
  rw [BitVec.toNat_not]; omega
theorem shr_wd (x : Wd) (n : Nat) : (x.toNat : Int) / (2 : Int) ^ n = ((x >>> n).toNat : Int) := by
  rw [BitVec.toNat_ushiftRight, Nat.shiftRight_eq_div_pow]; simp
theorem shl_wd (x : Wd) (n : Nat) : ((x.toNat : Int) * (2 : Int) ^ n) % 4294967296 = ((x <<< n).toNat : Int) := by
  rw [BitVec.toNat_shiftLeft, Nat.shiftLeft_eq]; simp
theorem bw_nat (b : UInt8) : (b.toNat : Int) = ((bw b).toNat : Int) := by
  unfold bw
  have := b.toNat_lt
  rw [BitVec.toNat_ofNat, Nat.mod_eq_of_lt (by omega)]
end Go.Proofs.Ytajmlfcbppnpgaa
