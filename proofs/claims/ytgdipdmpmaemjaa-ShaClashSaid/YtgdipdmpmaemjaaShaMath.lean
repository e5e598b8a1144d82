/- Plain mathematics of SHA-256, over natural numbers: words below 2^32, lists of words, lists of bytes. No program is named here. -/
import Derived.Test.YtgdipdmpmaemjaaGen0
namespace Go.Proofs.Ytgdipdmpmaemjaa.Sm
def rot (n x : Nat) : Nat := (x * 2 ^ (32 - n)) % 4294967296 ||| x / 2 ^ n
def s0 (x : Nat) : Nat := (rot 7 x ^^^ rot 18 x) ^^^ x / 8
def s1 (x : Nat) : Nat := (rot 17 x ^^^ rot 19 x) ^^^ x / 1024
def b0 (a : Nat) : Nat := (rot 2 a ^^^ rot 13 a) ^^^ rot 22 a
def b1 (e : Nat) : Nat := (rot 6 e ^^^ rot 11 e) ^^^ rot 25 e
def ch (e f g : Nat) : Nat := (e &&& f) ^^^ ((4294967295 - e) &&& g)
def mj (a b c : Nat) : Nat := ((a &&& b) ^^^ (a &&& c)) ^^^ (b &&& c)
structure V8 where
  (a b c d e f g h : Nat)
def V8.ok (v : V8) : Prop := v.a < 4294967296 ∧ v.b < 4294967296 ∧ v.c < 4294967296 ∧ v.d < 4294967296 ∧ v.e < 4294967296 ∧ v.f < 4294967296 ∧ v.g < 4294967296 ∧ v.h < 4294967296
def V8.list (v : V8) : List Nat := [v.a, v.b, v.c, v.d, v.e, v.f, v.g, v.h]
def t1 (k w : Nat) (v : V8) : Nat := (v.h + b1 v.e + ch v.e v.f v.g + k + w) % 4294967296
def t2 (v : V8) : Nat := (b0 v.a + mj v.a v.b v.c) % 4294967296
def step (k w : Nat) (v : V8) : V8 := ⟨(t1 k w v + t2 v) % 4294967296, v.a, v.b, v.c, (v.d + t1 k w v) % 4294967296, v.e, v.f, v.g⟩
def rounds (K W : List Nat) (v : V8) : Nat → V8
  | 0 => v
  | n + 1 => step (K.getD n 0) (W.getD n 0) (rounds K W v n)
def add8 (v u : V8) : V8 := ⟨(v.a + u.a) % 4294967296, (v.b + u.b) % 4294967296, (v.c + u.c) % 4294967296, (v.d + u.d) % 4294967296, (v.e + u.e) % 4294967296, (v.f + u.f) % 4294967296, (v.g + u.g) % 4294967296, (v.h + u.h) % 4294967296⟩
def turn (K W : List Nat) (v : V8) : V8 := add8 v (rounds K W v 64)
def word (B : List Nat) (i : Nat) : Nat := B.getD (4 * i) 0 * 16777216 + B.getD (4 * i + 1) 0 * 65536 + B.getD (4 * i + 2) 0 * 256 + B.getD (4 * i + 3) 0
def words (B : List Nat) : Nat → List Nat
  | 0 => []
  | n + 1 => words B n ++ [word B n]
def more (l : List Nat) : Nat → List Nat
  | 0 => l
  | n + 1 => more l n ++ [((more l n).getD n 0 + s0 ((more l n).getD (n + 1) 0) + (more l n).getD (n + 9) 0 + s1 ((more l n).getD (n + 14) 0)) % 4294967296]
def sched (B : List Nat) : List Nat := more (words B 16) 48
def ks : List Nat := [0x428a2f98, 0x71374491, 0xb5c0fbcf, 0xe9b5dba5, 0x3956c25b, 0x59f111f1, 0x923f82a4, 0xab1c5ed5, 0xd807aa98, 0x12835b01, 0x243185be, 0x550c7dc3, 0x72be5d74, 0x80deb1fe, 0x9bdc06a7, 0xc19bf174, 0xe49b69c1, 0xefbe4786, 0x0fc19dc6, 0x240ca1cc, 0x2de92c6f, 0x4a7484aa, 0x5cb0a9dc, 0x76f988da, 0x983e5152, 0xa831c66d, 0xb00327c8, 0xbf597fc7, 0xc6e00bf3, 0xd5a79147, 0x06ca6351, 0x14292967, 0x27b70a85, 0x2e1b2138, 0x4d2c6dfc, 0x53380d13, 0x650a7354, 0x766a0abb, 0x81c2c92e, 0x92722c85, 0xa2bfe8a1, 0xa81a664b, 0xc24b8b70, 0xc76c51a3, 0xd192e819, 0xd6990624, 0xf40e3585, 0x106aa070, 0x19a4c116, 0x1e376c08, 0x2748774c, 0x34b0bcb5, 0x391c0cb3, 0x4ed8aa4a, 0x5b9cca4f, 0x682e6ff3, 0x748f82ee, 0x78a5636f, 0x84c87814, 0x8cc70208, 0x90befffa, 0xa4506ceb, 0xbef9a3f7, 0xc67178f2]
def first : V8 := ⟨0x6a09e667, 0xbb67ae85, 0x3c6ef372, 0xa54ff53a, 0x510e527f, 0x9b05688c, 0x1f83d9ab, 0x5be0cd19⟩
/-- The words behind n full blocks of the bytes B. -/
def blocks (B : List Nat) (v : V8) : Nat → V8
  | 0 => v
  | n + 1 => turn ks (sched (B.drop (64 * n))) (blocks B v n)
def big (n : Nat) (k : Nat) : Nat := n / 2 ^ (8 * (7 - k)) % 256
def bigs (n : Nat) : List Nat := [big n 0, big n 1, big n 2, big n 3, big n 4, big n 5, big n 6, big n 7]
def fill (n : Nat) : List Nat := 128 :: (List.replicate ((119 - n % 64) % 64) 0 ++ bigs (8 * n))
def bytes4 (w : Nat) : List Nat := [w / 16777216 % 256, w / 65536 % 256, w / 256 % 256, w % 256]
def bytesOf (v : V8) : List Nat := v.list.flatMap bytes4
def full (T : List Nat) : List Nat := T ++ fill T.length
/-- The sum of a text. -/
def sum (T : List Nat) : List Nat := bytesOf (blocks (full T) first ((full T).length / 64))

theorem rot_lt {n x : Nat} (h : x < 4294967296) : rot n x < 4294967296 := by
  unfold rot
  have h2 : x / 2 ^ n < 2 ^ 32 := Nat.lt_of_le_of_lt (Nat.div_le_self _ _) (by omega)
  have h1 : x * 2 ^ (32 - n) % 4294967296 < 2 ^ 32 := by have := Nat.mod_lt (x * 2 ^ (32 - n)) (show 0 < 4294967296 by omega); omega
  have := Nat.or_lt_two_pow h1 h2
  omega
theorem xor_lt {a b : Nat} (h1 : a < 4294967296) (h2 : b < 4294967296) : a ^^^ b < 4294967296 := by
  have := Nat.xor_lt_two_pow (n := 32) (x := a) (y := b) (by omega) (by omega); omega
theorem and_lt {a b : Nat} (h2 : b < 4294967296) : a &&& b < 4294967296 := by
  have := Nat.and_lt_two_pow (n := 32) a (y := b) (by omega); omega
theorem s0_lt {x : Nat} (h : x < 4294967296) : s0 x < 4294967296 := xor_lt (xor_lt (rot_lt h) (rot_lt h)) (by omega)
theorem s1_lt {x : Nat} (h : x < 4294967296) : s1 x < 4294967296 := xor_lt (xor_lt (rot_lt h) (rot_lt h)) (by omega)
theorem b0_lt {x : Nat} (h : x < 4294967296) : b0 x < 4294967296 := xor_lt (xor_lt (rot_lt h) (rot_lt h)) (rot_lt h)
theorem b1_lt {x : Nat} (h : x < 4294967296) : b1 x < 4294967296 := xor_lt (xor_lt (rot_lt h) (rot_lt h)) (rot_lt h)
theorem ch_lt {e f g : Nat} (h2 : f < 4294967296) (h3 : g < 4294967296) : ch e f g < 4294967296 := xor_lt (and_lt h2) (and_lt h3)
theorem mj_lt {a b c : Nat} (h2 : b < 4294967296) (h3 : c < 4294967296) : mj a b c < 4294967296 := xor_lt (xor_lt (and_lt h2) (and_lt h3)) (and_lt h3)
theorem step_ok {k w : Nat} {v : V8} (h : v.ok) : (step k w v).ok := by
  obtain ⟨ha, hb, hc, hd, he, hf, hg, hh⟩ := h
  exact ⟨Nat.mod_lt _ (by omega), ha, hb, hc, Nat.mod_lt _ (by omega), he, hf, hg⟩
theorem rounds_ok {K W : List Nat} {v : V8} (h : v.ok) (n : Nat) : (rounds K W v n).ok := by
  induction n with
  | zero => exact h
  | succ n ih => exact step_ok ih
theorem add8_ok {v u : V8} : (add8 v u).ok := by
  refine ⟨?_, ?_, ?_, ?_, ?_, ?_, ?_, ?_⟩ <;> exact Nat.mod_lt _ (by omega)
theorem first_ok : first.ok := by unfold V8.ok first; decide
theorem blocks_ok {B : List Nat} {v : V8} (h : v.ok) (n : Nat) : (blocks B v n).ok := by
  cases n with
  | zero => exact h
  | succ n => exact add8_ok
theorem length_words (B : List Nat) (n : Nat) : (words B n).length = n := by
  induction n with
  | zero => rfl
  | succ n ih => simp [words, ih]
theorem length_more (l : List Nat) (n : Nat) : (more l n).length = l.length + n := by
  induction n with
  | zero => rfl
  | succ n ih => simp [more, ih]; omega
theorem length_sched (B : List Nat) : (sched B).length = 64 := by simp [sched, length_more, length_words]
def allW (l : List Nat) : Prop := ∀ x ∈ l, x < 4294967296
theorem word_lt {B : List Nat} (h : allB B) (i : Nat) : word B i < 4294967296 := by
  have h0 := getD_lt h (by omega) (4 * i)
  have h1 := getD_lt h (by omega) (4 * i + 1)
  have h2 := getD_lt h (by omega) (4 * i + 2)
  have h3 := getD_lt h (by omega) (4 * i + 3)
  unfold word; omega
theorem words_ok {B : List Nat} (h : allB B) (n : Nat) : allW (words B n) := by
  induction n with
  | zero => intro x hx; simp [words] at hx
  | succ n ih =>
    intro x hx
    simp only [words, List.mem_append, List.mem_singleton] at hx
    rcases hx with hx | rfl
    · exact ih x hx
    · exact word_lt h n
theorem more_ok {l : List Nat} (h : allW l) (n : Nat) : allW (more l n) := by
  induction n with
  | zero => exact h
  | succ n ih =>
    intro x hx
    simp only [more, List.mem_append, List.mem_singleton] at hx
    rcases hx with hx | rfl
    · exact ih x hx
    · exact Nat.mod_lt _ (by omega)
theorem sched_ok {B : List Nat} (h : allB B) : allW (sched B) := more_ok (words_ok h 16) 48
theorem ks_ok : allW ks := by unfold allW ks; decide
theorem big_lt (n k : Nat) : big n k < 256 := Nat.mod_lt _ (by omega)
theorem not_nat {e : Nat} (h : e < 4294967296) : 4294967295 ^^^ e = 4294967295 - e := by
  have h1 : (BitVec.allOnes 32 ^^^ BitVec.ofNat 32 e).toNat = (~~~ BitVec.ofNat 32 e).toNat := by rw [BitVec.allOnes_xor]
  rw [BitVec.toNat_xor, BitVec.toNat_not, BitVec.toNat_allOnes, BitVec.toNat_ofNat, Nat.mod_eq_of_lt (by omega)] at h1
  exact h1
theorem max_u32 : IntKind.u32.max = 4294967295 := by decide
theorem b1_int {e : Nat} (h : e < 4294967296) : bits .xor .u32 (bits .xor .u32 (rot 6 e : Nat) (rot 11 e : Nat)) (rot 25 e : Nat) = ((b1 e : Nat) : Int) := by
  rw [u32_xor_nat _ _ (rot_lt h) (rot_lt h), u32_xor_nat _ _ (xor_lt (rot_lt h) (rot_lt h)) (rot_lt h)]; rfl
theorem b0_int {e : Nat} (h : e < 4294967296) : bits .xor .u32 (bits .xor .u32 (rot 2 e : Nat) (rot 13 e : Nat)) (rot 22 e : Nat) = ((b0 e : Nat) : Int) := by
  rw [u32_xor_nat _ _ (rot_lt h) (rot_lt h), u32_xor_nat _ _ (xor_lt (rot_lt h) (rot_lt h)) (rot_lt h)]; rfl
theorem ch_int {e f g : Nat} (he : e < 4294967296) (hf : f < 4294967296) (hg : g < 4294967296) :
    bits .xor .u32 (bits .and .u32 (e : Nat) (f : Nat)) (bits .and .u32 (bits .xor .u32 IntKind.u32.max (e : Nat)) (g : Nat)) = ((ch e f g : Nat) : Int) := by
  have h1 : bits .xor .u32 IntKind.u32.max (e : Nat) = ((4294967295 - e : Nat) : Int) := by
    rw [max_u32]
    have := u32_xor_nat 4294967295 e (by omega) he
    rw [not_nat he] at this
    exact this
  rw [h1, u32_and_nat _ _ he hf, u32_and_nat _ _ (by omega) hg, u32_xor_nat _ _ (and_lt hf) (and_lt hg)]; rfl
theorem mj_int {a b c : Nat} (ha : a < 4294967296) (hb : b < 4294967296) (hc : c < 4294967296) :
    bits .xor .u32 (bits .xor .u32 (bits .and .u32 (a : Nat) (b : Nat)) (bits .and .u32 (a : Nat) (c : Nat))) (bits .and .u32 (b : Nat) (c : Nat)) = ((mj a b c : Nat) : Int) := by
  rw [u32_and_nat _ _ ha hb, u32_and_nat _ _ ha hc, u32_and_nat _ _ hb hc, u32_xor_nat _ _ (and_lt hb) (and_lt hc), u32_xor_nat _ _ (xor_lt (and_lt hb) (and_lt hc)) (and_lt hc)]; rfl
theorem t1_int {u : V8} (hu : u.ok) (k w : Nat) :
    ((u.h : Nat) + bits .xor .u32 (bits .xor .u32 (rot 6 u.e : Nat) (rot 11 u.e : Nat)) (rot 25 u.e : Nat) + bits .xor .u32 (bits .and .u32 (u.e : Nat) (u.f : Nat)) (bits .and .u32 (bits .xor .u32 IntKind.u32.max (u.e : Nat)) (u.g : Nat)) + (k : Nat) + (w : Nat)) % 4294967296 = ((t1 k w u : Nat) : Int) := by
  obtain ⟨ha, hb, hc, hd, he, hf, hg, hh⟩ := hu
  rw [b1_int he, ch_int he hf hg]; unfold t1; omega
theorem t2_int {u : V8} (hu : u.ok) :
    (bits .xor .u32 (bits .xor .u32 (rot 2 u.a : Nat) (rot 13 u.a : Nat)) (rot 22 u.a : Nat) + bits .xor .u32 (bits .xor .u32 (bits .and .u32 (u.a : Nat) (u.b : Nat)) (bits .and .u32 (u.a : Nat) (u.c : Nat))) (bits .and .u32 (u.b : Nat) (u.c : Nat))) % 4294967296 = ((t2 u : Nat) : Int) := by
  obtain ⟨ha, hb, hc, hd, he, hf, hg, hh⟩ := hu
  rw [b0_int ha, mj_int ha hb hc]; unfold t2; omega
theorem or_shl {a b n : Nat} (h : b < 2 ^ n) : a * 2 ^ n ||| b = a * 2 ^ n + b := by
  have := Nat.shiftLeft_add_eq_or_of_lt h a
  rw [Nat.shiftLeft_eq] at this
  exact this.symm
theorem word_nat {x0 x1 x2 x3 : Nat} (h1 : x1 < 256) (h2 : x2 < 256) (h3 : x3 < 256) : ((x0 * 16777216 ||| x1 * 65536) ||| x2 * 256) ||| x3 = x0 * 16777216 + x1 * 65536 + x2 * 256 + x3 := by
  have e1 : x0 * 16777216 ||| x1 * 65536 = x0 * 16777216 + x1 * 65536 := or_shl (n := 24) (by omega)
  have e2 : (x0 * 16777216 + x1 * 65536) ||| x2 * 256 = x0 * 16777216 + x1 * 65536 + x2 * 256 := by
    have := or_shl (a := x0 * 256 + x1) (n := 16) (b := x2 * 256) (by omega)
    rw [show (x0 * 256 + x1) * 2 ^ 16 = x0 * 16777216 + x1 * 65536 from by omega] at this
    exact this
  have e3 : (x0 * 16777216 + x1 * 65536 + x2 * 256) ||| x3 = x0 * 16777216 + x1 * 65536 + x2 * 256 + x3 := by
    have := or_shl (a := x0 * 65536 + x1 * 256 + x2) (n := 8) (b := x3) (by omega)
    rw [show (x0 * 65536 + x1 * 256 + x2) * 2 ^ 8 = x0 * 16777216 + x1 * 65536 + x2 * 256 from by omega] at this
    exact this
  rw [e1, e2, e3]
theorem word_int {x0 x1 x2 x3 : Nat} (h0 : x0 < 256) (h1 : x1 < 256) (h2 : x2 < 256) (h3 : x3 < 256) :
    bits .or .u32 (bits .or .u32 (bits .or .u32 ((x0 : Nat) * 16777216) ((x1 : Nat) * 65536)) ((x2 : Nat) * 256)) (x3 : Nat) = ((x0 * 16777216 + x1 * 65536 + x2 * 256 + x3 : Nat) : Int) := by
  have e0 : ((x0 : Nat) : Int) * 16777216 = ((x0 * 16777216 : Nat) : Int) := by omega
  have e1 : ((x1 : Nat) : Int) * 65536 = ((x1 * 65536 : Nat) : Int) := by omega
  have e2 : ((x2 : Nat) : Int) * 256 = ((x2 * 256 : Nat) : Int) := by omega
  have l1 : x0 * 16777216 ||| x1 * 65536 < 4294967296 := by have := Nat.or_lt_two_pow (n := 32) (x := x0 * 16777216) (y := x1 * 65536) (by omega) (by omega); omega
  have l2 : (x0 * 16777216 ||| x1 * 65536) ||| x2 * 256 < 4294967296 := by have := Nat.or_lt_two_pow (n := 32) (x := x0 * 16777216 ||| x1 * 65536) (y := x2 * 256) (by omega) (by omega); omega
  rw [e0, e1, e2, u32_or_nat _ _ (by omega) (by omega), u32_or_nat _ _ l1 (by omega), u32_or_nat _ _ l2 (by omega), word_nat h1 h2 h3]
theorem s0_int {x : Nat} (h : x < 4294967296) : bits .xor .u32 (bits .xor .u32 (rot 7 x : Nat) (rot 18 x : Nat)) ((x : Nat) / 8) = ((s0 x : Nat) : Int) := by
  have e : ((x : Nat) : Int) / 8 = ((x / 8 : Nat) : Int) := by omega
  rw [e, u32_xor_nat _ _ (rot_lt h) (rot_lt h), u32_xor_nat _ _ (xor_lt (rot_lt h) (rot_lt h)) (by omega)]; rfl
theorem s1_int {x : Nat} (h : x < 4294967296) : bits .xor .u32 (bits .xor .u32 (rot 17 x : Nat) (rot 19 x : Nat)) ((x : Nat) / 1024) = ((s1 x : Nat) : Int) := by
  have e : ((x : Nat) : Int) / 1024 = ((x / 1024 : Nat) : Int) := by omega
  rw [e, u32_xor_nat _ _ (rot_lt h) (rot_lt h), u32_xor_nat _ _ (xor_lt (rot_lt h) (rot_lt h)) (by omega)]; rfl
end Go.Proofs.Ytgdipdmpmaemjaa.Sm
