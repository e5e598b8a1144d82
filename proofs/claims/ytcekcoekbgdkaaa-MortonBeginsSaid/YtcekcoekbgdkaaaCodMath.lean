/- Plain mathematics of package codec: bytes of a number, the highest first; which bytes stand ahead. No program is named here. -/
import Derived.Test.YtcekcoekbgdkaaaGen0
namespace Go.Proofs.Ytcekcoekbgdkaaa.Cm
/-- The lowest s bytes of n, the highest first. -/
def be (n s : Nat) : List Nat := (List.range s).map fun i => n / 2 ^ (8 * (s - 1 - i)) % 256
theorem be_length (n s : Nat) : (be n s).length = s := by simp [be]
theorem be_get (n s i : Nat) (h : i < s) : (be n s).getD i 0 = n / 2 ^ (8 * (s - 1 - i)) % 256 := by
  simp [be, List.getD_eq_getElem?_getD, h]
theorem be_take (n s i : Nat) (h : i < s) : (be n s).take (i + 1) = (be n s).take i ++ [n / 2 ^ (8 * (s - 1 - i)) % 256] := by
  rw [List.take_succ_eq_append_getElem (by rw [be_length]; exact h)]
  simp [be]
theorem be_ok (n s : Nat) : Sm.allB (be n s) := by
  intro x hx
  simp only [be, List.mem_map] at hx
  obtain ⟨i, _, rfl⟩ := hx
  exact Nat.mod_lt _ (by omega)
theorem be_succ (n s : Nat) : be n (s + 1) = (n / 2 ^ (8 * s) % 256) :: be n s := by
  unfold be
  rw [List.range_succ_eq_map, List.map_cons, List.map_map]
  congr 1
  apply List.map_congr_left
  intro i _
  simp only [Function.comp_apply]
  rw [show s + 1 - 1 - (i + 1) = s - 1 - i from by omega]
/-- A number of 64 bits with a sign, and 2^63 together. -/
def z64 (n : Int) : Nat := (n + 9223372036854775808).toNat
theorem z64_lt {n : Int} (h1 : -9223372036854775808 ≤ n) (h2 : n ≤ 9223372036854775807) : z64 n < 18446744073709551616 ∧ ((z64 n : Nat) : Int) = n + 9223372036854775808 := by
  unfold z64; omega
theorem xor63_lo {x : Nat} (h : x < 2 ^ 63) : x ^^^ 2 ^ 63 = 2 ^ 63 + x := by
  apply Nat.eq_of_testBit_eq
  intro i
  rw [Nat.testBit_xor, Nat.testBit_two_pow]
  rcases Nat.lt_trichotomy i 63 with hi | rfl | hi
  · rw [Nat.testBit_two_pow_add_gt hi, decide_eq_false (by omega), Bool.xor_false]
  · rw [Nat.testBit_two_pow_add_eq, decide_eq_true rfl, Bool.xor_true]
  · have e1 : x.testBit i = false := Nat.testBit_lt_two_pow (Nat.lt_trans h (Nat.pow_lt_pow_right (by omega) hi))
    have e2 : (2 ^ 63 + x).testBit i = false := Nat.testBit_lt_two_pow (by
      have : 2 ^ 64 ≤ 2 ^ i := Nat.pow_le_pow_right (by omega) hi
      omega)
    rw [e1, e2, decide_eq_false (by omega), Bool.xor_false]
theorem xor63_hi {x : Nat} (h : x < 2 ^ 63) : (2 ^ 63 + x) ^^^ 2 ^ 63 = x := by
  rw [← xor63_lo h, Nat.xor_assoc, Nat.xor_self, Nat.xor_zero]
theorem wrap_u64 (n : Int) : IntKind.u64.wrap n = n % 18446744073709551616 := IntKind.wrap_u64 n
/-- The bits of a number, the sign's one turned. -/
theorem sign_int {n : Int} (h1 : -9223372036854775808 ≤ n) (h2 : n ≤ 9223372036854775807) : bits .xor .u64 (IntKind.u64.wrap n) 9223372036854775808 = ((z64 n : Nat) : Int) := by
  rw [wrap_u64]
  by_cases h : 0 ≤ n
  · obtain ⟨x, rfl⟩ : ∃ x : Nat, n = x := ⟨n.toNat, by omega⟩
    have e : (x : Int) % 18446744073709551616 = (x : Nat) := by omega
    rw [e]
    have := u64_xor_nat x 9223372036854775808 (by omega) (by omega)
    refine Eq.trans this ?_
    have e2 : x ^^^ 9223372036854775808 = 9223372036854775808 + x := xor63_lo (by omega)
    rw [e2]
    unfold z64
    omega
  · obtain ⟨x, hx⟩ : ∃ x : Nat, n = (x : Int) - 9223372036854775808 := ⟨(n + 9223372036854775808).toNat, by omega⟩
    subst hx
    have e : ((x : Int) - 9223372036854775808) % 18446744073709551616 = ((9223372036854775808 + x : Nat) : Int) := by omega
    rw [e]
    have := u64_xor_nat (9223372036854775808 + x) 9223372036854775808 (by omega) (by omega)
    refine Eq.trans this ?_
    have e2 : (9223372036854775808 + x) ^^^ 9223372036854775808 = x := xor63_hi (by omega)
    rw [e2]
    unfold z64
    omega
/-- A number's bytes. -/
def num (n : Int) : List Nat := be (z64 n) 8
theorem num_length (n : Int) : (num n).length = 8 := be_length _ _
theorem num_ok (n : Int) : Sm.allB (num n) := be_ok _ _
/-- What bytes make together, the highest first. -/
def val (B : List Nat) : Nat := B.foldl (fun n b => n * 256 + b) 0
theorem foldl_val (B : List Nat) (m : Nat) : B.foldl (fun n b => n * 256 + b) m = m * 256 ^ B.length + val B := by
  induction B generalizing m with
  | nil => simp [val]
  | cons b B ih =>
    unfold val
    rw [List.foldl_cons, List.foldl_cons, ih, ih (0 * 256 + b), List.length_cons, Nat.pow_succ, Nat.zero_mul, Nat.zero_add, Nat.add_mul, Nat.mul_assoc, Nat.mul_comm 256]
    omega
theorem val_cons (b : Nat) (B : List Nat) : val (b :: B) = b * 256 ^ B.length + val B := by
  have := foldl_val B (0 * 256 + b)
  unfold val at this ⊢
  rw [List.foldl_cons, this]
  simp
theorem val_snoc (B : List Nat) (b : Nat) : val (B ++ [b]) = val B * 256 + b := by
  unfold val; rw [List.foldl_append]; rfl
theorem pow8 (s : Nat) : (2 : Nat) ^ (8 * s) = 256 ^ s := by rw [Nat.pow_mul]
theorem val_lt {B : List Nat} (h : Sm.allB B) : val B < 256 ^ B.length := by
  induction B with
  | nil => simp [val]
  | cons b B ih =>
    have h1 := h b (by simp)
    have h2 := ih (fun x hx => h x (by simp [hx]))
    rw [val_cons, List.length_cons, Nat.pow_succ]
    have : b * 256 ^ B.length + 256 ^ B.length ≤ 256 ^ B.length * 256 := by
      rw [Nat.mul_comm (256 ^ B.length) 256, ← Nat.succ_mul]
      exact Nat.mul_le_mul_right _ h1
    omega
theorem val_be (n s : Nat) : val (be n s) = n % 256 ^ s := by
  induction s with
  | zero => simp [be, val, Nat.mod_one]
  | succ s ih =>
    rw [be_succ, val_cons, be_length, ih, pow8, Nat.pow_succ, Nat.mod_mul]
    rw [Nat.mul_comm]
    omega
theorem be_val {B : List Nat} (h : Sm.allB B) : be (val B) B.length = B := by
  induction B with
  | nil => simp [be]
  | cons b B ih =>
    have h1 := h b (by simp)
    have hB : Sm.allB B := fun x hx => h x (by simp [hx])
    have h2 := val_lt hB
    rw [List.length_cons, be_succ, val_cons, pow8]
    have hp : 0 < 256 ^ B.length := Nat.pow_pos (by omega)
    have e1 : (b * 256 ^ B.length + val B) / 256 ^ B.length = b := by
      rw [Nat.mul_comm, Nat.mul_add_div hp, Nat.div_eq_of_lt h2]; omega
    rw [e1, Nat.mod_eq_of_lt h1]
    congr 1
    have key : ∀ s m k : Nat, s ≤ k → be (m * 256 ^ k + val B) s = be (val B) s := by
      intro s
      induction s with
      | zero => intro m k _; simp [be]
      | succ s ihs =>
        intro m k hk
        rw [be_succ, be_succ, ihs m k (by omega), pow8]
        congr 1
        obtain ⟨j, rfl⟩ : ∃ j, k = s + 1 + j := ⟨k - (s + 1), by omega⟩
        have : m * 256 ^ (s + 1 + j) = 256 ^ s * (256 * (m * 256 ^ j)) := by
          rw [Nat.pow_add, Nat.pow_succ]
          simp only [Nat.mul_assoc, Nat.mul_comm, Nat.mul_left_comm]
        rw [this, Nat.mul_add_div (Nat.pow_pos (by omega))]
        omega
    rw [key B.length b B.length (Nat.le_refl _)]
    exact ih hB
/-- Which bytes stand ahead. -/
def cmpL : List Nat → List Nat → Int
  | [], [] => 0
  | [], _ :: _ => -1
  | _ :: _, [] => 1
  | x :: a, y :: b => if x < y then -1 else if y < x then 1 else cmpL a b
theorem cmpL_cons (x y : Nat) (a b : List Nat) : cmpL (x :: a) (y :: b) = if x < y then -1 else if y < x then 1 else cmpL a b := rfl
theorem cmpL_same (C a b : List Nat) : cmpL (C ++ a) (C ++ b) = cmpL a b := by
  induction C with
  | nil => rfl
  | cons x C ih =>
    show cmpL (x :: (C ++ a)) (x :: (C ++ b)) = _
    rw [cmpL_cons, if_neg (by omega), if_neg (by omega)]
    exact ih
theorem cmpL_at {a b : List Nat} {i : Nat} (h : a.take i = b.take i) : cmpL a b = cmpL (a.drop i) (b.drop i) := by
  rw [← List.take_append_drop i a, ← List.take_append_drop i b, h, cmpL_same]
  rw [List.take_append_drop]
  have e : (b.take i ++ a.drop i).drop i = a.drop i := by
    rw [← h, List.take_append_drop]
  rw [e]
theorem cmpL_lens (a b : List Nat) (h : a = [] ∨ b = []) : cmpL a b = if a.length < b.length then -1 else if b.length < a.length then 1 else 0 := by
  rcases h with rfl | rfl
  · cases b <;> simp [cmpL]
  · cases a <;> simp [cmpL]
theorem cmpL_neg (a b : List Nat) : cmpL b a = - cmpL a b := by
  induction a generalizing b with
  | nil => cases b <;> simp [cmpL]
  | cons x a ih =>
    cases b with
    | nil => simp [cmpL]
    | cons y b =>
      simp only [cmpL]
      by_cases h1 : x < y
      · rw [if_pos h1, if_neg (by omega), if_pos h1]; rfl
      · by_cases h2 : y < x
        · rw [if_pos h2, if_neg h1, if_pos h2]
        · rw [if_neg h1, if_neg h2, if_neg h2, if_neg h1]; exact ih b
theorem cmpL_zero (a b : List Nat) : cmpL a b = 0 ↔ a = b := by
  induction a generalizing b with
  | nil => cases b <;> simp [cmpL]
  | cons x a ih =>
    cases b with
    | nil => simp [cmpL]
    | cons y b =>
      simp only [cmpL]
      by_cases h1 : x < y
      · rw [if_pos h1]; simp; omega
      · by_cases h2 : y < x
        · rw [if_neg h1, if_pos h2]; simp; omega
        · rw [if_neg h1, if_neg h2, ih b]
          obtain rfl : x = y := by omega
          simp
theorem cmpL_range (a b : List Nat) : cmpL a b = -1 ∨ cmpL a b = 0 ∨ cmpL a b = 1 := by
  induction a generalizing b with
  | nil => cases b <;> simp [cmpL]
  | cons x a ih =>
    cases b with
    | nil => simp [cmpL]
    | cons y b =>
      simp only [cmpL]
      by_cases h1 : x < y
      · rw [if_pos h1]; exact Or.inl rfl
      · by_cases h2 : y < x
        · rw [if_neg h1, if_pos h2]; exact Or.inr (Or.inr rfl)
        · rw [if_neg h1, if_neg h2]; exact ih b
theorem cmp_val : ∀ (a b : List Nat), a.length = b.length → Sm.allB a → Sm.allB b → (cmpL a b < 0 ↔ val a < val b)
  | [], [], _, _, _ => by simp [cmpL, val]
  | [], _ :: _, h, _, _ => by simp at h
  | _ :: _, [], h, _, _ => by simp at h
  | x :: a, y :: b, h, ha, hb => by
    have hl : a.length = b.length := by simpa using h
    have ha' : Sm.allB a := fun z hz => ha z (by simp [hz])
    have hb' : Sm.allB b := fun z hz => hb z (by simp [hz])
    have ih := cmp_val a b hl ha' hb'
    have va := val_lt ha'
    have vb := val_lt hb'
    rw [val_cons, val_cons, hl]
    rw [hl] at va
    simp only [cmpL]
    generalize 256 ^ b.length = P at *
    by_cases h1 : x < y
    · rw [if_pos h1]
      have : (x + 1) * P ≤ y * P := Nat.mul_le_mul_right _ h1
      rw [Nat.add_mul] at this
      constructor
      · intro _; omega
      · intro _; decide
    · by_cases h2 : y < x
      · rw [if_neg h1, if_pos h2]
        have : (y + 1) * P ≤ x * P := Nat.mul_le_mul_right _ h2
        rw [Nat.add_mul] at this
        constructor
        · intro h; exact absurd h (by decide)
        · intro h; omega
      · rw [if_neg h1, if_neg h2, ih]
        obtain rfl : x = y := by omega
        omega
/-- The lesser number's bytes stand ahead. -/
theorem num_order {n m : Int} (h1 : -9223372036854775808 ≤ n) (h2 : n ≤ 9223372036854775807) (k1 : -9223372036854775808 ≤ m) (k2 : m ≤ 9223372036854775807) : cmpL (num n) (num m) < 0 ↔ n < m := by
  rw [cmp_val _ _ (by rw [num_length, num_length]) (num_ok n) (num_ok m)]
  unfold num
  rw [val_be, val_be]
  obtain ⟨a1, a2⟩ := z64_lt h1 h2
  obtain ⟨b1, b2⟩ := z64_lt k1 k2
  rw [Nat.mod_eq_of_lt (by omega), Nat.mod_eq_of_lt (by omega)]
  omega
end Go.Proofs.Ytcekcoekbgdkaaa.Cm
