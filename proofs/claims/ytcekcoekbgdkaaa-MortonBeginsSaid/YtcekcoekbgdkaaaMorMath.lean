/- Plain mathematics of package morton: bits of numbers, codes of points. No program is named here. -/
import Derived.Test.YtcekcoekbgdkaaaCodMath
namespace Go.Proofs.Ytcekcoekbgdkaaa.Mm
/-- The number that bits make, the highest first. -/
def bin (g : Nat → Nat) : Nat → Nat
  | 0 => 0
  | n + 1 => 2 * bin g n + g n
theorem bin_succ (g : Nat → Nat) (n : Nat) : bin g (n + 1) = 2 * bin g n + g n := rfl
theorem bin_congr {g h : Nat → Nat} : ∀ n, (∀ i, i < n → g i = h i) → bin g n = bin h n
  | 0, _ => rfl
  | n + 1, e => by rw [bin_succ, bin_succ, bin_congr n (fun i hi => e i (by omega)), e n (by omega)]
theorem bin_lt {g : Nat → Nat} (h : ∀ i, g i < 2) : ∀ n, bin g n < 2 ^ n
  | 0 => by simp [bin]
  | n + 1 => by
    have h1 := bin_lt h n
    have h2 := h n
    rw [bin_succ, Nat.pow_succ]
    omega
theorem div_pow_succ (x k : Nat) : x / 2 ^ (k + 1) = x / 2 / 2 ^ k := by
  rw [Nat.pow_succ, Nat.mul_comm, ← Nat.div_div_eq_div_mul]
theorem bin_bit {g : Nat → Nat} (h : ∀ i, g i < 2) : ∀ n i, i < n → bin g n / 2 ^ (n - 1 - i) % 2 = g i
  | n + 1, i, hi => by
    have h2 := h n
    by_cases c : i = n
    · subst c
      rw [show i + 1 - 1 - i = 0 from by omega, bin_succ, Nat.pow_zero, Nat.div_one]
      omega
    · rw [show n + 1 - 1 - i = (n - 1 - i) + 1 from by omega, div_pow_succ, bin_succ, show (2 * bin g n + g n) / 2 = bin g n from by omega]
      exact bin_bit h n i (by omega)
/-- The first n of a number's m bits. -/
theorem bin_top (m x : Nat) (hx : x < 2 ^ m) : ∀ n, n ≤ m → bin (fun l => x / 2 ^ (m - 1 - l) % 2) n = x / 2 ^ (m - n)
  | 0, _ => by rw [Nat.sub_zero, Nat.div_eq_of_lt hx]; rfl
  | n + 1, h => by
    rw [bin_succ, bin_top m x hx n (by omega)]
    rw [show m - n = (m - 1 - n) + 1 from by omega, show m - (n + 1) = m - 1 - n from by omega, Nat.pow_succ, ← Nat.div_div_eq_div_mul]
    omega
theorem bin_lex {f h : Nat → Nat} (hf : ∀ i, f i < 2) (hh : ∀ i, h i < 2) {r : Nat} (he : ∀ i, i < r → f i = h i) (hr : f r < h r) : ∀ n, r < n → bin f n < bin h n
  | n + 1, hn => by
    have h1 := hf n
    have h2 := hh n
    rw [bin_succ, bin_succ]
    by_cases c : r = n
    · subst c
      rw [bin_congr r he]
      omega
    · have := bin_lex hf hh he hr n (by omega)
      omega
/-- Bytes of bits. -/
def bytesOf (f : Nat → Nat) (n : Nat) : List Nat := (List.range n).map fun j => bin (fun k => f (8 * j + k)) 8
theorem bytesOf_length (f : Nat → Nat) (n : Nat) : (bytesOf f n).length = n := by simp [bytesOf]
theorem bytesOf_get (f : Nat → Nat) (n j : Nat) (h : j < n) : (bytesOf f n).getD j 0 = bin (fun k => f (8 * j + k)) 8 := by
  simp [bytesOf, List.getD_eq_getElem?_getD, h]
theorem bytesOf_ok {f : Nat → Nat} (hf : ∀ i, f i < 2) (n : Nat) : Sm.allB (bytesOf f n) := by
  intro x hx
  simp only [bytesOf, List.mem_map] at hx
  obtain ⟨j, _, rfl⟩ := hx
  exact bin_lt (fun k => hf (8 * j + k)) 8
theorem bytesOf_congr {f h : Nat → Nat} (n : Nat) (e : ∀ i, i < 8 * n → f i = h i) : bytesOf f n = bytesOf h n := by
  unfold bytesOf
  apply List.map_congr_left
  intro j hj
  rw [List.mem_range] at hj
  exact bin_congr 8 fun k hk => e _ (by omega)
/-- The bit number i of bytes. -/
def bitOf (B : List Nat) (i : Nat) : Nat := B.getD (i / 8) 0 / 2 ^ (7 - i % 8) % 2
theorem bitOf_lt (B : List Nat) (i : Nat) : bitOf B i < 2 := Nat.mod_lt _ (by omega)
theorem bitOf_bytesOf {f : Nat → Nat} (hf : ∀ i, f i < 2) (n i : Nat) (h : i < 8 * n) : bitOf (bytesOf f n) i = f i := by
  unfold bitOf
  rw [bytesOf_get f n _ (by omega)]
  have := bin_bit (g := fun k => f (8 * (i / 8) + k)) (fun k => hf _) 8 (i % 8) (by omega)
  rw [show 8 - 1 - i % 8 = 7 - i % 8 from by omega] at this
  rw [this]
  rw [show 8 * (i / 8) + i % 8 = i from by omega]
theorem ext_getD {A B : List Nat} (h : A.length = B.length) (e : ∀ i, i < A.length → A.getD i 0 = B.getD i 0) : A = B := by
  apply List.ext_getElem h
  intro i h1 h2
  have := e i h1
  simpa [List.getD_eq_getElem?_getD, h1, h2] using this
theorem bytesOf_bitOf {B : List Nat} (hB : Sm.allB B) (n : Nat) (hn : B.length = n) : bytesOf (bitOf B) n = B := by
  apply ext_getD (by rw [bytesOf_length, hn])
  intro j hj
  rw [bytesOf_length] at hj
  rw [bytesOf_get _ _ _ hj]
  have hx : B.getD j 0 < 2 ^ 8 := Sm.getD_lt hB (by omega) j
  have := bin_top 8 (B.getD j 0) hx 8 (Nat.le_refl _)
  rw [Nat.sub_self, Nat.pow_zero, Nat.div_one] at this
  rw [← this]
  refine bin_congr 8 fun k hk => ?_
  show B.getD ((8 * j + k) / 8) 0 / 2 ^ (7 - (8 * j + k) % 8) % 2 = _
  rw [show (8 * j + k) / 8 = j from by omega, show (8 * j + k) % 8 = k from by omega]
/-- One bit more. -/
def upd (g : Nat → Nat) (p b : Nat) : Nat → Nat := fun t => if t = p then b else g t
theorem upd_lt {g : Nat → Nat} (h : ∀ i, g i < 2) {p b : Nat} (hb : b < 2) (i : Nat) : upd g p b i < 2 := by
  unfold upd; split
  · exact hb
  · exact h i
theorem bin_upd {g : Nat → Nat} (r b : Nat) (h0 : g r = 0) : ∀ n, r < n → bin (upd g r b) n = bin g n + b * 2 ^ (n - 1 - r)
  | n + 1, hn => by
    rw [bin_succ, bin_succ]
    by_cases c : r = n
    · subst c
      rw [show r + 1 - 1 - r = 0 from by omega, Nat.pow_zero, bin_congr (h := g) r (fun i hi => by unfold upd; rw [if_neg (by omega)])]
      unfold upd
      rw [if_pos rfl, h0]
      omega
    · rw [bin_upd r b h0 n (by omega), show n + 1 - 1 - r = (n - 1 - r) + 1 from by omega, Nat.pow_succ]
      have : upd g r b n = g n := by unfold upd; rw [if_neg (by omega)]
      rw [this, ← Nat.mul_assoc]
      omega
/-- A bit that is put into a byte. -/
theorem or_bit (X : Nat) (s b : Nat) (hx : X / 2 ^ s % 2 = 0) (hb : b < 2) : X ||| (b * 2 ^ s) = X + b * 2 ^ s := by
  rcases (show b = 0 ∨ b = 1 from by omega) with rfl | rfl
  · simp
  · apply Nat.eq_of_testBit_eq
    intro i
    rw [Nat.one_mul, Nat.testBit_or, Nat.testBit_two_pow]
    have hX : X = 2 ^ (s + 1) * (X / 2 ^ s / 2) + X % 2 ^ s := by
      rw [Nat.pow_succ, Nat.mul_assoc, show 2 * (X / 2 ^ s / 2) = X / 2 ^ s from by omega]
      exact (Nat.div_add_mod X (2 ^ s)).symm
    have hl : X % 2 ^ s < 2 ^ s := Nat.mod_lt _ (Nat.two_pow_pos s)
    have hl2 : X % 2 ^ s < 2 ^ (s + 1) := by rw [Nat.pow_succ]; omega
    have hl3 : X % 2 ^ s + 2 ^ s < 2 ^ (s + 1) := by rw [Nat.pow_succ]; omega
    generalize X / 2 ^ s / 2 = a at *
    generalize X % 2 ^ s = c at *
    subst hX
    rw [Nat.add_assoc, Nat.testBit_two_pow_mul_add _ hl2, Nat.testBit_two_pow_mul_add _ hl3]
    by_cases h1 : i < s + 1
    · rw [if_pos h1, if_pos h1]
      by_cases h2 : i = s
      · subst h2
        rw [Nat.add_comm c, Nat.testBit_two_pow_add_eq, Nat.testBit_lt_two_pow hl]
        simp
      · rw [Nat.add_comm c, Nat.testBit_two_pow_add_gt (by omega), decide_eq_false (by omega), Bool.or_false]
    · rw [if_neg h1, if_neg h1, decide_eq_false (by omega), Bool.or_false]
theorem bytesOf_upd {g : Nat → Nat} (hg : ∀ i, g i < 2) (n p b : Nat) (hp : p / 8 < n) (h0 : g p = 0) (hb : b < 2) :
    bytesOf (upd g p b) n = (bytesOf g n).set (p / 8) ((bytesOf g n).getD (p / 8) 0 ||| (b * 2 ^ (7 - p % 8))) := by
  apply ext_getD (by rw [List.length_set, bytesOf_length, bytesOf_length])
  intro j hj
  rw [bytesOf_length] at hj
  rw [bytesOf_get _ _ _ hj, bytesOf_get g n _ hp]
  have hbit := bin_bit (g := fun k => g (8 * (p / 8) + k)) (fun k => hg _) 8 (p % 8) (by omega)
  rw [show 8 * (p / 8) + p % 8 = p from by omega, h0, show 8 - 1 - p % 8 = 7 - p % 8 from by omega] at hbit
  rw [or_bit _ _ _ hbit hb]
  have hu := bin_upd (g := fun k => g (8 * (p / 8) + k)) (p % 8) b (by rw [show 8 * (p / 8) + p % 8 = p from by omega, h0]) 8 (by omega)
  rw [show 8 - 1 - p % 8 = 7 - p % 8 from by omega] at hu
  rw [← hu]
  by_cases c : j = p / 8
  · subst c
    rw [List.getD_eq_getElem?_getD, List.getElem?_set_self (by rw [bytesOf_length]; exact hp)]
    refine bin_congr 8 fun k hk => ?_
    unfold upd
    by_cases e : k = p % 8
    · rw [if_pos e, if_pos (by omega)]
    · rw [if_neg e, if_neg (by omega)]
  · rw [List.getD_eq_getElem?_getD, List.getElem?_set_ne (by omega), ← List.getD_eq_getElem?_getD, bytesOf_get _ _ _ hj]
    refine bin_congr 8 fun k hk => ?_
    unfold upd
    rw [if_neg (by omega)]
/-- The bit number i of a point's code. -/
def cbit (R : List Int) (i : Nat) : Nat := Cm.z64 (R.getD (i % R.length) 0) / 2 ^ (63 - i / R.length) % 2
theorem cbit_lt (R : List Int) (i : Nat) : cbit R i < 2 := Nat.mod_lt _ (by omega)
/-- A point's code. -/
def code (R : List Int) : List Nat := bytesOf (cbit R) (8 * R.length)
theorem code_length (R : List Int) : (code R).length = 8 * R.length := bytesOf_length _ _
theorem code_ok (R : List Int) : Sm.allB (code R) := bytesOf_ok (cbit_lt R) _
theorem code_bit (R : List Int) (i : Nat) (h : i < 64 * R.length) : bitOf (code R) i = cbit R i := bitOf_bytesOf (cbit_lt R) _ _ (by omega)
/-- The number k of d, by bits. -/
def numAt (f : Nat → Nat) (d k : Nat) : Int := (bin (fun l => f (l * d + k)) 64 : Nat) - 9223372036854775808
theorem numAt_in {f : Nat → Nat} (hf : ∀ i, f i < 2) (d k : Nat) : -9223372036854775808 ≤ numAt f d k ∧ numAt f d k ≤ 9223372036854775807 := by
  have := bin_lt (g := fun l => f (l * d + k)) (fun l => hf _) 64
  unfold numAt
  omega
def point (B : List Nat) (d : Nat) : List Int := (List.range d).map (numAt (bitOf B) d)
theorem point_length (B : List Nat) (d : Nat) : (point B d).length = d := by simp [point]
theorem point_get (B : List Nat) (d k : Nat) (h : k < d) : (point B d).getD k 0 = numAt (bitOf B) d k := by
  simp [point, List.getD_eq_getElem?_getD, h]
def inI (R : List Int) : Prop := ∀ x ∈ R, -9223372036854775808 ≤ x ∧ x ≤ 9223372036854775807
theorem inI_get {R : List Int} (h : inI R) (k : Nat) : -9223372036854775808 ≤ R.getD k 0 ∧ R.getD k 0 ≤ 9223372036854775807 := by
  rw [List.getD_eq_getElem?_getD]
  cases e : R[k]? with
  | none => simp
  | some x => simpa using h x (List.mem_of_getElem? e)
theorem point_in (B : List Nat) (d : Nat) : inI (point B d) := by
  intro x hx
  simp only [point, List.mem_map] at hx
  obtain ⟨k, _, rfl⟩ := hx
  exact numAt_in (bitOf_lt B) d k
theorem ext_getI {A B : List Int} (h : A.length = B.length) (e : ∀ i, i < A.length → A.getD i 0 = B.getD i 0) : A = B := by
  apply List.ext_getElem h
  intro i h1 h2
  have := e i h1
  simpa [List.getD_eq_getElem?_getD, h1, h2] using this
theorem z64_in {R : List Int} (h : inI R) (k : Nat) : Cm.z64 (R.getD k 0) < 2 ^ 64 ∧ ((Cm.z64 (R.getD k 0) : Nat) : Int) = R.getD k 0 + 9223372036854775808 := by
  obtain ⟨a, b⟩ := inI_get h k
  exact Cm.z64_lt a b
theorem mul_place {l d k : Nat} (hk : k < d) : (l * d + k) % d = k ∧ (l * d + k) / d = l := by
  constructor
  · rw [Nat.mul_comm, Nat.mul_add_mod, Nat.mod_eq_of_lt hk]
  · rw [Nat.mul_comm, Nat.mul_add_div (by omega), Nat.div_eq_of_lt hk, Nat.add_zero]
theorem place_lt {l d k m : Nat} (hk : k < d) (hl : l < m) : l * d + k < m * d := by
  have : (l + 1) * d ≤ m * d := Nat.mul_le_mul_right _ hl
  rw [Nat.add_mul] at this
  omega
theorem div_lt {i d m : Nat} (h : i < m * d) : i / d < m := by
  rw [Nat.mul_comm] at h
  exact Nat.div_lt_of_lt_mul h
theorem cbit_at (R : List Int) (l k : Nat) (hk : k < R.length) : cbit R (l * R.length + k) = Cm.z64 (R.getD k 0) / 2 ^ (63 - l) % 2 := by
  obtain ⟨a, b⟩ := mul_place (l := l) hk
  unfold cbit
  rw [a, b]
/-- Point of Code is the point. -/
theorem point_code {R : List Int} (hR : inI R) : point (code R) R.length = R := by
  apply ext_getI (point_length _ _)
  intro k hk
  rw [point_length] at hk
  rw [point_get _ _ _ hk]
  obtain ⟨a, b⟩ := z64_in hR k
  have e : bin (fun l => bitOf (code R) (l * R.length + k)) 64 = Cm.z64 (R.getD k 0) := by
    have := bin_top 64 _ a 64 (Nat.le_refl _)
    rw [Nat.sub_self, Nat.pow_zero, Nat.div_one] at this
    rw [← this]
    refine bin_congr 64 fun l hl => ?_
    rw [code_bit R _ (place_lt hk hl), cbit_at R l k hk]
  unfold numAt
  rw [e, b]
  omega
/-- Code of Point is the code. -/
theorem code_point {B : List Nat} (hB : Sm.allB B) (d : Nat) (hd : B.length = 8 * d) : code (point B d) = B := by
  unfold code
  rw [point_length, ← bytesOf_bitOf hB (8 * d) hd]
  have hb := bitOf_lt B
  rw [bytesOf_bitOf hB (8 * d) hd]
  conv => rhs; rw [← bytesOf_bitOf hB (8 * d) hd]
  apply bytesOf_congr
  intro i hi
  have hd0 : 0 < d := by omega
  have hk : i % d < d := Nat.mod_lt _ hd0
  have hl : i / d < 64 := div_lt (by omega)
  have e : i = i / d * d + i % d := by
    have := Nat.div_add_mod i d
    rw [Nat.mul_comm] at this
    exact this.symm
  have c := cbit_at (point B d) (i / d) (i % d) (by rw [point_length]; exact hk)
  rw [point_length, ← e, point_get _ _ _ hk] at c
  rw [c]
  have hz : Cm.z64 (numAt (bitOf B) d (i % d)) = bin (fun l => bitOf B (l * d + i % d)) 64 := by
    unfold Cm.z64 numAt
    omega
  rw [hz]
  have := bin_bit (g := fun l => bitOf B (l * d + i % d)) (fun l => hb _) 64 (i / d) hl
  rw [← e] at this
  exact this
end Go.Proofs.Ytcekcoekbgdkaaa.Mm
