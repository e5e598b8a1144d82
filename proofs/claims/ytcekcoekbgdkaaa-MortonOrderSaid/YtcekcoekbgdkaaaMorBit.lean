/- morton.dimensions, Bit; indentureref05.Bit. -/
import Derived.Test.YtcekcoekbgdkaaaGenInts
import Derived.Test.YtcekcoekbgdkaaaMorMath
import Derived.IntWalk
namespace Go.Proofs.Ytcekcoekbgdkaaa
open Go.RowKit

theorem dim_yes (d : Int) (h1 : 1 ≤ d) (h8 : d ≤ 8) (w : World) : Calls Try.prog 20 #[.int .i64 d] w fun e w' => e = .returned (.bool true) ∧ w' = w := by
  go_enter Try.func20, Try.ntmps20
  go_wp2
  go_ret
  exact ⟨rfl, rfl⟩
theorem dim_no (d : Int) (h : d < 1 ∨ 8 < d) (w : World) : Calls Try.prog 20 #[.int .i64 d] w fun e w' => e = .returned (.bool false) ∧ w' = w := by
  by_cases h1 : 1 ≤ d
  · have h2 : ¬ d ≤ 8 := by omega
    go_enter Try.func20, Try.ntmps20
    go_wp2
    go_ret
    exact ⟨rfl, rfl⟩
  · go_enter Try.func20, Try.ntmps20
    go_wp2
    go_ret
    exact ⟨rfl, rfl⟩
/-- The bit number i of bytes, 0 of one that they haven't. -/
def bitI (B : List Nat) (i : Int) : Nat := if i < 0 then 0 else Mm.bitOf B i.toNat
theorem bitI_neg {B : List Nat} {i : Int} (h : i < 0) : bitI B i = 0 := by unfold bitI; rw [if_pos h]
theorem bitI_far {B : List Nat} {i : Int} (h : (B.length : Int) ≤ i / 8) : bitI B i = 0 := by
  unfold bitI
  by_cases c : i < 0
  · rw [if_pos c]
  · rw [if_neg c]
    unfold Mm.bitOf
    rw [List.getD_eq_getElem?_getD, List.getElem?_eq_none (by omega)]
    simp
theorem bitI_of {B : List Nat} {k : Nat} {i : Int} (h : i = k) : bitI B i = Mm.bitOf B k := by
  subst h
  unfold bitI
  rw [if_neg (by omega), Int.toNat_natCast]
theorem ret_int {k : IntKind} {a b : Int} (h : a = b) : Ending.returned (.int k a) = .returned (.int k b) := by rw [h]
theorem bit_u8 (x r : Nat) (hx : x < 256) (hr : r < 8) : bits .and .u8 ((x : Int) / 2 ^ r) 1 = ((x / 2 ^ r % 2 : Nat) : Int) := by
  have h1 : x / 2 ^ r < 256 := Nat.lt_of_le_of_lt (Nat.div_le_self _ _) hx
  have h2 : ((x : Int) / 2 ^ r) = ((x / 2 ^ r : Nat) : Int) := by simp
  rw [h2]
  have := u8_and_nat (x / 2 ^ r) 1 h1 (by omega)
  refine Eq.trans this ?_
  rw [Nat.and_one_is_mod]
set_option maxRecDepth 100000 in
set_option maxHeartbeats 1000000 in
theorem bit_any (B : List Nat) (p : Option Addr) (n c : Nat) (i : Int) (w : World) (h : Bytes w p n c B) (h1 : -9223372036854775808 ≤ i) (h2 : i ≤ 9223372036854775807) :
    Calls Try.prog 13 #[.slice p n c, .int .i64 i] w fun e w' => e = .returned (.int .u8 (bitI B i : Nat)) ∧ w' = w := by
  have H := Lib.hid h
  by_cases hneg : i < 0
  · have HB := Lib.hid (bitI_neg (B := B) hneg)
    clear h
    go_enter Try.func13, Try.ntmps13
    go_wp2_with fail
    go_ret
    exact ⟨by rw [HB.out]; rfl, rfl⟩
  obtain ⟨k, rfl⟩ : ∃ k : Nat, i = k := ⟨i.toNat, by omega⟩
  have hsz := h.size
  by_cases hfar : (n : Int) ≤ (k : Int) / 8
  · have HB := Lib.hid (bitI_far (B := B) (i := k) (by rw [← hsz]; exact hfar))
    clear h hsz
    go_enter Try.func13, Try.ntmps13
    go_wp2_with fail
    go_ret
    exact ⟨by rw [HB.out]; rfl, rfl⟩
  · have hl : k / 8 < B.length := by omega
    obtain ⟨g, o, rfl, hx⟩ := h.ne (by intro e; rw [e] at hl; simp at hl)
    have hc := hx (k / 8) hl
    have hb := Sm.getD_lt h.ok (by omega) (k / 8)
    have HB := Lib.hid (bitI_of (B := B) (k := k) (i := k) rfl)
    have HD := Lib.hid (show Mm.bitOf B k = B.getD (k / 8) 0 / 2 ^ (7 - k % 8) % 2 from rfl)
    clear h hsz hx
    generalize B.getD (k / 8) 0 = x at *
    go_enter Try.func13, Try.ntmps13
    go_wp2_with fail
    go_ret
    exact ⟨ret_int (by rw [HB.out, HD.out]; exact bit_u8 x _ hb (by omega)), rfl⟩
set_option maxRecDepth 100000 in
set_option maxHeartbeats 1000000 in
theorem refbit_any (B : List Nat) (p : Option Addr) (n c : Nat) (i : Int) (w : World) (h : Bytes w p n c B) (hn : n ≤ 1000000) (h1 : -9223372036854775808 ≤ i) (h2 : i ≤ 9223372036854775807) :
    Calls Try.prog 14 #[.slice p n c, .int .i64 i] w fun e w' => e = .returned (.int .u8 (bitI B i : Nat)) ∧ w' = w := by
  have H := Lib.hid h
  by_cases hneg : i < 0
  · have HB := Lib.hid (bitI_neg (B := B) hneg)
    clear h
    go_enter Try.func14, Try.ntmps14
    go_wp2_with fail
    go_ret
    exact ⟨by rw [HB.out]; rfl, rfl⟩
  obtain ⟨k, rfl⟩ : ∃ k : Nat, i = k := ⟨i.toNat, by omega⟩
  have hsz := h.size
  by_cases hfar : 8 * (n : Int) ≤ (k : Int)
  · have HB := Lib.hid (bitI_far (B := B) (i := k) (by rw [← hsz]; omega))
    clear h hsz
    go_enter Try.func14, Try.ntmps14
    go_wp2_with fail
    go_ret
    exact ⟨by rw [HB.out]; rfl, rfl⟩
  · have hl : k / 8 < B.length := by omega
    obtain ⟨g, o, rfl, hx⟩ := h.ne (by intro e; rw [e] at hl; simp at hl)
    have hc := hx (k / 8) hl
    have hb := Sm.getD_lt h.ok (by omega) (k / 8)
    have HB := Lib.hid (bitI_of (B := B) (k := k) (i := k) rfl)
    have HD := Lib.hid (show Mm.bitOf B k = B.getD (k / 8) 0 / 2 ^ (7 - k % 8) % 2 from rfl)
    have i1 : (k : Int) / 8 < n := by omega
    clear h hsz hx
    generalize B.getD (k / 8) 0 = x at *
    go_enter Try.func14, Try.ntmps14
    go_wp2_with fail
    go_ret
    exact ⟨ret_int (by rw [HB.out, HD.out]; rfl), rfl⟩
end Go.Proofs.Ytcekcoekbgdkaaa
