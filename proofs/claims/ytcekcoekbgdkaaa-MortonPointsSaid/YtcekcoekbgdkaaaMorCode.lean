/- morton.Code. -/
import Derived.Test.YtcekcoekbgdkaaaMorPut
import Derived.Test.YtcekcoekbgdkaaaMorMask
import Derived.Test.YtcekcoekbgdkaaaGenTx
namespace Go.Proofs.Ytcekcoekbgdkaaa
open Go.RowKit

theorem make_u8 (m : Nat) (hm : m ≤ 1000) (w : World) : (Instr.makeSlice 25 (.int .i64 m) (.int .i64 m)).run Try.prog w = .ok (.slice (some ⟨w.heap.size, 0, none⟩) m m) (w.alloc (.cells (u8s (zeros m)) 5)) := by
  obtain ⟨i5, hi, hi0, hi1, hi2⟩ := info_parts I5
  have := run_make (P := Try.prog) w 25 5 i5 _ A22 hi hi0 .i64 .i64 m m (by omega) (by omega) (by rw [hi2]; omega) (by omega)
  rw [this, hi1]
  simp only [Int.toNat_natCast, Nat.mul_one, made_zeros]
/-- What is told of a code: bytes of its own. -/
def CodePost (w : World) (n : Nat) (B : List Nat) (e : Ending) (w' : World) : Prop :=
  ∃ g, e = .returned (.tuple #[.slice (some ⟨g, 0, none⟩) (8 * n : Nat) (8 * n : Nat), .int .i64 0]) ∧ w.heap.size ≤ g ∧ w'.heap[g]? = some (.cells (u8s B) 5 (0, 0)) ∧ Below w.heap.size w w'
theorem code_no (p : Option Addr) (n c : Nat) (w : World) (h : n < 1 ∨ 8 < n) (hn : n ≤ 9223372036854775807) :
    Calls Try.prog 9 #[.slice p n c] w fun e w' => e = .returned (.tuple #[.slice none 0 0, .int .i64 1]) ∧ w' = w := by
  go_enter Try.func9, Try.ntmps9
  go_wp2_with fail
  refine (dim_no n (by omega) _).mono ?_
  rintro e w' ⟨rfl, rfl⟩
  go_wp2_with fail
  go_ret2
  exact ⟨rfl, rfl⟩
theorem bit_u64 (z j : Nat) (hz : z < 18446744073709551616) : IntKind.u8.wrap (bits .and .u64 ((z : Int) / 2 ^ j) 1) = ((z / 2 ^ j % 2 : Nat) : Int) := by
  have h1 : z / 2 ^ j < 18446744073709551616 := Nat.lt_of_le_of_lt (Nat.div_le_self _ _) hz
  have h2 : ((z : Int) / 2 ^ j) = ((z / 2 ^ j : Nat) : Int) := by simp
  have h3 : bits .and .u64 ((z / 2 ^ j : Nat) : Int) 1 = ((z / 2 ^ j &&& 1 : Nat) : Int) := by
    have := u64_and_nat (z / 2 ^ j) 1 h1 (by omega)
    exact this
  rw [h2, h3, Nat.and_one_is_mod, IntKind.wrap_u8']
  omega
def COut (R : List Int) (w1 : World) (g n : Nat) (i : Value) (wr : World) : Prop :=
  ∃ k : Nat, k ≤ n ∧ i = .int .i64 k ∧ PutPost w1 g (Mm.bytesOf (Mm.msk R k 0) (8 * n)) wr
def CIn (R : List Int) (w1 : World) (g n k : Nat) (i : Value) (wr : World) : Prop :=
  ∃ l : Nat, l ≤ 64 ∧ i = .int .i64 l ∧ PutPost w1 g (Mm.bytesOf (Mm.msk R k l) (8 * n)) wr
set_option maxRecDepth 100000 in
set_option maxHeartbeats 4000000 in
theorem code_any (R : List Int) (p : Option Addr) (n c : Nat) (w : World) (h : Ints w p n c R) (h1 : 1 ≤ n) (h8 : n ≤ 8) :
    Calls Try.prog 9 #[.slice p n c] w (CodePost w n (Mm.code R)) := by
  have M1 := make_u8 (8 * n) (by omega) w
  rw [show ((8 * n : Nat) : Int) = 8 * (n : Int) from by omega] at M1
  have hsz := h.size
  have hbe := (Below.refl w.heap.size w).alloc (Nat.le_refl _) (.cells (u8s (zeros (8 * n))) 5)
  have hR := Lib.hid h
  have hrow : PutPost (w.alloc (.cells (u8s (zeros (8 * n))) 5)) w.heap.size (Mm.bytesOf (Mm.msk R 0 0) (8 * n)) (w.alloc (.cells (u8s (zeros (8 * n))) 5)) := by
    rw [hsz, Mm.msk_zero, ← hsz]
    exact ⟨heap_alloc_new w _, rfl, rfl, rfl, Nat.le_refl _, fun _ _ _ => rfl⟩
  have HIN := Lib.hid (show Mm.inI R from h.ok)
  have HSZ := Lib.hid hsz
  clear h hsz
  go_enter Try.func9, Try.ntmps9
  go_wp2_with fail
  refine (dim_yes n (by omega) (by omega) _).mono ?_
  rintro e w' ⟨rfl, rfl⟩
  go_upto_region 4 with fail
  have hlt : w'.heap.size < (w'.alloc (.cells (u8s (zeros (8 * n))) 5)).heap.size := by simp
  generalize w'.alloc (.cells (u8s (zeros (8 * n))) 5) = w1 at *
  obtain ⟨g, hg⟩ : ∃ g, g = w'.heap.size := ⟨_, rfl⟩
  rw [← hg] at hrow hlt ⊢
  have HG := Lib.hid hg
  have HROW := Lib.hid hrow
  have HLT := Lib.hid hlt
  have HBE := Lib.hid hbe
  clear hrow hg M1 hlt hbe
  go_wp2_with fail
  go_loopw [19] (fun i wr => COut R w1 g n i wr) (fun i _ => n - (intOf i).toNat)
  case atStart => exact ⟨0, by omega, rfl, HROW.out⟩
  case round =>
    obtain ⟨k, hk, rfl, hp⟩ := hrel
    have HP := Lib.hid hp
    clear hp HROW
    by_cases hlt : k < n
    · have hb1 : Below w'.heap.size w' wr := grown_below HBE.out HP.out.grown (by rw [HG.out]; exact Nat.le_refl _)
      have hR1 := hR.out.later hb1
      obtain ⟨gx, o, rfl, hcx⟩ := hR1.cell k hlt
      clear hR1 hb1
      have i1 : (0 : Int) ≤ k ∧ (k : Int) < n := by omega
      have hin := Mm.inI_get HIN.out k
      have hsg := Cm.sign_int hin.1 hin.2
      have hz := Cm.z64_lt hin.1 hin.2
      have HST := Lib.hid (fun l hl => Mm.msk_put (R := R) (k := k) (l := l) (by rw [← HSZ.out]; exact hlt) hl)
      generalize R.getD k 0 = x at *
      replace hz := hz.1
      generalize Cm.z64 x = z at *
      clear hin
      go_upto_region 8 with fail
      clear hsg hcx
      go_wp2_with fail
      go_loopw [27] (fun i wr => CIn R w1 g n k i wr) (fun i _ => 64 - (intOf i).toNat)
      case atStart => exact ⟨0, by omega, rfl, HP.out⟩
      case round =>
        obtain ⟨l, hl, rfl, hp⟩ := hrel
        have HQ := Lib.hid hp
        clear hp HP
        by_cases hll : l < 64
        · have m0 : (0 : Int) ≤ (l : Int) * n := Int.mul_nonneg (by omega) (by omega)
          have m1 : l * n + k < 64 * n := Mm.place_lt hlt hll
          have m2 : ((l * n + k : Nat) : Int) = (l : Int) * n + k := by simp
          have m3 : (l : Int) * n + k < 64 * n := by omega
          have HM := Lib.hid m2
          clear m2
          go_upto_region 11 with fail
          go_wp2_with fail
          refine (put_at _ g (8 * n) (8 * n) (l * n + k) (z / 2 ^ (63 - l) % 2) _ _ wr HQ.out.row (Mm.bytesOf_ok (Mm.msk_lt R k l) _) (Mm.bytesOf_length _ _) (by omega) (Nat.mod_lt _ (by omega)) (by omega) HM.out.symm ?hb).mono ?_
          case hb => exact bit_u64 z (63 - l) hz
          rintro e w5 ⟨rfl, hq⟩
          have HQ2 := Lib.hid hq
          clear hq
          go_wp2_with fail
          go_roundw
          case rel =>
            have hst := HST.out l hll
            rw [← HSZ.out] at hst
            exact ⟨l + 1, by omega, by go_num, by rw [← hst]; exact HQ2.out.row, grown_twice HQ.out.grown HQ2.out.grown⟩
          case measure => simp [intOf]; omega
        · obtain rfl : l = 64 := by omega
          have hrow := Mm.msk_row R k
          rw [← HSZ.out] at hrow
          have HE := Lib.hid hrow
          clear hrow
          go_wp2_with fail
          go_roundw
          case rel => exact ⟨k + 1, by omega, by go_num, by rw [← HE.out]; exact HQ.out⟩
          case measure => simp [intOf]; omega
    · obtain rfl : k = n := by omega
      have hb1 : Below w'.heap.size w' wr := grown_below HBE.out HP.out.grown (by rw [HG.out]; exact Nat.le_refl _)
      have hend := Mm.msk_end R
      rw [← HSZ.out] at hend
      have hrow := HP.out.row
      rw [hend] at hrow
      have HR1 := Lib.hid hrow
      have HB1 := Lib.hid hb1
      clear hend hrow hb1
      go_wp2_with fail
      go_ret2
      exact ⟨g, by rfl, by rw [HG.out]; exact Nat.le_refl _, HR1.out, HB1.out⟩
end Go.Proofs.Ytcekcoekbgdkaaa
