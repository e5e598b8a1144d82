/- indentureref05.Bits. -/
import Derived.Test.YtcekcoekbgdkaaaMorCode
namespace Go.Proofs.Ytcekcoekbgdkaaa
open Go.RowKit

/-- The first m bits of a point's code. -/
def bl (R : List Int) (m : Nat) : List Nat := (List.range m).map (Mm.cbit R)
theorem bl_length (R : List Int) (m : Nat) : (bl R m).length = m := by simp [bl]
theorem bl_succ (R : List Int) (m : Nat) : bl R (m + 1) = bl R m ++ [Mm.cbit R m] := by simp [bl, List.range_succ]
theorem bl_get (R : List Int) (m i : Nat) (h : i < m) : (bl R m).getD i 0 = Mm.cbit R i := by
  simp [bl, List.getD_eq_getElem?_getD, h]
theorem bl_ok (R : List Int) (m : Nat) : Sm.allB (bl R m) := fun x hx => by
  simp only [bl, List.mem_map] at hx
  obtain ⟨i, _, rfl⟩ := hx
  have := Mm.cbit_lt R i
  omega
theorem wrap_z64 {x : Int} (h1 : -9223372036854775808 ≤ x) (h2 : x ≤ 9223372036854775807) : IntKind.u64.wrap (IntKind.u64.wrap x + 9223372036854775808) = ((Cm.z64 x : Nat) : Int) := by
  rw [IntKind.wrap_u64, IntKind.wrap_u64]
  have := (Cm.z64_lt h1 h2).2
  omega
def BRel (w : World) (R : List Int) (n : Nat) (v b : Value) (wr : World) : Prop :=
  ∃ l : Nat, l ≤ 64 ∧ b = .int .i64 (63 - (l : Int)) ∧ wr.ownsRow w.heap.size 5 1 v (l * n) (vals (bl R (l * n))) ∧ Below w.heap.size w wr
def BRel2 (w : World) (R : List Int) (n l : Nat) (v i : Value) (wr : World) : Prop :=
  ∃ k : Nat, k ≤ n ∧ i = .int .i64 k ∧ wr.ownsRow w.heap.size 5 1 v (l * n + k) (vals (bl R (l * n + k))) ∧ Below w.heap.size w wr
set_option maxRecDepth 100000 in
set_option maxHeartbeats 4000000 in
theorem bits_any (R : List Int) (p : Option Addr) (n c : Nat) (w : World) (h : Ints w p n c R) (h8 : n ≤ 8) :
    Calls Try.prog 23 #[.slice p n c] w fun e w' => ∃ v, e = .returned v ∧ w'.ownsRow w.heap.size 5 1 v (64 * n) (vals (bl R (64 * n))) ∧ Below w.heap.size w w' := by
  obtain ⟨i5, hi, hi0, hi1, hi2⟩ := info_parts I5
  have HI := Lib.hid hi
  have HI0 := Lib.hid hi0
  have HI1 := Lib.hid hi1
  have HI2 := Lib.hid hi2
  have HL := Lib.hid h
  have HSZ := Lib.hid h.size
  have HIN := Lib.hid (show Mm.inI R from h.ok)
  clear hi hi0 hi1 hi2 h
  go_enter Try.func23, Try.ntmps23
  go_wp2_with fail
  go_loopw [3, 4] (fun v b wr => BRel w R n v b wr) (fun _ b _ => (intOf b + 1).toNat)
  case atStart => exact ⟨0, by omega, rfl, by rw [Nat.zero_mul]; exact World.ownsRow_nil w _ _ _, Below.refl _ _⟩
  case round =>
    obtain ⟨l, hl, rfl, ho, hb⟩ := hrel
    have HO := Lib.hid ho
    have HB := Lib.hid hb
    clear ho hb
    by_cases hlt : l < 64
    · obtain ⟨j, hj⟩ : ∃ j : Nat, 63 - (l : Int) = j := ⟨63 - l, by omega⟩
      rw [hj]
      have hj2 : 63 - l = j := by omega
      have HJ := Lib.hid hj
      have HJ2 := Lib.hid hj2
      have j0 : j < 64 := by omega
      clear hj hj2
      go_wp2_with fail
      go_loopw [3, 5] (fun v i wr => BRel2 w R n l v i wr) (fun _ i _ => n - (intOf i).toNat)
      case atStart => exact ⟨0, by omega, rfl, HO.out, HB.out⟩
      case round =>
        obtain ⟨k, hk, rfl, ho2, hb2⟩ := hrel
        have HO2 := Lib.hid ho2
        have HB2 := Lib.hid hb2
        clear ho2 hb2
        by_cases hkn : k < n
        · obtain ⟨gx, o, rfl, hcx⟩ := (HL.out.later HB2.out).cell k hkn
          have i1 : (0 : Int) ≤ k ∧ (k : Int) < n := by omega
          have hin := Mm.inI_get HIN.out k
          have hsg := wrap_z64 hin.1 hin.2
          have hcb := Mm.cbit_at R l k (by rw [← HSZ.out]; exact hkn)
          rw [← HSZ.out, HJ2.out] at hcb
          have HCB := Lib.hid hcb
          have hz := (Cm.z64_lt hin.1 hin.2).1
          clear hcb hin
          generalize R.getD k 0 = x at *
          generalize Cm.z64 x = z at *
          have m1 : l * n + k < 64 * n := Mm.place_lt hkn hlt
          obtain ⟨y, hy⟩ : ∃ y, y = z / 2 ^ j := ⟨_, rfl⟩
          have hsh : (z : Int) / 2 ^ j = (y : Int) := by rw [hy]; simp
          rw [← hy] at HCB
          clear hy
          go_upto_region 9 with fail
          clear hsg hcx
          have hbs := HB2.out.size
          have hw64 : l * n + k < 512 := by omega
          have HBS := Lib.hid hbs
          clear hbs
          go_wp2_with (at_builtin; refine wpList_append_own _ (by rfl) (.tmp 23) (.tmp 30) 25 (by rfl) w.heap.size 5 i5 (.int .u8 0) 1 1 A22 HI.out HI0.out HI1.out HI2.out (by rfl) (by decide) _ (l * n + k) _ (by rfl) (HO2.out.alloc _) ⟨wr.heap.size, 0, none⟩ 1 1 (vals [y % 2]) (by rfl) (by rfl) (cells_of_row (L := [y % 2]) (heap_alloc_new wr _)) (vals_one _) (by unfold maxLen; omega) (by omega) (by have := HBS.out; simp; omega) ?_; intro v4 w4 hown4 hgrow4 _)
          have hb4 : Below w.heap.size w w4 := (HB2.out.alloc HB2.out.size _).grown hgrow4 (by have := HBS.out; simp; omega) (fun i hi => ((HO2.out.alloc (.cells (u8s [y % 2]) 5)).lt i hi).1)
          have e : w4.ownsRow w.heap.size 5 1 v4 (l * n + (k + 1)) (vals (bl R (l * n + (k + 1)))) := by
            rw [← Nat.add_assoc, bl_succ, HCB.out, vals_append]
            exact hown4
          have HE := Lib.hid e
          have HB4 := Lib.hid hb4
          clear hown4 hgrow4 e hb4 hsh
          go_wp2_with fail
          go_roundw
          case rel => exact ⟨k + 1, by omega, by go_num, HE.out, HB4.out⟩
          case measure => simp [intOf]; omega
        · obtain rfl : k = n := by omega
          go_wp2_with fail
          go_roundw
          case rel =>
            refine ⟨l + 1, by omega, ?_, ?_, HB2.out⟩
            · refine congrArg (Value.int .i64) ?_
              have := HJ.out
              omega
            · have := HO2.out
              rw [Nat.add_mul, Nat.one_mul]
              exact this
          case measure => simp [intOf]
    · obtain rfl : l = 64 := by omega
      go_wp2_with fail
      go_ret
      exact ⟨_, rfl, HO.out, HB.out⟩
end Go.Proofs.Ytcekcoekbgdkaaa
