/- morton.Point. -/
import Derived.Test.YtcekcoekbgdkaaaMorCode
namespace Go.Proofs.Ytcekcoekbgdkaaa
open Go.RowKit

def i64s (L : List Int) : Array Value := (L.map (Value.int .i64)).toArray
theorem i64s_get (L : List Int) (i : Nat) (h : i < L.length) : (i64s L)[i]? = some (.int .i64 (L.getD i 0)) := by
  simp [i64s, List.getD_eq_getElem?_getD, List.getElem?_eq_getElem h]
theorem i64s_put (L : List Int) (k : Nat) (x : Int) : (i64s L).setIfInBounds k (.int .i64 x) = i64s (L.set k x) := by
  apply Array.ext'
  simp [i64s, List.map_set]
theorem i64s_ints {w : World} {g : Nat} {L : List Int} {t : TypeId} {fr : Nat × Nat} (hg : w.heap[g]? = some (.cells (i64s L) t fr)) (hL : Mm.inI L) : Ints w (some ⟨g, 0, none⟩) L.length L.length L :=
  ⟨rfl, Nat.le_refl _, hL, Or.inr ⟨g, 0, rfl, fun i hi => by rw [Nat.zero_add, cell_of_row w g i _ t fr hg, i64s_get L i hi]⟩⟩
theorem made_i64 (n : Nat) : madeCells (Value.cells (.int .i64 0)) n = i64s (List.replicate n 0) := by
  apply Array.ext
  · simp [size_madeCells, i64s]
  · intro i h1 h2
    simp [madeCells, i64s, Value.cells, Nat.mod_one]
theorem I2 : (Try.prog.info? 2).map (fun i => (i.zero, i.size, i.bytes)) = some (some (.int .i64 0), 1, 8) := by kernel_rfl
theorem URw : Try.prog.underlying 23 = some (.slice 2) := by kernel_rfl
theorem make_row (m : Nat) (hm : m ≤ 1000) (w : World) : (Instr.makeSlice 23 (.int .i64 m) (.int .i64 m)).run Try.prog w = .ok (.slice (some ⟨w.heap.size, 0, none⟩) m m) (w.alloc (.cells (i64s (List.replicate m 0)) 2)) := by
  obtain ⟨i5, hi, hi0, hi1, hi2⟩ := info_parts I2
  have := run_make (P := Try.prog) w 23 2 i5 _ URw hi hi0 .i64 .i64 m m (by omega) (by omega) (by rw [hi2]; omega) (by omega)
  rw [this, hi1]
  simp only [Int.toNat_natCast, Nat.mul_one, made_i64]
/-- The first k of a point's numbers. -/
def ptk (B : List Nat) (d k : Nat) : List Int := (List.range d).map fun j => if j < k then Mm.numAt (Mm.bitOf B) d j else 0
theorem ptk_length (B : List Nat) (d k : Nat) : (ptk B d k).length = d := by simp [ptk]
theorem ptk_get (B : List Nat) (d k j : Nat) (h : j < d) : (ptk B d k).getD j 0 = if j < k then Mm.numAt (Mm.bitOf B) d j else 0 := by
  simp [ptk, List.getD_eq_getElem?_getD, h]
theorem ptk_zero (B : List Nat) (d : Nat) : ptk B d 0 = List.replicate d 0 := by
  apply Mm.ext_getI (by rw [ptk_length, List.length_replicate])
  intro i hi
  rw [ptk_length] at hi
  rw [ptk_get _ _ _ _ hi, if_neg (by omega)]
  simp [List.getD_eq_getElem?_getD, hi]
theorem ptk_step (B : List Nat) (d k : Nat) (hk : k < d) : (ptk B d k).set k (Mm.numAt (Mm.bitOf B) d k) = ptk B d (k + 1) := by
  apply Mm.ext_getI (by rw [List.length_set, ptk_length, ptk_length])
  intro i hi
  rw [List.length_set, ptk_length] at hi
  rw [ptk_get _ _ _ _ hi]
  by_cases c : i = k
  · subst c
    rw [if_pos (by omega), List.getD_eq_getElem?_getD, List.getElem?_set_self (by rw [ptk_length]; exact hk)]
    rfl
  · rw [List.getD_eq_getElem?_getD, List.getElem?_set_ne (by omega), ← List.getD_eq_getElem?_getD, ptk_get _ _ _ _ hi]
    by_cases e : i < k
    · rw [if_pos e, if_pos (by omega)]
    · rw [if_neg e, if_neg (by omega)]
theorem ptk_end (B : List Nat) (d : Nat) : ptk B d d = Mm.point B d := by
  unfold ptk Mm.point
  apply List.map_congr_left
  intro j hj
  rw [List.mem_range] at hj
  rw [if_pos hj]
def PointPost (w : World) (d : Nat) (L : List Int) (e : Ending) (w' : World) : Prop :=
  ∃ q c, e = .returned (.tuple #[.slice q d c, .int .i64 0]) ∧ Ints w' q d c L ∧ Below w.heap.size w w'
theorem point_arg (p : Option Addr) (n c : Nat) (d : Int) (w : World) (h : d < 1 ∨ 8 < d) :
    Calls Try.prog 10 #[.slice p n c, .int .i64 d] w fun e w' => e = .returned (.tuple #[.slice none 0 0, .int .i64 1]) ∧ w' = w := by
  go_enter Try.func10, Try.ntmps10
  go_wp2_with fail
  refine (dim_no d h _).mono ?_
  rintro e w' ⟨rfl, rfl⟩
  go_wp2_with fail
  go_ret2
  exact ⟨rfl, rfl⟩
theorem point_form (p : Option Addr) (n c : Nat) (d : Int) (w : World) (h1 : 1 ≤ d) (h8 : d ≤ 8) (h : ¬ (n : Int) = 8 * d) :
    Calls Try.prog 10 #[.slice p n c, .int .i64 d] w fun e w' => e = .returned (.tuple #[.slice none 0 0, .int .i64 21]) ∧ w' = w := by
  go_enter Try.func10, Try.ntmps10
  go_wp2_with fail
  refine (dim_yes d h1 h8 _).mono ?_
  rintro e w' ⟨rfl, rfl⟩
  go_wp2_with fail
  go_ret2
  exact ⟨rfl, rfl⟩
theorem or_u64 (a b : Nat) (ha : a < 9223372036854775808) (hb : b < 2) : bits .or .u64 ((a : Int) * 2) (b : Int) = ((2 * a + b : Nat) : Int) := by
  have h1 : ((a : Int) * 2) = ((2 * a : Nat) : Int) := by omega
  rw [h1]
  have := u64_or_nat (2 * a) b (by omega) (by omega)
  refine Eq.trans this ?_
  rw [nat_join 1 (2 * a) b (by omega) (by omega)]
theorem num_i64 (a : Nat) (ha : a < 18446744073709551616) : IntKind.i64.wrap (bits .xor .u64 (a : Int) 9223372036854775808) = (a : Int) - 9223372036854775808 := by
  by_cases h : a < 9223372036854775808
  · have := u64_xor_nat a 9223372036854775808 (by omega) (by omega)
    have e : bits .xor .u64 (a : Int) 9223372036854775808 = ((9223372036854775808 + a : Nat) : Int) := by
      refine Eq.trans this ?_
      have e2 : a ^^^ 9223372036854775808 = 9223372036854775808 + a := Cm.xor63_lo (by omega)
      rw [e2]
    rw [e, IntKind.wrap_i64]
    omega
  · obtain ⟨x, rfl⟩ : ∃ x, a = 9223372036854775808 + x := ⟨a - 9223372036854775808, by omega⟩
    have := u64_xor_nat (9223372036854775808 + x) 9223372036854775808 (by omega) (by omega)
    have e : bits .xor .u64 ((9223372036854775808 + x : Nat) : Int) 9223372036854775808 = (x : Int) := by
      refine Eq.trans this ?_
      have e2 : (9223372036854775808 + x) ^^^ 9223372036854775808 = x := Cm.xor63_hi (by omega)
      rw [e2]
    rw [e, IntKind.wrap_i64]
    omega
structure IPost (w : World) (g : Nat) (L : List Int) (w' : World) : Prop where
  row : w'.heap[g]? = some (.cells (i64s L) 2 (0, 0))
  grown : w.grownBy w' (some g)
def POut (B : List Nat) (w1 : World) (g d : Nat) (i : Value) (wr : World) : Prop := ∃ k : Nat, k ≤ d ∧ i = .int .i64 k ∧ IPost w1 g (ptk B d k) wr
def PIn (B : List Nat) (d k : Nat) (n i : Value) : Prop := ∃ l : Nat, l ≤ 64 ∧ i = .int .i64 l ∧ n = .int .u64 (Mm.bin (fun l => Mm.bitOf B (l * d + k)) l : Nat)
set_option maxRecDepth 100000 in
set_option maxHeartbeats 4000000 in
theorem point_any (B : List Nat) (p : Option Addr) (n c d : Nat) (w : World) (h : Bytes w p n c B) (h1 : 1 ≤ d) (h8 : d ≤ 8) (hn : n = 8 * d) :
    Calls Try.prog 10 #[.slice p n c, .int .i64 d] w (PointPost w d (Mm.point B d)) := by
  subst hn
  have M1 := make_row d (by omega) w
  have hbe := (Below.refl w.heap.size w).alloc (Nat.le_refl _) (.cells (i64s (List.replicate d 0)) 2)
  have hB := Lib.hid h
  have hrow : IPost (w.alloc (.cells (i64s (List.replicate d 0)) 2)) w.heap.size (ptk B d 0) (w.alloc (.cells (i64s (List.replicate d 0)) 2)) := by
    rw [ptk_zero]
    exact ⟨heap_alloc_new w _, rfl, rfl, rfl, Nat.le_refl _, fun _ _ _ => rfl⟩
  clear h
  go_enter Try.func10, Try.ntmps10
  go_wp2_with fail
  refine (dim_yes d (by omega) (by omega) _).mono ?_
  rintro e w' ⟨rfl, rfl⟩
  go_upto_region 6 with fail
  generalize w'.alloc (.cells (i64s (List.replicate d 0)) 2) = w1 at *
  obtain ⟨g, hg⟩ : ∃ g, g = w'.heap.size := ⟨_, rfl⟩
  rw [← hg] at hrow ⊢
  have HG := Lib.hid hg
  have HROW := Lib.hid hrow
  have HBE := Lib.hid hbe
  clear hrow hg M1 hbe
  go_wp2_with fail
  go_loopw [24] (fun i wr => POut B w1 g d i wr) (fun i _ => d - (intOf i).toNat)
  case atStart => exact ⟨0, by omega, rfl, HROW.out⟩
  case round =>
    obtain ⟨k, hk, rfl, hp⟩ := hrel
    have HP := Lib.hid hp
    clear hp HROW
    have hb1 : Below w'.heap.size w' wr := grown_below HBE.out HP.out.grown (by rw [HG.out]; exact Nat.le_refl _)
    by_cases hlt : k < d
    · have hB1 : Bytes wr p (8 * d) c B := hB.out.later hb1 (hB.out.lt)
      have HB1 := Lib.hid hB1
      clear hB1 hb1
      go_wp2_with fail
      go_loop [8, 27] (fun n i => PIn B d k n i) (fun _ i => 64 - (intOf i).toNat)
      case atStart => exact ⟨0, by omega, rfl, rfl⟩
      case round =>
        obtain ⟨l, hl, rfl, rfl⟩ := hrel
        have hbl := Mm.bin_lt (g := fun l => Mm.bitOf B (l * d + k)) (fun _ => Mm.bitOf_lt B _) l
        by_cases hll : l < 64
        · have m0 : (0 : Int) ≤ (l : Int) * d := Int.mul_nonneg (by omega) (by omega)
          have m1 : l * d + k < 64 * d := Mm.place_lt hlt hll
          have m2 : ((l * d + k : Nat) : Int) = (l : Int) * d + k := by simp
          have m3 : (l : Int) * d + k < 64 * d := by omega
          have hbs := Mm.bin_succ (fun l => Mm.bitOf B (l * d + k)) l
          have hpow : 2 ^ l ≤ 2 ^ 63 := Nat.pow_le_pow_right (by omega) (by omega)
          have hb63 : Mm.bin (fun l => Mm.bitOf B (l * d + k)) l < 9223372036854775808 := Nat.lt_of_lt_of_le hbl hpow
          have HBS := Lib.hid hbs
          have HM := Lib.hid m2
          have hbit := Mm.bitOf_lt B (l * d + k)
          have HBI := Lib.hid (bitI_of (B := B) (k := l * d + k) (i := (l : Int) * d + k) m2.symm)
          clear m2 hbs hbl hpow
          generalize Mm.bin (fun l => Mm.bitOf B (l * d + k)) l = a at *
          have hor := or_u64 a _ hb63 hbit
          have HOR := Lib.hid hor
          clear hor
          go_wp2_with fail
          refine (bit_any B p (8 * d) c _ wr HB1.out (by omega) (by omega)).mono ?_
          rintro e w5 ⟨rfl, rfl⟩
          rw [HBI.out]
          go_wp2_with fail
          go_round
          case rel => exact ⟨l + 1, by omega, by go_num, by rw [HBS.out]; exact congrArg (Value.int .u64) HOR.out⟩
          case measure => simp [intOf]; omega
        · obtain rfl : l = 64 := by omega
          have hnum := num_i64 _ hbl
          have hstep := ptk_step B d k hlt
          have hs := heap_setCell_same wr g k _ _ (.int .i64 (Mm.numAt (Mm.bitOf B) d k)) HP.out.row
          rw [i64s_put, hstep] at hs
          have HS := Lib.hid hs
          have HN := Lib.hid (show (Mm.bin (fun l => Mm.bitOf B (l * d + k)) 64 : Nat) - 9223372036854775808 = Mm.numAt (Mm.bitOf B) d k from rfl)
          have hc : wr.cell? ⟨g, k, none⟩ = _ := (cell_of_row wr g k _ _ _ HP.out.row).trans (i64s_get _ k (by rw [ptk_length]; exact hlt))
          have hf : wr.frozen? ⟨g, k, none⟩ = false := frozen_of_row wr g _ _ _ HP.out.row
          have i1 : (0 : Int) ≤ k ∧ (k : Int) < d := by omega
          clear hs hstep
          generalize Mm.bin (fun l => Mm.bitOf B (l * d + k)) 64 = a at *
          go_wp2_with fail
          rw [HN.out]
          clear hnum
          go_roundw
          case rel => exact ⟨k + 1, by omega, by go_num, HS.out, grown_twice HP.out.grown (grown_setCell wr g _ _)⟩
          case measure => simp [intOf]; omega
    · obtain rfl : k = d := by omega
      have hrow := HP.out.row
      rw [ptk_end] at hrow
      have hi := i64s_ints hrow (Mm.point_in B k)
      rw [Mm.point_length] at hi
      have HI := Lib.hid hi
      have HB1 := Lib.hid hb1
      clear hrow hb1 hi
      go_wp2_with fail
      go_ret2
      exact ⟨_, _, rfl, HI.out, HB1.out⟩
end Go.Proofs.Ytcekcoekbgdkaaa
