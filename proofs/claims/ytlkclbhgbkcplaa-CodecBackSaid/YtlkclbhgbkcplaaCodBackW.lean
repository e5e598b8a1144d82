/- The reader's contract for a row that is there. -/
import Derived.Test.YtlkclbhgbkcplaaCodBackS
namespace Go.Proofs.Ytlkclbhgbkcplaa
open Go.RowKit

theorem I64i : (Try.prog.info? 2).map (fun i => (i.zero, i.size, i.bytes)) = some (some (.int .i64 0), 1, 8) := by kernel_rfl
theorem URr : Try.prog.underlying 32 = some (.slice 2) := by kernel_rfl
def RoPost (w : World) (g : Nat) (R : List Int) (s : Rd) (e : Ending) (w' : World) : Prop := ∃ q c, e = .returned (.slice q R.length c) ∧ Ints w' q R.length c R ∧ RSx w' g s ∧ w.grownBy w' (some g)
theorem nums_drop (R : List Int) (k : Nat) (hk : k < R.length) : nums (R.drop k) = Cm.num (R.getD k 0) ++ nums (R.drop (k + 1)) := by
  have e : R.getD k 0 = R[k] := by rw [List.getD_eq_getElem?_getD, List.getElem?_eq_getElem hk]; rfl
  rw [e, List.drop_eq_getElem_cons hk]
  rfl
structure RowR (w : World) (g gr n : Nat) (R : List Int) (rest : List Nat) (k : Nat) (C : Array Value) (wr : World) : Prop where
  row : wr.heap[gr]? = some (.cells C 2 (0, 0))
  size : C.size = n
  got : ∀ j, j < k → C[j]? = some (.int .i64 (R.getD j 0))
  rd : RSx wr g ⟨nums (R.drop k) ++ rest, 0⟩
  grown : w.grownBy wr (some g)
def RowRl (w : World) (g gr n : Nat) (R : List Int) (rest : List Nat) (i : Value) (wr : World) : Prop := ∃ k C, k ≤ n ∧ i = .int .i64 k ∧ RowR w g gr n R rest k C wr
set_option maxRecDepth 100000 in
set_option maxHeartbeats 1000000 in
theorem row_good (R : List Int) (hR : R.length ≤ 255) (hRo : ∀ k, k < R.length → -9223372036854775808 ≤ R.getD k 0 ∧ R.getD k 0 ≤ 9223372036854775807) (rest : List Nat) (g : Nat) (w : World) (hs : RSx w g ⟨rowB R ++ rest, 0⟩) (hl : rest.length + 3000 < 1099511627776) :
    Calls Try.prog 28 #[.pointer (some ⟨g, 0, none⟩), .int .i64 255] w (RoPost w g R ⟨rest, 0⟩) := by
  obtain ⟨n, hn⟩ : ∃ n, n = R.length := ⟨_, rfl⟩
  have hb := byte_good n (by omega) (nums R ++ rest) g w (by rw [hn]; exact hs) (by rw [List.length_cons, List.length_append, nums_length]; omega)
  have HB := Lib.hid hb
  have HRO := Lib.hid hRo
  have HN := Lib.hid hn
  rw [← hn] at hR
  have HLL := Lib.hid hl
  obtain ⟨i2, hi, hi0, hi1, hi2⟩ := info_parts I64i
  have HI := Lib.hid hi
  have HI0 := Lib.hid hi0
  have HI1 := Lib.hid hi1
  have HI2 := Lib.hid hi2
  clear hs hb hRo hn hi hi0 hi1 hi2 hl
  go_enter Try.func28, Try.ntmps28
  go_wp2_with fail
  refine HB.out.mono ?_
  rintro e w1 hp
  obtain ⟨rfl, h1, h2⟩ := hp
  have hat := atmost_any ⟨nums R ++ rest, 0⟩ 255 n g w1 h1
  rw [if_neg (by omega), if_neg (by omega)] at hat
  have HAT := Lib.hid hat
  have H2 := Lib.hid h2
  clear h1 h2 hat
  go_wp2_with fail
  refine HAT.out.mono ?_
  rintro e w2 hp
  obtain ⟨rfl, h3, h4⟩ := hp
  have hg : g < w2.heap.size := h3.lt
  have H3 := Lib.hid h3
  have H4 := Lib.hid (grown_twice H2.out h4)
  clear h3 h4
  go_wp2_with (at_make; refine wpList_make_full _ (by rfl) _ _ 32 (by rfl) w2.heap.size 2 i2 (.int .i64 0) 1 URr HI.out HI0.out HI1.out .i64 .i64 _ _ n (by rfl) (by rfl) (by rfl) (by rfl) (by rw [HI2.out]; omega) (by unfold maxLen; omega) (Nat.le_refl _) ?_; intro w3 hown3 hgrow3; have O3 := Lib.hid hown3; have G3 := Lib.hid hgrow3; clear hown3 hgrow3)
  have hb23 : Below w2.heap.size w2 w3 := ⟨G3.out.os, G3.out.tape, G3.out.output, G3.out.size, fun k hk => G3.out.block k hk (by simp)⟩
  have hg3 := grown_new (w := w) H4.out H4.out.size hb23 hb23.size
  have hr3 := H3.out.later hb23
  obtain ⟨cur, hcur, hcs⟩ : ∃ cur, w3.heap[w2.heap.size]? = some (.cells cur 2 (0, 0)) ∧ cur.size = n := by
    rcases O3.out.2 with ⟨h1, _⟩ | ⟨k, cap, cur, hv, _, hrow, _, _, hsz, _⟩
    · simp at h1
    · simp only [Value.slice.injEq, Option.some.injEq, Addr.mk.injEq, true_and, and_true] at hv
      obtain ⟨rfl, rfl⟩ := hv
      exact ⟨cur, hrow, by omega⟩
  have HGR := Lib.hid (show g < w2.heap.size ∧ w.heap.size ≤ w2.heap.size from ⟨hg, H4.out.size⟩)
  generalize w2.heap.size = gr at *
  have HR3 := Lib.hid (show RowR w g gr n R rest 0 cur w3 from ⟨hcur, hcs, fun j hj => by omega, hr3, hg3⟩)
  clear hb23 hg3 hr3 hcur hcs O3 G3 H3 H4 HAT H2 hg HB
  go_loopw [16] (fun i wr => RowRl w g gr n R rest i wr) (fun i _ => n - (intOf i).toNat)
  case atStart => exact ⟨0, cur, by omega, rfl, HR3.out⟩
  case round =>
    obtain ⟨k, C, hk, rfl, hr⟩ := hrel
    have HR := Lib.hid hr
    clear hr HR3
    by_cases hlt : k < n
    · have hkR : k < R.length := by rw [← HN.out]; exact hlt
      have hx := HRO.out k hkR
      have hs := HR.out.rd
      rw [nums_drop R k hkR, List.append_assoc] at hs
      have hnum := num_good (R.getD k 0) hx.1 hx.2 (nums (R.drop (k + 1)) ++ rest) g wr hs (by rw [List.length_append, nums_length, List.length_drop]; have := HLL.out; have := HN.out; omega)
      obtain ⟨x, hxx⟩ : ∃ x, x = R.getD k 0 := ⟨_, rfl⟩
      rw [← hxx] at hnum
      have HNUM := Lib.hid hnum
      have HXX := Lib.hid hxx
      have i1 : (0 : Int) ≤ k ∧ (k : Int) < n := by omega
      clear hx hs hnum hxx
      go_wp2_with fail
      refine HNUM.out.mono ?_
      rintro e w4 hp
      obtain ⟨rfl, h5, h6⟩ := hp
      have hrow4 := (h6.block gr (Array.getElem?_eq_some_iff.1 HR.out.row).1 (by simp; have := HGR.out.1; omega)).trans HR.out.row
      obtain ⟨u, hu⟩ : ∃ u, w4.cell? ⟨gr, k, none⟩ = some u := by
        rw [cell_of_row w4 gr k _ _ _ hrow4]
        exact ⟨_, Array.getElem?_eq_getElem (by rw [HR.out.size]; exact hlt)⟩
      have hf := frozen_of_row w4 gr k _ _ hrow4
      have hrow5 := heap_setCell_same w4 gr k _ _ (.int .i64 x) hrow4
      have H5 := Lib.hid h5
      have H6 := Lib.hid (grown_twice HR.out.grown h6)
      have HROW5 := Lib.hid hrow5
      clear h5 h6 hrow4 hrow5
      go_wp2_with fail
      go_roundw
      case rel =>
        refine ⟨k + 1, _, by omega, by go_num, HROW5.out, by simp [HR.out.size], fun j hj => ?_, H5.out.low ((Below.refl _ _).setCell (p := ⟨gr, k, none⟩) (by have := HGR.out.1; show g + 1 ≤ gr; omega) _), grown_new H6.out (B := gr) HGR.out.2 ((Below.refl _ _).setCell (p := ⟨gr, k, none⟩) (Nat.le_refl _) _) (by simp [World.setCell])⟩
        rw [Array.getElem?_setIfInBounds]
        by_cases q : k = j
        · subst q
          rw [if_pos rfl, if_pos (by rw [HR.out.size]; exact hlt), HXX.out]
        · rw [if_neg q]
          exact HR.out.got j (by omega)
      case measure => simp [intOf]; omega
    · obtain rfl : k = n := by omega
      have hrd := HR.out.rd
      rw [List.drop_eq_nil_of_le (by rw [HN.out]; exact Nat.le_refl _), show nums [] ++ rest = rest from rfl] at hrd
      obtain ⟨p6, n6, c6, h6⟩ := hrd
      have he := h6.err
      have H6 := Lib.hid h6
      clear h6
      go_wp2_with fail
      go_ret
      refine ⟨some ⟨gr, 0, none⟩, k, by rw [← HN.out]; rfl, ⟨rfl, by rw [HN.out]; exact Nat.le_refl _, fun x hx => ?_, Or.inr ⟨gr, 0, rfl, fun i hi => ?_⟩⟩, ⟨p6, n6, c6, H6.out⟩, HR.out.grown⟩
      · obtain ⟨i, hi, rfl⟩ := List.getElem_of_mem hx
        have := HRO.out i hi
        rwa [List.getD_eq_getElem?_getD, List.getElem?_eq_getElem hi] at this
      · rw [Nat.zero_add, cell_of_row _ gr i _ _ _ HR.out.row]
        exact HR.out.got i (by rw [HN.out]; exact hi)
end Go.Proofs.Ytlkclbhgbkcplaa
