/- indentureref05.Bytes, Code. -/
import Derived.Test.YtcekcoekbgdkaaaMorRefA
namespace Go.Proofs.Ytcekcoekbgdkaaa
open Go.RowKit

theorem bytesOf_succ (f : Nat → Nat) (m : Nat) : Mm.bytesOf f (m + 1) = Mm.bytesOf f m ++ [Mm.bin (fun k => f (8 * m + k)) 8] := by simp [Mm.bytesOf, List.range_succ]
def fB (B : List Nat) : Nat → Nat := fun i => B.getD i 0
def YRel (w : World) (B : List Nat) (d : Nat) (v i : Value) (wr : World) : Prop :=
  ∃ j : Nat, j ≤ 8 * d ∧ i = .int .i64 (8 * (j : Int)) ∧ wr.ownsRow w.heap.size 5 1 v j (vals (Mm.bytesOf (fB B) j)) ∧ Below w.heap.size w wr
def YIn (B : List Nat) (j : Nat) (n k : Value) : Prop := ∃ l : Nat, l ≤ 8 ∧ k = .int .i64 l ∧ n = .int .u8 (Mm.bin (fun k => fB B (8 * j + k)) l : Nat)
set_option maxRecDepth 100000 in
set_option maxHeartbeats 4000000 in
theorem refbytes_any (B : List Nat) (hB : ∀ x ∈ B, x < 2) (p : Option Addr) (d c : Nat) (w : World) (h : Bytes w p (64 * d) c B) (h8 : d ≤ 8) :
    Calls Try.prog 22 #[.slice p (64 * d) c] w fun e w' => ∃ v, e = .returned v ∧ w'.ownsRow w.heap.size 5 1 v (8 * d) (vals (Mm.bytesOf (fB B) (8 * d))) ∧ Below w.heap.size w w' := by
  obtain ⟨i5, hi, hi0, hi1, hi2⟩ := info_parts I5
  have HI := Lib.hid hi
  have HI0 := Lib.hid hi0
  have HI1 := Lib.hid hi1
  have HI2 := Lib.hid hi2
  have HL := Lib.hid h
  have HSZ := Lib.hid h.size
  have HBB := Lib.hid hB
  clear hi hi0 hi1 hi2 h hB
  go_enter Try.func22, Try.ntmps22
  go_wp2_with fail
  go_loopw [3, 4] (fun v b wr => YRel w B d v b wr) (fun _ i _ => 64 * d - (intOf i).toNat)
  case atStart => exact ⟨0, by omega, rfl, World.ownsRow_nil w _ _ _, Below.refl _ _⟩
  case round =>
    obtain ⟨j, hj, rfl, ho, hb⟩ := hrel
    have HO := Lib.hid ho
    have HB := Lib.hid hb
    clear ho hb
    have hB1 : Bytes wr p (64 * d) c B := HL.out.later HB.out HL.out.lt
    have HB1 := Lib.hid hB1
    clear hB1
    by_cases hlt : j < 8 * d
    · go_wp2_with fail
      go_loop [5, 6] (fun n k => YIn B j n k) (fun _ k => 8 - (intOf k).toNat)
      case atStart => exact ⟨0, by omega, rfl, rfl⟩
      case round =>
        obtain ⟨l, hl, rfl, rfl⟩ := hrel
        have hff : ∀ i, fB B i < 2 := fun i => by
          unfold fB
          exact Sm.getD_lt HBB.out (by omega) i
        have hbl := Mm.bin_lt (g := fun k => fB B (8 * j + k)) (fun k => hff _) l
        by_cases hll : l < 8
        · obtain ⟨g, o, rfl, hx⟩ := HB1.out.ne (by intro e; have := HSZ.out; rw [e] at this; simp at this; omega)
          have hc := hx (8 * j + l) (by have := HSZ.out; omega)
          have hp2 : 2 ^ l ≤ 2 ^ 7 := Nat.pow_le_pow_right (by omega) (by omega)
          have hb7 : Mm.bin (fun k => fB B (8 * j + k)) l < 128 := Nat.lt_of_lt_of_le hbl hp2
          have hbs := Mm.bin_succ (fun k => fB B (8 * j + k)) l
          have hf1 := hff (8 * j + l)
          have i1 : (0 : Int) ≤ 8 * (j : Int) + l ∧ 8 * (j : Int) + l < 64 * d := by omega
          have i2 : (8 * (j : Int) + l).toNat = 8 * j + l := by omega
          have HBS := Lib.hid hbs
          have hfx : fB B (8 * j + l) = B.getD (8 * j + l) 0 := rfl
          rw [← hfx] at hc
          clear hbl hp2 hbs hx hff hfx
          generalize Mm.bin (fun k => fB B (8 * j + k)) l = a at *
          generalize fB B (8 * j + l) = x at *
          go_wp2_with fail
          go_round
          case rel => exact ⟨l + 1, by omega, by go_num, by rw [HBS.out]; go_num⟩
          case measure => simp [intOf]; omega
        · obtain rfl : l = 8 := by omega
          have hbl2 : Mm.bin (fun k => fB B (8 * j + k)) 8 < 256 := hbl
          have HS := Lib.hid (bytesOf_succ (fB B) j)
          have HBS := Lib.hid HB.out.size
          clear hbl hff
          generalize Mm.bin (fun k => fB B (8 * j + k)) 8 = a at *
          go_wp2_with (at_builtin; refine wpList_append_own _ (by rfl) (.tmp 27) (.tmp 29) 25 (by rfl) w.heap.size 5 i5 (.int .u8 0) 1 1 A22 HI.out HI0.out HI1.out HI2.out (by rfl) (by decide) _ j _ (by rfl) (HO.out.alloc _) ⟨wr.heap.size, 0, none⟩ 1 1 (vals [a]) (by rfl) (by rfl) (cells_of_row (L := [a]) (heap_alloc_new wr _)) (vals_one _) (by unfold maxLen; omega) (by omega) (by have := HBS.out; simp; omega) ?_; intro v4 w4 hown4 hgrow4 _)
          have hb4 : Below w.heap.size w w4 := (HB.out.alloc HB.out.size _).grown hgrow4 (by have := HBS.out; simp; omega) (fun i hi => ((HO.out.alloc (.cells (u8s [a]) 5)).lt i hi).1)
          rw [← vals_append, ← HS.out] at hown4
          have HE := Lib.hid hown4
          have HB4 := Lib.hid hb4
          clear hown4 hgrow4 hb4
          go_wp2_with fail
          go_roundw
          case rel => exact ⟨j + 1, by omega, congrArg (Value.int .i64) (by omega), HE.out, HB4.out⟩
          case measure => simp [intOf]; omega
    · obtain rfl : j = 8 * d := by omega
      go_wp2_with fail
      go_ret
      exact ⟨_, rfl, HO.out, HB.out⟩
theorem bl_bytes (R : List Int) : Mm.bytesOf (fB (bl R (64 * R.length))) (8 * R.length) = Mm.code R := by
  unfold Mm.code
  apply Mm.bytesOf_congr
  intro i hi
  unfold fB
  rw [bl_get _ _ _ (by omega)]
theorem bl_two (R : List Int) (m : Nat) : ∀ x ∈ bl R m, x < 2 := fun x hx => by
  simp only [bl, List.mem_map] at hx
  obtain ⟨i, _, rfl⟩ := hx
  exact Mm.cbit_lt R i
/-- What the document's code is: bytes of its own. -/
def OwnBytes (w : World) (B : List Nat) (e : Ending) (w' : World) : Prop := ∃ q c, e = .returned (.slice q B.length c) ∧ Bytes w' q B.length c B ∧ Below w.heap.size w w'
theorem refcode_any (R : List Int) (p : Option Addr) (n c : Nat) (w : World) (h : Ints w p n c R) (h8 : n ≤ 8) :
    Calls Try.prog 11 #[.slice p n c] w (OwnBytes w (Mm.code R)) := by
  have HN := Lib.hid h.size
  have HL := Lib.hid h
  clear h
  go_enter Try.func11, Try.ntmps11
  go_wp2_with fail
  refine (bits_any R p n c w HL.out h8).mono ?_
  rintro e w1 hp
  obtain ⟨v, rfl, ho, hb⟩ := hp
  obtain ⟨q, d, rfl, hq⟩ := owns_form ho (bl_ok R _)
  have HQ := Lib.hid hq
  have HB := Lib.hid hb
  clear ho hb hq
  go_wp2_with fail
  refine (refbytes_any (bl R (64 * n)) (bl_two R _) q n d w1 HQ.out h8).mono ?_
  rintro e w2 hp
  obtain ⟨v, rfl, ho, hb⟩ := hp
  rw [show Mm.bytesOf (fB (bl R (64 * n))) (8 * n) = Mm.code R from by rw [HN.out]; exact bl_bytes R] at ho
  obtain ⟨q2, d2, rfl, hq⟩ := owns_form ho (Mm.code_ok R)
  have HQ2 := Lib.hid hq
  have HB2 := Lib.hid (HB.out.trans (hb.mono HB.out.size))
  clear ho hb hq
  go_wp2_with fail
  go_ret
  have e : 8 * n = (Mm.code R).length := by rw [Mm.code_length, HN.out]
  have hq := HQ2.out
  rw [e] at hq ⊢
  exact ⟨q2, d2, rfl, hq, HB2.out⟩
end Go.Proofs.Ytcekcoekbgdkaaa
