/- The contract of sha.schedule: a block's 64 words. -/
import Derived.Test.YtgdipdmpmaemjaaShaTurn
import Derived.StillTailTactics
import Derived.Deep.WholeRow
import Derived.Deep.MidRow
namespace Go.Proofs.Ytgdipdmpmaemjaa
open Go.RowKit

structure SFacts (w WB : World) (gb ob : Nat) (B : List Nat) (L : List Nat) : Prop where
  below : Below w.heap.size w WB
  bytes : bytesAt WB gb ob B
  res : ∃ C, WB.heap[w.heap.size]? = some (.cells C 62 (0, 0)) ∧ C.size = 64
  lt : gb < w.heap.size
  row : WB.heap[w.heap.size + 1]? = some (.cells (u32s L) 62 (0, 0))
theorem SFacts.drewN {w WB : World} {gb ob : Nat} {B L : List Nat} (h : SFacts w WB gb ob B L) (n : Nat) : SFacts w (WB.drewN n) gb ob B L :=
  ⟨h.below.trans ⟨rfl, rfl, rfl, Nat.le_refl _, fun _ _ => rfl⟩, h.bytes, h.res, h.lt, h.row⟩
theorem SFacts.mk' (w : World) (gb ob : Nat) (B : List Nat) (hw : bytesAt w gb ob B) (hl : 0 < B.length) : SFacts w ((w.alloc (.cells (u32s (zeros 64)) 62)).alloc (.cells (u32s (zeros 64)) 62)) gb ob B (zeros 64) := by
  have hb : Below w.heap.size w ((w.alloc (.cells (u32s (zeros 64)) 62)).alloc (.cells (u32s (zeros 64)) 62)) := ((Below.refl _ _).alloc (Nat.le_refl _) _).alloc (by simp) _
  refine ⟨hb, fun i hi => ?_, ⟨_, heap_alloc2_old w _ _, by simp [u32s, zeros]⟩, block_lt_of_cell (hw 0 hl), heap_alloc2_new w _ _⟩
  have := hw i hi
  exact (hb.cell (p := ⟨gb, ob + i, none⟩) (block_lt_of_cell this)).trans this
theorem u32s_set (p r : List Nat) (y x k : Nat) (hk : p.length = k) : (u32s (p ++ y :: r)).setIfInBounds k (.int .u32 (x : Nat)) = u32s (p ++ x :: r) := by
  subst hk
  apply Array.ext'
  simp [u32s]
theorem SFacts.store {w WB : World} {gb ob : Nat} {B p r : List Nat} {y : Nat} (h : SFacts w WB gb ob B (p ++ y :: r)) (k : Nat) (hk : p.length = k) (x : Nat) :
    SFacts w (WB.setCell ⟨w.heap.size + 1, k, none⟩ (.int .u32 (x : Nat))) gb ob B (p ++ x :: r) := by
  obtain ⟨C, hC, hC6⟩ := h.res
  refine ⟨h.below.setCell (by show w.heap.size ≤ w.heap.size + 1; omega) _, fun i hi => ?_, ⟨C, ?_, hC6⟩, h.lt, ?_⟩
  · rw [World.cell?_setCell_other _ _ _ _ (by intro e; have e1 : w.heap.size + 1 = gb := congrArg Addr.block e; have := h.lt; omega)]
    exact h.bytes i hi
  · rw [heap_setCell_other _ _ _ _ (by show w.heap.size ≠ w.heap.size + 1; omega)]; exact hC
  · rw [heap_setCell_same _ _ _ _ _ _ h.row, u32s_set p r y x k hk]
def SRel2 (w : World) (gb ob : Nat) (B : List Nat) (i : Value) (wr : World) : Prop :=
  ∃ k : Nat, k ≤ 48 ∧ i = .int .i64 ((16 + k : Nat) : Int) ∧ SFacts w wr gb ob B (Sm.more (Sm.words B 16) k ++ zeros (48 - k))
theorem u32s_one (l : List Nat) : (u32s l).all (·.oneCell') = true := by simp [u32s, Value.oneCell']
theorem sched_size (B : List Nat) : (u32s (Sm.sched B)).size = 64 := by simp [u32s, Sm.length_sched]
def SRel1 (w : World) (gb ob : Nat) (B : List Nat) (i : Value) (wr : World) : Prop :=
  ∃ k : Nat, k ≤ 16 ∧ i = .int .i64 k ∧ SFacts w wr gb ob B (Sm.words B k ++ zeros (64 - k))
theorem Z62 : (Try.prog.info? 62).map (fun i => (i.zero, i.size)) = some (some (.agg (u32s (zeros 64))), 64) := by kernel_rfl
set_option maxRecDepth 100000 in
set_option maxHeartbeats 1000000 in
theorem sched_any (B : List Nat) (hB : Sm.allB B) (lB : 64 ≤ B.length) (gb ob cap : Nat) (hcap : 64 ≤ cap) (w : World) (hw : bytesAt w gb ob B) :
    Calls Try.prog 32 #[.slice (some ⟨gb, ob, none⟩) 64 cap] w fun e w' => e = .returned (.agg (u32s (Sm.sched B))) ∧ Below w.heap.size w w' := by
  have HB := Lib.hid hB
  have LB := Lib.hid lB
  have HW := Lib.hid hw
  clear hB lB hw
  have hz := (zero_of_info Z62).1
  go_enter Try.func32, Try.ntmps32
  go_wp2_with fail
  generalize hWB : (w.alloc (.cells (u32s (zeros 64)) 62)).alloc (.cells (u32s (zeros 64)) 62) = WB
  have FB : SFacts w WB gb ob B (zeros 64) := by
    subst hWB
    exact SFacts.mk' w gb ob B HW.out (by have := LB.out; omega)
  have FF := Lib.hid FB
  clear FB hWB hz
  go_loopw [11] (fun i wr => SRel1 w gb ob B i wr) (fun i _ => 16 - (intOf i).toNat)
  case atStart => exact ⟨0, by omega, rfl, FF.out⟩
  case round =>
    obtain ⟨k, hk, rfl, hs⟩ := hrel
    have HS := Lib.hid hs
    clear hs FF
    by_cases hlt : k < 16
    · have g0 : wr.cell? ⟨gb, ob + 4 * k, none⟩ = _ := HS.out.bytes (4 * k) (by have := LB.out; omega)
      have g1 : wr.cell? ⟨gb, ob + 4 * k + 1, none⟩ = _ := HS.out.bytes (4 * k + 1) (by have := LB.out; omega)
      have g2 : wr.cell? ⟨gb, ob + 4 * k + 2, none⟩ = _ := HS.out.bytes (4 * k + 2) (by have := LB.out; omega)
      have g3 : wr.cell? ⟨gb, ob + 4 * k + 3, none⟩ = _ := HS.out.bytes (4 * k + 3) (by have := LB.out; omega)
      obtain ⟨x0, hx0⟩ : ∃ x, x = B.getD (4 * k) 0 := ⟨_, rfl⟩
      obtain ⟨x1, hx1⟩ : ∃ x, x = B.getD (4 * k + 1) 0 := ⟨_, rfl⟩
      obtain ⟨x2, hx2⟩ : ∃ x, x = B.getD (4 * k + 2) 0 := ⟨_, rfl⟩
      obtain ⟨x3, hx3⟩ : ∃ x, x = B.getD (4 * k + 3) 0 := ⟨_, rfl⟩
      have b0 : x0 < 256 := by rw [hx0]; exact Sm.getD_lt HB.out (by omega) _
      have b1 : x1 < 256 := by rw [hx1]; exact Sm.getD_lt HB.out (by omega) _
      have b2 : x2 < 256 := by rw [hx2]; exact Sm.getD_lt HB.out (by omega) _
      have b3 : x3 < 256 := by rw [hx3]; exact Sm.getD_lt HB.out (by omega) _
      rw [← hx0] at g0
      rw [← hx1] at g1
      rw [← hx2] at g2
      rw [← hx3] at g3
      have X0 := Lib.hid hx0
      have X1 := Lib.hid hx1
      have X2 := Lib.hid hx2
      have X3 := Lib.hid hx3
      clear hx0 hx1 hx2 hx3
      have hst : wr.cell? ⟨w.heap.size + 1, k, none⟩ = _ := u32s_cell HS.out.row k (by simp [Sm.length_words, zeros]; omega)
      have hfr : wr.frozen? ⟨w.heap.size + 1, k, none⟩ = false := frozen_of_row wr _ k _ _ HS.out.row
      have HL : (0 : Int) ≤ k ∧ (k : Int) < 64 := by omega
      go_wp2_with fail
      rw [show 4 * k + 4 - 4 * k = 4 from by omega]
      go_still_tail 24, (by kernel_rfl)
      go_wp2_with fail
      go_roundw
      case rel =>
        show SRel1 _ _ _ _ _ _
        rw [Sm.word_int b0 b1 b2 b3]
        refine ⟨k + 1, by omega, by go_num, ?_⟩
        have e : Sm.words B (k + 1) ++ zeros (64 - (k + 1)) = Sm.words B k ++ (x0 * 16777216 + x1 * 65536 + x2 * 256 + x3) :: zeros (64 - (k + 1)) := by
          rw [Sm.words, X0.out, X1.out, X2.out, X3.out, List.append_assoc]; rfl
        rw [e]
        refine (SFacts.store (y := 0) ?_ k (Sm.length_words B k) _).drewN 1
        rw [show 64 - (k + 1) = 64 - k - 1 from by omega, ← zeros_succ (by omega)]
        exact HS.out
      case measure => simp [intOf]; omega
    · obtain rfl : k = 16 := by omega
      rw [show ((16 : Nat) : Int) = 16 from rfl]
      go_wp2_with fail
      go_loopw [6] (fun i wr => SRel2 w gb ob B i wr) (fun i _ => 64 - (intOf i).toNat)
      case atStart => exact ⟨0, by omega, rfl, HS.out⟩
      case round =>
        obtain ⟨k, hk2, rfl, hs⟩ := hrel
        have HS2 := Lib.hid hs
        clear hs HS hk hlt
        by_cases hlt : k < 48
        · obtain ⟨l, hl⟩ : ∃ l, l = Sm.more (Sm.words B 16) k := ⟨_, rfl⟩
          have HS3 := Lib.hid HS2.out
          rw [← hl] at HS3
          have ll : l.length = 16 + k := by rw [hl]; simp [Sm.length_more, Sm.length_words]
          have lw : Sm.allW l := by rw [hl]; exact Sm.more_ok (Sm.words_ok HB.out 16) k
          have HL := Lib.hid hl
          have LL := Lib.hid ll
          have LW := Lib.hid lw
          clear hl ll lw HS2
          have cells : ∀ i, i < 16 + k → wr.cell? ⟨w.heap.size + 1, i, none⟩ = some (.int .u32 (l.getD i 0 : Nat)) := fun i hi => by
            rw [u32s_cell HS3.out.row i (by simp [LL.out, zeros]; omega), getD_left _ _ (by rw [LL.out]; omega)]
          obtain ⟨j, hj⟩ : ∃ j, j = 16 + k := ⟨_, rfl⟩
          rw [← hj] at cells ⊢
          have hst : wr.cell? ⟨w.heap.size + 1, j, none⟩ = _ := u32s_cell HS3.out.row j (by simp [LL.out, zeros]; omega)
          have hfr : wr.frozen? ⟨w.heap.size + 1, j, none⟩ = false := frozen_of_row wr _ _ _ _ HS3.out.row
          have g0 := cells (j - 16) (by omega)
          have g1 := cells (j - 15) (by omega)
          have g9 := cells (j - 7) (by omega)
          have g14 := cells (j - 2) (by omega)
          clear cells
          have i0 : (0 : Int) ≤ (j : Int) - 16 ∧ (j : Int) - 16 < 64 := by omega
          have i1 : (0 : Int) ≤ (j : Int) - 15 ∧ (j : Int) - 15 < 64 := by omega
          have i9 : (0 : Int) ≤ (j : Int) - 7 ∧ (j : Int) - 7 < 64 := by omega
          have i14 : (0 : Int) ≤ (j : Int) - 2 ∧ (j : Int) - 2 < 64 := by omega
          have ij : (0 : Int) ≤ (j : Int) ∧ (j : Int) < 64 := by omega
          have HJ := Lib.hid hj
          clear hj
          obtain ⟨x0, hx0⟩ : ∃ x, x = l.getD (j - 16) 0 := ⟨_, rfl⟩
          obtain ⟨x1, hx1⟩ : ∃ x, x = l.getD (j - 15) 0 := ⟨_, rfl⟩
          obtain ⟨x9, hx9⟩ : ∃ x, x = l.getD (j - 7) 0 := ⟨_, rfl⟩
          obtain ⟨x14, hx14⟩ : ∃ x, x = l.getD (j - 2) 0 := ⟨_, rfl⟩
          have w0 : x0 < 4294967296 := by rw [hx0]; exact Sm.getD_lt LW.out (by omega) _
          have w1 : x1 < 4294967296 := by rw [hx1]; exact Sm.getD_lt LW.out (by omega) _
          have w9 : x9 < 4294967296 := by rw [hx9]; exact Sm.getD_lt LW.out (by omega) _
          have w14 : x14 < 4294967296 := by rw [hx14]; exact Sm.getD_lt LW.out (by omega) _
          rw [← hx0] at g0
          rw [← hx1] at g1
          rw [← hx9] at g9
          rw [← hx14] at g14
          have X0 := Lib.hid hx0
          have X1 := Lib.hid hx1
          have X9 := Lib.hid hx9
          have X14 := Lib.hid hx14
          clear hx0 hx1 hx9 hx14
          go_wp2_with fail
          go_quiet (fail)
          go_wp2_with (go_at_call 35; first | ((with_reducible refine (rot7 _ _ w1).mono ?_); rintro _ _ ⟨rfl, rfl⟩) | ((with_reducible refine (rot18 _ _ w1).mono ?_); rintro _ _ ⟨rfl, rfl⟩) | ((with_reducible refine (rot17 _ _ w14).mono ?_); rintro _ _ ⟨rfl, rfl⟩) | ((with_reducible refine (rot19 _ _ w14).mono ?_); rintro _ _ ⟨rfl, rfl⟩))
          generalize hW2 : wr.drewN nq = W2
          have f0 : W2.cell? ⟨w.heap.size + 1, j - 16, none⟩ = some (.int .u32 (x0 : Nat)) := by rw [← hW2]; exact g0
          have f9 : W2.cell? ⟨w.heap.size + 1, j - 7, none⟩ = some (.int .u32 (x9 : Nat)) := by rw [← hW2]; exact g9
          have fst : W2.cell? ⟨w.heap.size + 1, j, none⟩ = some (.int .u32 ((l ++ zeros (48 - k)).getD j 0 : Nat)) := by rw [← hW2]; exact hst
          have ffr : W2.frozen? ⟨w.heap.size + 1, j, none⟩ = false := by rw [← hW2]; exact hfr
          have HS4 : SFacts w W2 gb ob B (l ++ zeros (48 - k)) := by rw [← hW2]; exact HS3.out.drewN nq
          have HS5 := Lib.hid HS4
          clear hW2 g0 g1 g9 g14 hst hfr HS4 HS3
          have q16 : IntKind.i64.wrap ((j : Int) - 16) = (j : Int) - 16 := IntWalk.i64_in _ (by omega)
          have q7 : IntKind.i64.wrap ((j : Int) - 7) = (j : Int) - 7 := IntWalk.i64_in _ (by omega)
          have p16 : ((j : Int) - 16).toNat = j - 16 := by omega
          have p7 : ((j : Int) - 7).toNat = j - 7 := by omega
          have r16 : (16 : Int) ≤ j := by omega
          have r7 : (7 : Int) ≤ j := by omega
          go_still_tail 15, (by kernel_rfl)
          clear q16 q7 p16 p7
          go_wp2_with fail
          go_roundw
          case rel =>
            show SRel2 _ _ _ _ _ _
            rw [Sm.s0_int w1, Sm.s1_int w14]
            have ej := HJ.out
            have e0 : j - 16 = k := by omega
            have e1 : j - 15 = k + 1 := by omega
            have e9 : j - 7 = k + 9 := by omega
            have e14 : j - 2 = k + 14 := by omega
            have ev : (((x0 : Nat) : Int) + (Sm.s0 x1 : Nat) + (x9 : Nat) + (Sm.s1 x14 : Nat)) % 4294967296 = (((x0 + Sm.s0 x1 + x9 + Sm.s1 x14) % 4294967296 : Nat) : Int) := by omega
            rw [ev]
            refine ⟨k + 1, by omega, by rw [ej]; go_num, ?_⟩
            have e : Sm.more (Sm.words B 16) (k + 1) ++ zeros (48 - (k + 1)) = l ++ ((x0 + Sm.s0 x1 + x9 + Sm.s1 x14) % 4294967296) :: zeros (48 - (k + 1)) := by
              rw [Sm.more, ← HL.out, X0.out, X1.out, X9.out, X14.out, e0, e1, e9, e14, List.append_assoc]; rfl
            rw [e]
            refine (SFacts.store (y := 0) ?_ j (by rw [LL.out]; omega) _).drewN 1
            rw [show 48 - (k + 1) = 48 - k - 1 from by omega, ← zeros_succ (by omega)]
            exact HS5.out
          case measure => simp [intOf]; omega
        · obtain rfl : k = 48 := by omega
          obtain ⟨C, hC, hC6⟩ := HS2.out.res
          have hrow : wr.heap[w.heap.size + 1]? = some (.cells (u32s (Sm.sched B)) 62 (0, 0)) := by
            have := HS2.out.row
            rw [show zeros (48 - 48) = [] from rfl, List.append_nil] at this
            exact this
          have HC := Lib.hid hC
          have HC6 := Lib.hid hC6
          have HR := Lib.hid hrow
          clear hC hC6 hrow
          go_wp2_with (first | (refine wpList_load_row (by rfl) 62 _ (by rfl) (w.heap.size + 1) (by rfl) 62 _ (0, 0) _ HR.out A62 (by rfl) (by rw [sched_size]; exact S62) ?_) | (refine wpList_store_row (by rfl) 62 _ _ (by rfl) (w.heap.size) (u32s (Sm.sched B)) (by rfl) (by rfl) _ _ HC.out (by rw [sched_size]; exact S62) (by rw [sched_size]; exact HC6.out) (u32s_one _) ?_))
          refine ret_row 2 (by kernel_rfl) w.heap.size _ _ A62 S62 rfl (setRow_heap _ _ _ _ _ _ HC.out) (sched_size B) ⟨rfl, ?_⟩
          exact Below.setRow HS2.out.below (Nat.le_refl _) _
end Go.Proofs.Ytgdipdmpmaemjaa
