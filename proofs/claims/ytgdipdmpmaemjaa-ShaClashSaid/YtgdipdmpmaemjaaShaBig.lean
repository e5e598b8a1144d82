/- The contracts of sha.bigEnd and sha.bytesOf. -/
import Derived.Test.YtgdipdmpmaemjaaShaAll
namespace Go.Proofs.Ytgdipdmpmaemjaa
open Go.RowKit

theorem A59 : Try.prog.underlying 59 = some (.array 8 5) := by kernel_rfl
theorem Z59 : (Try.prog.info? 59).map (fun i => (i.zero, i.size)) = some (some (.agg (u8s (zeros 8))), 8) := by kernel_rfl
theorem S59 : (Try.prog.info? 59).map (·.size) = some 8 := by kernel_rfl
/-- Two arrays of bytes that a call made: the one that it tells, and the one that it fills. -/
structure BF (T : TypeId) (N : Nat) (w wr : World) (r g : Nat) (L : List Nat) : Prop where
  below : Below w.heap.size w wr
  res : ∃ C, wr.heap[r]? = some (.cells C T (0, 0)) ∧ C.size = N
  row : wr.heap[g]? = some (.cells (u8s L) T (0, 0))
  lr : w.heap.size ≤ r
  lg : w.heap.size ≤ g
  ne : r ≠ g
theorem BF.store {T : TypeId} {N : Nat} {w wr : World} {r g : Nat} {p q : List Nat} {y : Nat} (h : BF T N w wr r g (p ++ y :: q)) (k : Nat) (hk : p.length = k) (x : Nat) :
    BF T N w (wr.setCell ⟨g, k, none⟩ (.int .u8 (x : Nat))) r g (p ++ x :: q) := by
  obtain ⟨C, hC, hC6⟩ := h.res
  refine ⟨h.below.setCell h.lg _, ⟨C, ?_, hC6⟩, ?_, h.lr, h.lg, h.ne⟩
  · rw [heap_setCell_other _ _ _ _ h.ne]; exact hC
  · rw [heap_setCell_same _ _ _ _ _ _ h.row, u8s_set p q y x k hk]
def bigsTo (n : Nat) : Nat → List Nat
  | 0 => []
  | k + 1 => bigsTo n k ++ [Sm.big n k]
theorem bigsTo_length (n k : Nat) : (bigsTo n k).length = k := by
  induction k with
  | zero => rfl
  | succ k ih => simp [bigsTo, ih]
def BigRel (w : World) (r g n : Nat) (i : Value) (wr : World) : Prop :=
  ∃ k : Nat, k ≤ 8 ∧ i = .int .i64 k ∧ BF 59 8 w wr r g (bigsTo n k ++ zeros (8 - k))
set_option maxRecDepth 100000 in
set_option maxHeartbeats 1000000 in
theorem bigEnd_any (n : Nat) (_hn : n < 18446744073709551616) (w : World) :
    Calls Try.prog 28 #[.int .u64 n] w fun e w' => e = .returned (.agg (u8s (Sm.bigs n))) ∧ Below w.heap.size w w' := by
  have hz := (zero_of_info Z59).1
  go_enter Try.func28, Try.ntmps28
  go_wp2_with fail
  generalize hWB : (w.alloc (.cells (u8s (zeros 8)) 59)).alloc (.cells (u8s (zeros 8)) 59) = WB
  have FB : BF 59 8 w WB w.heap.size (w.heap.size + 1) (zeros 8) := by
    subst hWB
    exact ⟨((Below.refl _ _).alloc (Nat.le_refl _) _).alloc (by simp) _, ⟨_, heap_alloc2_old w _ _, by simp [u8s, zeros]⟩, heap_alloc2_new w _ _, by omega, by omega, by omega⟩
  have FF := Lib.hid FB
  clear FB hWB hz
  go_loopw [5] (fun i wr => BigRel w w.heap.size (w.heap.size + 1) n i wr) (fun i _ => 8 - (intOf i).toNat)
  case atStart => exact ⟨0, by omega, rfl, FF.out⟩
  case round =>
    obtain ⟨k, hk, rfl, hs⟩ := hrel
    have HS := Lib.hid hs
    clear hs FF
    by_cases hlt : k < 8
    · have hst : wr.cell? ⟨w.heap.size + 1, k, none⟩ = some (.int .u8 ((bigsTo n k ++ zeros (8 - k)).getD k 0 : Nat)) := u8s_cell HS.out.row k (by simp [bigsTo_length, zeros]; omega)
      have hfr : wr.frozen? ⟨w.heap.size + 1, k, none⟩ = false := frozen_of_row wr _ k _ _ HS.out.row
      have HI : (0 : Int) ≤ 8 * (7 - k) ∧ 8 * (7 - (k : Int)) ≤ 64 := by omega
      go_wp2_with fail
      go_roundw
      case rel =>
        show BigRel _ _ _ _ _ _
        rw [show (n : Int) / 2 ^ (8 * (7 - k)) % 256 = ((Sm.big n k : Nat) : Int) from by
          unfold Sm.big; rw [Int.natCast_emod, Int.natCast_ediv, Int.natCast_pow]; rfl]
        refine ⟨k + 1, by omega, by go_num, ?_⟩
        have e : bigsTo n (k + 1) ++ zeros (8 - (k + 1)) = bigsTo n k ++ Sm.big n k :: zeros (8 - (k + 1)) := by
          rw [bigsTo, List.append_assoc]; rfl
        rw [e]
        refine BF.store (y := 0) ?_ k (bigsTo_length n k) _
        rw [show 8 - (k + 1) = 8 - k - 1 from by omega, ← zeros_succ (by omega)]
        exact HS.out
      case measure => simp [intOf]; omega
    · obtain rfl : k = 8 := by omega
      obtain ⟨C, hC, hC8⟩ := HS.out.res
      have HC := Lib.hid hC
      have HC8 := Lib.hid hC8
      clear hC hC8
      have hrow : wr.heap[w.heap.size + 1]? = some (.cells (u8s (Sm.bigs n)) 59 (0, 0)) := HS.out.row
      have HR := Lib.hid hrow
      clear hrow
      go_wp2_with (first | (refine wpList_load_row (by rfl) 59 _ (by rfl) (w.heap.size + 1) (by rfl) 59 _ (0, 0) _ HR.out A59 (by rfl) (by exact S59) ?_) | (refine wpList_store_row (by rfl) 59 _ _ (by rfl) w.heap.size (u8s (Sm.bigs n)) (by rfl) (by rfl) _ _ HC.out (by exact S59) (by exact HC8.out) (u8s_one _) ?_))
      refine ret_row 2 (by kernel_rfl) w.heap.size _ _ A59 S59 rfl (setRow_heap _ _ _ _ _ _ HC.out) rfl ⟨rfl, ?_⟩
      exact Below.setRow HS.out.below (Nat.le_refl _) _
theorem U31 : Try.prog.underlying 31 = some (.int .u32) := by kernel_rfl
theorem S31 : (Try.prog.info? 31).map (·.size) = some 1 := by kernel_rfl
def bytesTo (l : List Nat) : Nat → List Nat
  | 0 => []
  | k + 1 => bytesTo l k ++ Sm.bytes4 (l.getD k 0)
theorem bytesTo_length (l : List Nat) (k : Nat) : (bytesTo l k).length = 4 * k := by
  induction k with
  | zero => rfl
  | succ k ih => simp [bytesTo, ih, Sm.bytes4]; omega
def BOfRel (w : World) (r g : Nat) (l : List Nat) (i : Value) (wr : World) : Prop :=
  ∃ k : Nat, k ≤ 8 ∧ i = .int .i64 k ∧ BF 25 32 w wr r g (bytesTo l k ++ zeros (32 - 4 * k))
set_option maxRecDepth 100000 in
set_option maxHeartbeats 1000000 in
theorem bytesOf_any (v : Sm.V8) (hv : v.ok) (w : World) :
    Calls Try.prog 26 #[.agg (u32s v.list)] w fun e w' => e = .returned (.agg (u8s (Sm.bytesOf v))) ∧ Below w.heap.size w w' := by
  have hz := (zero_of_info Z25).1
  have HV := Lib.hid hv
  clear hv
  go_enter Try.func26, Try.ntmps26
  go_wp2_with (refine wpList_load_row (by rfl) 32 _ (by rfl) w.heap.size (by rfl) 32 _ (0, 0) _ ((Below.heap_alloc _ _ _ (by simp; omega)).trans (heap_alloc2_old w _ _)) A32 (by rfl) (by exact S32) ?_)
  generalize hWB : ((w.alloc (.cells (u32s v.list) 32)).alloc (.cells (u8s (zeros 32)) 25)).alloc (.cells (u8s (zeros 32)) 25) = WB
  have FB : BF 25 32 w WB (w.heap.size + 1) (w.heap.size + 2) (zeros 32) := by
    subst hWB
    refine ⟨(((Below.refl _ _).alloc (Nat.le_refl _) _).alloc (by simp) _).alloc (by simp; omega) _, ⟨_, (Below.heap_alloc _ _ _ (by simp)).trans (heap_alloc2_new w _ _), by simp [u8s, zeros]⟩, ?_, by omega, by omega, by omega⟩
    have := heap_alloc_new ((w.alloc (.cells (u32s v.list) 32)).alloc (.cells (u8s (zeros 32)) 25)) (.cells (u8s (zeros 32)) 25)
    rw [show ((w.alloc (.cells (u32s v.list) 32)).alloc (.cells (u8s (zeros 32)) 25)).heap.size = w.heap.size + 2 from by simp] at this
    exact this
  have FF := Lib.hid FB
  clear FB hWB hz
  go_simp
  go_loopw [7] (fun i wr => BOfRel w (w.heap.size + 1) (w.heap.size + 2) v.list i wr) (fun i _ => 8 - (intOf i).toNat)
  case atStart => exact ⟨0, by omega, rfl, FF.out⟩
  case round =>
    obtain ⟨k, hk, rfl, hs⟩ := hrel
    have HS := Lib.hid hs
    clear hs FF
    by_cases hlt : k < 8
    · have hix := fun w' => run_index_array A32 U31 rfl S31 (u32s v.list) k hlt _ (u32s_get v.list k (by simpa [Sm.V8.list] using hlt)) w'
      obtain ⟨x, hx⟩ : ∃ x, x = v.list.getD k 0 := ⟨_, rfl⟩
      rw [← hx] at hix
      have HX := Lib.hid hx
      clear hx
      have cl : ∀ i, i < 32 → wr.cell? ⟨w.heap.size + 2, i, none⟩ = some (.int .u8 ((bytesTo v.list k ++ zeros (32 - 4 * k)).getD i 0 : Nat)) := fun i hi => u8s_cell HS.out.row i (by simp [bytesTo_length, zeros]; omega)
      have fr : ∀ i, wr.frozen? ⟨w.heap.size + 2, i, none⟩ = false := fun i => frozen_of_row wr _ i _ _ HS.out.row
      have c0 := cl (4 * k) (by omega)
      have c1 := cl (4 * k + 1) (by omega)
      have c2 := cl (4 * k + 2) (by omega)
      have c3 := cl (4 * k + 3) (by omega)
      have f0 := fr (4 * k)
      have f1 := fr (4 * k + 1)
      have f2 := fr (4 * k + 2)
      have f3 := fr (4 * k + 3)
      clear cl fr
      go_wp2_with fail
      go_roundw
      case rel =>
        show BOfRel _ _ _ _ _ _
        have e0 : (x : Int) / 16777216 % 256 = ((x / 16777216 % 256 : Nat) : Int) := by omega
        have e1 : (x : Int) / 65536 % 256 = ((x / 65536 % 256 : Nat) : Int) := by omega
        have e2 : (x : Int) / 256 % 256 = ((x / 256 % 256 : Nat) : Int) := by omega
        have e3 : (x : Int) % 256 = ((x % 256 : Nat) : Int) := by omega
        rw [e0, e1, e2, e3]
        refine ⟨k + 1, by omega, by go_num, ?_⟩
        have e : bytesTo v.list (k + 1) ++ zeros (32 - 4 * (k + 1)) = (((bytesTo v.list k ++ [x / 16777216 % 256]) ++ [x / 65536 % 256]) ++ [x / 256 % 256]) ++ x % 256 :: zeros (32 - 4 * (k + 1)) := by
          rw [bytesTo, ← HX.out]; simp [Sm.bytes4]
        have hl := bytesTo_length v.list k
        rw [e]
        refine BF.store (y := 0) ?_ (4 * k + 3) (by simp [hl]) _
        rw [List.append_assoc]
        refine BF.store (y := 0) ?_ (4 * k + 2) (by simp [hl]) _
        rw [List.append_assoc]
        refine BF.store (y := 0) ?_ (4 * k + 1) (by simp [hl]) _
        rw [List.append_assoc]
        refine BF.store (y := 0) ?_ (4 * k) hl _
        have hz4 : (0 :: ([0] ++ (0 :: ([0] ++ zeros (32 - 4 * (k + 1)))))) = zeros (32 - 4 * k) := by
          rw [show 32 - 4 * k = (32 - 4 * (k + 1)) + 4 from by omega]; rfl
        first
          | (rw [show ∀ A : List Nat, A ++ 0 :: ([0] ++ 0 :: ([0] ++ zeros (32 - 4 * (k + 1)))) = A ++ zeros (32 - 4 * k) from fun A => by rw [← hz4]]; exact HS.out)
          | (have := HS.out; rw [← hz4] at this; simpa using this)
      case measure => simp [intOf]; omega
    · obtain rfl : k = 8 := by omega
      obtain ⟨C, hC, hC8⟩ := HS.out.res
      have HC := Lib.hid hC
      have HC8 := Lib.hid hC8
      clear hC hC8
      have hrow : wr.heap[w.heap.size + 2]? = some (.cells (u8s (Sm.bytesOf v)) 25 (0, 0)) := HS.out.row
      have HR := Lib.hid hrow
      clear hrow
      go_wp2_with (first | (refine wpList_load_row (by rfl) 25 _ (by rfl) (w.heap.size + 2) (by rfl) 25 _ (0, 0) _ HR.out A25 (by rfl) (by exact S25) ?_) | (refine wpList_store_row (by rfl) 25 _ _ (by rfl) (w.heap.size + 1) (u8s (Sm.bytesOf v)) (by rfl) (by rfl) _ _ HC.out (by exact S25) (by exact HC8.out) (u8s_one _) ?_))
      refine ret_row 2 (by kernel_rfl) (w.heap.size + 1) _ _ A25 S25 rfl (setRow_heap _ _ _ _ _ _ HC.out) rfl ⟨rfl, ?_⟩
      exact Below.setRow HS.out.below (by omega) _
end Go.Proofs.Ytgdipdmpmaemjaa
