/- dist.ToBox. -/
import Derived.Test.YthmloljnpjolmaaDist6
import Derived.Test.YthmloljnpjolmaaDist5B
namespace Go.Proofs.Ythmloljnpjolmaa
open Go.RowKit

def tbx (R S T : List Int) (n m l : Nat) : Int := if okP n m ∧ n = l then tot (fun k => gap (R.getD k 0) (S.getD k 0) (T.getD k 0)) n else 0
def tbxE (n m l : Nat) : Int := if okP n m ∧ n = l then 0 else 1
theorem boxed2 (w : World) (v u : Value) (t : TypeId) : (w.alloc (.cells #[v, u] t)).cell? ⟨w.heap.size, 0, none⟩ = some v := cell_of_row _ _ 0 _ t (0, 0) (heap_alloc_new w _)
theorem boxed3 (w : World) (v u : Value) (t : TypeId) : (w.alloc (.cells #[v, u] t)).cell? ⟨w.heap.size, 1, none⟩ = some u := cell_of_row _ _ 1 _ t (0, 0) (heap_alloc_new w _)
set_option maxRecDepth 100000 in
set_option maxHeartbeats 1000000 in
theorem tobox_any (p q r : Option Addr) (n c m d l f : Nat) (R S T : List Int) (w : World) (h : Ints w p n c R) (h2 : Ints w q m d S) (h3 : Ints w r l f T) :
    Calls Try.prog 53 #[.slice p n c, .agg #[.slice q m d, .slice r l f]] w fun e w' => e = .returned (.tuple #[dV (tbx R S T n m l), .int .i64 (tbxE n m l)]) ∧ Below w.heap.size w w' := by
  have H := Lib.hid h
  have H2 := Lib.hid h2
  have H3 := Lib.hid h3
  clear h h2 h3
  obtain ⟨hi, lo, hd⟩ := dV_two (tbx R S T n m l)
  rw [hd]
  have HD := Lib.hid hd
  clear hd
  go_enter Try.func53, Try.ntmps53
  go_wp2_with fail
  have B1 : Below w.heap.size w (w.alloc (.cells #[.slice p n c] 23)) := (Below.refl _ _).alloc (Nat.le_refl _) _
  have c1 := boxed w (.slice p n c) 23
  have s1 : (w.alloc (.cells #[.slice p n c] 23)).heap.size = w.heap.size + 1 := by simp
  generalize w.alloc (.cells #[.slice p n c] 23) = w1 at *
  have B2 : Below w1.heap.size w1 (w1.alloc (.cells #[.slice q m d, .slice r l f] 25)) := (Below.refl _ _).alloc (Nat.le_refl _) _
  have c2 := boxed2 w1 (.slice q m d) (.slice r l f) 25
  have c3 := boxed3 w1 (.slice q m d) (.slice r l f) 25
  have s2 : (w1.alloc (.cells #[.slice q m d, .slice r l f] 25)).heap.size = w.heap.size + 1 + 1 := by simp; omega
  generalize w1.alloc (.cells #[.slice q m d, .slice r l f] 25) = w2 at *
  have t3 := zero_two w2
  have B3 : Below w2.heap.size w2 (w2.alloc (.cells #[.int .u64 0, .int .u64 0] 37)) := (Below.refl _ _).alloc (Nat.le_refl _) _
  have s3 : (w2.alloc (.cells #[.int .u64 0, .int .u64 0] 37)).heap.size = w.heap.size + 3 := by simp; omega
  generalize w2.alloc (.cells #[.int .u64 0, .int .u64 0] 37) = w3 at *
  rw [s1] at c2 c3
  rw [s2] at t3
  replace c1 := (B2.cell (p := ⟨w.heap.size, 0, none⟩) (by show w.heap.size < _; omega)).trans c1
  replace c1 := (B3.cell (p := ⟨w.heap.size, 0, none⟩) (by show w.heap.size < _; omega)).trans c1
  replace c2 := (B3.cell (p := ⟨w.heap.size + 1, 0, none⟩) (by show w.heap.size + 1 < _; omega)).trans c2
  replace c3 := (B3.cell (p := ⟨w.heap.size + 1, 1, none⟩) (by show w.heap.size + 1 < _; omega)).trans c3
  have BB := Lib.hid (B1.trans ((B2.trans (B3.mono (by omega))).mono (by omega)))
  clear B1 B2 B3 s1 s2
  refine (points_any p q n c m d w3).mono ?_
  rintro e w3 ⟨rfl, rfl⟩
  by_cases hok : okP n m ∧ n = l
  · have hE : tbxE n m l = 0 := by unfold tbxE; rw [if_pos hok]
    have hB : tbx R S T n m l = tot (fun k => gap (R.getD k 0) (S.getD k 0) (T.getD k 0)) n := by unfold tbx; rw [if_pos hok]
    rw [hB] at HD
    rw [show decide (1 ≤ n ∧ n ≤ 8 ∧ n = m) = true from decide_eq_true hok.1]
    obtain ⟨⟨k1, k2, rfl⟩, rfl⟩ := hok
    have HE := Lib.hid hE
    clear hE hB
    go_wp2_with fail
    refine (points_any p r n c n f w3).mono ?_
    rintro e w3 ⟨rfl, rfl⟩
    rw [show decide (1 ≤ n ∧ n ≤ 8 ∧ n = n) = true from decide_eq_true ⟨k1, k2, rfl⟩]
    go_wp2_with fail
    refine (together_any n (by omega) (fun k => gap (R.getD k 0) (S.getD k 0) (T.getD k 0)) (fun k hk => gap_word (H.out.get k hk) (H2.out.get k hk) (H3.out.get k hk)) 62 #[.pointer (some ⟨w.heap.size, 0, none⟩), .pointer (some ⟨w.heap.size + 1, 0, none⟩)] (enter_side Try.func62 (by kernel_rfl) rfl) w3 ?_).mono ?_
    · intro k w' hk hb
      have hc : w'.cell? ⟨w.heap.size, 0, none⟩ = some (.slice p n c) := (hb.cell (p := ⟨w.heap.size, 0, none⟩) (by show w.heap.size < _; omega)).trans c1
      have hc2 : w'.cell? ⟨w.heap.size + 1, 0, none⟩ = some (.slice q n d) := (hb.cell (p := ⟨w.heap.size + 1, 0, none⟩) (by show w.heap.size + 1 < _; omega)).trans c2
      have hc3 : w'.cell? ⟨w.heap.size + 1, 1, none⟩ = some (.slice r n f) := (hb.cell (p := ⟨w.heap.size + 1, 1, none⟩) (by show w.heap.size + 1 < _; omega)).trans c3
      have hbb : Below w.heap.size w w' := BB.out.trans (hb.mono (by omega))
      exact toboxside w.heap.size (w.heap.size + 1) p q r n c n d n f R S T k hk hk hk w' hc ⟨hc2, hc3⟩ (H.out.later hbb) (H2.out.later hbb) (H3.out.later hbb)
    · rintro e w4 ⟨rfl, hb3⟩
      rw [HD.out]
      replace t3 := t3.later hb3 (by omega)
      have B3 := Lib.hid (BB.out.trans (hb3.mono (by omega)))
      obtain ⟨y0, y1, y2, y3⟩ := t3.facts
      have T3 := Lib.hid t3
      clear t3 c1 c2 c3 hb3 s3 BB
      go_wp2_with fail
      exact ret_two2 4 5 rfl (w.heap.size + 1 + 1) _ _ (.int .i64 0) rfl rfl (T3.out.set _ _) ⟨by rw [HE.out], Two.below B3.out (by omega) _ _⟩
  · have hE : tbxE n m l = 1 := by unfold tbxE; rw [if_neg hok]
    have hB : tbx R S T n m l = 0 := by unfold tbx; rw [if_neg hok]
    rw [hB] at HD
    obtain ⟨rfl, rfl⟩ : (0 : Int) = hi ∧ (0 : Int) = lo := by have := HD.out; simpa [dV] using this
    obtain ⟨y0, y1, y2, y3⟩ := t3.facts
    have T3 := Lib.hid t3
    have HE := Lib.hid hE
    clear t3 hE hB
    by_cases hp : okP n m
    · rw [show decide (1 ≤ n ∧ n ≤ 8 ∧ n = m) = true from decide_eq_true hp]
      go_wp2_with fail
      refine (points_any p r n c l f w3).mono ?_
      rintro e w3 ⟨rfl, rfl⟩
      rw [show decide (1 ≤ n ∧ n ≤ 8 ∧ n = l) = false from decide_eq_false fun h => hok ⟨hp, h.2.2⟩]
      clear c1 c2 c3 s3 hok hp
      go_wp2_with fail
      exact ret_two2 4 5 rfl (w.heap.size + 1 + 1) _ _ (.int .i64 1) rfl rfl (T3.out.set _ _) ⟨by rw [HE.out], Two.below BB.out (by omega) _ _⟩
    · rw [show decide (1 ≤ n ∧ n ≤ 8 ∧ n = m) = false from decide_eq_false hp]
      clear c1 c2 c3 s3 hok hp
      go_wp2_with fail
      exact ret_two2 4 5 rfl (w.heap.size + 1 + 1) _ _ (.int .i64 1) rfl rfl (T3.out.set _ _) ⟨by rw [HE.out], Two.below BB.out (by omega) _ _⟩
end Go.Proofs.Ythmloljnpjolmaa
