/- DistTexts, walked. -/
import Derived.Test.YtfkemphkhfhabaaDist14
namespace Go.Proofs.Ytfkemphkhfhabaa
open Go.RowKit

/-- A distance lies in a block, and below nothing has turned. -/
def DS (w : World) (g : Nat) (hi lo : Int) (w' : World) : Prop := w'.cell? ⟨g, 0, none⟩ = some (.int .u64 hi) ∧ w'.cell? ⟨g, 1, none⟩ = some (.int .u64 lo) ∧ Two w' g (.int .u64 hi) (.int .u64 lo) ∧ Below w.heap.size w w'
theorem DS.mk' {w w' : World} {g : Nat} {hi lo : Int} (h : Two w' g (.int .u64 hi) (.int .u64 lo)) (hb : Below w.heap.size w w') : DS w g hi lo w' := ⟨h.facts.1, h.facts.2.1, h, hb⟩
theorem DS.later {w w' w'' : World} {g : Nat} {hi lo : Int} (h : DS w g hi lo w') (hb : Below w'.heap.size w' w'') : DS w g hi lo w'' :=
  DS.mk' (h.2.2.1.later hb h.2.2.1.lt) (h.2.2.2.trans (hb.mono h.2.2.2.size))
theorem text_s {N : Nat} (hN : N < 340282366920938463463374607431768211456) {w w' : World} {g : Nat} {hi lo : Int} (hd : dV (N : Nat) = .agg #[.int .u64 hi, .int .u64 lo]) {s : ByteArray} (hs : strOf (decs N) = s) (h : DS w g hi lo w') :
    Calls Try.prog 22 #[.agg #[.int .u64 hi, .int .u64 lo]] w' fun e w'' => e = .returned (.string s) ∧ DS w g hi lo w'' := by
  have := text_any N hN w'
  rw [hd, hs] at this
  exact this.mono fun e w'' ⟨h1, h2⟩ => ⟨h1, h.later h2⟩
theorem reftext_s {N : Nat} (hN : N < 340282366920938463463374607431768211456) {w w' : World} {g : Nat} {hi lo : Int} (hd : dV (N : Nat) = .agg #[.int .u64 hi, .int .u64 lo]) {s : ByteArray} (hs : strOf (decs N) = s) (h : DS w g hi lo w') :
    Calls Try.prog 23 #[.agg #[.int .u64 hi, .int .u64 lo]] w' fun e w'' => e = .returned (.string s) ∧ DS w g hi lo w'' := by
  have := reftext_any N hN w'
  rw [hd, hs] at this
  exact this.mono fun e w'' ⟨h1, h2⟩ => ⟨h1, h.later h2⟩
set_option maxRecDepth 100000 in
set_option maxHeartbeats 1000000 in
theorem texts_any (N : Nat) (hN : N < 340282366920938463463374607431768211456) (w : World) :
    Calls Try.prog 7 #[dV N] w fun e w' => e = .returned (.bool true) ∧ Below w.heap.size w w' := by
  obtain ⟨hi, lo, hd⟩ := dV_two (N : Nat)
  rw [hd]
  obtain ⟨s, hs⟩ : ∃ s, strOf (decs N) = s := ⟨_, rfl⟩
  have HD := Lib.hid hd
  have HS := Lib.hid hs
  clear hd hs
  go_enter Try.func7, Try.ntmps7
  go_wp2_with fail
  have t1 : Two (w.alloc (.cells #[.int .u64 hi, .int .u64 lo] 25)) w.heap.size (.int .u64 hi) (.int .u64 lo) := heap_alloc_new w _
  have hb1 : Below w.heap.size w (w.alloc (.cells #[.int .u64 hi, .int .u64 lo] 25)) := (Below.refl _ _).alloc (Nat.le_refl _) _
  generalize w.alloc (.cells #[.int .u64 hi, .int .u64 lo] 25) = w1 at *
  refine (alive_any w1).mono ?_
  rintro e w2 ⟨rfl, hb2⟩
  have HDS := Lib.hid ((DS.mk' t1 hb1).later hb2)
  clear t1 hb1 hb2
  go_upto_region 3 with fail
  go_region_held3 (fun w' => w'.cell? ⟨w.heap.size, 0, none⟩ = some (.int .u64 hi) ∧ w'.cell? ⟨w.heap.size, 1, none⟩ = some (.int .u64 lo) ∧ Two w' w.heap.size (.int .u64 hi) (.int .u64 lo) ∧ Below w.heap.size w w') (first | assumption | exact HDS.out | exact (HDS.out.later (Below.drew (Below.refl _ _)))) ((first
    | (go_at_call 22; refine (text_s hN HD.out HS.out (by assumption)).mono ?_; rintro _ w5 ⟨rfl, hcs5⟩)
    | (go_at_call 23; refine (reftext_s hN HD.out HS.out (by assumption)).mono ?_; rintro _ w5 ⟨rfl, hcs5⟩)))
  all_goals
    go_wp2_with fail
    go_ret
    exact ⟨rfl, hcs5.2.2.2⟩
end Go.Proofs.Ytfkemphkhfhabaa
