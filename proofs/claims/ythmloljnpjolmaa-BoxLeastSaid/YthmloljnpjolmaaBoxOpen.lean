/- Arguments opened: orders of rows. -/
import Derived.Test.YthmloljnpjolmaaDistOpen
namespace Go.Proofs.Ythmloljnpjolmaa
open Go.ChangeShapes Go.WideShapes Go.ChangeAt Go.RowKit Go.Deep

theorem FO : fieldsOf (Try.prog.underlying 34) = some [(0, 5), (1, 3), (2, 23)] := by kernel_rfl
theorem CO : Try.prog.cellsOf 34 = 3 := by kernel_rfl
theorem CU8 : Try.prog.cellsOf 5 = 1 := by kernel_rfl
theorem CInt : Try.prog.cellsOf 3 = 1 := by kernel_rfl
theorem UU8 : Try.prog.underlying 5 = some (.int .u8) := by kernel_rfl
theorem UInt : Try.prog.underlying 3 = some (.int .i64) := by kernel_rfl
section
variable {H : Type} {enc : TypeId × Value → H} {W : World} {base : Nat} {held : Bool} {fuel : Nat} {cs : List Value} {x : DataW H × List MemPlace}
theorem cells_order (h : DataW.trod enc Try.prog W base (fun _ => true) held fuel 34 cs = some x) : ∃ kd cl p n c R, cs = [.int .u8 kd, .int .i64 cl, .slice p n c] ∧ (0 ≤ kd ∧ kd ≤ 255) ∧ (-9223372036854775808 ≤ cl ∧ cl ≤ 9223372036854775807) ∧ Ints W p n c R ∧ n ≤ 9223372036854775807 := by
  have hp := FO
  unfold fieldsOf at hp
  split at hp
  case h_2 => cases hp
  case h_1 fs hu =>
  simp only [Option.some.injEq] at hp
  obtain ⟨xs, n, _, _, hlen, hxs, hf⟩ := DataW.trod_struct hu h
  rw [CO] at hlen
  have get : ∀ (i o : Nat) (t : TypeId), ([(0, 5), (1, 3), (2, 23)] : List (Nat × TypeId))[i]? = some (o, t) →
      ∃ y, DataW.trod enc Try.prog W base (fun _ => true) held n t ((cs.drop o).take (Try.prog.cellsOf t)) = some y := fun i o t hi => by
    obtain ⟨f, h1, h2, h3⟩ := field_at hp hi
    have h4 := hf i f h1
    rw [h2, h3] at h4
    have hlt : i < xs.length := by rw [hxs]; exact (Array.getElem?_eq_some_iff.1 h1).1
    exact ⟨xs[i], by rw [h4, List.getElem?_eq_getElem hlt]⟩
  obtain ⟨y0, h0⟩ := get 0 0 _ rfl
  obtain ⟨y1, h1⟩ := get 1 1 _ rfl
  obtain ⟨y2, h2⟩ := get 2 2 _ rfl
  rw [CU8] at h0
  rw [CInt] at h1
  rw [CRow] at h2
  obtain ⟨kd, e0, _, w0⟩ := DataW.trod_int UU8 h0
  obtain ⟨cl, e1, _, w1⟩ := DataW.trod_int UInt h1
  obtain ⟨p, m, c, R, e2, hR, hm⟩ := cells_row h2
  have b0 := bounds_u8 w0
  have b1 := bounds_i64 w1
  match cs, hlen with
  | [c0, c1, c2], _ =>
    simp at e0 e1 e2
    exact ⟨kd, cl, p, m, c, R, by rw [e0, e1, e2], by omega, by omega, hR, hm⟩
end
theorem open_order {H : Type} {enc : TypeId × Value → H} {W : World} {base b0 : Nat} {held : Bool} {r : Reach} {v : Value} {d : DataW H} {ps : List MemPlace}
    (hv : Value.okWide Try.prog W r b0 34 v) (h : DataW.Trod enc Try.prog W base (fun _ => true) held 34 v d ps) : ∃ kd cl p n c R, v = .agg #[.int .u8 kd, .int .i64 cl, .slice p n c] ∧ (0 ≤ kd ∧ kd ≤ 255) ∧ (-9223372036854775808 ≤ cl ∧ cl ≤ 9223372036854775807) ∧ Ints W p n c R ∧ n ≤ 9223372036854775807 := by
  have hp := FO
  unfold fieldsOf at hp
  split at hp
  case h_2 => cases hp
  case h_1 fs hu =>
  simp only [Value.okWide, hu] at hv
  obtain ⟨cs, rfl, _, _⟩ := hv
  obtain ⟨fuel, hf⟩ := h
  obtain ⟨kd, cl, p, n, c, R, he, hk, hc, hR, hn⟩ := cells_order hf
  exact ⟨kd, cl, p, n, c, R, congrArg Value.agg (Array.ext' he), hk, hc, hR, hn⟩
end Go.Proofs.Ythmloljnpjolmaa
