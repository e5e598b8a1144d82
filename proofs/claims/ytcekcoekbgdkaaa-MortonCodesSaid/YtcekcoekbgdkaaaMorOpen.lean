/- An argument that is a row, opened. -/
import Derived.Test.YtcekcoekbgdkaaaGenRow
import Derived.Test.YtcekcoekbgdkaaaGenInts
namespace Go.Proofs.Ytcekcoekbgdkaaa
open Go.ChangeShapes Go.WideShapes Go.ChangeAt Go.RowKit Go.Deep

theorem CI64 : Try.prog.cellsOf 2 = 1 := by kernel_rfl
theorem UI64 : Try.prog.underlying 2 = some (.int .i64) := by kernel_rfl
theorem UR : Try.prog.underlying 23 = some (.slice 2) := by kernel_rfl
theorem open_row {H : Type} {enc : TypeId × Value → H} {W : World} {base b0 : Nat} {held : Bool} {r : Reach} {v : Value} {d : DataW H} {ps : List MemPlace}
    (hv : Value.okWide Try.prog W r b0 23 v) (h : DataW.Trod enc Try.prog W base (fun _ => true) held 23 v d ps) : ∃ p n c R, v = .slice p n c ∧ Ints W p n c R ∧ n ≤ 9223372036854775807 := by
  obtain ⟨a0, n0, c0, rfl⟩ := okWide_slice UR hv
  obtain ⟨fuel, hf⟩ := h
  refine ⟨a0, n0, c0, ?_⟩
  rcases open_ints UR UI64 CI64 hf with ⟨hcs, _⟩ | ⟨a, len, cap, zs, hcs, _, hl, hm, hz, _, hx, hw⟩
  · simp [Value.cells] at hcs
    obtain ⟨rfl, rfl, rfl⟩ := hcs
    exact ⟨[], rfl, ⟨rfl, Nat.le_refl _, fun x hx => by simp at hx, Or.inl rfl⟩, by omega⟩
  · simp [Value.cells] at hcs
    obtain ⟨rfl, rfl, rfl⟩ := hcs
    simp only [if_true] at hz
    refine ⟨zs.take n0, rfl, ⟨by rw [List.length_take, hz]; exact (Nat.min_eq_left hl).symm, hl, fun y hy => bounds_i64 (hw y (List.mem_of_mem_take hy)), ?_⟩, by unfold maxLen at hm; omega⟩
    rcases Nat.eq_zero_or_pos n0 with h0 | h0
    · exact Or.inl (by rw [h0, List.take_zero])
    · right
      have hsp := World.cell?_spot (hx 0 (by omega))
      obtain ⟨g, o, spot⟩ := a
      have hspot : spot = none := by simpa [Addr.add] using hsp
      subst hspot
      refine ⟨g, o, rfl, fun i hi => ?_⟩
      rw [List.length_take] at hi
      have := hx i (by omega)
      rw [Addr.add_mid] at this
      rw [this, List.getD_eq_getElem?_getD, List.getD_eq_getElem?_getD, List.getElem?_take_of_lt (by omega)]
end Go.Proofs.Ytcekcoekbgdkaaa
