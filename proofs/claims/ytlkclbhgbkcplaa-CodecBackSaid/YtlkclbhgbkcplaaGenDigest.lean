/- An argument that is a digest, opened. -/
import Derived.Test.YtlkclbhgbkcplaaGenRow
namespace Go.Proofs.Ytlkclbhgbkcplaa
open Go.ChangeShapes Go.WideShapes Go.ChangeAt Go.RowKit Go.Deep

theorem C25 : Try.prog.cellsOf 30 = 32 := by kernel_rfl
theorem mapM_bytes {H : Type} {enc : TypeId × Value → H} {W : World} {base : Nat} {sp : Nat → Bool} {held : Bool} {m : Nat} {cs : List Value} : ∀ (L : List Nat) (xs : List (DataW H × List MemPlace)),
    L.mapM (fun i => DataW.trod enc Try.prog W base sp held m 5 ((cs.drop (i * 1)).take 1)) = some xs →
    xs.flatMap (·.2) = [] ∧ ∀ i ∈ L, ∃ z : Nat, z < 256 ∧ (cs.drop (i * 1)).take 1 = [.int .u8 (z : Nat)]
  | [], xs, h => by
    simp at h
    subst h
    exact ⟨rfl, fun i hi => by cases hi⟩
  | i :: L, xs, h => by
    rw [List.mapM_cons] at h
    simp only [bind, Option.bind_eq_some_iff, pure, Option.some.injEq] at h
    obtain ⟨y, hy, ys, hys, rfl⟩ := h
    obtain ⟨hp, hl⟩ := mapM_bytes L ys hys
    obtain ⟨a, ea, rfl, wa⟩ := DataW.trod_int Try.underlying5 hy
    have hb := bounds_u8 wa
    refine ⟨by rw [List.flatMap_cons, hp]; rfl, fun j hj => ?_⟩
    rcases List.mem_cons.1 hj with rfl | hj
    · refine ⟨a.toNat, by omega, ?_⟩
      rw [ea, show ((a.toNat : Nat) : Int) = a from by omega]
    · exact hl j hj
/-- A digest, as the reading has it. -/
theorem open_digest {H : Type} {enc : TypeId × Value → H} {W : World} {base b0 : Nat} {sp : Nat → Bool} {held : Bool} {r : Reach} {v : Value} {d : DataW H} {ps : List MemPlace}
    (hv : Value.okWide Try.prog W r b0 30 v) (h : DataW.Trod enc Try.prog W base sp held 30 v d ps) : ∃ D : List Nat, v = .agg (u8s D) ∧ D.length = 32 ∧ Sm.allB D ∧ ps = [] := by
  simp only [Value.okWide, Try.underlying30] at hv
  obtain ⟨cs, rfl, hcs, _⟩ := hv
  rw [C25] at hcs
  obtain ⟨fuel, hf⟩ := h
  cases fuel with
  | zero => simp [DataW.trod] at hf
  | succ m =>
    rw [DataW.trod_step] at hf
    unfold DataW.trodStep at hf
    simp only [Try.underlying30, Value.cells] at hf
    rw [if_pos (by rw [C25]; simpa using hcs), C5] at hf
    simp only [Option.map_eq_some_iff] at hf
    obtain ⟨ys, hy, e1⟩ := hf
    obtain ⟨hp, hl⟩ := mapM_bytes _ ys hy
    simp only [Prod.mk.injEq] at e1
    have hk : ∀ i, ∃ z : Nat, i < 32 → z < 256 ∧ (cs.toList.drop (i * 1)).take 1 = [.int .u8 (z : Nat)] := fun i => by
      by_cases hi : i < 32
      · obtain ⟨z, hz⟩ := hl i (List.mem_range.2 hi)
        exact ⟨z, fun _ => hz⟩
      · exact ⟨0, fun h => absurd h hi⟩
    obtain ⟨Z, hZ⟩ := Classical.axiomOfChoice hk
    refine ⟨(List.range 32).map Z, ?_, by simp, fun x hx => ?_, by rw [← e1.2]; exact hp⟩
    · congr 1
      apply Array.ext
      · rw [u8s_size, List.length_map, List.length_range, hcs]
      · intro i h1 h2
        have hi : i < 32 := by omega
        have h3 := (hZ i hi).2
        have h4 : (u8s ((List.range 32).map Z))[i]? = some (.int .u8 (Z i : Nat)) := by simp [u8s, hi]
        rw [Array.getElem?_eq_getElem h2, Option.some.injEq] at h4
        rw [h4]
        have h5 : cs.toList[i]? = some (.int .u8 (Z i : Nat)) := by
          have := congrArg (·[0]?) h3
          simpa [List.getElem?_take, List.getElem?_drop] using this
        rw [Array.getElem?_toList, Array.getElem?_eq_getElem h1, Option.some.injEq] at h5
        exact h5
    · simp only [List.mem_map, List.mem_range] at hx
      obtain ⟨i, hi, rfl⟩ := hx
      exact (hZ i hi).1
end Go.Proofs.Ytlkclbhgbkcplaa
