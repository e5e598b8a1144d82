/- Proved: whatever digest and text it is handed, the Go function indenturelaw01.ShaHex returns true (a digest's digits are its bytes' and come back; a text is a digest's digits or is refused), and each argument reads afterwards as it read before. Conditions: none beyond the given row's own. -/
import Derived.Test.YtffjmkbglhcblaaRows
import Derived.Test.YtffjmkbglhcblaaShaHexGo
import Derived.ProofKit
import Derived.OpenShut
import Derived.ShutString
import Derived.ChangeOld
import Derived.Deep.Matrix
namespace Go.Proofs.Ytffjmkbglhcblaa
open Go.ChangeShapes Go.WideShapes Go.ChangeAt Go.RowKit Go.Deep

theorem hex_own : ownKnob Try.prog.godebug = none := by kernel_rfl
theorem hex_laidOut : laidOutB Try.prog = true := by kernel_rfl
theorem C25 : Try.prog.cellsOf 25 = 32 := by kernel_rfl
theorem mapM_bytes {H : Type} {enc : TypeId × Value → H} {W : World} {base : Nat} {sp : Nat → Bool} {held : Bool} {m : Nat} {cs : List Value} : ∀ (L : List Nat) (xs : List (DataW H × List MemPlace)),
    L.mapM (fun i => DataW.trod enc Try.prog W base sp held m 5 ((cs.drop (i * 1)).take 1)) = some xs →
    xs.flatMap (·.2) = [] ∧ ∀ i ∈ L, ∃ z : Nat, z < 256 ∧ (cs.drop (i * 1)).take 1 = [.int .u8 (z : Nat)]
  | [], xs, h => by
    simp at h
    subst h
    exact ⟨rfl, fun i hi => by cases hi⟩
  | i :: L, xs, h => by
    rw [List.mapM_cons] at h
    simp only [bind, Option.bind_eq_some_iff, pure, Option.some.injEq] at h
    obtain ⟨y, hy, ys, hys, rfl⟩ := h
    obtain ⟨hp, hl⟩ := mapM_bytes L ys hys
    obtain ⟨a, ea, rfl, wa⟩ := DataW.trod_int Try.underlying5 hy
    have hb := bounds_u8 wa
    refine ⟨by rw [List.flatMap_cons, hp]; rfl, fun j hj => ?_⟩
    rcases List.mem_cons.1 hj with rfl | hj
    · refine ⟨a.toNat, by omega, ?_⟩
      rw [ea, show ((a.toNat : Nat) : Int) = a from by omega]
    · exact hl j hj
/-- A digest, as the reading has it. -/
theorem open_digest {H : Type} {enc : TypeId × Value → H} {W : World} {base b0 : Nat} {sp : Nat → Bool} {held : Bool} {r : Reach} {v : Value} {d : DataW H} {ps : List MemPlace}
    (hv : Value.okWide Try.prog W r b0 25 v) (h : DataW.Trod enc Try.prog W base sp held 25 v d ps) : ∃ D : List Nat, v = .agg (u8s D) ∧ D.length = 32 ∧ Sm.allB D ∧ ps = [] := by
  simp only [Value.okWide, Try.underlying25] at hv
  obtain ⟨cs, rfl, hcs, _⟩ := hv
  rw [C25] at hcs
  obtain ⟨fuel, hf⟩ := h
  cases fuel with
  | zero => simp [DataW.trod] at hf
  | succ m =>
    rw [DataW.trod_step] at hf
    unfold DataW.trodStep at hf
    simp only [Try.underlying25, Value.cells] at hf
    rw [if_pos (by rw [C25]; simpa using hcs), C5] at hf
    simp only [Option.map_eq_some_iff] at hf
    obtain ⟨ys, hy, e1⟩ := hf
    obtain ⟨hp, hl⟩ := mapM_bytes _ ys hy
    simp only [Prod.mk.injEq] at e1
    have hk : ∀ i, ∃ z : Nat, i < 32 → z < 256 ∧ (cs.toList.drop (i * 1)).take 1 = [.int .u8 (z : Nat)] := fun i => by
      by_cases hi : i < 32
      · obtain ⟨z, hz⟩ := hl i (List.mem_range.2 hi)
        exact ⟨z, fun _ => hz⟩
      · exact ⟨0, fun h => absurd h hi⟩
    obtain ⟨Z, hZ⟩ := Classical.axiomOfChoice hk
    refine ⟨(List.range 32).map Z, ?_, by simp, fun x hx => ?_, by rw [← e1.2]; exact hp⟩
    · congr 1
      apply Array.ext
      · rw [u8s_size, List.length_map, List.length_range, hcs]
      · intro i h1 h2
        have hi : i < 32 := by omega
        have h3 := (hZ i hi).2
        have h4 : (u8s ((List.range 32).map Z))[i]? = some (.int .u8 (Z i : Nat)) := by simp [u8s, hi]
        rw [Array.getElem?_eq_getElem h2, Option.some.injEq] at h4
        rw [h4]
        have h5 : cs.toList[i]? = some (.int .u8 (Z i : Nat)) := by
          have := congrArg (·[0]?) h3
          simpa [List.getElem?_take, List.getElem?_drop] using this
        rw [Array.getElem?_toList, Array.getElem?_eq_getElem h1, Option.some.injEq] at h5
        exact h5
    · simp only [List.mem_map, List.mem_range] at hx
      obtain ⟨i, hi, rfl⟩ := hx
      exact (hZ i hi).1
set_option maxRecDepth 100000 in
theorem hex_lifted (os : Os) (started : os.Started) (H : Type) (enc : TypeId × Value → H) :
    ReturnsInHanded {} Try.checked os 5 .any (Rows.shaHexSpec.pre6 enc Try.prog Try.f5 Rows.shaHexRow.domain false) (Rows.shaHexSpec.post enc Try.prog Try.f5 false true false false) := by
  refine returnsInHanded_of_change (C := Try.checked) hex_own started (by kernel_rfl) Try.func5
    (ChangeSpec.witness6 (enc := enc) (C := Try.checked) false ⟨#[], #[.agg (u8s (zeros 32)), .string ⟨#[]⟩], []⟩ 8 (by kernel_rfl) (by kernel_rfl) (by kernel_rfl) (by kernel_rfl)) ?_
  intro W base args ds gs before hval0 hW _ _
  have hval : ∀ (j : Nat) t v, Try.f5.params[j]? = some t → args[j]? = some v → Value.okWide Try.prog W .any base t v := hval0
  have hW' := hW
  obtain ⟨p, q, hA0, hV, rfl, _, _⟩ := hW
  have hA : DataW.TrodAll enc Try.prog W 0 (fun _ => true) true Try.f5.params.toList args.toList ds p := hA0
  rw [Try.params5] at hA hval
  obtain ⟨v0, vs0, d0, ds0, p0, q0, hargs, rfl, rfl, h0, r0⟩ := trodAll_cons hA
  obtain ⟨v1, vs1, d1, ds1, p1, q1, rfl, rfl, rfl, h1, r1⟩ := trodAll_cons r0
  obtain ⟨rfl, rfl, rfl⟩ := trodAll_nil r1
  obtain rfl : args = #[v0, v1] := by cases args; simp_all
  obtain ⟨rfl, rfl⟩ := trodVars_none hV
  obtain ⟨D, rfl, hD, hDb, rfl⟩ := open_digest (hval 0 25 v0 rfl rfl) h0
  obtain ⟨s, rfl, rfl, rfl, hs⟩ := Go.ChangeMaps.open_string Try.underlying9 (hval 1 9 v1 rfl rfl) h1
  have k0 := h0
  have k1 := h1
  clear hA0 hval0
  refine (hexlaw_any D hD hDb s (by unfold maxLen at hs; omega) W).mono fun e W' ⟨he, bel⟩ => ?_
  subst he
  exact ⟨_, rfl, _, _, _, [], _, [], hW', trodAll_mk1 (shut_bool Try.underlying4 _), (trodAll_cons_mk (Below.trod hex_laidOut (by kernel_rfl) (of_decide_eq_true (by kernel_rfl)) k0 bel (fun x hx => by cases hx)) (trodAll_cons_mk (Below.trod hex_laidOut (by kernel_rfl) (of_decide_eq_true (by kernel_rfl)) k1 bel (fun x hx => by cases hx)) trodAll_mk0)), rfl, bel.frame _, fun h => by cases h⟩
theorem hex_holds : Rows.ShaHexSaid :=
  OpenClaim.holds_of_wide 5 Try.f5 rfl rfl rfl rfl rfl rfl rfl ⟨rfl, rfl, rfl, rfl, rfl⟩ rfl rfl rfl rfl rfl (by kernel_rfl) Try.func5 (by kernel_rfl)
    (of_decide_eq_true (by kernel_rfl)) (by unfold Func.isWrapper; first | (rw [if_pos (by decide +kernel)]; kernel_rfl) | (rw [if_neg (by decide +kernel)]; exact ⟨rfl, rfl⟩))
    (fun os started H enc _ => hex_lifted os started H enc)
end Go.Proofs.Ytffjmkbglhcblaa
