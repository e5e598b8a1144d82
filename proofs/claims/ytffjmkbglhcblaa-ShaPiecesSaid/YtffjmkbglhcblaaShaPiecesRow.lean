/- Proved: whatever texts it is handed, the Go function indenturelaw01.ShaPieces returns true (a sum under way is the sum of all that was written so far, piece by piece, and may go on behind being told), and each argument reads afterwards as it read before. Conditions: none beyond the given row's own. -/
import Derived.Test.YtffjmkbglhcblaaRows
import Derived.Test.YtffjmkbglhcblaaShaPieces
import Derived.ProofKit
import Derived.OpenShut
import Derived.ShutString
import Derived.ChangeOld
import Derived.Deep.Matrix
namespace Go.Proofs.Ytffjmkbglhcblaa
open Go.ChangeShapes Go.WideShapes Go.ChangeAt Go.RowKit Go.Deep

theorem sha_own : ownKnob Try.prog.godebug = none := by kernel_rfl
theorem sha_laidOut : laidOutB Try.prog = true := by kernel_rfl
theorem C22 : Try.prog.cellsOf 22 = 1 := by kernel_rfl
def nats (z : List Int) (n : Nat) : List Nat := (z.take n).map Int.toNat
theorem nats_ok {z : List Int} (h : ∀ n ∈ z, (Lit.int .u8 n).wf = true) (n : Nat) : Sm.allB (nats z n) := by
  intro x hx
  simp only [nats, List.mem_map] at hx
  obtain ⟨y, hy, rfl⟩ := hx
  have := bounds_u8 (h y (List.mem_of_mem_take hy))
  omega
theorem nats_get {z : List Int} (h : ∀ n ∈ z, (Lit.int .u8 n).wf = true) (n j : Nat) (hn : n ≤ z.length) (u : Value) (hu : (vals (nats z n))[j]? = some u) : j < n ∧ u = .int .u8 (z.getD j 0) := by
  have hj : j < n := by
    have := (List.getElem?_eq_some_iff.1 hu).1
    simp [vals, nats] at this
    omega
  refine ⟨hj, ?_⟩
  have hz : j < z.length := by omega
  have hb := bounds_u8 (h z[j] (List.getElem_mem hz))
  rw [vals_get _ _ (by simp [nats]; omega)] at hu
  simp only [Option.some.injEq] at hu
  rw [← hu]
  simp only [nats, List.getD_eq_getElem?_getD, List.getElem?_map, List.getElem?_take_of_lt hj, List.getElem?_eq_getElem hz, Option.map_some, Option.getD_some]
  congr 1
  omega
/-- A list of texts, as the reading has it. -/
theorem open_texts {H : Type} {enc : TypeId × Value → H} {W : World} {base : Nat} {held : Bool} {fuel : Nat} {a0 : Option Addr} {len0 cap0 : Nat} {x : DataW H × List MemPlace}
    (h : DataW.trod enc Try.prog W base (fun _ => true) held fuel 28 (Value.slice a0 len0 cap0).cells.toList = some x) : (∃ L, Texts W a0 len0 cap0 L) ∧ len0 ≤ 9223372036854775807 := by
  rcases open_int_rows Try.underlying28 Try.underlying22 Try.underlying5 C22 C5 h with ⟨hcs, _⟩ | ⟨a, len, cap, A, L, C, Z, hcs, _, hl, hm, _, hx⟩
  · simp [Value.cells] at hcs
    obtain ⟨rfl, rfl, rfl⟩ := hcs
    exact ⟨⟨[], rfl, Nat.le_refl _, fun h => absurd rfl h⟩, by omega⟩
  · simp [Value.cells] at hcs
    obtain ⟨rfl, rfl, rfl⟩ := hcs
    refine ⟨⟨(List.range len0).map fun r => nats (Z r) (L r), by simp, hl, fun hn => ?_⟩, by unfold maxLen at hm; omega⟩
    have hp : 0 < len0 := by
      rcases Nat.eq_zero_or_pos len0 with h0 | h0
      · subst h0; exact absurd rfl hn
      · exact h0
    obtain ⟨g, o, spot⟩ := a
    have hspot : spot = none := by simpa [Addr.add] using World.cell?_spot (hx 0 (by omega)).1
    subst hspot
    refine ⟨g, o, rfl, fun i hi => ?_⟩
    have hi' : i < len0 := by simpa using hi
    obtain ⟨h1, h2, h3, h4, h5, h6, h7⟩ := hx i (by omega)
    refine ⟨A i, L i, C i, by rw [← Addr.add_mid]; exact h1, ?_⟩
    have e : ((List.range len0).map fun r => nats (Z r) (L r)).getD i [] = nats (Z i) (L i) := by
      simp [List.getD_eq_getElem?_getD, hi']
    rw [e]
    refine ⟨by simp [nats]; omega, h2, nats_ok h5 _, ?_⟩
    cases hA : A i with
    | none => exact Or.inl ⟨rfl, h6 hA⟩
    | some a' =>
      refine Or.inr ⟨a', rfl, fun j u hu => ?_⟩
      obtain ⟨hj, rfl⟩ := nats_get h5 (L i) j (by omega) u hu
      exact (h7 a' hA).2 j (by omega)
set_option maxRecDepth 100000 in
theorem pieces_lifted (os : Os) (started : os.Started) (H : Type) (enc : TypeId × Value → H) :
    ReturnsInHanded {} Try.checked os 4 .any (Rows.shaPiecesSpec.pre6 enc Try.prog Try.f4 Rows.shaPiecesRow.domain false) (Rows.shaPiecesSpec.post enc Try.prog Try.f4 false true false false) := by
  refine returnsInHanded_of_change (C := Try.checked) sha_own started (by kernel_rfl) Try.func4
    (ChangeSpec.witness6 (enc := enc) (C := Try.checked) false ⟨#[], #[.slice none 0 0], []⟩ 8 (by kernel_rfl) (by kernel_rfl) (by kernel_rfl) (by kernel_rfl)) ?_
  intro W base args ds gs before hval0 hW _ _
  have hval : ∀ (j : Nat) t v, Try.f4.params[j]? = some t → args[j]? = some v → Value.okWide Try.prog W .any base t v := hval0
  have hW' := hW
  obtain ⟨p, q, hA0, hV, rfl, _, _⟩ := hW
  have hA : DataW.TrodAll enc Try.prog W 0 (fun _ => true) true Try.f4.params.toList args.toList ds p := hA0
  rw [Try.params4] at hA hval
  obtain ⟨v0, vs0, d0, ds0, p0, q0, hargs, rfl, rfl, h0, r0⟩ := trodAll_cons hA
  obtain ⟨rfl, rfl, rfl⟩ := trodAll_nil r0
  obtain rfl : args = #[v0] := by cases args; simp_all
  obtain ⟨rfl, rfl⟩ := trodVars_none hV
  obtain ⟨a0, len0, cap0, rfl⟩ := okWide_slice Try.underlying28 (hval 0 28 v0 rfl rfl)
  have k0 := h0
  have lt0 : ∀ x ∈ p0, x.block < W.heap.size := by obtain ⟨m, hm⟩ := k0; exact DataW.trod_lt m _ _ _ hm
  obtain ⟨⟨L, hL⟩, hlen⟩ : (∃ L, Texts W a0 len0 cap0 L) ∧ len0 ≤ 9223372036854775807 := by
    obtain ⟨fuel, hf⟩ := h0
    exact open_texts hf
  clear hA0 hval0
  refine (pieces_any L a0 len0 cap0 W hL hlen).mono fun e W' ⟨he, bel⟩ => ?_
  subst he
  exact ⟨_, rfl, _, _, _, [], _, [], hW', trodAll_mk1 (shut_bool Try.underlying4 _), (trodAll_cons_mk (Below.trod sha_laidOut (by kernel_rfl) (of_decide_eq_true (by kernel_rfl)) k0 bel lt0) trodAll_mk0), rfl, bel.frame _, fun h => by cases h⟩
theorem pieces_holds : Rows.ShaPiecesSaid :=
  OpenClaim.holds_of_wide 4 Try.f4 rfl rfl rfl rfl rfl rfl rfl ⟨rfl, rfl, rfl, rfl, rfl⟩ rfl rfl rfl rfl rfl (by kernel_rfl) Try.func4 (by kernel_rfl)
    (of_decide_eq_true (by kernel_rfl)) (by unfold Func.isWrapper; first | (rw [if_pos (by decide +kernel)]; kernel_rfl) | (rw [if_neg (by decide +kernel)]; exact ⟨rfl, rfl⟩))
    (fun os started H enc _ => pieces_lifted os started H enc)
end Go.Proofs.Ytffjmkbglhcblaa
