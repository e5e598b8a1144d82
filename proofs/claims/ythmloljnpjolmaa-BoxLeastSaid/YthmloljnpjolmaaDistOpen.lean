/- Arguments opened: distances, rows, boxes, lists of words. -/
import Derived.Test.YthmloljnpjolmaaGenRow
import Derived.Test.YthmloljnpjolmaaDist12
namespace Go.Proofs.Ythmloljnpjolmaa
open Go.ChangeShapes Go.WideShapes Go.ChangeAt Go.RowKit Go.Deep

def fieldsOf : Option TypeDesc → Option (List (Nat × TypeId))
  | some (.struct fs) => some (fs.toList.map fun f => (f.offset, f.type))
  | _ => none
theorem field_at {fs : Array Field} {l : List (Nat × TypeId)} (h : fs.toList.map (fun f => (f.offset, f.type)) = l) {i o : Nat} {t : TypeId} (hi : l[i]? = some (o, t)) : ∃ f, fs[i]? = some f ∧ f.offset = o ∧ f.type = t := by
  subst h
  rw [List.getElem?_map, Option.map_eq_some_iff] at hi
  obtain ⟨f, hf, he⟩ := hi
  simp only [Prod.mk.injEq] at he
  exact ⟨f, by rw [← Array.getElem?_toList]; exact hf, he.1, he.2⟩
theorem FD : fieldsOf (Try.prog.underlying 37) = some [(0, 35), (1, 35)] := by kernel_rfl
theorem FB : fieldsOf (Try.prog.underlying 25) = some [(0, 23), (1, 23)] := by kernel_rfl
theorem CD : Try.prog.cellsOf 37 = 2 := by kernel_rfl
theorem CB : Try.prog.cellsOf 25 = 2 := by kernel_rfl
theorem C64 : Try.prog.cellsOf 35 = 1 := by kernel_rfl
theorem CI64 : Try.prog.cellsOf 2 = 1 := by kernel_rfl
theorem CRow : Try.prog.cellsOf 23 = 1 := by kernel_rfl
theorem CWs : Try.prog.cellsOf 80 = 1 := by kernel_rfl
theorem UI64 : Try.prog.underlying 2 = some (.int .i64) := by kernel_rfl
theorem UR : Try.prog.underlying 23 = some (.slice 2) := by kernel_rfl
theorem bounds_u64 {n : Int} (h : (Lit.int .u64 n).wf = true) : 0 ≤ n ∧ n < 18446744073709551616 := by
  have hmin : IntKind.u64.min = 0 := rfl
  have hmax : IntKind.u64.max = 18446744073709551615 := rfl
  simp only [Lit.wf, Bool.and_eq_true, decide_eq_true_eq] at h
  omega
section
variable {H : Type} {enc : TypeId × Value → H} {W : World} {base : Nat} {held : Bool} {fuel : Nat} {cs : List Value} {x : DataW H × List MemPlace}
theorem cells_row (h : DataW.trod enc Try.prog W base (fun _ => true) held fuel 23 cs = some x) : ∃ p n c R, cs = [.slice p n c] ∧ Ints W p n c R ∧ n ≤ 9223372036854775807 := by
  rcases open_ints UR UI64 CI64 h with ⟨hcs, _⟩ | ⟨a, len, cap, zs, hcs, _, hl, hm, hz, _, hx, hw⟩
  · exact ⟨_, _, _, [], hcs, ⟨rfl, Nat.le_refl _, fun x hx => by simp at hx, Or.inl rfl⟩, by omega⟩
  · simp only [if_true] at hz
    refine ⟨_, _, _, zs.take len, hcs, ⟨by rw [List.length_take, hz]; exact (Nat.min_eq_left hl).symm, hl, fun y hy => bounds_i64 (hw y (List.mem_of_mem_take hy)), ?_⟩, by unfold maxLen at hm; omega⟩
    rcases Nat.eq_zero_or_pos len with h0 | h0
    · exact Or.inl (by rw [h0, List.take_zero])
    · right
      have hsp := World.cell?_spot (hx 0 (by omega))
      obtain ⟨g, o, spot⟩ := a
      have hspot : spot = none := by simpa [Addr.add] using hsp
      subst hspot
      refine ⟨g, o, rfl, fun i hi => ?_⟩
      rw [List.length_take] at hi
      have := hx i (by omega)
      rw [show (⟨g, o, none⟩ : Addr).add i = ⟨g, o + i, none⟩ from by unfold Addr.add; split <;> simp_all] at this
      rw [this, List.getD_eq_getElem?_getD, List.getD_eq_getElem?_getD, List.getElem?_take_of_lt (by omega)]
theorem cells_words (h : DataW.trod enc Try.prog W base (fun _ => true) held fuel 80 cs = some x) : ∃ p n c R, cs = [.slice p n c] ∧ Words W p n c R ∧ n ≤ 9223372036854775807 := by
  rcases open_ints A22w U23 C64 h with ⟨hcs, _⟩ | ⟨a, len, cap, zs, hcs, _, hl, hm, hz, _, hx, hw⟩
  · exact ⟨_, _, _, [], hcs, ⟨rfl, Nat.le_refl _, fun x hx => by simp at hx, Or.inl rfl⟩, by omega⟩
  · simp only [if_true] at hz
    refine ⟨_, _, _, zs.take len, hcs, ⟨by rw [List.length_take, hz]; exact (Nat.min_eq_left hl).symm, hl, fun y hy => bounds_u64 (hw y (List.mem_of_mem_take hy)), ?_⟩, by unfold maxLen at hm; omega⟩
    rcases Nat.eq_zero_or_pos len with h0 | h0
    · exact Or.inl (by rw [h0, List.take_zero])
    · right
      have hsp := World.cell?_spot (hx 0 (by omega))
      obtain ⟨g, o, spot⟩ := a
      have hspot : spot = none := by simpa [Addr.add] using hsp
      subst hspot
      refine ⟨g, o, rfl, fun i hi => ?_⟩
      rw [List.length_take] at hi
      have := hx i (by omega)
      rw [show (⟨g, o, none⟩ : Addr).add i = ⟨g, o + i, none⟩ from by unfold Addr.add; split <;> simp_all] at this
      rw [this, List.getD_eq_getElem?_getD, List.getD_eq_getElem?_getD, List.getElem?_take_of_lt (by omega)]
theorem cells_dist (h : DataW.trod enc Try.prog W base (fun _ => true) held fuel 37 cs = some x) : ∃ N : Nat, N < 340282366920938463463374607431768211456 ∧ cs = (dRow N).toList := by
  have hp := FD
  unfold fieldsOf at hp
  split at hp
  case h_2 => cases hp
  case h_1 fs hu =>
  simp only [Option.some.injEq] at hp
  obtain ⟨xs, n, _, _, hlen, hxs, hf⟩ := DataW.trod_struct hu h
  rw [CD] at hlen
  have get : ∀ (i o : Nat) (t : TypeId), ([(0, 35), (1, 35)] : List (Nat × TypeId))[i]? = some (o, t) →
      ∃ y, DataW.trod enc Try.prog W base (fun _ => true) held n t ((cs.drop o).take (Try.prog.cellsOf t)) = some y := fun i o t hi => by
    obtain ⟨f, h1, h2, h3⟩ := field_at hp hi
    have h4 := hf i f h1
    rw [h2, h3] at h4
    have hlt : i < xs.length := by rw [hxs]; exact (Array.getElem?_eq_some_iff.1 h1).1
    exact ⟨xs[i], by rw [h4, List.getElem?_eq_getElem hlt]⟩
  obtain ⟨y0, h0⟩ := get 0 0 _ rfl
  obtain ⟨y1, h1⟩ := get 1 1 _ rfl
  rw [C64] at h0 h1
  obtain ⟨a0, e0, _, w0⟩ := DataW.trod_int U23 h0
  obtain ⟨a1, e1, _, w1⟩ := DataW.trod_int U23 h1
  have b0 := bounds_u64 w0
  have b1 := bounds_u64 w1
  match cs, hlen with
  | [c0, c1], _ =>
    simp at e0 e1
    refine ⟨(a0 * 18446744073709551616 + a1).toNat, by omega, ?_⟩
    unfold dRow
    simp only [e0, e1]
    have k0 : (((a0 * 18446744073709551616 + a1).toNat : Nat) : Int) = a0 * 18446744073709551616 + a1 := by omega
    rw [k0]
    congr 2
    · omega
    · congr 1
      omega
theorem cells_box (h : DataW.trod enc Try.prog W base (fun _ => true) held fuel 25 cs = some x) : ∃ p n c R q m d S, cs = [.slice p n c, .slice q m d] ∧ Ints W p n c R ∧ Ints W q m d S ∧ n ≤ 9223372036854775807 ∧ m ≤ 9223372036854775807 := by
  have hp := FB
  unfold fieldsOf at hp
  split at hp
  case h_2 => cases hp
  case h_1 fs hu =>
  simp only [Option.some.injEq] at hp
  obtain ⟨xs, n, _, _, hlen, hxs, hf⟩ := DataW.trod_struct hu h
  rw [CB] at hlen
  have get : ∀ (i o : Nat) (t : TypeId), ([(0, 23), (1, 23)] : List (Nat × TypeId))[i]? = some (o, t) →
      ∃ y, DataW.trod enc Try.prog W base (fun _ => true) held n t ((cs.drop o).take (Try.prog.cellsOf t)) = some y := fun i o t hi => by
    obtain ⟨f, h1, h2, h3⟩ := field_at hp hi
    have h4 := hf i f h1
    rw [h2, h3] at h4
    have hlt : i < xs.length := by rw [hxs]; exact (Array.getElem?_eq_some_iff.1 h1).1
    exact ⟨xs[i], by rw [h4, List.getElem?_eq_getElem hlt]⟩
  obtain ⟨y0, h0⟩ := get 0 0 _ rfl
  obtain ⟨y1, h1⟩ := get 1 1 _ rfl
  rw [CRow] at h0 h1
  obtain ⟨p, n, c, R, e0, hR, hn⟩ := cells_row h0
  obtain ⟨q, m, d, S, e1, hS, hm⟩ := cells_row h1
  match cs, hlen with
  | [c0, c1], _ =>
    simp at e0 e1
    exact ⟨p, n, c, R, q, m, d, S, by rw [e0, e1], hR, hS, hn, hm⟩
end
theorem open_dist {H : Type} {enc : TypeId × Value → H} {W : World} {base b0 : Nat} {held : Bool} {r : Reach} {v : Value} {d : DataW H} {ps : List MemPlace}
    (hv : Value.okWide Try.prog W r b0 37 v) (h : DataW.Trod enc Try.prog W base (fun _ => true) held 37 v d ps) : ∃ N : Nat, N < 340282366920938463463374607431768211456 ∧ v = dV N := by
  have hp := FD
  unfold fieldsOf at hp
  split at hp
  case h_2 => cases hp
  case h_1 fs hu =>
  simp only [Value.okWide, hu] at hv
  obtain ⟨cs, rfl, _, _⟩ := hv
  obtain ⟨fuel, hf⟩ := h
  obtain ⟨N, hN, e⟩ := cells_dist hf
  exact ⟨N, hN, congrArg Value.agg (Array.ext' e)⟩
theorem open_box {H : Type} {enc : TypeId × Value → H} {W : World} {base b0 : Nat} {held : Bool} {r : Reach} {v : Value} {d : DataW H} {ps : List MemPlace}
    (hv : Value.okWide Try.prog W r b0 25 v) (h : DataW.Trod enc Try.prog W base (fun _ => true) held 25 v d ps) : ∃ p n c R q m e S, v = .agg #[.slice p n c, .slice q m e] ∧ Ints W p n c R ∧ Ints W q m e S ∧ n ≤ 9223372036854775807 ∧ m ≤ 9223372036854775807 := by
  have hp := FB
  unfold fieldsOf at hp
  split at hp
  case h_2 => cases hp
  case h_1 fs hu =>
  simp only [Value.okWide, hu] at hv
  obtain ⟨cs, rfl, _, _⟩ := hv
  obtain ⟨fuel, hf⟩ := h
  obtain ⟨p, n, c, R, q, m, e, S, he, hR, hS, hn, hm⟩ := cells_box hf
  exact ⟨p, n, c, R, q, m, e, S, congrArg Value.agg (Array.ext' he), hR, hS, hn, hm⟩
theorem open_row {H : Type} {enc : TypeId × Value → H} {W : World} {base b0 : Nat} {held : Bool} {r : Reach} {v : Value} {d : DataW H} {ps : List MemPlace}
    (hv : Value.okWide Try.prog W r b0 23 v) (h : DataW.Trod enc Try.prog W base (fun _ => true) held 23 v d ps) : ∃ p n c R, v = .slice p n c ∧ Ints W p n c R ∧ n ≤ 9223372036854775807 := by
  obtain ⟨a, len, cap, rfl⟩ := okWide_slice UR hv
  obtain ⟨fuel, hf⟩ := h
  obtain ⟨p, n, c, R, he, hR, hn⟩ := cells_row hf
  simp [Value.cells] at he
  obtain ⟨rfl, rfl, rfl⟩ := he
  exact ⟨_, _, _, R, rfl, hR, hn⟩
theorem open_words {H : Type} {enc : TypeId × Value → H} {W : World} {base b0 : Nat} {held : Bool} {r : Reach} {v : Value} {d : DataW H} {ps : List MemPlace}
    (hv : Value.okWide Try.prog W r b0 80 v) (h : DataW.Trod enc Try.prog W base (fun _ => true) held 80 v d ps) : ∃ p n c R, v = .slice p n c ∧ Words W p n c R ∧ n ≤ 9223372036854775807 := by
  obtain ⟨a, len, cap, rfl⟩ := okWide_slice A22w hv
  obtain ⟨fuel, hf⟩ := h
  obtain ⟨p, n, c, R, he, hR, hn⟩ := cells_words hf
  simp [Value.cells] at he
  obtain ⟨rfl, rfl, rfl⟩ := he
  exact ⟨_, _, _, R, rfl, hR, hn⟩
end Go.Proofs.Ythmloljnpjolmaa
