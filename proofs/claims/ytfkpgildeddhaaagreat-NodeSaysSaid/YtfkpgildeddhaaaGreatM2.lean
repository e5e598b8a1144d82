/- NdOpen, CodRd, CodW, CodClone, CodR, CodRV, CodRByte, CodRLow, CodRCount, GenOwn, NdRd, NlReads, NlRow, CodWDg, CodDgCopy, NlDigest, NlRet, NdKd0. -/
import Derived.Test.YtfkpgildeddhaaaGreatM1
import Derived.OpenShut
import Derived.Deep.Slices
import Derived.Lib.BitFns
import Derived.Lib.MinMax
import Derived.Laws.OwnMore
import Derived.Laws.ResultCell
/- Arguments opened: a node, a kid. -/
namespace Go.Proofs.YtfkpgildeddhaaaGreat.Nd
open Go.ChangeShapes Go.WideShapes Go.ChangeAt Go.RowKit Go.Deep

def fieldsOf : Option TypeDesc → Option (List (Nat × TypeId))
  | some (.struct fs) => some (fs.toList.map fun f => (f.offset, f.type))
  | _ => none
theorem field_at {fs : Array Field} {l : List (Nat × TypeId)} (h : fs.toList.map (fun f => (f.offset, f.type)) = l) {i o : Nat} {t : TypeId} (hi : l[i]? = some (o, t)) : ∃ f, fs[i]? = some f ∧ f.offset = o ∧ f.type = t := by
  subst h
  rw [List.getElem?_map, Option.map_eq_some_iff] at hi
  obtain ⟨f, hf, he⟩ := hi
  simp only [Prod.mk.injEq] at he
  exact ⟨f, by rw [← Array.getElem?_toList]; exact hf, he.1, he.2⟩
theorem FBx : fieldsOf (Tryz.prog.underlying 41) = some [(0, 39), (1, 39)] := by kernel_rfl
theorem FKd : fieldsOf (Tryz.prog.underlying 43) = some [(0, 37), (32, 41), (34, 3), (35, 3), (36, 39)] := by kernel_rfl
theorem FEn : fieldsOf (Tryz.prog.underlying 55) = some [(0, 39), (1, 4)] := by kernel_rfl
theorem FNd : fieldsOf (Tryz.prog.underlying 27) = some [(0, 5), (1, 24), (2, 25)] := by kernel_rfl
theorem CBx : Tryz.prog.cellsOf 41 = 2 := by kernel_rfl
theorem CKd : Tryz.prog.cellsOf 43 = 37 := by kernel_rfl
theorem CEn : Tryz.prog.cellsOf 55 = 2 := by kernel_rfl
theorem CNd : Tryz.prog.cellsOf 27 = 3 := by kernel_rfl
theorem CES : Tryz.prog.cellsOf 24 = 1 := by kernel_rfl
theorem CKS : Tryz.prog.cellsOf 25 = 1 := by kernel_rfl
theorem CI64o : Tryz.prog.cellsOf 2 = 1 := by kernel_rfl
theorem CInto : Tryz.prog.cellsOf 3 = 1 := by kernel_rfl
theorem CBlo : Tryz.prog.cellsOf 4 = 1 := by kernel_rfl
theorem CU8o : Tryz.prog.cellsOf 5 = 1 := by kernel_rfl
theorem CRowo : Tryz.prog.cellsOf 39 = 1 := by kernel_rfl
theorem CDgo : Tryz.prog.cellsOf 37 = 32 := by kernel_rfl
theorem UI64o : Tryz.prog.underlying 2 = some (.int .i64) := by kernel_rfl
theorem UInto : Tryz.prog.underlying 3 = some (.int .i64) := by kernel_rfl
theorem UU8o : Tryz.prog.underlying 5 = some (.int .u8) := by kernel_rfl
theorem UBlo : Tryz.prog.underlying 4 = some .bool := by kernel_rfl
theorem URo : Tryz.prog.underlying 39 = some (.slice 2) := by kernel_rfl
theorem UESo : Tryz.prog.underlying 24 = some (.slice 55) := by kernel_rfl
theorem UKSo : Tryz.prog.underlying 25 = some (.slice 43) := by kernel_rfl
section
variable {H : Type} {enc : TypeId × Value → H} {W : World} {base : Nat} {held : Bool} {fuel : Nat} {cs : List Value} {x : DataW H × List MemPlace}
/-- The fields of a struct, one by one. -/
theorem trod_fields {t : TypeId} {l : List (Nat × TypeId)} (hF : fieldsOf (Tryz.prog.underlying t) = some l) (h : DataW.trod enc Tryz.prog W base (fun _ => true) held fuel t cs = some x) :
    cs.length = Tryz.prog.cellsOf t ∧ ∃ n, ∀ (i o : Nat) (u : TypeId), l[i]? = some (o, u) → ∃ y, DataW.trod enc Tryz.prog W base (fun _ => true) held n u ((cs.drop o).take (Tryz.prog.cellsOf u)) = some y := by
  unfold fieldsOf at hF
  split at hF
  case h_2 => cases hF
  case h_1 fs hu =>
  simp only [Option.some.injEq] at hF
  obtain ⟨xs, n, _, _, hlen, hxs, hf⟩ := DataW.trod_struct hu h
  refine ⟨hlen, n, fun i o t hi => ?_⟩
  obtain ⟨f, h1, h2, h3⟩ := field_at hF hi
  have h4 := hf i f h1
  rw [h2, h3] at h4
  have hlt : i < xs.length := by rw [hxs]; exact (Array.getElem?_eq_some_iff.1 h1).1
  exact ⟨xs[i], by rw [h4, List.getElem?_eq_getElem hlt]⟩
theorem cells_row (h : DataW.trod enc Tryz.prog W base (fun _ => true) held fuel 39 cs = some x) : ∃ r : Rw, cs = [r.val] ∧ r.Ok W := by
  rcases open_ints URo UI64o CI64o h with ⟨hcs, _⟩ | ⟨a, len, cap, zs, hcs, _, hl, hm, hz, _, hx, hw⟩
  · exact ⟨⟨_, _, _, []⟩, hcs, ⟨rfl, Nat.le_refl _, fun x hx => by simp at hx, Or.inl rfl⟩, by show (0 : Nat) ≤ _; omega⟩
  · simp only [if_true] at hz
    refine ⟨⟨_, _, _, zs.take len⟩, hcs, ⟨by rw [List.length_take, hz]; exact (Nat.min_eq_left hl).symm, hl, fun y hy => bounds_i64 (hw y (List.mem_of_mem_take hy)), ?_⟩, by show len ≤ _; unfold maxLen at hm; omega⟩
    rcases Nat.eq_zero_or_pos len with h0 | h0
    · exact Or.inl (by rw [h0, List.take_zero])
    · right
      have hsp := World.cell?_spot (hx 0 (by omega))
      obtain ⟨g, o, spot⟩ := a
      have hspot : spot = none := by simpa [Addr.add] using hsp
      subst hspot
      refine ⟨g, o, rfl, fun i hi => ?_⟩
      rw [List.length_take] at hi
      have := hx i (by omega)
      rw [show (⟨g, o, none⟩ : Addr).add i = ⟨g, o + i, none⟩ from by unfold Addr.add; split <;> simp_all] at this
      rw [this, List.getD_eq_getElem?_getD, List.getD_eq_getElem?_getD, List.getElem?_take_of_lt (by omega)]
theorem cells_digest (h : DataW.trod enc Tryz.prog W base (fun _ => true) held fuel 37 cs = some x) : ∃ D : List Nat, cs = vals D ∧ D.length = 32 ∧ Sm.allB D := by
  cases fuel with
  | zero => simp [DataW.trod] at h
  | succ m =>
    rw [DataW.trod_step] at h
    unfold DataW.trodStep at h
    simp only [Tryz.underlying37] at h
    by_cases hcs : cs.length = Tryz.prog.cellsOf 37
    case neg => rw [if_neg hcs] at h; cases h
    rw [if_pos hcs, C5] at h
    rw [CDgo] at hcs
    simp only [Option.map_eq_some_iff] at h
    obtain ⟨ys, hy, e1⟩ := h
    obtain ⟨-, hl⟩ := mapM_bytes _ ys hy
    have hk : ∀ i, ∃ z : Nat, i < 32 → z < 256 ∧ (cs.drop (i * 1)).take 1 = [.int .u8 (z : Nat)] := fun i => by
      by_cases hi : i < 32
      · obtain ⟨z, hz⟩ := hl i (List.mem_range.2 hi)
        exact ⟨z, fun _ => hz⟩
      · exact ⟨0, fun h => absurd h hi⟩
    obtain ⟨Z, hZ⟩ := Classical.axiomOfChoice hk
    refine ⟨(List.range 32).map Z, ?_, by simp, fun x hx => ?_⟩
    · apply List.ext_getElem?
      intro i
      by_cases hi : i < 32
      · have h5 : cs[i]? = some (.int .u8 (Z i : Nat)) := by
          have := congrArg (·[0]?) (hZ i hi).2
          simpa [List.getElem?_take, List.getElem?_drop] using this
        rw [h5]
        simp [vals, hi]
      · rw [List.getElem?_eq_none (by omega), List.getElem?_eq_none (by rw [vals_length, List.length_map, List.length_range]; omega)]
    · simp only [List.mem_map, List.mem_range] at hx
      obtain ⟨i, hi, rfl⟩ := hx
      exact (hZ i hi).1
theorem cells_cut (cs : List Value) (o n : Nat) : cs.drop o = (cs.drop o).take n ++ cs.drop (o + n) := by
  rw [← List.drop_drop]; exact (List.take_append_drop n _).symm
theorem cells_box (h : DataW.trod enc Tryz.prog W base (fun _ => true) held fuel 41 cs = some x) : ∃ r s : Rw, cs = [r.val, s.val] ∧ r.Ok W ∧ s.Ok W := by
  obtain ⟨hlen, n, get⟩ := trod_fields FBx h
  rw [CBx] at hlen
  obtain ⟨y0, h0⟩ := get 0 0 _ rfl
  obtain ⟨y1, h1⟩ := get 1 1 _ rfl
  rw [CRowo] at h0 h1
  obtain ⟨r, e0, hR⟩ := cells_row h0
  obtain ⟨s, e1, hS⟩ := cells_row h1
  refine ⟨r, s, ?_, hR, hS⟩
  have := cells_cut cs 0 1
  rw [List.drop_zero] at this
  rw [List.drop_zero] at e0
  rw [this, e0, cells_cut cs 1 1, e1, List.drop_eq_nil_of_le (by omega)]
  rfl
theorem cells_entry (h : DataW.trod enc Tryz.prog W base (fun _ => true) held fuel 55 cs = some x) : ∃ e : En, cs = [e.row.val, .bool e.live] ∧ e.row.Ok W := by
  obtain ⟨hlen, n, get⟩ := trod_fields FEn h
  rw [CEn] at hlen
  obtain ⟨y0, h0⟩ := get 0 0 _ rfl
  obtain ⟨y1, h1⟩ := get 1 1 _ rfl
  rw [CRowo] at h0
  rw [CBlo] at h1
  obtain ⟨r, e0, hR⟩ := cells_row h0
  obtain ⟨b, e1, _⟩ := DataW.trod_bool UBlo h1
  refine ⟨⟨r, b⟩, ?_, hR⟩
  have := cells_cut cs 0 1
  rw [List.drop_zero] at this
  rw [List.drop_zero] at e0
  rw [this, e0, cells_cut cs 1 1, e1, List.drop_eq_nil_of_le (by omega)]
  rfl
theorem cells_kid (h : DataW.trod enc Tryz.prog W base (fun _ => true) held fuel 43 cs = some x) : ∃ k : Kd, cs = k.cells ∧ k.Ok W := by
  obtain ⟨hlen, n, get⟩ := trod_fields FKd h
  rw [CKd] at hlen
  obtain ⟨y0, h0⟩ := get 0 0 _ rfl
  obtain ⟨y1, h1⟩ := get 1 32 _ rfl
  obtain ⟨y2, h2⟩ := get 2 34 _ rfl
  obtain ⟨y3, h3⟩ := get 3 35 _ rfl
  obtain ⟨y4, h4⟩ := get 4 36 _ rfl
  rw [CDgo] at h0
  rw [CBx] at h1
  rw [CInto] at h2 h3
  rw [CRowo] at h4
  obtain ⟨D, e0, hD, hB⟩ := cells_digest h0
  obtain ⟨r, s, e1, hR, hS⟩ := cells_box h1
  obtain ⟨a2, e2, _, w2⟩ := DataW.trod_int UInto h2
  obtain ⟨a3, e3, _, w3⟩ := DataW.trod_int UInto h3
  obtain ⟨t, e4, hT⟩ := cells_row h4
  refine ⟨⟨D, r, s, a2, a3, t⟩, ?_, ⟨hD, hB, hR, hS, hT, bounds_i64 w2, bounds_i64 w3⟩⟩
  have := cells_cut cs 0 32
  rw [List.drop_zero] at this
  rw [List.drop_zero] at e0
  rw [this, e0, cells_cut cs 32 2, e1, cells_cut cs 34 1, e2, cells_cut cs 35 1, e3, cells_cut cs 36 1, e4, List.drop_eq_nil_of_le (by omega)]
  rfl
end
theorem add_none (b o n : Nat) : (⟨b, o, none⟩ : Addr).add n = ⟨b, o + n, none⟩ := by unfold Addr.add; split <;> simp_all
/-- A list of structs, each known by its cells. -/
theorem open_structs {α : Type} [Inhabited α] (cells : α → List Value) (P : α → Prop) (sz : Nat) (hsz : 0 < sz) {t e : TypeId} (hu : Tryz.prog.underlying t = some (.slice e)) (hc : Tryz.prog.cellsOf e = sz)
    {H : Type} {enc : TypeId × Value → H} {W : World} {base : Nat} {held : Bool} {fuel : Nat} {cs : List Value} {x : DataW H × List MemPlace}
    (hone : ∀ (n : Nat) (cs : List Value) (y : DataW H × List MemPlace), DataW.trod enc Tryz.prog W base (fun _ => true) held n e cs = some y → ∃ a : α, cs = cells a ∧ P a)
    (h : DataW.trod enc Tryz.prog W base (fun _ => true) held fuel t cs = some x) :
    ∃ (a0 : Option Addr) (n c : Nat) (L : List α), cs = [.slice a0 n c] ∧ n = L.length ∧ n ≤ c ∧ n ≤ 9223372036854775807 ∧ (∀ a ∈ L, P a) ∧ (L = [] ∨ ∃ g o, a0 = some ⟨g, o, none⟩ ∧ ∀ i, i < L.length → W.rangeAt g (o + i * sz) (cells (L.getD i default))) := by
  rcases open_slice hu h with ⟨hcs, _⟩ | ⟨a, len, cap, m, n, Dd, Pl, hcs, _, hl, hm, hmm, _, hx⟩
  · exact ⟨none, 0, 0, [], hcs, rfl, Nat.le_refl _, by omega, (fun a ha => by cases ha), Or.inl rfl⟩
  · simp only [if_true] at hmm
    rw [hc] at hx
    obtain ⟨V, hV⟩ := choose_lt (α := α) (n := len) (p := fun i t => W.cells? base (a.add (i * sz)) sz = some (cells t) ∧ P t) (fun i hi => by
      obtain ⟨cs', h1, h2⟩ := hx i (by omega)
      obtain ⟨t, rfl, ht⟩ := hone _ _ _ h2
      exact ⟨t, h1, ht⟩)
    refine ⟨some a, len, cap, (List.range len).map V, hcs, by simp, hl, by unfold maxLen at hm; omega, fun t ht => ?_, ?_⟩
    · simp only [List.mem_map, List.mem_range] at ht
      obtain ⟨i, hi, rfl⟩ := ht
      exact (hV i hi).2
    rcases Nat.eq_zero_or_pos len with h0 | h0
    · exact Or.inl (by subst h0; rfl)
    right
    obtain ⟨g, o, spot⟩ := a
    have hspot : spot = none := by
      obtain ⟨_, hlen, hc'⟩ := World.cells?_some (hV 0 h0).1
      have h0' := hc' 0 hsz
      have hs : (cells (V 0))[0]? ≠ none := by rw [List.getElem?_eq_getElem (by omega)]; simp
      obtain ⟨v, hv⟩ := Option.ne_none_iff_exists'.1 hs
      have := World.cell?_spot (h0'.trans hv)
      simpa [Addr.add] using this
    subst hspot
    refine ⟨g, o, rfl, fun i hi => ?_⟩
    have hi' : i < len := by simpa using hi
    have e : ((List.range len).map V).getD i default = V i := by simp [List.getD_eq_getElem?_getD, hi']
    rw [e]
    intro j v hv
    obtain ⟨_, hlen, hc'⟩ := World.cells?_some (hV i hi').1
    have hj : j < sz := by rw [← hlen]; exact (List.getElem?_eq_some_iff.1 hv).1
    have := hc' j hj
    rw [hv, add_none, add_none] at this
    exact this
section
variable {H : Type} {enc : TypeId × Value → H} {W : World} {base : Nat} {held : Bool} {fuel : Nat} {cs : List Value} {x : DataW H × List MemPlace}
theorem cells_entries (h : DataW.trod enc Tryz.prog W base (fun _ => true) held fuel 24 cs = some x) : ∃ p n c E, cs = [.slice p n c] ∧ EntsIn W p n c E := by
  obtain ⟨p, n, c, E, rfl, h1, h2, h3, h4, h5⟩ := open_structs (fun e : En => [e.row.val, .bool e.live]) (fun e => e.row.Ok W) 2 (by omega) UESo CEn (fun _ _ _ h => cells_entry h) h
  refine ⟨p, n, c, E, rfl, h1, h2, h3, h4, h5.imp id ?_⟩
  rintro ⟨g, o, rfl, hx⟩
  exact ⟨g, o, rfl, fun i hi => ⟨by have := hx i hi 0 _ rfl; simpa using this, hx i hi 1 _ rfl⟩⟩
theorem cells_kids (h : DataW.trod enc Tryz.prog W base (fun _ => true) held fuel 25 cs = some x) : ∃ p n c K, cs = [.slice p n c] ∧ KidsIn W p n c K := by
  obtain ⟨p, n, c, K, rfl, h1, h2, h3, h4, h5⟩ := open_structs Kd.cells (fun k => k.Ok W) 37 (by omega) UKSo CKd (fun _ _ _ h => cells_kid h) h
  exact ⟨p, n, c, K, rfl, h1, h2, h3, h4, h5⟩
theorem cells_node (h : DataW.trod enc Tryz.prog W base (fun _ => true) held fuel 27 cs = some x) : ∃ (kd : Nat) (p : Option Addr) (n c : Nat) (q : Option Addr) (m f : Nat) (E : List En) (K : List Kd), cs = [.int .u8 kd, .slice p n c, .slice q m f] ∧ kd < 256 ∧ EntsIn W p n c E ∧ KidsIn W q m f K := by
  obtain ⟨hlen, n, get⟩ := trod_fields FNd h
  rw [CNd] at hlen
  obtain ⟨y0, h0⟩ := get 0 0 _ rfl
  obtain ⟨y1, h1⟩ := get 1 1 _ rfl
  obtain ⟨y2, h2⟩ := get 2 2 _ rfl
  rw [CU8o] at h0
  rw [CES] at h1
  rw [CKS] at h2
  obtain ⟨a0, e0, _, w0⟩ := DataW.trod_int UU8o h0
  obtain ⟨p, n1, c, E, e1, hE⟩ := cells_entries h1
  obtain ⟨q, m, f, K, e2, hK⟩ := cells_kids h2
  have hk := bounds_u8 w0
  obtain ⟨m0, rfl⟩ : ∃ m : Nat, a0 = m := ⟨a0.toNat, by omega⟩
  refine ⟨m0, p, n1, c, q, m, f, E, K, ?_, by omega, hE, hK⟩
  have := cells_cut cs 0 1
  rw [List.drop_zero] at this
  rw [List.drop_zero] at e0
  rw [this, e0, cells_cut cs 1 1, e1, cells_cut cs 2 1, e2, List.drop_eq_nil_of_le (by omega)]
  rfl
end
theorem agg_of {P : Program} {l : List (Nat × TypeId)} {t : TypeId} (hF : fieldsOf (P.underlying t) = some l) {W : World} {b0 : Nat} {r : Reach} {v : Value} (hv : Value.okWide P W r b0 t v) : ∃ cs, v = .agg cs := by
  unfold fieldsOf at hF
  split at hF
  case h_2 => cases hF
  case h_1 fs hu =>
  simp only [Value.okWide, hu] at hv
  obtain ⟨cs, rfl, _⟩ := hv
  exact ⟨cs, rfl⟩
set_option maxRecDepth 100000 in
theorem open_node {H : Type} {enc : TypeId × Value → H} {W : World} {base b0 : Nat} {held : Bool} {r : Reach} {v : Value} {d : DataW H} {ps : List MemPlace}
    (hv : Value.okWide Tryz.prog W r b0 27 v) (h : DataW.Trod enc Tryz.prog W base (fun _ => true) held 27 v d ps) :
    ∃ (kd : Nat) (p : Option Addr) (n c : Nat) (q : Option Addr) (m f : Nat) (E : List En) (K : List Kd), v = .agg #[.int .u8 kd, .slice p n c, .slice q m f] ∧ kd < 256 ∧ EntsIn W p n c E ∧ KidsIn W q m f K := by
  obtain ⟨cs, rfl⟩ := agg_of FNd hv
  obtain ⟨fuel, hf⟩ := h
  obtain ⟨kd, p, n, c, q, m, f, E, K, he, hk, hE, hK⟩ := cells_node hf
  exact ⟨kd, p, n, c, q, m, f, E, K, congrArg Value.agg (Array.ext' he), hk, hE, hK⟩
set_option maxRecDepth 100000 in
theorem open_kid {H : Type} {enc : TypeId × Value → H} {W : World} {base b0 : Nat} {held : Bool} {r : Reach} {v : Value} {d : DataW H} {ps : List MemPlace}
    (hv : Value.okWide Tryz.prog W r b0 43 v) (h : DataW.Trod enc Tryz.prog W base (fun _ => true) held 43 v d ps) : ∃ k : Kd, v = .agg k.cells.toArray ∧ k.Ok W := by
  obtain ⟨cs, rfl⟩ := agg_of FKd hv
  obtain ⟨fuel, hf⟩ := h
  obtain ⟨k, he, hk⟩ := cells_kid hf
  refine ⟨k, congrArg Value.agg (Array.ext' ?_), hk⟩
  rw [List.toList_toArray]
  exact he
end Go.Proofs.YtfkpgildeddhaaaGreat.Nd

/- What a reader holds (Rd: bytes left, an error), and what is taken of it; bytes in memory cut and behind a store elsewhere. -/
namespace Go.Proofs.YtfkpgildeddhaaaGreat
open Go.RowKit

/-- What a reader holds: the bytes that are left, its error. -/
structure Rd where
  R : List Nat
  e : Nat
theorem Tx.grown {w w' : World} {p : Option Addr} {n c : Nat} {B : List Nat} (h : Tx w p n c B) {g : Nat} (hg : w.grownBy w' (some g)) (hn : ∀ x, p = some x → B ≠ [] → x.block ≠ g) : Tx w' p n c B :=
  ⟨h.size, h.le, h.ok, h.at'.imp id fun ⟨x, hp, hx⟩ => ⟨x, hp, fun j u hu => by
    have h1 := hx j u hu
    have hB : B ≠ [] := by rintro rfl; simp [vals] at hu
    have hb : (x.add j).block = x.block := by cases x; simp [Addr.add]; split <;> rfl
    rw [World.cell?_of_block (w := w) (hg.block _ (block_lt_of_cell h1) (by rw [hb]; intro e; exact hn x hp hB (by simpa using e)))]
    exact h1⟩, h.sp⟩
theorem add_add (x : Addr) (n j : Nat) : (x.add n).add j = x.add (n + j) := by
  simp only [Addr.add]
  by_cases h1 : n = 0
  · subst h1; simp
  · by_cases h2 : j = 0
    · subst h2; simp
    · rw [if_neg h1, if_neg h2, if_neg (by omega)]; simp [Nat.add_assoc]
theorem vals_take (B : List Nat) (n : Nat) : vals (B.take n) = (vals B).take n := by simp [vals]
theorem Tx.take {w : World} {p : Option Addr} {m c : Nat} {B : List Nat} (h : Tx w p m c B) (n : Nat) (hn : n ≤ m) : Tx w p n c (B.take n) :=
  ⟨by have := h.size; rw [List.length_take]; omega, Nat.le_trans hn h.le, fun x hx => h.ok x (List.mem_of_mem_take hx), h.at'.imp id fun ⟨x, hp, hx⟩ => ⟨x, hp, fun j u hu => hx j u (by
    rw [vals_take] at hu
    rw [List.getElem?_take] at hu
    split at hu
    · exact hu
    · cases hu)⟩, h.sp⟩
theorem Tx.drop {w : World} {p : Option Addr} {m c : Nat} {B : List Nat} (h : Tx w p m c B) (n : Nat) (hn : n ≤ m) : Tx w (Option.map (fun x => x.add n) p) (m - n) (c - n) (B.drop n) := by
  have h1 := h.size
  have h2 := h.le
  refine ⟨by rw [List.length_drop]; omega, by omega, fun x hx => h.ok x (List.mem_of_mem_drop hx), ?_, ?_⟩
  · rcases h.at' with ⟨hp, hc⟩ | ⟨x, hp, hx⟩
    · subst hp; subst hc
      exact Or.inl ⟨rfl, by omega⟩
    · subst hp
      refine Or.inr ⟨x.add n, rfl, fun j u hu => ?_⟩
      rw [add_add]
      refine hx (n + j) u ?_
      rw [vals_drop, List.getElem?_drop] at hu
      exact hu
  · intro x hx hc
    cases p with
    | none => cases hx
    | some y =>
      simp at hx
      subst hx
      simp only [Addr.add]
      split
      · exact h.sp y rfl (by omega)
      · rfl
theorem Tx.nothing {w : World} {p : Option Addr} {m c : Nat} {B : List Nat} (h : Tx w p m c B) : Tx w p 0 0 [] :=
  ⟨rfl, Nat.le_refl _, fun x hx => by simp at hx, by
    cases p with
    | none => exact Or.inl ⟨rfl, rfl⟩
    | some x => exact Or.inr ⟨x, rfl, fun j u hu => by simp [vals] at hu⟩, fun _ _ h => by omega⟩
theorem lo_drop {g : Nat} {p : Option Addr} {B : List Nat} (h : ∀ x, p = some x → B ≠ [] → x.block < g) (n : Nat) : ∀ x, Option.map (fun x => x.add n) p = some x → B.drop n ≠ [] → x.block < g := by
  intro x hx hB
  cases p with
  | none => cases hx
  | some y =>
    simp only [Option.map_some, Option.some.injEq] at hx
    subst hx
    have : (y.add n).block = y.block := by cases y; simp [Addr.add]; split <;> rfl
    rw [this]
    exact h y rfl (by rintro rfl; simp at hB)
def Rd.refuse (s : Rd) (k : Nat) : Rd := if s.e = 0 then ⟨s.R, k⟩ else s
def Rd.fits (s : Rd) (n : Nat) : Prop := s.e = 0 ∧ n ≤ s.R.length
instance (s : Rd) (n : Nat) : Decidable (s.fits n) := by unfold Rd.fits; infer_instance
def Rd.part (s : Rd) (n : Nat) : List Nat := if s.fits n then s.R.take n else []
def Rd.past (s : Rd) (n : Nat) : Rd := if s.fits n then ⟨s.R.drop n, 0⟩ else s.refuse 20
theorem grown_same (w : World) (r : Option Nat) : w.grownBy w r := ⟨rfl, rfl, rfl, Nat.le_refl _, fun _ _ _ => rfl⟩
theorem tx_nil (w : World) : Tx w none 0 0 [] := ⟨rfl, Nat.le_refl _, fun x hx => by simp at hx, Or.inl ⟨rfl, rfl⟩, fun _ h _ => by cases h⟩
theorem Rd.past_len (s : Rd) (n : Nat) : (s.past n).R.length ≤ s.R.length := by
  unfold Rd.past Rd.refuse
  split
  · simp
  · split <;> simp
theorem Rd.refuse_len (s : Rd) (n : Nat) : (s.refuse n).R.length ≤ s.R.length := by
  unfold Rd.refuse
  split <;> simp
theorem Rd.part_ok {s : Rd} (h : Sm.allB s.R) (n : Nat) : Sm.allB (s.part n) := by
  unfold Rd.part
  split
  · exact fun x hx => h x (List.mem_of_mem_take hx)
  · intro x hx; simp at hx
theorem Rd.part_len (s : Rd) (n : Nat) : (s.part n).length ≤ n := by
  unfold Rd.part
  split
  · rw [List.length_take]; omega
  · simp
theorem take_snoc (B : List Nat) (k : Nat) (h : k < B.length) : B.take (k + 1) = B.take k ++ [B.getD k 0] := by
  rw [List.take_succ_eq_append_getElem h, List.getD_eq_getElem?_getD, List.getElem?_eq_getElem h]; rfl
theorem pow256 (k : Nat) (h : k ≤ 7) : 256 ^ k ≤ 72057594037927936 := Nat.le_trans (Nat.pow_le_pow_right (by omega) h) (by decide)
theorem val1 {s : Rd} (h : Sm.allB s.R) : Cm.val (s.part 1) < 256 := by
  have h1 := Cm.val_lt (Rd.part_ok h 1)
  have h2 : 256 ^ (s.part 1).length ≤ 256 ^ 1 := Nat.pow_le_pow_right (by omega) (Rd.part_len s 1)
  exact Nat.lt_of_lt_of_le h1 (Nat.le_trans h2 (by decide))
def Rd.count (s : Rd) (most : Int) : Rd := if min most 1048576 < (Cm.val (s.part 3) : Nat) then (s.past 3).refuse 10 else s.past 3
def Rd.countV (s : Rd) (most : Int) : Int := if min most 1048576 < (Cm.val (s.part 3) : Nat) then 0 else (Cm.val (s.part 3) : Nat)
theorem val3 {s : Rd} (h : Sm.allB s.R) : Cm.val (s.part 3) < 16777216 := by
  have h1 := Cm.val_lt (Rd.part_ok h 3)
  have h2 : 256 ^ (s.part 3).length ≤ 256 ^ 3 := Nat.pow_le_pow_right (by omega) (Rd.part_len s 3)
  exact Nat.lt_of_lt_of_le h1 (Nat.le_trans h2 (by decide))
theorem good_part (P R : List Nat) (n : Nat) (h : P.length = n) : (Rd.mk (P ++ R) 0).part n = P ∧ (Rd.mk (P ++ R) 0).past n = ⟨R, 0⟩ := by
  have hf : (Rd.mk (P ++ R) 0).fits n := ⟨rfl, by simp; omega⟩
  unfold Rd.part Rd.past
  rw [if_pos hf, if_pos hf]
  subst h
  exact ⟨List.take_left' rfl, by rw [show (Rd.mk (P ++ R) 0).R = P ++ R from rfl, List.drop_left' rfl]⟩
theorem grown_of_below {w w' : World} (hb : Below w.heap.size w w') (r : Option Nat) : w.grownBy w' r := ⟨hb.os, hb.tape, hb.output, hb.size, fun k hk _ => hb.block k hk⟩
theorem grown_new {w w' : World} {r : Option Nat} (h : w.grownBy w' r) {B : Nat} (hB : w.heap.size ≤ B) {w'' : World} (hb : Below B w' w'') (hs : w'.heap.size ≤ w''.heap.size) : w.grownBy w'' r :=
  ⟨hb.os.trans h.os, hb.tape.trans h.tape, hb.output.trans h.output, Nat.le_trans h.size hs, fun k hk hne => (hb.block k (by omega)).trans (h.block k hk hne)⟩
theorem below_grown {w w' : World} {g B : Nat} (h : w.grownBy w' (some g)) (hB : B ≤ g) (hs : B ≤ w.heap.size := by omega) : Below B w w' :=
  ⟨h.os, h.tape, h.output, h.size, fun k hk => h.block k (by omega) (by simp; omega)⟩
theorem slice_of_owns {w : World} {base n : Nat} {v : Value} {xs : List Value} (h : w.ownsRow base 5 1 v n xs) : ∃ q c, v = .slice q n c := by
  rcases h.2 with ⟨rfl, rfl⟩ | ⟨g, cap, cur, rfl, _⟩
  · exact ⟨_, _, rfl⟩
  · exact ⟨_, _, rfl⟩
end Go.Proofs.YtfkpgildeddhaaaGreat

/- The contracts of codec.Writer: put, Byte, value, refuse. -/
namespace Go.Proofs.YtfkpgildeddhaaaGreat
open Go.RowKit

/-- The world behind calls that wrote at the block g, at the row that v owned, and in new blocks. -/
structure WStep (w w' : World) (g : Nat) (v v' : Value) : Prop where
  os : w'.os = w.os
  tape : w'.tape = w.tape
  output : w'.output = w.output
  size : w.heap.size ≤ w'.heap.size
  block : ∀ k, k < w.heap.size → k ≠ g → v.ownBlock ≠ some k → w'.heap[k]? = w.heap[k]?
  own : ∀ k, v'.ownBlock = some k → v.ownBlock = some k ∨ w.heap.size ≤ k
theorem WStep.refl (w : World) (g : Nat) (v : Value) : WStep w w g v v := ⟨rfl, rfl, rfl, Nat.le_refl _, fun _ _ _ _ => rfl, fun _ h => Or.inl h⟩
theorem WStep.trans {a b c : World} {g : Nat} {v1 v2 v3 : Value} (h : WStep a b g v1 v2) (k : WStep b c g v2 v3) : WStep a c g v1 v3 :=
  ⟨k.os.trans h.os, k.tape.trans h.tape, k.output.trans h.output, Nat.le_trans h.size k.size,
    fun i hi hg hv => (k.block i (Nat.lt_of_lt_of_le hi h.size) hg (fun e => by rcases h.own i e with h1 | h1; exact hv h1; omega)).trans (h.block i hi hg hv),
    fun i hi => by
      rcases k.own i hi with h1 | h1
      · exact h.own i h1
      · exact Or.inr (Nat.le_trans h.size h1)⟩
theorem WStep.of_below {w w' : World} (g : Nat) (v : Value) (h : Below w.heap.size w w') : WStep w w' g v v :=
  ⟨h.os, h.tape, h.output, h.size, fun k hk _ _ => h.block k hk, fun _ h => Or.inl h⟩
theorem WStep.alloc (w : World) (g : Nat) (v : Value) (o : Obj) : WStep w (w.alloc o) g v v := WStep.of_below g v ((Below.refl _ _).alloc (Nat.le_refl _) _)
theorem WStep.below {w w' : World} {base g : Nat} {v v' : Value} (h : WStep w w' g v v') (hg : base ≤ g) (hv : ∀ k, v.ownBlock = some k → base ≤ k) (hs : base ≤ w.heap.size) : Below base w w' :=
  ⟨h.os, h.tape, h.output, h.size, fun k hk => h.block k (by omega) (by omega) (fun e => by have := hv k e; omega)⟩
/-- What a writer holds: its bytes, its error. -/
structure St where
  B : List Nat
  e : Nat
def St.put (s : St) (P : List Nat) : St := if s.e = 0 then ⟨s.B ++ P, 0⟩ else s
def St.no : St := ⟨[], 10⟩
structure WS (w : World) (base g : Nat) (v : Value) (s : St) : Prop where
  row : w.heap[g]? = some (.cells #[v, .int .i64 s.e] 114 (0, 0))
  own : w.ownsRow base 5 1 v s.B.length (vals s.B)
  ok : Sm.allB s.B
  nil : s.e ≠ 0 → v = .slice none 0 0 ∧ s.B = []
theorem WS.lt {w : World} {base g : Nat} {v : Value} {s : St} (h : WS w base g v s) : g < w.heap.size := (Array.getElem?_eq_some_iff.1 h.row).1
theorem WS.err {w : World} {base g : Nat} {v : Value} {s : St} (h : WS w base g v s) : w.cell? ⟨g, 1, none⟩ = some (.int .i64 s.e) := by
  rw [cell_of_row w g 1 _ _ _ h.row]; rfl
theorem WS.out {w : World} {base g : Nat} {v : Value} {s : St} (h : WS w base g v s) : w.cell? ⟨g, 0, none⟩ = some v := by
  rw [cell_of_row w g 0 _ _ _ h.row]; rfl
theorem WS.later {w w' : World} {base g : Nat} {v : Value} {s : St} (h : WS w base g v s) (hb : Below w.heap.size w w') : WS w' base g v s :=
  ⟨(hb.block _ h.lt).trans h.row, owns_later h.own hb, h.ok, h.nil⟩
/-- What a row owns is none of the writer's own cells. -/
theorem own_other {w : World} {base g n : Nat} {v : Value} {xs : List Value} {cs : Array Value} {fr : Nat × Nat} (h : w.ownsRow base 5 1 v n xs) (hr : w.heap[g]? = some (.cells cs 114 fr)) : v.ownBlock ≠ some g := by
  rcases h.2 with ⟨rfl, _⟩ | ⟨g', cap, cur, rfl, _, hg', _⟩
  · simp [Value.ownBlock]
  · intro e
    obtain rfl : g' = g := by simpa [Value.ownBlock] using e
    rw [hr] at hg'
    simp at hg'
theorem own_setCell {w : World} {base n : Nat} {v : Value} {xs : List Value} (h : w.ownsRow base 5 1 v n xs) {a : Addr} (ha : v.ownBlock ≠ some a.block) (u : Value) : (w.setCell a u).ownsRow base 5 1 v n xs := by
  obtain ⟨h1, h2⟩ := h
  refine ⟨h1, ?_⟩
  rcases h2 with h2 | ⟨g, cap, cur, rfl, hg, hh, r⟩
  · exact Or.inl h2
  · exact Or.inr ⟨g, cap, cur, rfl, hg, by rw [Below.heap_setCell _ _ _ _ (fun e => ha (by simp [Value.ownBlock, e]))]; exact hh, r⟩
/-- A text of whatever other memory stays. -/
theorem Tx.step {w w' : World} {p : Option Addr} {n c : Nat} {B : List Nat} (h : Tx w p n c B) {g : Nat} {v v' : Value} (hs : WStep w w' g v v') (hg : ∀ x, p = some x → B ≠ [] → x.block ≠ g ∧ v.ownBlock ≠ some x.block) : Tx w' p n c B :=
  ⟨h.size, h.le, h.ok, h.at'.imp id fun ⟨x, hp, hx⟩ => ⟨x, hp, fun j u hu => by
    have h1 := hx j u hu
    have hB : B ≠ [] := by rintro rfl; simp [vals] at hu
    obtain ⟨a1, a2⟩ := hg x hp hB
    have hb : (x.add j).block = x.block := by cases x; simp [Addr.add]; split <;> rfl
    rw [World.cell?_of_block (w := w) (hs.block _ (block_lt_of_cell h1) (by rw [hb]; exact a1) (by rw [hb]; exact a2))]
    exact h1⟩, h.sp⟩
/-- The post of a call that writes. -/
def WPost (w : World) (base g : Nat) (v : Value) (s : St) (e : Ending) (w' : World) : Prop := e = .returned (.tuple #[]) ∧ ∃ v', WS w' base g v' s ∧ WStep w w' g v v'
/-- Behind the append and the store. -/
theorem WS.stored {w w2 : World} {base g : Nat} {v v2 : Value} {s : St} {P : List Nat} (h : WS w base g v s) (he : s.e = 0) (hP : Sm.allB P) (ho : w2.ownsRow base 5 1 v2 (s.B.length + P.length) (vals s.B ++ vals P))
    (hg : w.grownBy w2 v.ownBlock) (hv : ∀ k, v2.ownBlock = some k → v.ownBlock = some k ∨ w.heap.size ≤ k) : WS (w2.setCell ⟨g, 0, none⟩ v2) base g v2 (s.put P) ∧ WStep w (w2.setCell ⟨g, 0, none⟩ v2) g v v2 := by
  have hne := own_other h.own h.row
  have hr2 : w2.heap[g]? = some (.cells #[v, .int .i64 s.e] 114 (0, 0)) := (hg.block g h.lt (fun e => hne e.symm)).trans h.row
  have hs := heap_setCell_same w2 g 0 _ _ v2 hr2
  have e : s.put P = ⟨s.B ++ P, 0⟩ := by unfold St.put; rw [if_pos he]
  rw [e]
  refine ⟨⟨?_, ?_, fun x hx => ?_, fun hc => absurd rfl hc⟩, ?_⟩
  · rw [he] at hs; exact hs
  · have := own_setCell ho (a := ⟨g, 0, none⟩) (own_other ho hr2) v2
    rw [← vals_append] at this
    simpa using this
  · rcases List.mem_append.1 hx with hx | hx
    · exact h.ok x hx
    · exact hP x hx
  · refine ⟨hg.os, hg.tape, hg.output, by simpa [World.setCell] using hg.size, fun k hk h1 h2 => ?_, hv⟩
    rw [Below.heap_setCell _ _ _ _ h1]
    exact hg.block k hk (fun e => h2 e.symm)
set_option maxRecDepth 100000 in
set_option maxHeartbeats 1000000 in
theorem put_any (s : St) (P : List Nat) (base g : Nat) (v : Value) (p : Option Addr) (n c : Nat) (w : World) (hs : WS w base g v s) (hP : Tx w p n c P) (hl : s.B.length + P.length < 1099511627776) (hbw : base ≤ w.heap.size) :
    Calls Tryz.prog 93 #[.pointer (some ⟨g, 0, none⟩), .slice p n c] w (WPost w base g v (s.put P)) := by
  have hn := hP.size
  by_cases he : s.e = 0
  · obtain ⟨q0, c0, hv0⟩ := slice_of_owns hs.own
    obtain ⟨m, hm⟩ : ∃ m, m = s.B.length := ⟨_, rfl⟩
    rw [← hm] at hv0
    subst hv0
    have h1 : w.cell? ⟨g, 1, none⟩ = some (.int .i64 0) := by have := hs.err; rw [he] at this; exact this
    have h0 := hs.out
    have f0 : w.frozen? ⟨g, 0, none⟩ = false := frozen_of_row w g 0 _ _ hs.row
    obtain ⟨i5, hi, hi0, hi1, hi2⟩ := info_parts I5
    have HI := Lib.hid hi
    have HI0 := Lib.hid hi0
    have HI1 := Lib.hid hi1
    have HI2 := Lib.hid hi2
    have HS := Lib.hid hs
    have HP := Lib.hid hP
    have HE := Lib.hid he
    have HO := Lib.hid hs.own
    have HN := Lib.hid hn
    have hnl : n < 1099511627776 := by omega
    have hnn : s.B.length + n < 1099511627776 := by omega
    rw [← hm] at hnn
    have HM := Lib.hid hm
    have ho2 := hs.own
    rw [← hm] at ho2
    have HO2 := Lib.hid ho2
    clear hi hi0 hi1 hi2 hs he hl hn hm ho2
    have HR := Lib.hid HS.out.row
    rcases hP.at' with ⟨hp, hc⟩ | ⟨x, hp, _⟩
    · subst hp
      subst hc
      obtain rfl : n = 0 := by have := hP.le; omega
      have hP0 : P = [] := List.length_eq_zero_iff.1 HN.out.symm
      have HP0 := Lib.hid hP0
      clear hP hP0
      go_enter Tryz.func93, Tryz.ntmps93
      go_wp2_with (at_builtin; refine wpList_append_own_none (by rfl) (.tmp 13) (.tmp 14) 22 (by rfl) base 5 i5 1 A22 HI.out _ m _ (by rfl) HO2.out (by rfl) ?_)
      go_end0
      refine ⟨rfl, _, HS.out.stored HE.out HP.out.ok ?_ ⟨rfl, rfl, rfl, Nat.le_refl _, fun _ _ _ => rfl⟩ (fun k hk => Or.inl hk)⟩
      rw [HP0.out, List.length_nil, Nat.add_zero]
      simpa [vals, ← HM.out] using HO2.out
    · subst hp
      clear hP
      go_enter Tryz.func93, Tryz.ntmps93
      go_wp2_with (at_builtin; refine wpList_append_own_at w (by rfl) (.tmp 13) (.tmp 14) 22 (by rfl) base 5 i5 (.int .u8 0) 1 1 A22 HI.out HI0.out HI1.out HI2.out (by rfl) (by decide) _ m _ (by rfl) HO2.out x n c (vals P) (by rfl) (by rw [vals_length, Nat.mul_one]; exact HN.out.symm) HP.out.cells (vals_one _) (by unfold maxLen; omega) (by omega) hbw ?_; intro v2 w2 hown2 hgrow2 _ hat2; obtain ⟨q2, c2, hv2⟩ := slice_of_owns hown2; have hr2 := (hgrow2.block g HS.out.lt (fun e => own_other HS.out.own HS.out.row e.symm)).trans HR.out; have hc2 : w2.cell? ⟨g, 0, none⟩ = some (.slice q0 m c0) := (cell_of_row w2 g 0 _ _ _ hr2).trans rfl; have hf2 : w2.frozen? ⟨g, 0, none⟩ = false := frozen_of_row w2 g 0 _ _ hr2; have HO3 := Lib.hid hown2; have HG3 := Lib.hid hgrow2; have HA3 := Lib.hid hat2; have HV3 := Lib.hid hv2; rw [hv2]; clear hown2 hgrow2 hat2 hv2 hr2)
      go_end0
      refine ⟨rfl, _, HS.out.stored HE.out HP.out.ok ?_ ?_ (fun k hk => ?_)⟩
      · have e : m + n = s.B.length + P.length := by rw [HM.out, HN.out]
        have := HO3.out
        rw [HV3.out, e] at this
        rw [e]
        exact this
      · exact HG3.out
      · rw [← HV3.out] at hk
        rcases HA3.out with h1 | h1
        · exact Or.inl (h1.symm.trans hk)
        · rw [h1] at hk
          cases hk
          exact Or.inr (Nat.le_refl _)
  · have h1 := hs.err
    have b1 : ((s.e : Int) == 0) = false := by simp; omega
    have e : s.put P = s := by unfold St.put; rw [if_neg he]
    rw [e]
    have HS := Lib.hid hs
    clear hs hP he e hl hn
    go_enter Tryz.func93, Tryz.ntmps93
    go_wp2_with fail
    go_end0
    exact ⟨rfl, v, HS.out, WStep.refl _ _ _⟩
theorem WPost.trans {w w1 : World} {base g : Nat} {v v1 : Value} {s : St} (h : WStep w w1 g v v1) {e : Ending} {w' : World} (k : WPost w1 base g v1 s e w') : WPost w base g v s e w' := by
  obtain ⟨he, v', h1, h2⟩ := k
  exact ⟨he, v', h1, h.trans h2⟩
set_option maxRecDepth 100000 in
set_option maxHeartbeats 1000000 in
theorem byte_any (s : St) (x : Nat) (hx : x < 256) (base g : Nat) (v : Value) (w : World) (hs : WS w base g v s) (hl : s.B.length + 1 < 1099511627776) (hbw : base ≤ w.heap.size) :
    Calls Tryz.prog 79 #[.pointer (some ⟨g, 0, none⟩), .int .u8 x] w (WPost w base g v (s.put [x])) := by
  have ha := WStep.alloc w g v (.cells #[.int .u8 x] 5)
  have hsa := hs.later ((Below.refl w.heap.size w).alloc (Nat.le_refl _) (.cells #[.int .u8 x] 5))
  have hB : Tx (w.alloc (.cells #[.int .u8 x] 5)) (some ⟨w.heap.size, 0, none⟩) 1 1 [x] := (Bytes.row (L := [x]) (heap_alloc_new w _) (by intro y hy; simp at hy; omega)).tx
  have HA := Lib.hid ha
  have HSA := Lib.hid hsa
  have HB := Lib.hid hB
  clear ha hsa hB hs
  go_enter Tryz.func79, Tryz.ntmps79
  go_wp2_with fail
  refine (put_any s [x] base g v _ 1 1 _ HSA.out HB.out hl (by simp; omega)).mono ?_
  rintro e w1 hp
  obtain ⟨rfl, v1, h1, h2⟩ := hp
  have H1 := Lib.hid h1
  have H2 := Lib.hid (HA.out.trans h2)
  clear h1 h2
  go_wp2_with fail
  go_end0
  exact ⟨rfl, v1, H1.out, H2.out⟩
set_option maxHeartbeats 1000000 in
theorem refuse_any (s : St) (base g : Nat) (v : Value) (w : World) (hs : WS w base g v s) :
    Calls Tryz.prog 94 #[.pointer (some ⟨g, 0, none⟩)] w (WPost w base g v .no) := by
  have h0 := hs.out
  have h1 := hs.err
  have f0 : w.frozen? ⟨g, 0, none⟩ = false := frozen_of_row w g 0 _ _ hs.row
  have f1 : w.frozen? ⟨g, 1, none⟩ = false := frozen_of_row w g 1 _ _ hs.row
  have HS := Lib.hid hs
  clear hs
  go_enter Tryz.func94, Tryz.ntmps94
  go_wp2_with fail
  go_end0
  have r1 := heap_setCell_same w g 0 _ _ (.slice none 0 0) HS.out.row
  have r2 := heap_setCell_same _ g 1 _ _ (.int .i64 10) r1
  refine ⟨rfl, .slice none 0 0, ⟨r2, World.ownsRow_nil _ _ _ _, fun x hx => by simp [St.no] at hx, fun _ => ⟨rfl, rfl⟩⟩, ?_⟩
  refine ⟨rfl, rfl, rfl, by simp [World.setCell], fun k hk h1 h2 => ?_, fun k hk => by simp [Value.ownBlock] at hk⟩
  rw [Below.heap_setCell _ _ _ _ h1, Below.heap_setCell _ _ _ _ h1]
def ValRel (w : World) (base g : Nat) (v : Value) (s : St) (n size : Nat) (i : Value) (wr : World) : Prop :=
  ∃ (k : Nat) (v' : Value), k ≤ size ∧ i = .int .i64 k ∧ WS wr base g v' (s.put ((Cm.be n size).take k)) ∧ WStep w wr g v v'
theorem St.put_nil {s : St} (h : s.e ≠ 0 ∨ s.e = 0) : s.put [] = s := by
  unfold St.put
  obtain ⟨B, e⟩ := s
  rcases h with h | h
  · rw [if_neg h]
  · rw [if_pos h]
    simp at h
    subst h
    simp
theorem St.put_put (s : St) (P Q : List Nat) : (s.put P).put Q = s.put (P ++ Q) := by
  unfold St.put
  by_cases h : s.e = 0
  · rw [if_pos h, if_pos rfl, if_pos h, List.append_assoc]
  · rw [if_neg h, if_neg h, if_neg h]
theorem St.put_len (s : St) (P : List Nat) : (s.put P).B.length ≤ s.B.length + P.length := by
  unfold St.put
  by_cases h : s.e = 0
  · rw [if_pos h, List.length_append]; exact Nat.le_refl _
  · rw [if_neg h]; omega
set_option maxRecDepth 100000 in
set_option maxHeartbeats 1000000 in
theorem value_any (s : St) (n size : Nat) (_hn : n < 18446744073709551616) (hsize : size ≤ 8) (base g : Nat) (v : Value) (w : World) (hs : WS w base g v s) (hl : s.B.length + size < 1099511627776) (hbw : base ≤ w.heap.size) :
    Calls Tryz.prog 108 #[.pointer (some ⟨g, 0, none⟩), .int .u64 n, .int .i64 size] w (WPost w base g v (s.put (Cm.be n size))) := by
  have HS := Lib.hid hs
  have HL := Lib.hid hl
  have HBW := Lib.hid hbw
  clear hs hl hbw
  go_enter Tryz.func108, Tryz.ntmps108
  go_wp2_with fail
  go_loopw [8] (fun i wr => ValRel w base g v s n size i wr) (fun i _ => size - (intOf i).toNat)
  case atStart => exact ⟨0, v, by omega, rfl, by rw [List.take_zero, St.put_nil (by omega)]; exact HS.out, WStep.refl _ _ _⟩
  case round =>
    obtain ⟨k, v1, hk, rfl, h1, h2⟩ := hrel
    have H1 := Lib.hid h1
    have H2 := Lib.hid h2
    clear h1 h2 HS
    by_cases hlt : k < size
    · have HI : (0 : Int) ≤ 8 * (size - 1 - k) ∧ 8 * (size - 1 - (k : Int)) ≤ 64 := by omega
      go_wp2_with fail
      rw [show (n : Int) / 2 ^ (8 * (size - 1 - k)) % 256 = ((n / 2 ^ (8 * (size - 1 - k)) % 256 : Nat) : Int) from by rw [Int.natCast_emod, Int.natCast_ediv, Int.natCast_pow]; rfl]
      obtain ⟨x, hx⟩ : ∃ x, x = n / 2 ^ (8 * (size - 1 - k)) % 256 := ⟨_, rfl⟩
      rw [← hx]
      have hx8 : x < 256 := by rw [hx]; exact Nat.mod_lt _ (by omega)
      have HX := Lib.hid hx
      clear hx
      have hlen := St.put_len s ((Cm.be n size).take k)
      rw [List.length_take, Cm.be_length] at hlen
      refine (byte_any _ x hx8 base g v1 _ H1.out (by have := HL.out; omega) (Nat.le_trans HBW.out H2.out.size)).mono ?_
      rintro e w1 hp
      obtain ⟨rfl, v2, h3, h4⟩ := hp
      have H3 := Lib.hid h3
      have H4 := Lib.hid (H2.out.trans h4)
      clear h3 h4 hlen
      go_wp2_with fail
      go_roundw
      case rel =>
        refine ⟨k + 1, v2, by omega, by go_num, ?_, H4.out⟩
        have := H3.out
        rw [St.put_put, HX.out, ← Cm.be_take n size k hlt] at this
        exact this
      case measure => simp [intOf]; omega
    · obtain rfl : k = size := by omega
      go_wp2_with fail
      go_end0
      refine ⟨rfl, v1, ?_, H2.out⟩
      have := H1.out
      rw [List.take_of_length_le (by rw [Cm.be_length]; exact Nat.le_refl _)] at this
      exact this
def St.truth (s : St) (x : Bool) : St := s.put [if x then 1 else 0]
def St.count (s : St) (n : Int) : St := if 0 ≤ n ∧ n ≤ 1048576 then s.put (Cm.be n.toNat 3) else .no
def St.text (s : St) (T : List Nat) : St := (s.count T.length).put T
def St.row (s : St) (R : List Int) : St := if R.length ≤ 255 then R.foldl (fun s n => s.put (Cm.num n)) (s.put [R.length]) else .no
set_option maxRecDepth 100000 in
set_option maxHeartbeats 1000000 in
theorem count_any (s : St) (n : Int) (h1 : -9223372036854775808 ≤ n) (h2 : n ≤ 9223372036854775807) (base g : Nat) (v : Value) (w : World) (hs : WS w base g v s) (hl : s.B.length + 3 < 1099511627776) (hbw : base ≤ w.heap.size) :
    Calls Tryz.prog 97 #[.pointer (some ⟨g, 0, none⟩), .int .i64 n] w (WPost w base g v (s.count n)) := by
  have HS := Lib.hid hs
  clear hs
  unfold St.count
  by_cases hn : 0 ≤ n ∧ n ≤ 1048576
  · rw [if_pos hn]
    obtain ⟨m, rfl⟩ : ∃ m : Nat, n = m := ⟨n.toNat, by omega⟩
    obtain ⟨a1, a2⟩ := hn
    have b1 : ¬ (m : Int) < 0 := by omega
    have b2 : ¬ (1048576 : Int) < m := by omega
    rw [Int.toNat_natCast]
    go_enter Tryz.func97, Tryz.ntmps97
    go_wp2_with fail
    refine (value_any s m 3 (by omega) (by omega) base g v _ HS.out hl hbw).mono ?_
    rintro e w1 hp
    obtain ⟨rfl, v2, h3, h4⟩ := hp
    have H3 := Lib.hid h3
    have H4 := Lib.hid h4
    clear h3 h4
    go_wp2_with fail
    go_end0
    exact ⟨rfl, v2, H3.out, H4.out⟩
  · rw [if_neg hn]
    by_cases b1 : n < 0
    · clear hn
      go_enter Tryz.func97, Tryz.ntmps97
      go_wp2_with fail
      refine (refuse_any s base g v _ HS.out).mono ?_
      rintro e w1 hp
      obtain ⟨rfl, v2, h3, h4⟩ := hp
      have H3 := Lib.hid h3
      have H4 := Lib.hid h4
      clear h3 h4
      go_wp2_with fail
      refine bodyPost_ret (results_none rfl _ _ _) rfl ?_
      exact ⟨rfl, v2, H3.out, H4.out⟩
    · have b2 : (1048576 : Int) < n := by omega
      clear hn
      go_enter Tryz.func97, Tryz.ntmps97
      go_wp2_with fail
      refine (refuse_any s base g v _ HS.out).mono ?_
      rintro e w1 hp
      obtain ⟨rfl, v2, h3, h4⟩ := hp
      have H3 := Lib.hid h3
      have H4 := Lib.hid h4
      clear h3 h4
      go_wp2_with fail
      refine bodyPost_ret (results_none rfl _ _ _) rfl ?_
      exact ⟨rfl, v2, H3.out, H4.out⟩
set_option maxRecDepth 100000 in
set_option maxHeartbeats 1000000 in
theorem num_any (s : St) (n : Int) (h1 : -9223372036854775808 ≤ n) (h2 : n ≤ 9223372036854775807) (base g : Nat) (v : Value) (w : World) (hs : WS w base g v s) (hl : s.B.length + 8 < 1099511627776) (hbw : base ≤ w.heap.size) :
    Calls Tryz.prog 95 #[.pointer (some ⟨g, 0, none⟩), .int .i64 n] w (WPost w base g v (s.put (Cm.num n))) := by
  have HS := Lib.hid hs
  clear hs
  have hx := Cm.sign_int h1 h2
  have hz := (Cm.z64_lt h1 h2).1
  have HX := Lib.hid hx
  have HZ := Lib.hid hz
  clear hx hz
  go_enter Tryz.func95, Tryz.ntmps95
  go_wp2_with fail
  rw [HX.out]
  refine (value_any s (Cm.z64 n) 8 HZ.out (by omega) base g v _ HS.out hl hbw).mono ?_
  rintro e w1 hp
  obtain ⟨rfl, v2, h3, h4⟩ := hp
  have H3 := Lib.hid h3
  have H4 := Lib.hid h4
  clear h3 h4
  go_wp2_with fail
  go_end0
  exact ⟨rfl, v2, H3.out, H4.out⟩
theorem St.count_len (s : St) (n : Int) : (s.count n).B.length ≤ s.B.length + 3 := by
  unfold St.count
  split
  · have := St.put_len s (Cm.be n.toNat 3)
    rw [Cm.be_length] at this
    exact this
  · simp [St.no]
end Go.Proofs.YtfkpgildeddhaaaGreat

/- bytes.Clone. -/
namespace Go.Proofs.YtfkpgildeddhaaaGreat
open Go.RowKit

def ClonePost (w : World) (B : List Nat) (e : Ending) (w' : World) : Prop := ∃ q c, e = .returned (.slice q B.length c) ∧ w'.ownsRow w.heap.size 5 1 (.slice q B.length c) B.length (vals B) ∧ Below w.heap.size w w'
set_option maxRecDepth 100000 in
set_option maxHeartbeats 1000000 in
theorem clone_any (B : List Nat) (p : Option Addr) (n c : Nat) (w : World) (hB : Tx w p n c B) (hl : n < 1099511627776) :
    Calls Tryz.prog 49 #[.slice p n c] w (ClonePost w B) := by
  have heq := fun w' => Lib.run_eql_slice_nil (P := Tryz.prog) w' 22 5 p n c 0 0 A22
  have hn := hB.size
  have hle := hB.le
  have HN := Lib.hid hn
  have HB := Lib.hid hB
  rcases hB.at' with ⟨hp, hc⟩ | ⟨x, hp, _⟩
  · subst hp
    subst hc
    obtain rfl : n = 0 := by omega
    have hB0 : B = [] := List.length_eq_zero_iff.1 hn.symm
    subst hB0
    clear hn hB
    go_enter Tryz.func49, Tryz.ntmps49
    go_wp2_with fail
    go_ret
    exact ⟨none, 0, rfl, World.ownsRow_nil _ _ _ _, Below.refl _ _⟩
  · subst hp
    obtain ⟨i5, hi, hi0, hi1, hi2⟩ := info_parts I5
    have HI := Lib.hid hi
    have HI0 := Lib.hid hi0
    have HI1 := Lib.hid hi1
    have HI2 := Lib.hid hi2
    clear hi hi0 hi1 hi2 hn hB hle
    have hE : (w.alloc (.cells #[] 5)).ownsRow w.heap.size 5 1 (.slice (some ⟨w.heap.size, 0, none⟩) 0 0) 0 (vals ([] : List Nat)) := owns_mk (L := []) (heap_alloc_new w _) rfl (Nat.le_refl _) (by unfold maxLen; omega) (Nat.le_refl _)
    have HE := Lib.hid hE
    clear hE
    go_enter Tryz.func49, Tryz.ntmps49
    go_wp2_with (at_builtin; refine wpList_append_own _ (by rfl) (.tmp 5) (.tmp 6) 22 (by rfl) w.heap.size 5 i5 (.int .u8 0) 1 1 A22 HI.out HI0.out HI1.out HI2.out (by rfl) (by decide) _ 0 [] (by rfl) HE.out x n c (vals B) (by rfl) (by rw [vals_length, Nat.mul_one]; exact HN.out.symm) ((HB.out.later ((Below.refl _ _).alloc (Nat.le_refl _) _)).cells) (vals_one _) (by unfold maxLen; omega) (by omega) (by simp) ?_; intro v2 w2 hown2 hgrow2 _; obtain ⟨q2, c2, hv2⟩ := slice_of_owns hown2; have HO3 := Lib.hid hown2; have HG3 := Lib.hid hgrow2; have HV3 := Lib.hid hv2; rw [hv2]; clear hown2 hgrow2 hv2)
    go_ret
    have e : n = B.length := HN.out
    subst e
    have ho := HO3.out
    rw [HV3.out, Nat.zero_add] at ho
    exact ⟨q2, c2, rfl, ho, ((Below.refl w.heap.size w).alloc (Nat.le_refl _) _).grown HG3.out (by simp) (fun k hk => by simp [Value.ownBlock] at hk; omega)⟩
end Go.Proofs.YtfkpgildeddhaaaGreat

/- The contracts of codec.Reader: refuse, take, value, atMost, Count, End, Err, Left; codec.New. -/
namespace Go.Proofs.YtfkpgildeddhaaaGreat
open Go.RowKit

structure RS (w : World) (g : Nat) (p : Option Addr) (n c : Nat) (s : Rd) : Prop where
  row : w.heap[g]? = some (.cells #[.slice p n c, .int .i64 s.e] 89 (0, 0))
  tx : Tx w p n c s.R
  lo : ∀ x, p = some x → s.R ≠ [] → x.block < g
def RSx (w : World) (g : Nat) (s : Rd) : Prop := ∃ p n c, RS w g p n c s
theorem RS.lt {w : World} {g : Nat} {p : Option Addr} {n c : Nat} {s : Rd} (h : RS w g p n c s) : g < w.heap.size := (Array.getElem?_eq_some_iff.1 h.row).1
theorem RS.err {w : World} {g : Nat} {p : Option Addr} {n c : Nat} {s : Rd} (h : RS w g p n c s) : w.cell? ⟨g, 1, none⟩ = some (.int .i64 s.e) := (cell_of_row w g 1 _ _ _ h.row).trans rfl
theorem RS.rest {w : World} {g : Nat} {p : Option Addr} {n c : Nat} {s : Rd} (h : RS w g p n c s) : w.cell? ⟨g, 0, none⟩ = some (.slice p n c) := (cell_of_row w g 0 _ _ _ h.row).trans rfl
theorem RS.fz {w : World} {g : Nat} {p : Option Addr} {n c : Nat} {s : Rd} (h : RS w g p n c s) (j : Nat) : w.frozen? ⟨g, j, none⟩ = false := frozen_of_row w g j _ _ h.row
theorem RS.later {w w' : World} {g : Nat} {p : Option Addr} {n c : Nat} {s : Rd} (h : RS w g p n c s) (hb : Below w.heap.size w w') : RS w' g p n c s :=
  ⟨(hb.block _ h.lt).trans h.row, h.tx.later hb, h.lo⟩
theorem RSx.later {w w' : World} {g : Nat} {s : Rd} (h : RSx w g s) (hb : Below w.heap.size w w') : RSx w' g s := by
  obtain ⟨p, n, c, h⟩ := h
  exact ⟨p, n, c, h.later hb⟩
theorem RSx.lt {w : World} {g : Nat} {s : Rd} (h : RSx w g s) : g < w.heap.size := by
  obtain ⟨p, n, c, h⟩ := h
  exact h.lt
/-- Bytes lie in none of a reader's own cells. -/
theorem tx_other {w : World} {g : Nat} {p q : Option Addr} {n c m d : Nat} {e : Nat} {B : List Nat} (hr : w.heap[g]? = some (.cells #[.slice p n c, .int .i64 e] 89 (0, 0))) (h : Tx w q m d B) : ∀ x, q = some x → B ≠ [] → x.block ≠ g := by
  intro x hx hB hg
  subst hx
  have h0 := h.cells 0 _ (vals_get _ 0 (List.length_pos_iff.2 hB))
  have e0 : x.add 0 = x := by simp [Addr.add]
  rw [e0] at h0
  simp only [World.cell?, hg, hr] at h0
  split at h0 <;> simp_all
  match hx : x.off with
  | 0 => rw [hx] at h0; simp at h0
  | 1 => rw [hx] at h0; simp at h0
  | k + 2 => rw [hx] at h0; simp at h0
def RPost (w : World) (g : Nat) (v : Value) (s : Rd) (e : Ending) (w' : World) : Prop := e = .returned v ∧ RSx w' g s ∧ w.grownBy w' (some g)
set_option maxHeartbeats 1000000 in
theorem rrefuse_any (s : Rd) (k : Nat) (g : Nat) (w : World) (hs : RSx w g s) :
    Calls Tryz.prog 55 #[.pointer (some ⟨g, 0, none⟩), .int .i64 k] w (RPost w g (.tuple #[]) (s.refuse k)) := by
  obtain ⟨p, n, c, hs⟩ := hs
  have h1 := hs.err
  have f1 := hs.fz 1
  have HS := Lib.hid hs
  clear hs
  by_cases he : s.e = 0
  · have e : s.refuse k = ⟨s.R, k⟩ := by unfold Rd.refuse; rw [if_pos he]
    rw [he] at h1
    rw [e]
    clear he e
    go_enter Tryz.func55, Tryz.ntmps55
    go_wp2_with fail
    go_end0
    have r1 := heap_setCell_same w g 1 _ _ (.int .i64 k) HS.out.row
    refine ⟨rfl, ⟨p, n, c, r1, HS.out.tx.grown (grown_setCell w g 1 _) (tx_other HS.out.row HS.out.tx), HS.out.lo⟩, grown_setCell w g 1 _⟩
  · have e : s.refuse k = s := by unfold Rd.refuse; rw [if_neg he]
    have b1 : ((s.e : Int) == 0) = false := by simp; omega
    rw [e]
    clear he e
    go_enter Tryz.func55, Tryz.ntmps55
    go_wp2_with fail
    go_end0
    exact ⟨rfl, ⟨p, n, c, HS.out⟩, ⟨rfl, rfl, rfl, Nat.le_refl _, fun _ _ _ => rfl⟩⟩
def TakePost (w : World) (g : Nat) (s : Rd) (n : Nat) (e : Ending) (w' : World) : Prop := ∃ q c, e = .returned (.slice q (s.part n).length c) ∧ Tx w' q (s.part n).length c (s.part n) ∧ RSx w' g (s.past n) ∧ w.grownBy w' (some g)
set_option maxRecDepth 100000 in
set_option maxHeartbeats 1000000 in
theorem take_any (s : Rd) (n : Nat) (g : Nat) (w : World) (hs : RSx w g s) (hn : n < 9223372036854775808) (hl : s.R.length < 1099511627776) :
    Calls Tryz.prog 74 #[.pointer (some ⟨g, 0, none⟩), .int .i64 n] w (TakePost w g s n) := by
  obtain ⟨p, m, c, hs⟩ := hs
  have h0 := hs.rest
  have h1 := hs.err
  have hm := hs.tx.size
  have hmc := hs.tx.le
  have hml : m < 1099511627776 := by omega
  have HM := Lib.hid hm
  have HS := Lib.hid hs
  clear hs hm
  by_cases hlt : m < n
  · have b1 : (m : Int) < n := by omega
    have e : ¬ s.fits n := fun h => by have := h.2; have := HM.out; omega
    have e1 : s.part n = [] := by unfold Rd.part; rw [if_neg e]
    have e2 : s.past n = s.refuse 20 := by unfold Rd.past; rw [if_neg e]
    unfold TakePost
    rw [e1, e2]
    clear e e1 e2 h1
    go_enter Tryz.func74, Tryz.ntmps74
    go_wp2_with fail
    refine (rrefuse_any s 20 g _ ⟨p, m, c, HS.out⟩).mono ?_
    rintro e w1 hp
    obtain ⟨rfl, ⟨p1, m1, c1, h2⟩, h3⟩ := hp
    have h4 := h2.err
    have b2 : (((s.refuse 20).e : Int) != 0) = true := by
      unfold Rd.refuse
      split <;> simp
      assumption
    have H2 := Lib.hid h2
    have H3 := Lib.hid h3
    clear h2 h3
    go_wp2_with fail
    go_ret
    exact ⟨none, 0, rfl, tx_nil _, ⟨p1, m1, c1, H2.out⟩, H3.out⟩
  · have b1 : ¬ (m : Int) < n := by omega
    by_cases he : s.e = 0
    · have e : s.fits n := ⟨he, by have := HM.out; omega⟩
      have e1 : s.part n = s.R.take n := by unfold Rd.part; rw [if_pos e]
      have e2 : s.past n = ⟨s.R.drop n, 0⟩ := by unfold Rd.past; rw [if_pos e]
      have e3 : (s.R.take n).length = n := by rw [List.length_take]; have := HM.out; omega
      unfold TakePost
      rw [e1, e2, e3]
      rw [he] at h1
      clear e e1 e2 e3
      have f0 := HS.out.fz 0
      have HE := Lib.hid he
      clear he
      have b3 : (0 : Int) ≤ n := by omega
      by_cases hcn : c = n
      · subst hcn
        obtain rfl : m = c := by omega
        go_enter Tryz.func74, Tryz.ntmps74
        go_wp2_with fail
        go_ret
        have r1 := heap_setCell_same w g 0 _ _ (.slice p 0 0) HS.out.row
        rw [HE.out] at r1
        have hd : s.R.drop m = [] := List.drop_eq_nil_of_le (by have := HM.out; omega)
        refine ⟨p, m, rfl, (HS.out.tx.take m (Nat.le_refl _)).grown (grown_setCell w g 0 _) (tx_other HS.out.row (HS.out.tx.take m (Nat.le_refl _))), ?_, grown_setCell w g 0 _⟩
        rw [hd]
        exact ⟨p, 0, 0, r1, HS.out.tx.nothing.grown (grown_setCell w g 0 _) (fun x hx h => absurd rfl h), fun x hx h => absurd rfl h⟩
      · go_enter Tryz.func74, Tryz.ntmps74
        go_wp2_with fail
        go_ret
        have r1 := heap_setCell_same w g 0 _ _ (.slice (Option.map (fun x => x.add n) p) (m - n) (c - n)) HS.out.row
        rw [HE.out] at r1
        have t1 := HS.out.tx.take n (by omega)
        have t2 := HS.out.tx.drop n (by omega)
        exact ⟨p, c, rfl, t1.grown (grown_setCell w g 0 _) (tx_other HS.out.row t1), ⟨_, _, _, r1, t2.grown (grown_setCell w g 0 _) (tx_other HS.out.row t2), fun x hx h => lo_drop HS.out.lo n x hx h⟩, grown_setCell w g 0 _⟩
    · have e : ¬ s.fits n := fun h => he h.1
      have e1 : s.part n = [] := by unfold Rd.part; rw [if_neg e]
      have e2 : s.past n = s := by unfold Rd.past Rd.refuse; rw [if_neg e, if_neg he]
      have b2 : ((s.e : Int) != 0) = true := by simp; omega
      unfold TakePost
      rw [e1, e2]
      clear e e1 e2 he
      go_enter Tryz.func74, Tryz.ntmps74
      go_wp2_with fail
      go_ret
      exact ⟨none, 0, rfl, tx_nil _, ⟨p, m, c, HS.out⟩, grown_same _ _⟩
end Go.Proofs.YtfkpgildeddhaaaGreat

/- The contract of codec.Reader.value. -/
namespace Go.Proofs.YtfkpgildeddhaaaGreat
open Go.RowKit

theorem shl8_or {m b : Nat} (hm : m < 72057594037927936) (hb : b < 256) : bits .or .u64 ((m : Int) * 256) (b : Int) = ((m * 256 + b : Nat) : Int) := by
  rw [show (m : Int) * 256 = ((m * 256 : Nat) : Int) from by omega, u64_or_nat _ _ (by omega) (by omega)]
  have : m * 256 ||| b = m * 256 + b := by
    have h := Nat.shiftLeft_add_eq_or_of_lt (i := 8) (b := b) (by omega) m
    rw [Nat.shiftLeft_eq] at h
    exact h.symm
  rw [this]
def RVRel (w : World) (g : Nat) (s : Rd) (B : List Nat) (q : Option Addr) (c : Nat) (a i : Value) (wr : World) : Prop :=
  ∃ k : Nat, k ≤ B.length ∧ i = .int .i64 k ∧ a = .int .u64 (Cm.val (B.take k) : Nat) ∧ Tx wr q B.length c B ∧ RSx wr g s ∧ w.grownBy wr (some g)
set_option maxRecDepth 100000 in
set_option maxHeartbeats 1000000 in
theorem rvalue_any (s : Rd) (n : Nat) (g : Nat) (w : World) (hs : RSx w g s) (hn : n ≤ 8) (hl : s.R.length < 1099511627776) :
    Calls Tryz.prog 50 #[.pointer (some ⟨g, 0, none⟩), .int .i64 n] w (RPost w g (.int .u64 (Cm.val (s.part n) : Nat)) (s.past n)) := by
  have HS := Lib.hid hs
  have HL := Lib.hid hl
  clear hs hl
  go_enter Tryz.func50, Tryz.ntmps50
  go_wp2_with fail
  refine (take_any s n g _ HS.out (by omega) HL.out).mono ?_
  rintro e w1 hp
  obtain ⟨q, c, rfl, h1, h2, h3⟩ := hp
  have hpl := Rd.part_len s n
  generalize s.part n = B at *
  generalize s.past n = s1 at *
  have H1 := Lib.hid h1
  have H2 := Lib.hid h2
  have H3 := Lib.hid h3
  clear h1 h2 h3 HS
  go_wp2_with fail
  go_loopw [5, 12] (fun a i wr => RVRel w g s1 B q c a i wr) (fun _ i _ => B.length - (intOf i).toNat)
  case atStart => exact ⟨0, by omega, rfl, rfl, H1.out, H2.out, H3.out⟩
  case round =>
    obtain ⟨k, hk, rfl, rfl, h4, h5, h6⟩ := hrel
    have H4 := Lib.hid h4
    have H5 := Lib.hid h5
    have H6 := Lib.hid h6
    clear h4 h5 h6 H1 H2 H3
    by_cases hlt : k < B.length
    · obtain ⟨g1, o1, hp, hx⟩ := H4.out.bytes.ne (by rintro rfl; simp at hlt)
      subst hp
      have hc := hx k hlt
      have hle := H4.out.le
      have hb8 : B.getD k 0 < 256 := Sm.getD_lt H4.out.ok (by omega) k
      have hvl : Cm.val (B.take k) < 256 ^ (B.take k).length := Cm.val_lt (fun x hx => H4.out.ok x (List.mem_of_mem_take hx))
      have hv7 : Cm.val (B.take k) < 72057594037927936 := Nat.lt_of_lt_of_le hvl (pow256 _ (by rw [List.length_take]; omega))
      have hst : Cm.val (B.take (k + 1)) = Cm.val (B.take k) * 256 + B.getD k 0 := by rw [take_snoc B k hlt, Cm.val_snoc]
      have HST := Lib.hid hst
      clear hst hvl hx
      generalize Cm.val (B.take k) = m at *
      generalize B.getD k 0 = b at *
      have hor := shl8_or hv7 hb8
      have HOR := Lib.hid hor
      clear hor
      go_wp2_with fail
      rw [HOR.out]
      go_roundw
      case rel => exact ⟨k + 1, by omega, by go_num, by rw [HST.out], H4.out, H5.out, H6.out⟩
      case measure => simp [intOf]; omega
    · obtain rfl : k = B.length := by omega
      rw [List.take_length]
      go_wp2_with fail
      go_ret
      exact ⟨rfl, H5.out, H6.out⟩
end Go.Proofs.YtfkpgildeddhaaaGreat

/- The contract of codec.Reader.Byte. -/
namespace Go.Proofs.YtfkpgildeddhaaaGreat
open Go.RowKit

set_option maxHeartbeats 1000000 in
theorem rbyte_any (s : Rd) (g : Nat) (w : World) (hs : RSx w g s) (hl : s.R.length < 1099511627776) :
    Calls Tryz.prog 26 #[.pointer (some ⟨g, 0, none⟩)] w (RPost w g (.int .u8 (Cm.val (s.part 1) : Nat)) (s.past 1)) := by
  have hok : Sm.allB s.R := by obtain ⟨p, n, c, h⟩ := hs; exact h.tx.ok
  have h3 := val1 hok
  have hv := rvalue_any s 1 g w hs (by omega) hl
  generalize Cm.val (s.part 1) = x at *
  have HV := Lib.hid hv
  have e8 : IntKind.u8.wrap (x : Int) = (x : Nat) := by rw [IntKind.wrap_u8]; omega
  clear hs hv hok
  go_enter Tryz.func26, Tryz.ntmps26
  go_wp2_with fail
  refine HV.out.mono ?_
  rintro e w1 hp
  obtain ⟨rfl, h1, h2⟩ := hp
  have H1 := Lib.hid h1
  have H2 := Lib.hid h2
  clear h1 h2
  go_wp2_with fail
  go_ret
  exact ⟨rfl, H1.out, H2.out⟩
end Go.Proofs.YtfkpgildeddhaaaGreat

/- A number's bits turned back; a reader hangs on the blocks up to its own. -/
namespace Go.Proofs.YtfkpgildeddhaaaGreat
open Go.RowKit

theorem val_num (n : Int) (h1 : -9223372036854775808 ≤ n) (h2 : n ≤ 9223372036854775807) : Cm.val (Cm.num n) = Cm.z64 n := by
  unfold Cm.num
  rw [Cm.val_be]
  exact Nat.mod_eq_of_lt (Cm.z64_lt h1 h2).1
theorem sign_back {n : Int} (h1 : -9223372036854775808 ≤ n) (h2 : n ≤ 9223372036854775807) : IntKind.i64.wrap (bits .xor .u64 ((Cm.z64 n : Nat) : Int) 9223372036854775808) = n := by
  have hz := (Cm.z64_lt h1 h2).2
  by_cases h : n < 0
  · have := Cm.sign_int (n := n + 9223372036854775808) (by omega) (by omega)
    rw [Cm.wrap_u64, show (n + 9223372036854775808) % 18446744073709551616 = ((Cm.z64 n : Nat) : Int) from by omega] at this
    rw [this, (Cm.z64_lt (n := n + 9223372036854775808) (by omega) (by omega)).2, IntKind.wrap_i64]
    omega
  · have := Cm.sign_int (n := n - 9223372036854775808) (by omega) (by omega)
    rw [Cm.wrap_u64, show (n - 9223372036854775808) % 18446744073709551616 = ((Cm.z64 n : Nat) : Int) from by omega] at this
    rw [this, (Cm.z64_lt (n := n - 9223372036854775808) (by omega) (by omega)).2, IntKind.wrap_i64]
    omega
/-- A reader hangs on the blocks up to its own alone. -/
theorem RSx.low {w w' : World} {g : Nat} {s : Rd} (h : RSx w g s) (hb : Below (g + 1) w w') : RSx w' g s := by
  obtain ⟨p, n, c, h⟩ := h
  refine ⟨p, n, c, (hb.block g (Nat.lt_succ_self g)).trans h.row, ⟨h.tx.size, h.tx.le, h.tx.ok, h.tx.at'.imp id fun ⟨x, hp, hx⟩ => ⟨x, hp, fun j u hu => ?_⟩, h.tx.sp⟩, h.lo⟩
  have hB : s.R ≠ [] := by rintro e; rw [e] at hu; simp [vals] at hu
  have hb2 : (x.add j).block = x.block := by cases x; simp [Addr.add]; split <;> rfl
  exact (hb.cell (p := x.add j) (by rw [hb2]; exact Nat.lt_succ_of_lt (h.lo x hp hB))).trans (hx j u hu)
theorem below_setCells {w : World} (k o : Nat) (vs : List Value) (B : Nat) (hB : B ≤ k) : Below B w (w.setCells k o vs) := by
  obtain ⟨h1, h2, h3, h4⟩ := size_setCells k vs o w
  exact ⟨h2, h3, h4, by omega, fun j hj => heap_setCells_other k vs o w j (by omega)⟩
end Go.Proofs.YtfkpgildeddhaaaGreat

/- The contracts of codec.Reader.atMost, Count. -/
namespace Go.Proofs.YtfkpgildeddhaaaGreat
open Go.RowKit

set_option maxHeartbeats 1000000 in
theorem atmost_any (s : Rd) (most n : Int) (g : Nat) (w : World) (hs : RSx w g s) :
    Calls Tryz.prog 75 #[.pointer (some ⟨g, 0, none⟩), .int .i64 most, .int .i64 n] w (RPost w g (.int .i64 (if most < n then 0 else n)) (if most < n then s.refuse 10 else s)) := by
  have HS := Lib.hid hs
  clear hs
  by_cases h : most < n
  · rw [if_pos h, if_pos h]
    go_enter Tryz.func75, Tryz.ntmps75
    go_wp2_with fail
    refine (rrefuse_any s 10 g _ HS.out).mono ?_
    rintro e w1 hp
    obtain ⟨rfl, h2, h3⟩ := hp
    have H2 := Lib.hid h2
    have H3 := Lib.hid h3
    clear h2 h3
    go_wp2_with fail
    go_ret
    exact ⟨rfl, H2.out, H3.out⟩
  · rw [if_neg h, if_neg h]
    go_enter Tryz.func75, Tryz.ntmps75
    go_wp2_with fail
    go_ret
    exact ⟨rfl, HS.out, grown_same _ _⟩
set_option maxRecDepth 100000 in
set_option maxHeartbeats 1000000 in
theorem rcount_any (s : Rd) (most : Int) (g : Nat) (w : World) (hs : RSx w g s) (hl : s.R.length < 1099511627776) :
    Calls Tryz.prog 54 #[.pointer (some ⟨g, 0, none⟩), .int .i64 most] w (RPost w g (.int .i64 (s.countV most)) (s.count most)) := by
  have hok : Sm.allB s.R := by obtain ⟨p, n, c, h⟩ := hs; exact h.tx.ok
  have h3 := val3 hok
  have hva := rvalue_any s 3 g w hs (by omega) hl
  clear hs hok
  by_cases hc : min most 1048576 < ((Cm.val (s.part 3) : Nat) : Int)
  · have e1 : s.countV most = 0 := by unfold Rd.countV; rw [if_pos hc]
    have e2 : s.count most = (s.past 3).refuse 10 := by unfold Rd.count; rw [if_pos hc]
    rw [e1, e2]
    clear e1 e2
    generalize Cm.val (s.part 3) = m at *
    have HC := Lib.hid hc
    clear hc
    go_enter Tryz.func54, Tryz.ntmps54
    go_wp2_with fail
    refine hva.mono ?_
    rintro e w1 hp
    obtain ⟨rfl, h4, h5⟩ := hp
    have H4 := Lib.hid h4
    have H5 := Lib.hid h5
    clear h4 h5 hva
    go_wp2_with fail
    have hat := atmost_any (s.past 3) (min most 1048576) m g _ H4.out
    rw [if_pos HC.out, if_pos HC.out] at hat
    refine hat.mono ?_
    rintro e w2 hp
    obtain ⟨rfl, h6, h7⟩ := hp
    have H6 := Lib.hid h6
    have H7 := Lib.hid (grown_twice H5.out h7)
    clear h6 h7 hat
    go_wp2_with fail
    go_ret
    exact ⟨rfl, H6.out, H7.out⟩
  · have e1 : s.countV most = ((Cm.val (s.part 3) : Nat) : Int) := by unfold Rd.countV; rw [if_neg hc]
    have e2 : s.count most = s.past 3 := by unfold Rd.count; rw [if_neg hc]
    rw [e1, e2]
    clear e1 e2
    generalize Cm.val (s.part 3) = m at *
    have HC := Lib.hid hc
    clear hc
    go_enter Tryz.func54, Tryz.ntmps54
    go_wp2_with fail
    refine hva.mono ?_
    rintro e w1 hp
    obtain ⟨rfl, h4, h5⟩ := hp
    have H4 := Lib.hid h4
    have H5 := Lib.hid h5
    clear h4 h5 hva
    go_wp2_with fail
    have hat := atmost_any (s.past 3) (min most 1048576) m g _ H4.out
    rw [if_neg (Int.not_lt.mpr HC.out), if_neg (Int.not_lt.mpr HC.out)] at hat
    refine hat.mono ?_
    rintro e w2 hp
    obtain ⟨rfl, h6, h7⟩ := hp
    have H6 := Lib.hid h6
    have H7 := Lib.hid (grown_twice H5.out h7)
    clear h6 h7 hat
    go_wp2_with fail
    go_ret
    exact ⟨rfl, H6.out, H7.out⟩
end Go.Proofs.YtfkpgildeddhaaaGreat

/- A row of numbers of a call's own that is copied and written. -/
namespace Go.Proofs.YtfkpgildeddhaaaGreat
open Go.RowKit

theorem I2n : (Tryz.prog.info? 2).map (fun i => (i.zero, i.size, i.bytes)) = some (some (.int .i64 0), 1, 8) := by kernel_rfl
theorem URn : Tryz.prog.underlying 39 = some (.slice 2) := by kernel_rfl
def ivs (R : List Int) : List Value := R.map fun x => .int .i64 x
theorem ivs_length (R : List Int) : (ivs R).length = R.length := List.length_map ..
theorem ivs_get (R : List Int) (i : Nat) (h : i < R.length) : (ivs R)[i]? = some (.int .i64 (R.getD i 0)) := by
  simp [ivs, List.getD_eq_getElem?_getD, h]
theorem ivs_set (R : List Int) (k : Nat) (x : Int) : ivs (R.set k x) = (ivs R).set k (.int .i64 x) := by simp [ivs, List.map_set]
theorem ivs_one (R : List Int) : ∀ u ∈ ivs R, u.oneCell' = true := by
  intro u hu
  simp only [ivs, List.mem_map] at hu
  obtain ⟨x, _, rfl⟩ := hu
  rfl
theorem set_getD (R : List Int) (k i : Nat) (x : Int) (hk : k < R.length) : (R.set k x).getD i 0 = if i = k then x else R.getD i 0 := by
  simp only [List.getD_eq_getElem?_getD, List.getElem?_set]
  by_cases h : k = i
  · subst h; simp [hk]
  · rw [if_neg h, if_neg (Ne.symm h)]
/-- A row of a call's own, above a height. -/
def OwnRow (w : World) (base g n c : Nat) (N : List Int) : Prop := w.ownsRow base 2 1 (.slice (some ⟨g, 0, none⟩) n c) n (ivs N)
theorem own_form {w : World} {base n : Nat} {v : Value} {N : List Int} (h : w.ownsRow base 2 1 v n (ivs N)) (hn : 1 ≤ n) : ∃ g c, v = .slice (some ⟨g, 0, none⟩) n c ∧ OwnRow w base g n c N ∧ base ≤ g := by
  rcases h.2 with ⟨_, h0⟩ | ⟨g, cap, cur, hv, hb, r⟩
  · omega
  · exact ⟨g, cap, hv, by unfold OwnRow; rw [← hv]; exact h, hb⟩
theorem OwnRow.ints {w : World} {base g n c : Nat} {N : List Int} (h : OwnRow w base g n c N) (hN : ∀ x ∈ N, -9223372036854775808 ≤ x ∧ x ≤ 9223372036854775807) : Ints w (some ⟨g, 0, none⟩) n c N := by
  have hl : n = N.length := by have := h.1; rw [ivs_length, Nat.mul_one] at this; exact this.symm
  rcases h.2 with ⟨h1, _⟩ | ⟨g', cap, cur, hv, hb, hg, hle, hm, hs, ht⟩
  · simp at h1
  · obtain ⟨rfl, rfl⟩ : g = g' ∧ c = cap := by simpa using hv
    refine ⟨hl, hle, hN, Or.inr ⟨g, 0, rfl, fun i hi => ?_⟩⟩
    have := World.ownsRow.cellAt h i (by omega)
    rw [Nat.zero_add, this, ivs_get N i hi]
theorem OwnRow.length {w : World} {base g n c : Nat} {N : List Int} (h : OwnRow w base g n c N) : n = N.length := by have := h.1; rw [ivs_length, Nat.mul_one] at this; exact this.symm
theorem OwnRow.later {w w' : World} {base g n c : Nat} {N : List Int} (h : OwnRow w base g n c N) (hb : Below w.heap.size w w') : OwnRow w' base g n c N := by
  obtain ⟨h1, h2⟩ := h
  refine ⟨h1, h2.imp id ?_⟩
  rintro ⟨g, cap, cur, hv, hg, hh, r⟩
  exact ⟨g, cap, cur, hv, hg, (hb.block _ (Array.getElem?_eq_some_iff.1 hh).1).trans hh, r⟩
theorem OwnRow.set {w : World} {base g n c : Nat} {N : List Int} (h : OwnRow w base g n c N) (k : Nat) (x : Int) : OwnRow (w.setCell ⟨g, k, none⟩ (.int .i64 x)) base g n c (N.set k x) := by
  unfold OwnRow
  rw [ivs_set]
  exact (World.ownsRow.stored h k _).1
theorem own_empty (w : World) : (w.alloc (.cells #[] 2)).ownsRow w.heap.size 2 1 (.slice (some ⟨w.heap.size, 0, none⟩) 0 0) 0 [] :=
  ⟨rfl, Or.inr ⟨w.heap.size, 0, #[], rfl, Nat.le_refl _, heap_alloc_new w _, Nat.le_refl _, by unfold maxLen; omega, rfl, rfl⟩⟩
theorem Ints.news {w : World} {g o n c : Nat} {R : List Int} (h : Ints w (some ⟨g, o, none⟩) n c R) : ∀ j u, (ivs R)[j]? = some u → w.cell? ((⟨g, o, none⟩ : Addr).add j) = some u := fun j u hu => by
  have hj : j < R.length := by have := (List.getElem?_eq_some_iff.1 hu).1; simpa [ivs] using this
  rw [ivs_get _ _ hj] at hu
  rcases h.at' with h0 | ⟨g', o', hp, hx⟩
  · rw [h0] at hj; simp at hj
  · simp only [Option.some.injEq, Addr.mk.injEq, and_true] at hp
    obtain ⟨rfl, rfl⟩ := hp
    rw [Addr.add_mid, hx j hj, hu]
end Go.Proofs.YtfkpgildeddhaaaGreat

/- What a reader tells, plainly: truths, counts, numbers, digests, rows. -/
namespace Go.Proofs.YtfkpgildeddhaaaGreat.Nd
open Go.RowKit

theorem part1 (s : Rd) : s.part 1 = [] ∨ ∃ b, s.part 1 = [b] := by
  have h := Rd.part_len s 1
  match hp : s.part 1 with
  | [] => exact Or.inl rfl
  | [b] => exact Or.inr ⟨b, rfl⟩
  | a :: b :: L => rw [hp] at h; simp at h
theorem val_one (b : Nat) : Cm.val [b] = b := by simp [Cm.val]
def _root_.Go.Proofs.YtfkpgildeddhaaaGreat.Rd.truth (s : Rd) : Rd := if (s.past 1).e = 0 ∧ 1 < Cm.val (s.part 1) then ⟨(s.past 1).R, 21⟩ else s.past 1
def _root_.Go.Proofs.YtfkpgildeddhaaaGreat.Rd.truthV (s : Rd) : Bool := decide ((s.past 1).e = 0 ∧ Cm.val (s.part 1) = 1)
theorem part_nk (s : Rd) (n : Nat) : s.part n = [] ∨ (s.part n).length = n := by
  unfold Rd.part
  split
  · rename_i h
    exact Or.inr (by rw [List.length_take]; have := h.2; omega)
  · exact Or.inl rfl
theorem part3 (s : Rd) : s.part 3 = [] ∨ ∃ a b c, s.part 3 = [a, b, c] := by
  rcases part_nk s 3 with h | h
  · exact Or.inl h
  · match hp : s.part 3 with
    | [a, b, c] => exact Or.inr ⟨a, b, c, rfl⟩
    | [] => exact Or.inl rfl
    | [_] => rw [hp] at h; simp at h
    | [_, _] => rw [hp] at h; simp at h
    | _ :: _ :: _ :: _ :: _ => rw [hp] at h; simp at h
theorem past_ok {s : Rd} {n : Nat} (h : s.part n ≠ []) : s.past n = ⟨s.R.drop n, 0⟩ := by
  unfold Rd.part at h
  unfold Rd.past
  split
  · rfl
  · rename_i k
    rw [if_neg k] at h
    exact absurd rfl h
theorem val_three (a b c : Nat) : Cm.val [a, b, c] = 65536 * a + 256 * b + c := by simp [Cm.val]; omega
/-- The number that eight bytes make. -/
def _root_.Go.Proofs.YtfkpgildeddhaaaGreat.Rd.numV (s : Rd) : Int := if s.part 8 = [] then 0 else ((Cm.val (s.part 8) : Nat) : Int) - 9223372036854775808
theorem pow256' (k : Nat) (h : k ≤ 8) : 256 ^ k ≤ 18446744073709551616 := Nat.le_trans (Nat.pow_le_pow_right (by omega) h) (by decide)
/-- The digest that thirty-two bytes are. -/
def _root_.Go.Proofs.YtfkpgildeddhaaaGreat.Rd.digV (s : Rd) : List Nat := s.part 32 ++ zeros (32 - (s.part 32).length)
theorem digV_length (s : Rd) : s.digV.length = 32 := by
  have := Rd.part_len s 32
  simp [Rd.digV, zeros]
  omega
theorem digV_ok {s : Rd} (h : Sm.allB s.R) : Sm.allB s.digV := by
  intro x hx
  rcases List.mem_append.1 hx with k | k
  · exact Rd.part_ok h 32 x k
  · exact zeros_ok _ x k
theorem tx_nonil {w : World} {q : Option Addr} {n c : Nat} {B : List Nat} (h : Tx w q n c B) (hB : B ≠ []) : ∃ g o, q = some ⟨g, o, none⟩ ∧ bytesAt w g o B := h.bytes.ne hB
theorem dg_step (B : List Nat) (k : Nat) (hk : k < B.length) (h : B.length ≤ 32) : (u8s (B.take k ++ zeros (32 - k))).setIfInBounds k (.int .u8 (B.getD k 0 : Nat)) = u8s (B.take (k + 1) ++ zeros (32 - (k + 1))) := by
  rw [zeros_succ (by omega : 0 < 32 - k), u8s_set _ _ _ _ _ (by rw [List.length_take]; omega), take_snoc B k hk, List.append_assoc, List.singleton_append, show 32 - k - 1 = 32 - (k + 1) from by omega]
/-- So many numbers, till an error. -/
def readN : Nat → Rd → List Int → List Int × Rd
  | 0, s, L => (L, s)
  | n + 1, s, L => if s.e = 0 then readN n (s.past 8) (L ++ [s.numV]) else (L, s)
theorem readN_go {n : Nat} {s : Rd} {L : List Int} (h : s.e = 0) (hn : 0 < n) : readN n s L = readN (n - 1) (s.past 8) (L ++ [s.numV]) := by
  obtain ⟨m, rfl⟩ : ∃ m, n = m + 1 := ⟨n - 1, by omega⟩
  show (if s.e = 0 then _ else _) = _
  rw [if_pos h]
  rfl
theorem readN_no {n : Nat} {s : Rd} {L : List Int} (h : s.e ≠ 0) : readN n s L = (L, s) := by
  cases n with
  | zero => rfl
  | succ n =>
    show (if s.e = 0 then _ else _) = _
    rw [if_neg h]
/-- The reader behind a row's count. -/
def _root_.Go.Proofs.YtfkpgildeddhaaaGreat.Rd.rowN (s : Rd) (most : Int) : Rd := if (s.past 1).e = 0 ∧ most < (Cm.val (s.part 1) : Nat) then ⟨(s.past 1).R, 10⟩ else s.past 1
def _root_.Go.Proofs.YtfkpgildeddhaaaGreat.Rd.row (s : Rd) (most : Int) : List Int × Rd := readN (Cm.val (s.part 1)) (s.rowN most) []
def _root_.Go.Proofs.YtfkpgildeddhaaaGreat.Rd.rowV (s : Rd) (most : Int) : List Int := if (s.row most).2.e = 0 then (s.row most).1 else []
theorem rowN_len (s : Rd) (most : Int) : (s.rowN most).R.length ≤ s.R.length := by
  unfold Rd.rowN
  split
  · exact Rd.past_len s 1
  · exact Rd.past_len s 1
theorem owns_nil (w : World) (base : Nat) : w.ownsRow base 2 1 (.slice none 0 0) 0 (ivs []) := ⟨rfl, Or.inl ⟨rfl, rfl⟩⟩
theorem ivs_append (A B : List Int) : ivs (A ++ B) = ivs A ++ ivs B := List.map_append ..
theorem ivs_owns_later {w w' : World} {base : Nat} {v : Value} {n : Nat} {xs : List Value} (h : w.ownsRow base 2 1 v n xs) (hb : Below w.heap.size w w') : w'.ownsRow base 2 1 v n xs := by
  obtain ⟨h1, h2⟩ := h
  refine ⟨h1, h2.imp id ?_⟩
  rintro ⟨g, cap, cur, hv, hg, hh, r⟩
  exact ⟨g, cap, cur, hv, hg, (hb.block _ (Array.getElem?_eq_some_iff.1 hh).1).trans hh, r⟩
/-- A row of one's own stays while something else grows. -/
theorem ivs_owns_grown {w w' : World} {base : Nat} {v : Value} {n g : Nat} {xs : List Value} (h : w.ownsRow base 2 1 v n xs) (hg : w.grownBy w' (some g)) (hlt : g < base) : w'.ownsRow base 2 1 v n xs := by
  obtain ⟨h1, h2⟩ := h
  refine ⟨h1, h2.imp id ?_⟩
  rintro ⟨b, cap, cur, hv, hb, hh, r⟩
  exact ⟨b, cap, cur, hv, hb, (hg.block _ (Array.getElem?_eq_some_iff.1 hh).1 (by simp; omega)).trans hh, r⟩
theorem below_own {w w' : World} {base n B : Nat} {v : Value} {xs : List Value} (h : w.grownBy w' v.ownBlock) (ho : w.ownsRow base 2 1 v n xs) (hB : B ≤ base) (hs : B ≤ w.heap.size) : Below B w w' :=
  ⟨h.os, h.tape, h.output, h.size, fun k hk => h.block k (by omega) (fun e => by have := (ho.lt k e.symm).1; omega)⟩
end Go.Proofs.YtfkpgildeddhaaaGreat.Nd

/- codec.Reader's Truth, Num, whatever it holds. -/
namespace Go.Proofs.YtfkpgildeddhaaaGreat.Nd
open Go.RowKit

theorem one_val {s : Rd} (h : Cm.val (s.part 1) ≠ 0) : (s.past 1).e = 0 := by
  unfold Rd.part at h
  unfold Rd.past
  split at h
  · rename_i k; rw [if_pos k]
  · exact absurd rfl h
set_option maxHeartbeats 1000000 in
theorem ltruth_any (s : Rd) (g : Nat) (w : World) (hs : RSx w g s) (hl : s.R.length < 1099511627776) :
    Calls Tryz.prog 51 #[.pointer (some ⟨g, 0, none⟩)] w (RPost w g (.bool s.truthV) s.truth) := by
  have HV := Lib.hid (rbyte_any s g w hs hl)
  clear hs
  by_cases hx : 1 < Cm.val (s.part 1)
  · have he := one_val (s := s) (by omega)
    have e1 : s.truthV = false := by unfold Rd.truthV; exact decide_eq_false (by omega)
    have e2 : s.truth = (s.past 1).refuse 21 := by unfold Rd.truth Rd.refuse; rw [if_pos ⟨he, hx⟩, if_pos he]
    rw [e1, e2]
    clear e1 e2 he
    have b1 : (1 : Int) < (Cm.val (s.part 1) : Nat) := by omega
    have b2 : (((Cm.val (s.part 1) : Nat) : Int) == 1) = false := by simp; omega
    generalize Cm.val (s.part 1) = x at *
    clear hx
    go_enter Tryz.func51, Tryz.ntmps51
    go_wp2_with fail
    refine HV.out.mono ?_
    rintro e w1 hp
    obtain ⟨rfl, h1, h2⟩ := hp
    have H1 := Lib.hid h1
    have H2 := Lib.hid h2
    clear h1 h2
    go_wp2_with fail
    refine (rrefuse_any (s.past 1) 21 g _ H1.out).mono ?_
    rintro e w2 hp
    obtain ⟨rfl, h3, h4⟩ := hp
    have H3 := Lib.hid h3
    have H4 := Lib.hid (grown_twice H2.out h4)
    clear h3 h4
    go_wp2_with fail
    go_ret
    exact ⟨rfl, H3.out, H4.out⟩
  · have e2 : s.truth = s.past 1 := by unfold Rd.truth; rw [if_neg (fun h => hx h.2)]
    have e1 : (((Cm.val (s.part 1) : Nat) : Int) == 1) = s.truthV := by
      unfold Rd.truthV
      rw [Bool.eq_iff_iff, beq_iff_eq, decide_eq_true_iff]
      constructor
      · intro h; exact ⟨one_val (by omega), by omega⟩
      · intro h; omega
    rw [e2]
    have b1 : ¬ (1 : Int) < (Cm.val (s.part 1) : Nat) := by omega
    generalize s.truthV = X at *
    generalize Cm.val (s.part 1) = x at *
    clear hx e2
    have E1 := Lib.hid e1
    clear e1
    go_enter Tryz.func51, Tryz.ntmps51
    go_wp2_with fail
    refine HV.out.mono ?_
    rintro e w1 hp
    obtain ⟨rfl, h1, h2⟩ := hp
    have H1 := Lib.hid h1
    have H2 := Lib.hid h2
    clear h1 h2
    go_wp2_with fail
    go_ret
    exact ⟨by rw [← E1.out]; rfl, H1.out, H2.out⟩
theorem part_nil {s : Rd} {n : Nat} (hn : 0 < n) (h : (s.past n).e = 0) : s.part n ≠ [] := by
  unfold Rd.past Rd.refuse at h
  unfold Rd.part
  split at h
  · rename_i k
    rw [if_pos k]
    intro e
    have h1 := congrArg List.length e
    rw [List.length_take, List.length_nil] at h1
    have h2 := k.2
    omega
  · split at h
    · cases h
    · rename_i k; exact absurd h k
theorem past_nil {s : Rd} {n : Nat} (h : (s.past n).e ≠ 0) : s.part n = [] := by
  unfold Rd.past at h
  unfold Rd.part
  split at h
  · exact absurd rfl h
  · rename_i k; rw [if_neg k]
theorem numV_in {s : Rd} (h : Sm.allB s.R) : -9223372036854775808 ≤ s.numV ∧ s.numV ≤ 9223372036854775807 := by
  have h1 := Cm.val_lt (Rd.part_ok h 8)
  have h2 := pow256' _ (Rd.part_len s 8)
  unfold Rd.numV
  split <;> omega
set_option maxHeartbeats 1000000 in
theorem lnum_any (s : Rd) (g : Nat) (w : World) (hs : RSx w g s) (hl : s.R.length < 1099511627776) :
    Calls Tryz.prog 76 #[.pointer (some ⟨g, 0, none⟩)] w (RPost w g (.int .i64 s.numV) (s.past 8)) := by
  have hok : Sm.allB s.R := by obtain ⟨p, n, c, h⟩ := hs; exact h.tx.ok
  have HV := Lib.hid (rvalue_any s 8 g w hs (by omega) hl)
  have hin := numV_in hok
  clear hs
  by_cases he : (s.past 8).e = 0
  · have hp := part_nil (n := 8) (by omega) he
    have hz : Cm.z64 s.numV = Cm.val (s.part 8) := by
      unfold Cm.z64 Rd.numV
      rw [if_neg hp]
      omega
    have hsb := sign_back hin.1 hin.2
    rw [hz] at hsb
    have HSB := Lib.hid hsb
    have HE := Lib.hid he
    clear hp hz hsb hin hok he
    generalize s.numV = x at *
    generalize Cm.val (s.part 8) = z at *
    go_enter Tryz.func76, Tryz.ntmps76
    go_wp2_with fail
    refine HV.out.mono ?_
    rintro e w1 hp
    obtain ⟨rfl, ⟨p3, n3, c3, h3⟩, h4⟩ := hp
    have h5 := h3.err
    rw [HE.out] at h5
    have H3 := Lib.hid h3
    have H4 := Lib.hid h4
    have hsb := HSB.out
    clear h3 h4
    go_wp2_with fail
    go_ret
    exact ⟨rfl, ⟨p3, n3, c3, H3.out⟩, H4.out⟩
  · have hv : s.numV = 0 := by unfold Rd.numV; rw [if_pos (past_nil he)]
    have b1 : (((s.past 8).e : Int) != 0) = true := by simp; omega
    rw [hv]
    clear hv hin hok he
    generalize Cm.val (s.part 8) = z at *
    go_enter Tryz.func76, Tryz.ntmps76
    go_wp2_with fail
    refine HV.out.mono ?_
    rintro e w1 hp
    obtain ⟨rfl, ⟨p3, n3, c3, h3⟩, h4⟩ := hp
    have h5 := h3.err
    have H3 := Lib.hid h3
    have H4 := Lib.hid h4
    clear h3 h4
    go_wp2_with fail
    go_ret
    exact ⟨rfl, ⟨p3, n3, c3, H3.out⟩, H4.out⟩
end Go.Proofs.YtfkpgildeddhaaaGreat.Nd

/- codec.Reader's Row, whatever it holds. -/
namespace Go.Proofs.YtfkpgildeddhaaaGreat.Nd
open Go.RowKit

/-- What a row's reading leaves: a row of one's own above the height, the reader. -/
def LRow (w : World) (g : Nat) (L : List Int) (s : Rd) (e : Ending) (w' : World) : Prop :=
  ∃ v, e = .returned v ∧ w'.ownsRow w.heap.size 2 1 v L.length (ivs L) ∧ RSx w' g s ∧ w.grownBy w' (some g)
structure LrSt (w : World) (g gr n : Nat) (T : List Int × Rd) (k : Nat) (C : Array Value) (s : Rd) (wr : World) : Prop where
  row : wr.heap[gr]? = some (.cells C 2 (0, 0))
  size : C.size = n
  rd : RSx wr g s
  grown : w.grownBy wr (some g)
  len : s.R.length < 1099511627776
  run : (∃ L, s.e = 0 ∧ L.length = k ∧ C.toList.take k = ivs L ∧ readN (n - k) s L = T) ∨ (s.e ≠ 0 ∧ T.2 = s)
def LrRel (w : World) (g gr n : Nat) (T : List Int × Rd) (i : Value) (wr : World) : Prop := ∃ k C s, k ≤ n ∧ i = .int .i64 k ∧ LrSt w g gr n T k C s wr
theorem past_err {s : Rd} {n : Nat} (h : s.e ≠ 0) : s.past n = s := by
  unfold Rd.past Rd.refuse
  rw [if_neg (fun k => h k.1), if_neg h]
/-- One more number. -/
theorem lr_step {s : Rd} {n k : Nat} {T : List Int × Rd} {C : Array Value} (hk : k < n) (hC : C.size = n) (h : (∃ L, s.e = 0 ∧ L.length = k ∧ C.toList.take k = ivs L ∧ readN (n - k) s L = T) ∨ (s.e ≠ 0 ∧ T.2 = s)) :
    (∃ L, (s.past 8).e = 0 ∧ L.length = k + 1 ∧ (C.setIfInBounds k (.int .i64 s.numV)).toList.take (k + 1) = ivs L ∧ readN (n - (k + 1)) (s.past 8) L = T) ∨ ((s.past 8).e ≠ 0 ∧ T.2 = s.past 8) := by
  rcases h with ⟨L, he, hl, hc, hr⟩ | ⟨he, ht⟩
  · have h1 := readN_go (n := n - k) (L := L) he (by omega)
    rw [h1] at hr
    by_cases h8 : (s.past 8).e = 0
    · refine Or.inl ⟨L ++ [s.numV], h8, by rw [List.length_append, hl]; rfl, ?_, by rw [show n - (k + 1) = n - k - 1 by omega]; exact hr⟩
      have hlt : k < (C.setIfInBounds k (.int .i64 s.numV)).toList.length := by simp [hC, hk]
      have e1 : (C.setIfInBounds k (.int .i64 s.numV)).toList.take k = C.toList.take k := by
        rw [Array.toList_setIfInBounds, List.take_set_of_le (Nat.le_refl _)]
      have e2 : (C.setIfInBounds k (.int .i64 s.numV)).toList[k] = .int .i64 s.numV := by
        simp [Array.toList_setIfInBounds]
      rw [List.take_succ_eq_append_getElem hlt, e1, e2, hc, ivs_append]
      rfl
    · refine Or.inr ⟨h8, ?_⟩
      rw [readN_no h8] at hr
      rw [← hr]
  · rw [past_err he]
    exact Or.inr ⟨he, ht⟩
set_option maxRecDepth 100000 in
set_option maxHeartbeats 2000000 in
theorem lrow_any (s : Rd) (g : Nat) (w : World) (hs : RSx w g s) (hl : s.R.length < 1099511627776) :
    Calls Tryz.prog 52 #[.pointer (some ⟨g, 0, none⟩), .int .i64 8] w (LRow w g (s.rowV 8) (s.row 8).2) := by
  have hok : Sm.allB s.R := by obtain ⟨p, n, c, h⟩ := hs; exact h.tx.ok
  have HB := Lib.hid (rbyte_any s g w hs hl)
  have hpl := Rd.past_len s 1
  -- how many numbers are read, and with what
  obtain ⟨m, s2, hm, hs2, hT, hm8⟩ : ∃ (m : Nat) (s2 : Rd), (if (8 : Int) < (Cm.val (s.part 1) : Nat) then (0 : Int) else (Cm.val (s.part 1) : Nat)) = (m : Int) ∧ (if (8 : Int) < (Cm.val (s.part 1) : Nat) then (s.past 1).refuse 10 else s.past 1) = s2 ∧ (readN m s2 [] = s.row 8 ∨ (s2.e ≠ 0 ∧ (s.row 8).2 = s2)) ∧ m ≤ 8 := by
    have hr : s.row 8 = readN (Cm.val (s.part 1)) (s.rowN 8) [] := rfl
    by_cases h : (8 : Int) < (Cm.val (s.part 1) : Nat)
    · have he := one_val (s := s) (by omega)
      refine ⟨0, _, if_pos h, if_pos h, Or.inr ?_, by omega⟩
      have e1 : s.rowN 8 = ⟨(s.past 1).R, 10⟩ := by unfold Rd.rowN; rw [if_pos ⟨he, h⟩]
      have e2 : (s.past 1).refuse 10 = ⟨(s.past 1).R, 10⟩ := by unfold Rd.refuse; rw [if_pos he]
      rw [e2, hr, e1, readN_no (by simp)]
      exact ⟨by simp, rfl⟩
    · refine ⟨Cm.val (s.part 1), _, if_neg h, if_neg h, Or.inl ?_, by omega⟩
      have e1 : s.rowN 8 = s.past 1 := by unfold Rd.rowN; rw [if_neg (fun k => h k.2)]
      rw [hr, e1]
  have hV : s.rowV 8 = if (s.row 8).2.e = 0 then (s.row 8).1 else [] := rfl
  have hs2l : s2.R.length < 1099511627776 := by
    rw [← hs2]
    split
    · exact Nat.lt_of_le_of_lt (Rd.refuse_len _ _) (Nat.lt_of_le_of_lt hpl hl)
    · exact Nat.lt_of_le_of_lt hpl hl
  have HAT := Lib.hid (fun w1 (h : RSx w1 g (s.past 1)) => by
    have := atmost_any (s.past 1) 8 (Cm.val (s.part 1) : Nat) g w1 h
    rw [hm, hs2] at this
    exact this)
  have HT := Lib.hid hT
  have HV := Lib.hid hV
  have hv256 := val1 hok
  generalize s.rowV 8 = X at *
  generalize s.row 8 = T at *
  generalize Cm.val (s.part 1) = cnt at *
  have HL2 := Lib.hid hs2l
  obtain ⟨i2, hi, hi0, hi1, hi2⟩ := info_parts I2n
  have HI := Lib.hid hi
  have HI0 := Lib.hid hi0
  have HI1 := Lib.hid hi1
  have HI2 := Lib.hid hi2
  have e8 : IntKind.i64.wrap (cnt : Int) = (cnt : Nat) := by rw [IntKind.wrap_i64]; omega
  clear hs hok hpl hm hs2 hT hV hs2l hi hi0 hi1 hi2 hl
  go_enter Tryz.func52, Tryz.ntmps52
  go_wp2_with fail
  refine HB.out.mono ?_
  rintro e w1 hp
  obtain ⟨rfl, h1, h2⟩ := hp
  have HA := Lib.hid (HAT.out w1 h1)
  have H2 := Lib.hid h2
  clear h1 h2
  go_wp2_with fail
  refine HA.out.mono ?_
  rintro e w2 hp
  obtain ⟨rfl, h3, h4⟩ := hp
  have hg : g < w2.heap.size := h3.lt
  have H3 := Lib.hid h3
  have H4 := Lib.hid (grown_twice H2.out h4)
  clear h3 h4
  go_wp2_with (at_make; refine wpList_make_full _ (by rfl) _ _ 39 (by rfl) w2.heap.size 2 i2 (.int .i64 0) 1 URn HI.out HI0.out HI1.out .i64 .i64 _ _ m (by rfl) (by rfl) (by rfl) (by rfl) (by rw [HI2.out]; omega) (by unfold maxLen; omega) (Nat.le_refl _) ?_; intro w3 hown3 hgrow3; have O3 := Lib.hid hown3; have G3 := Lib.hid hgrow3; clear hown3 hgrow3)
  have hb23 : Below w2.heap.size w2 w3 := ⟨G3.out.os, G3.out.tape, G3.out.output, G3.out.size, fun k hk => G3.out.block k hk (by simp)⟩
  have hg3 := grown_new (w := w) H4.out H4.out.size hb23 hb23.size
  have hr3 := H3.out.later hb23
  obtain ⟨cur, hcur, hcs⟩ : ∃ cur, w3.heap[w2.heap.size]? = some (.cells cur 2 (0, 0)) ∧ cur.size = m := by
    rcases O3.out.2 with ⟨h1, _⟩ | ⟨k, cap, cur, hv, _, hrow, _, _, hsz, _⟩
    · simp at h1
    · simp only [Value.slice.injEq, Option.some.injEq, Addr.mk.injEq, true_and, and_true] at hv
      obtain ⟨rfl, rfl⟩ := hv
      exact ⟨cur, hrow, by omega⟩
  have HGR := Lib.hid (show g < w2.heap.size ∧ w.heap.size ≤ w2.heap.size from ⟨hg, H4.out.size⟩)
  generalize w2.heap.size = gr at *
  have HR3 := Lib.hid (show LrSt w g gr m T 0 cur s2 w3 from ⟨hcur, hcs, hr3, hg3, HL2.out, by
    by_cases he : s2.e = 0
    · rcases HT.out with h | h
      · exact Or.inl ⟨[], he, rfl, rfl, h⟩
      · exact absurd he h.1
    · rcases HT.out with h | h
      · rw [readN_no he] at h
        exact Or.inr ⟨he, by rw [← h]⟩
      · exact Or.inr h⟩)
  clear hb23 hg3 hr3 hcur hcs O3 G3 H3 H4 H2 hg HB HA HAT HT e8
  go_loopw [16] (fun i wr => LrRel w g gr m T i wr) (fun i _ => m - (intOf i).toNat)
  case atStart => exact ⟨0, cur, s2, by omega, rfl, HR3.out⟩
  case round =>
    obtain ⟨k, C, sk, hk, rfl, hr⟩ := hrel
    have HR := Lib.hid hr
    clear hr HR3
    by_cases hlt : k < m
    · have hnum := lnum_any sk g wr HR.out.rd HR.out.len
      have HST := Lib.hid (lr_step hlt HR.out.size HR.out.run)
      have HPL := Lib.hid (Nat.lt_of_le_of_lt (Rd.past_len sk 8) HR.out.len)
      have HNUM := Lib.hid hnum
      have i1 : (0 : Int) ≤ k ∧ (k : Int) < m := by omega
      clear hnum
      generalize sk.numV = x at *
      generalize sk.past 8 = t at *
      go_wp2_with fail
      refine HNUM.out.mono ?_
      rintro e w4 hp
      obtain ⟨rfl, h5, h6⟩ := hp
      have hrow4 := (h6.block gr (Array.getElem?_eq_some_iff.1 HR.out.row).1 (by simp; have := HGR.out.1; omega)).trans HR.out.row
      obtain ⟨u, hu⟩ : ∃ u, w4.cell? ⟨gr, k, none⟩ = some u := by
        rw [cell_of_row w4 gr k _ _ _ hrow4]
        exact ⟨_, Array.getElem?_eq_getElem (by rw [HR.out.size]; exact hlt)⟩
      have hf := frozen_of_row w4 gr k _ _ hrow4
      have hrow5 := heap_setCell_same w4 gr k _ _ (.int .i64 x) hrow4
      have H5 := Lib.hid h5
      have H6 := Lib.hid (grown_twice HR.out.grown h6)
      have HROW5 := Lib.hid hrow5
      clear h5 h6 hrow4 hrow5
      go_wp2_with fail
      go_roundw
      case rel =>
        refine ⟨k + 1, _, t, by omega, by go_num, HROW5.out, by simp [HR.out.size], H5.out.low ((Below.refl _ _).setCell (p := ⟨gr, k, none⟩) (by have := HGR.out.1; show g + 1 ≤ gr; omega) _), grown_new H6.out (B := gr) HGR.out.2 ((Below.refl _ _).setCell (p := ⟨gr, k, none⟩) (Nat.le_refl _) _) (by simp [World.setCell]), HPL.out, HST.out⟩
      case measure => simp [intOf]; omega
    · obtain rfl : m = k := by omega
      have hrd := HR.out.rd
      obtain ⟨p6, n6, c6, h6⟩ := hrd
      have h7 := h6.err
      have H6 := Lib.hid h6
      clear h6
      by_cases he : sk.e = 0
      · rw [he] at h7
        rcases HR.out.run with ⟨L, _, hl, hc, hr⟩ | ⟨hne, _⟩
        · rw [Nat.sub_self] at hr
          have hr : (L, sk) = T := hr
          have HX := Lib.hid (show X = L from by rw [HV.out, ← hr, if_pos he])
          have HT2 := Lib.hid (show T.2 = sk from by rw [← hr])
          have HC := Lib.hid hc
          have HLL := Lib.hid hl
          clear hr hc hl he
          go_wp2_with fail
          go_ret
          rw [HX.out, HT2.out]
          refine ⟨_, rfl, ?_, ⟨p6, n6, c6, H6.out⟩, HR.out.grown⟩
          rw [HLL.out]
          exact ⟨by rw [ivs_length, HLL.out, Nat.mul_one], Or.inr ⟨gr, m, C, rfl, HGR.out.2, HR.out.row, Nat.le_refl _, by unfold maxLen; omega, by rw [HR.out.size, Nat.mul_one], by rw [Nat.mul_one]; exact HC.out⟩⟩
        · exact absurd he hne
      · have ht : T.2 = sk := by
          rcases HR.out.run with ⟨L, he', _⟩ | ⟨_, h⟩
          · exact absurd he' he
          · exact h
        have hx : X = [] := by rw [HV.out, if_neg (by rw [ht]; exact he)]
        have b1 : ((sk.e : Int) != 0) = true := by simp; omega
        have HX := Lib.hid hx
        have HT2 := Lib.hid ht
        clear he ht hx
        go_wp2_with fail
        go_ret
        rw [HX.out, HT2.out]
        exact ⟨_, rfl, owns_nil _ _, ⟨p6, n6, c6, H6.out⟩, HR.out.grown⟩
end Go.Proofs.YtfkpgildeddhaaaGreat.Nd

/- The contract of codec.Writer.Digest. -/
namespace Go.Proofs.YtfkpgildeddhaaaGreat
open Go.RowKit

theorem arr_slice (g : Nat) (w : World) : (Instr.sliceAt 37 (.pointer (some ⟨g, 0, none⟩)) none none none).run Tryz.prog w = .ok (.slice (some ⟨g, 0, none⟩) 32 32) w := by
  have hl : Tryz.prog.arrayLen 37 = 32 := by simp [Program.arrayLen]
  have he : Tryz.prog.elem 37 = 5 := by simp [Program.elem]
  have h1 := run_sliceAt_array_all (P := Tryz.prog) w 37 ⟨g, 0, none⟩ (by rw [hl, he]; exact A25)
  obtain ⟨i5, hi, _, hi1, _⟩ := info_parts I5
  have hs : (sizeOf 5).run Tryz.prog w = .ok 1 w := by simp [sizeOf, typeInfo, hi, hi1]
  rw [h1, hl, he, hs]
  simp [slicedAt, Addr.add]
set_option maxRecDepth 100000 in
set_option maxHeartbeats 1000000 in
theorem digestw_any (s : St) (d : List Nat) (hd : d.length = 32) (hdb : Sm.allB d) (base g : Nat) (v : Value) (w : World) (hs : WS w base g v s) (hl : s.B.length + 32 < 1099511627776) (hbw : base ≤ w.heap.size) :
    Calls Tryz.prog 96 #[.pointer (some ⟨g, 0, none⟩), .agg (u8s d)] w (WPost w base g v (s.put d)) := by
  have hsl := fun w' => arr_slice w.heap.size w'
  have hsa := hs.later ((Below.refl w.heap.size w).alloc (Nat.le_refl _) (.cells (u8s d) 37))
  have hB : Tx (w.alloc (.cells (u8s d) 37)) (some ⟨w.heap.size, 0, none⟩) d.length d.length d := (Bytes.row (L := d) (heap_alloc_new w _) hdb).tx
  rw [hd] at hB
  have HA := Lib.hid (WStep.alloc w g v (.cells (u8s d) 37))
  have HSA := Lib.hid hsa
  have HB := Lib.hid hB
  have HD := Lib.hid hd
  clear hsa hB hs hd
  go_enter Tryz.func96, Tryz.ntmps96
  go_wp2_with fail
  refine (put_any s d base g v _ 32 32 _ HSA.out HB.out (by have := HD.out; omega) (by simp; omega)).mono ?_
  rintro e w1 hp
  obtain ⟨rfl, v2, h3, h4⟩ := hp
  have H3 := Lib.hid h3
  have H4 := Lib.hid (HA.out.trans h4)
  clear h3 h4
  go_wp2_with fail
  go_end0
  exact ⟨rfl, v2, H3.out, H4.out⟩
end Go.Proofs.YtfkpgildeddhaaaGreat

/- A digest copied into a block. -/
namespace Go.Proofs.YtfkpgildeddhaaaGreat
open Go.RowKit

theorem tx_some {w : World} {q : Option Addr} {n c : Nat} {B : List Nat} (h : Tx w q n c B) (hB : B ≠ []) : ∃ x, q = some x := by
  rcases h.at' with ⟨_, hc⟩ | ⟨x, hp, _⟩
  · have := h.size
    have := h.le
    exact absurd (List.length_eq_zero_iff.1 (by omega)) hB
  · exact ⟨x, hp⟩
/-- A whole digest, copied into a block. -/
theorem copy_digest {W : World} {g : Nat} {Z D : List Nat} {x : Addr} {c : Nat} (hg : W.heap[g]? = some (.cells (u8s Z) 37 (0, 0))) (hZ : Z.length = 32) (hD : D.length = 32) (h : Tx W (some x) 32 c D) :
    (Builtin.copy_ #[22, 22] 3 #[.slice (some ⟨g, 0, none⟩) 32 32, .slice (some x) 32 c]).run Tryz.prog W = .ok (goInt 32) (W.setCells g 0 (vals D)) := by
  have := run_copy_cells (P := Tryz.prog) W 22 22 3 5 g 0 32 32 x 32 c (vals D) A22 E5 (by rw [vals_length, hD]; rfl) h.cells
    (fun j hj => by rw [vals_length, hD] at hj; rw [Nat.zero_add, u8s_cell hg j (by omega)]; rfl) (fun j _ => frozen_of_row W g _ _ _ hg) (vals_one D)
  rw [vals_length, hD] at this
  exact this
theorem set_digest {W : World} {g : Nat} {Z D : List Nat} (hg : W.heap[g]? = some (.cells (u8s Z) 37 (0, 0))) (hZ : Z.length = 32) (hD : D.length = 32) : (W.setCells g 0 (vals D)).heap[g]? = some (.cells (u8s D) 37 (0, 0)) := by
  have := heap_setCells_same g 37 (vals D) [] (vals Z) [] W (by simpa [vals_toArray] using hg) (by rw [vals_length, vals_length, hZ, hD])
  simpa [vals_toArray] using this
end Go.Proofs.YtfkpgildeddhaaaGreat

/- codec.Reader's Digest, whatever it holds. -/
namespace Go.Proofs.YtfkpgildeddhaaaGreat.Nd
open Go.RowKit

set_option maxRecDepth 100000 in
set_option maxHeartbeats 1000000 in
theorem ldigest_any (s : Rd) (g : Nat) (w : World) (hs : RSx w g s) (hl : s.R.length < 1099511627776) :
    Calls Tryz.prog 53 #[.pointer (some ⟨g, 0, none⟩)] w (RPost w g (.agg (u8s s.digV)) (s.past 32)) := by
  have hz := (zero_of_info Z25).1
  have hsl := fun w' => arr_slice (w.heap.size + 1) w'
  have hg : g < w.heap.size := hs.lt
  have HS := Lib.hid hs
  have hd0 : s.digV = s.part 32 ++ zeros (32 - (s.part 32).length) := rfl
  have hdl := digV_length s
  have hpn := part_nk s 32
  generalize s.digV = D at *
  have HD := Lib.hid hdl
  have HPN := Lib.hid hpn
  have HD0 := Lib.hid hd0
  clear hs hdl hpn hd0
  go_enter Tryz.func53, Tryz.ntmps53
  go_upto_region 2 with fail
  have hb1 : Below w.heap.size w (w.alloc (.cells (u8s (zeros 32)) 37)) := (Below.refl _ _).alloc (Nat.le_refl _) _
  have r1 := heap_alloc_new w (.cells (u8s (zeros 32)) 37)
  have z1 : (w.alloc (.cells (u8s (zeros 32)) 37)).heap.size = w.heap.size + 1 := by simp
  generalize w.alloc (.cells (u8s (zeros 32)) 37) = w1 at *
  have hb2 : Below w1.heap.size w1 (w1.alloc (.cells (u8s (zeros 32)) 37)) := (Below.refl _ _).alloc (Nat.le_refl _) _
  have r2 := heap_alloc_new w1 (.cells (u8s (zeros 32)) 37)
  rw [z1] at r2
  generalize w1.alloc (.cells (u8s (zeros 32)) 37) = w2 at *
  have hb12 : Below w.heap.size w w2 := hb1.trans (hb2.mono (by omega))
  have R1 := Lib.hid ((hb2.block w.heap.size (by omega)).trans r1)
  have R2 := Lib.hid r2
  have B2 := Lib.hid hb12
  have hk := take_any s 32 g w2.drew (HS.out.later (Below.drew hb12)) (by omega) hl
  unfold TakePost at hk
  have HK := Lib.hid hk
  clear hb1 hb2 r1 r2 z1 hb12 hk hz
  rcases HPN.out with hp | hp
  · have hD : D = zeros 32 := by rw [HD0.out, hp]; rfl
    subst hD
    rw [hp] at HK
    clear hp HPN HD0
    go_region_law (go_simp; go_at_call 74; refine HK.out.mono ?_; rintro e w3 hp; obtain ⟨q, c, rfl, h5, h6, h7⟩ := hp; have hrow3 := (h7.block (w.heap.size + 1) (Array.getElem?_eq_some_iff.1 R2.out).1 (by simp; omega)).trans R2.out; have hcp := run_copy_none (P := Tryz.prog) w3 22 22 3 5 (some ⟨w.heap.size + 1, 0, none⟩) q 32 32 0 c A22 E5 (by rfl); have H6 := Lib.hid h6; have H7 := Lib.hid h7; have HROW3 := Lib.hid hrow3; clear h5 h6 h7 hrow3)
    all_goals
      have G4 := Lib.hid (grown_twice (grown_of_below B2.out (some g)) (show w2.grownBy w3 (some g) from ⟨H7.out.os, H7.out.tape, H7.out.output, H7.out.size, H7.out.block⟩))
      have R14 := Lib.hid ((H7.out.block w.heap.size (Array.getElem?_eq_some_iff.1 R1.out).1 (by simp; omega)).trans R1.out)
      clear H7 hcp R1 R2 HK
      go_wp2_with (first
        | (refine wpList_load_row (by rfl) 37 _ (by rfl) (w.heap.size + 1) (by rfl) 37 _ (0, 0) _ HROW3.out A25 (by rfl) (by rw [u8s_size, HD.out]; exact S25) ?_)
        | (refine wpList_store_row (by rfl) 37 _ _ (by rfl) w.heap.size (u8s (zeros 32)) (by rfl) (by rfl) _ _ R14.out (by rw [u8s_size, HD.out]; exact S25) rfl (u8s_one _) ?_))
      refine ret_row 2 (by kernel_rfl) w.heap.size _ _ A25 S25 rfl (setRow_heap _ _ _ _ _ _ R14.out) (by rw [u8s_size, HD.out]) ⟨rfl, ?_, ?_⟩
      · exact H6.out.low (Below.setRow (Below.refl _ _) (by omega) _)
      · exact grown_new G4.out (Nat.le_refl _) (Below.setRow (Below.refl _ _) (Nat.le_refl _) _) (by simp)
  · have hD : s.part 32 = D := by rw [HD0.out, hp]; simp [zeros]
    rw [hD, HD.out] at HK
    clear hp HPN HD0
    go_region_law (go_simp; go_at_call 74; refine HK.out.mono ?_; rintro e w3 hp; obtain ⟨q, c, rfl, h5, h6, h7⟩ := hp; obtain ⟨x, rfl⟩ := tx_some h5 (by intro e; have := HD.out; rw [e] at this; simp at this); have hrow3 := (h7.block (w.heap.size + 1) (Array.getElem?_eq_some_iff.1 R2.out).1 (by simp; omega)).trans R2.out; have hcp := copy_digest hrow3 (by simp [zeros]) HD.out h5; have H6 := Lib.hid h6; have H7 := Lib.hid h7; have HROW3 := Lib.hid hrow3; clear h5 h6 h7 hrow3)
    all_goals
      have r4 := set_digest HROW3.out (by simp [zeros]) HD.out
      have hb4 := below_setCells (w := w3) (w.heap.size + 1) 0 (vals D) (w.heap.size + 1) (Nat.le_refl _)
      have H64 := Lib.hid (H6.out.low (hb4.mono (by omega)))
      have G4 := Lib.hid (grown_new (grown_twice (grown_of_below B2.out (some g)) (show w2.grownBy w3 (some g) from ⟨H7.out.os, H7.out.tape, H7.out.output, H7.out.size, H7.out.block⟩)) (show w.heap.size ≤ w.heap.size + 1 by omega) hb4 (by rw [(size_setCells _ _ _ _).1]; exact Nat.le_refl _))
      have R14 := Lib.hid (((hb4.block w.heap.size (by omega)).trans (H7.out.block w.heap.size (Array.getElem?_eq_some_iff.1 R1.out).1 (by simp; omega))).trans R1.out)
      generalize w3.setCells (w.heap.size + 1) 0 (vals D) = w4 at *
      have R4 := Lib.hid r4
      clear r4 hb4 H6 H7 HROW3 hcp R1 R2 HK
      go_wp2_with (first
        | (refine wpList_load_row (by rfl) 37 _ (by rfl) (w.heap.size + 1) (by rfl) 37 _ (0, 0) _ R4.out A25 (by rfl) (by rw [u8s_size, HD.out]; exact S25) ?_)
        | (refine wpList_store_row (by rfl) 37 _ _ (by rfl) w.heap.size (u8s D) (by rfl) (by rfl) _ _ R14.out (by rw [u8s_size, HD.out]; exact S25) (by rw [u8s_size, u8s_size, HD.out]; simp [zeros]) (u8s_one _) ?_))
      refine ret_row 2 (by kernel_rfl) w.heap.size _ _ A25 S25 rfl (setRow_heap _ _ _ _ _ _ R14.out) (by rw [u8s_size, HD.out]) ⟨rfl, ?_, ?_⟩
      · exact H64.out.low (Below.setRow (Below.refl _ _) (by omega) _)
      · exact grown_new G4.out (Nat.le_refl _) (Below.setRow (Below.refl _ _) (Nat.le_refl _) _) (by simp)
end Go.Proofs.YtfkpgildeddhaaaGreat.Nd

/- A struct that is told of its block; rows of a call's own; what a reader tells of an entry, of a kid. -/
namespace Go.Proofs.YtfkpgildeddhaaaGreat.Nd
open Go.RowKit

theorem ret_str {fn : Func} {P : Ending → World → Prop} (p : Tmp) {ty : TypeId} (hr : fn.results = #[.cell p ty]) {tmps : Array Value} {w : World} (g : Nat) (t : TypeId) (cs : Array Value) {d : TypeDesc}
    (hu : Tryz.prog.underlying ty = some d) (hd : d.isRow = true) (hi : (Tryz.prog.info? ty).map (·.size) = some cs.size)
    (hp : tmps.getD p undef = .pointer (some ⟨g, 0, none⟩)) (hg : w.heap[g]? = some (.cells cs t (0, 0))) (h : P (.returned (.agg cs)) w) : bodyPost Tryz.prog fn P .ret ⟨tmps, []⟩ w :=
  bodyPost_ret (a := ⟨tmps, []⟩) (v := .agg cs) (results_cell_row hr tmps w g t cs (0, 0) d hp hg hu (by cases d <;> first | rfl | (cases hd)) hi) rfl h
theorem ret_str2 {fn : Func} {P : Ending → World → Prop} (p u : Tmp) {ty : TypeId} (hr : fn.results = #[.cell p ty, .tmp u]) {tmps : Array Value} {w : World} (g : Nat) (t : TypeId) (cs : Array Value) {d : TypeDesc} (x : Value)
    (hu : Tryz.prog.underlying ty = some d) (hd : d.isRow = true) (hi : (Tryz.prog.info? ty).map (·.size) = some cs.size)
    (hp : tmps.getD p undef = .pointer (some ⟨g, 0, none⟩)) (hx : tmps.getD u undef = x) (hg : w.heap[g]? = some (.cells cs t (0, 0))) (h : P (.returned (.tuple #[.agg cs, x])) w) : bodyPost Tryz.prog fn P .ret ⟨tmps, []⟩ w :=
  bodyPost_ret (a := ⟨tmps, []⟩) (v := .tuple #[.agg cs, x]) (by
    rw [results_cell_tmp hr, hp, hx]
    simp only [asAddr, Sem.run_pure, Result.andThen_ok, run_loadVar_row w g t ty cs (0, 0) d hg hu (by cases d <;> first | rfl | (cases hd)) hi]) rfl h
/-- A row of a call's own, above a height. -/
structure FrRw (w : World) (base : Nat) (r : Rw) : Prop where
  ok : r.Ok w
  lo : ∀ x, r.p = some x → r.R ≠ [] → base ≤ x.block
theorem FrRw.later {w w' : World} {base : Nat} {r : Rw} (h : FrRw w base r) (hb : Below w.heap.size w w') : FrRw w' base r := ⟨h.ok.later hb, h.lo⟩
theorem FrRw.base {w : World} {base base' : Nat} {r : Rw} (h : FrRw w base r) (hb : base' ≤ base) : FrRw w base' r := ⟨h.ok, fun x hx hR => Nat.le_trans hb (h.lo x hx hR)⟩
/-- A row stays while its own block does. -/
theorem rw_keep {w w' : World} {r : Rw} (h : r.Ok w) (hk : ∀ x, r.p = some x → r.R ≠ [] → w'.heap[x.block]? = w.heap[x.block]?) : r.Ok w' :=
  ⟨⟨h.ints.size, h.ints.le, h.ints.ok, h.ints.at'.imp id fun ⟨g, o, hp, hx⟩ => ⟨g, o, hp, fun i hi => by
    have hR : r.R ≠ [] := by rintro e; rw [e] at hi; simp at hi
    rw [World.cell?_of_block (w := w) (w' := w') (a := ⟨g, o + i, none⟩) (hk ⟨g, o, none⟩ hp hR)]
    exact hx i hi⟩⟩, h.top⟩
theorem FrRw.keep {w w' : World} {base : Nat} {r : Rw} (h : FrRw w base r) (hk : ∀ k, base ≤ k → k < w.heap.size → w'.heap[k]? = w.heap[k]?) : FrRw w' base r :=
  ⟨rw_keep h.ok fun x hx hR => hk _ (h.lo x hx hR) (by
    rcases h.ok.ints.at' with h0 | ⟨g, o, hp, hc⟩
    · exact absurd h0 hR
    · rw [hx] at hp
      obtain rfl : x = ⟨g, o, Option.none⟩ := by simpa using hp
      have := hc 0 (List.length_pos_iff.2 hR)
      exact block_lt_of_cell this), h.lo⟩
theorem FrRw.lt {w : World} {base : Nat} {r : Rw} (h : FrRw w base r) : ∀ x, r.p = some x → r.R ≠ [] → x.block < w.heap.size := fun x hx hR => by
  rcases h.ok.ints.at' with h0 | ⟨g, o, hp, hc⟩
  · exact absurd h0 hR
  · rw [hx] at hp
    obtain rfl : x = ⟨g, o, Option.none⟩ := by simpa using hp
    have := hc 0 (List.length_pos_iff.2 hR)
    exact block_lt_of_cell this
theorem fr_none (w : World) (base : Nat) : FrRw w base ⟨Option.none, 0, 0, []⟩ := ⟨⟨⟨rfl, Nat.le_refl _, (fun x hx => by cases hx), Or.inl rfl⟩, by simp⟩, (fun x hx => by cases hx)⟩
theorem fr_of_own {w : World} {base : Nat} {v : Value} {L : List Int} (h : w.ownsRow base 2 1 v L.length (ivs L)) (hL : ∀ x ∈ L, -9223372036854775808 ≤ x ∧ x ≤ 9223372036854775807) (hl : L.length ≤ 9223372036854775807) : ∃ r : Rw, v = r.val ∧ r.R = L ∧ r.n = L.length ∧ FrRw w base r := by
  rcases h.2 with ⟨rfl, h0⟩ | ⟨g, cap, cur, rfl, hb, hg, hle, hm, hs, ht⟩
  · obtain rfl := List.length_eq_zero_iff.1 h0
    exact ⟨⟨none, 0, 0, []⟩, rfl, rfl, rfl, fr_none _ _⟩
  · refine ⟨⟨some ⟨g, 0, none⟩, L.length, cap, L⟩, rfl, rfl, rfl, ⟨(OwnRow.ints (base := base) h hL), hl⟩, fun x hx _ => ?_⟩
    obtain rfl : x = ⟨g, 0, none⟩ := by simpa using hx.symm
    exact hb
theorem past_okR {s : Rd} {n : Nat} (h : Sm.allB s.R) : Sm.allB (s.past n).R := by
  unfold Rd.past Rd.refuse
  split
  · exact fun x hx => h x (List.mem_of_mem_drop hx)
  · split <;> exact h
theorem readN_in : ∀ (n : Nat) (s : Rd) (L : List Int), Sm.allB s.R → (∀ x ∈ L, -9223372036854775808 ≤ x ∧ x ≤ 9223372036854775807) → ∀ x ∈ (readN n s L).1, -9223372036854775808 ≤ x ∧ x ≤ 9223372036854775807
  | 0, s, L, _, h => h
  | n + 1, s, L, hs, h => by
    show ∀ x ∈ (if s.e = 0 then readN n (s.past 8) (L ++ [s.numV]) else (L, s)).1, _
    split
    · exact readN_in n _ _ (past_okR hs) (fun x hx => by
        rcases List.mem_append.1 hx with hx | hx
        · exact h x hx
        · simp only [List.mem_cons, List.not_mem_nil, or_false] at hx
          rw [hx]
          exact numV_in hs)
    · exact h
theorem readN_len : ∀ (n : Nat) (s : Rd) (L : List Int), (readN n s L).1.length ≤ L.length + n
  | 0, s, L => Nat.le_refl _
  | n + 1, s, L => by
    show (if s.e = 0 then readN n (s.past 8) (L ++ [s.numV]) else (L, s)).1.length ≤ _
    split
    · have := readN_len n (s.past 8) (L ++ [s.numV])
      simp at this
      omega
    · simp
theorem readN_R : ∀ (n : Nat) (s : Rd) (L : List Int), Sm.allB s.R → Sm.allB (readN n s L).2.R ∧ (readN n s L).2.R.length ≤ s.R.length
  | 0, s, L, h => ⟨h, Nat.le_refl _⟩
  | n + 1, s, L, h => by
    show Sm.allB (if s.e = 0 then readN n (s.past 8) (L ++ [s.numV]) else (L, s)).2.R ∧ (if s.e = 0 then readN n (s.past 8) (L ++ [s.numV]) else (L, s)).2.R.length ≤ _
    split
    · have := readN_R n (s.past 8) (L ++ [s.numV]) (past_okR h)
      exact ⟨this.1, Nat.le_trans this.2 (Rd.past_len s 8)⟩
    · exact ⟨h, Nat.le_refl _⟩
theorem rowN_okR {s : Rd} {m : Int} (h : Sm.allB s.R) : Sm.allB (s.rowN m).R := by
  unfold Rd.rowN
  split
  · exact past_okR h
  · exact past_okR h
theorem rowV_in {s : Rd} {m : Int} (h : Sm.allB s.R) : ∀ x ∈ s.rowV m, -9223372036854775808 ≤ x ∧ x ≤ 9223372036854775807 := by
  unfold Rd.rowV
  split
  · exact readN_in _ _ _ (rowN_okR h) (fun x hx => by cases hx)
  · intro x hx; cases hx
theorem rowV_len {s : Rd} {m : Int} (h : Sm.allB s.R) : (s.rowV m).length ≤ 255 := by
  unfold Rd.rowV
  split
  · have h1 := readN_len (Cm.val (s.part 1)) (s.rowN m) []
    have h2 := val1 h
    unfold Rd.row
    simp at h1
    omega
  · simp
theorem row_R {s : Rd} {m : Int} (h : Sm.allB s.R) : Sm.allB (s.row m).2.R ∧ (s.row m).2.R.length ≤ s.R.length := by
  have := readN_R (Cm.val (s.part 1)) (s.rowN m) [] (rowN_okR h)
  exact ⟨this.1, Nat.le_trans this.2 (rowN_len s m)⟩
theorem truth_R {s : Rd} (h : Sm.allB s.R) : Sm.allB s.truth.R ∧ s.truth.R.length ≤ s.R.length := by
  unfold Rd.truth
  split
  · exact ⟨past_okR h, Rd.past_len s 1⟩
  · exact ⟨past_okR h, Rd.past_len s 1⟩
theorem count_R {s : Rd} {m : Int} (h : Sm.allB s.R) : Sm.allB (s.count m).R ∧ (s.count m).R.length ≤ s.R.length := by
  unfold Rd.count
  split
  · refine ⟨?_, Nat.le_trans (Rd.refuse_len _ _) (Rd.past_len s 3)⟩
    have := past_okR (n := 3) h
    unfold Rd.refuse
    split <;> exact this
  · exact ⟨past_okR h, Rd.past_len s 3⟩
theorem countV_in {s : Rd} {m : Int} (_h : Sm.allB s.R) (hm : 0 ≤ m) : 0 ≤ s.countV m ∧ s.countV m ≤ 1048576 := by
  unfold Rd.countV
  split <;> omega
/-- What a reader tells of an entry, and what is left of it. -/
def _root_.Go.Proofs.YtfkpgildeddhaaaGreat.Rd.entV (s : Rd) (m : Int) : PE := ⟨s.truth.rowV m, s.truthV⟩
def _root_.Go.Proofs.YtfkpgildeddhaaaGreat.Rd.entN (s : Rd) (m : Int) : Rd := (s.truth.row m).2
/-- The same of a kid. -/
def _root_.Go.Proofs.YtfkpgildeddhaaaGreat.Rd.k1 (s : Rd) : Rd := s.past 32
def _root_.Go.Proofs.YtfkpgildeddhaaaGreat.Rd.k2 (s : Rd) : Rd := s.k1.count 1048576
def _root_.Go.Proofs.YtfkpgildeddhaaaGreat.Rd.k3 (s : Rd) : Rd := s.k2.count 1048576
def _root_.Go.Proofs.YtfkpgildeddhaaaGreat.Rd.k4 (s : Rd) (m : Int) : Rd := (s.k3.row m).2
def _root_.Go.Proofs.YtfkpgildeddhaaaGreat.Rd.k5 (s : Rd) (m : Int) : Rd := ((s.k4 m).row m).2
def _root_.Go.Proofs.YtfkpgildeddhaaaGreat.Rd.kidN (s : Rd) (m : Int) : Rd := ((s.k5 m).row m).2
def _root_.Go.Proofs.YtfkpgildeddhaaaGreat.Rd.kidV (s : Rd) (m : Int) : PK := ⟨s.digV, s.k3.rowV m, (s.k4 m).rowV m, s.k1.countV 1048576, s.k2.countV 1048576, (s.k5 m).rowV m⟩
theorem ent_R {s : Rd} {m : Int} (h : Sm.allB s.R) : Sm.allB (s.entN m).R ∧ (s.entN m).R.length ≤ s.R.length := by
  have h1 := truth_R h
  have h2 := row_R (m := m) h1.1
  exact ⟨h2.1, Nat.le_trans h2.2 h1.2⟩
section
variable {s : Rd} {m : Int} (h : Sm.allB s.R)
include h
theorem k1_R : Sm.allB s.k1.R ∧ s.k1.R.length ≤ s.R.length := by
  unfold Rd.k1
  exact ⟨past_okR h, Rd.past_len s 32⟩
theorem k2_R : Sm.allB s.k2.R ∧ s.k2.R.length ≤ s.R.length := by
  have h1 := k1_R h
  have h2 := count_R (m := 1048576) h1.1
  unfold Rd.k2
  exact ⟨h2.1, Nat.le_trans h2.2 h1.2⟩
theorem k3_R : Sm.allB s.k3.R ∧ s.k3.R.length ≤ s.R.length := by
  have h1 := k2_R h
  have h2 := count_R (m := 1048576) h1.1
  unfold Rd.k3
  exact ⟨h2.1, Nat.le_trans h2.2 h1.2⟩
theorem k4_R : Sm.allB (s.k4 m).R ∧ (s.k4 m).R.length ≤ s.R.length := by
  have h1 := k3_R h
  have h2 := row_R (m := m) h1.1
  unfold Rd.k4
  exact ⟨h2.1, Nat.le_trans h2.2 h1.2⟩
theorem k5_R : Sm.allB (s.k5 m).R ∧ (s.k5 m).R.length ≤ s.R.length := by
  have h1 := k4_R (m := m) h
  have h2 := row_R (m := m) h1.1
  unfold Rd.k5
  exact ⟨h2.1, Nat.le_trans h2.2 h1.2⟩
theorem kid_R : Sm.allB (s.kidN m).R ∧ (s.kidN m).R.length ≤ s.R.length := by
  have h1 := k5_R (m := m) h
  have h2 := row_R (m := m) h1.1
  unfold Rd.kidN
  exact ⟨h2.1, Nat.le_trans h2.2 h1.2⟩
end
end Go.Proofs.YtfkpgildeddhaaaGreat.Nd

/- The empty tree in memory. -/
namespace Go.Proofs.YtfkpgildeddhaaaGreat.Nd
open Go.RowKit

theorem wpList_build {P : Program} {w : World} {ops : Array Oper} {rest : List Oper} {o : Oper} {a : Act} {Q : Exit → Act → World → Prop} (hgd : o.guard = Option.none) {t : TypeId} {parts : Array (Nat × Operand)} {cells : Array Value} (ho : o.op = .build t parts)
    (h : P.built t (parts.map fun (i, x) => (i, a.eval x)).toList = some cells) (hk : wpList P ops Q rest (a.put o.dst (.agg cells)) w) : wpList P ops Q (o :: rest) a w :=
  wpList_plain hgd fun _ hK => by
    unfold Oper.wp execOp
    simp only [ho, Sem.run_bind, run_build w t _ cells h, Result.andThen_ok, Sem.run_pure]
    exact hK _ _ hk
def kd0 : Kd := ⟨zeros 32, ⟨Option.none, 0, 0, []⟩, ⟨Option.none, 0, 0, []⟩, 0, 0, ⟨Option.none, 0, 0, []⟩⟩
theorem kd0_built : Tryz.prog.built 43 [] = some kd0.cells.toArray := by kernel_rfl
theorem rw0_ok (w : World) : (⟨Option.none, 0, 0, []⟩ : Rw).Ok w := ⟨⟨rfl, Nat.le_refl _, fun x hx => by simp at hx, Or.inl rfl⟩, by simp⟩
theorem kd0_ok (w : World) : kd0.Ok w := ⟨by simp [kd0, zeros], zeros_ok 32, rw0_ok w, rw0_ok w, rw0_ok w, ⟨by simp [kd0], by simp [kd0]⟩, ⟨by simp [kd0], by simp [kd0]⟩⟩
theorem kd0_pk : kd0.pk = PK.none := rfl
theorem len_sum {n m : Nat} (hn : n ≤ 9223372036854775807) (hm : m ≤ 9223372036854775807) : (wrap64 ((n : Int) + m) == 0) = decide (n + m = 0) := by
  rw [Bool.eq_iff_iff, beq_iff_eq, decide_eq_true_iff, wrap64]
  omega
end Go.Proofs.YtfkpgildeddhaaaGreat.Nd
