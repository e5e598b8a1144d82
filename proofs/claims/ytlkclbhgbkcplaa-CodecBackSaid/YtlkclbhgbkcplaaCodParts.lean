/- An argument that is a list of Parts, opened. -/
import Derived.Test.YtlkclbhgbkcplaaGenDigest
import Derived.Test.YtlkclbhgbkcplaaCodRow
import Derived.Deep.Slices
namespace Go.Proofs.Ytlkclbhgbkcplaa
open Go.ChangeShapes Go.WideShapes Go.ChangeAt Go.RowKit Go.Deep

/-- One Part, as it lies in memory: Kind, X, N, V, B, D, R, Most. -/
structure Pt where
  (kind xb : Nat)
  (n v : Int)
  bp : Option Addr
  (bn bc : Nat)
  B : List Nat
  D : List Nat
  rp : Option Addr
  (rn rc : Nat)
  R : List Int
  most : Int
def Pt.cells (t : Pt) : List Value := .int .u8 t.kind :: .int .u8 t.xb :: .int .i64 t.n :: .int .i64 t.v :: .slice t.bp t.bn t.bc :: (vals t.D ++ [.slice t.rp t.rn t.rc, .int .i64 t.most])
structure Pt.Ok (w : World) (t : Pt) : Prop where
  kind : t.kind < 256
  xb : t.xb < 256
  n : -9223372036854775808 ≤ t.n ∧ t.n ≤ 9223372036854775807
  v : -9223372036854775808 ≤ t.v ∧ t.v ≤ 9223372036854775807
  b : Tx w t.bp t.bn t.bc t.B
  bl : t.bn ≤ 9223372036854775807
  dl : t.D.length = 32
  db : Sm.allB t.D
  r : Ints w t.rp t.rn t.rc t.R
  rl : t.rn ≤ 9223372036854775807
  most : -9223372036854775808 ≤ t.most ∧ t.most ≤ 9223372036854775807
theorem Pt.Ok.later {w w' : World} {t : Pt} (h : t.Ok w) (hb : Below w.heap.size w w') : t.Ok w' := ⟨h.kind, h.xb, h.n, h.v, h.b.later hb, h.bl, h.dl, h.db, h.r.later hb, h.rl, h.most⟩
def fieldsOf : Option TypeDesc → Option (List (Nat × TypeId))
  | some (.struct fs) => some (fs.toList.map fun f => (f.offset, f.type))
  | _ => none
theorem field_at {fs : Array Field} {l : List (Nat × TypeId)} (h : fs.toList.map (fun f => (f.offset, f.type)) = l) {i o : Nat} {t : TypeId} (hi : l[i]? = some (o, t)) : ∃ f, fs[i]? = some f ∧ f.offset = o ∧ f.type = t := by
  subst h
  rw [List.getElem?_map, Option.map_eq_some_iff] at hi
  obtain ⟨f, hf, he⟩ := hi
  simp only [Prod.mk.injEq] at he
  exact ⟨f, by rw [← Array.getElem?_toList]; exact hf, he.1, he.2⟩
theorem PF : fieldsOf (Try.prog.underlying 34) = some [(0, 5), (1, 5), (2, 3), (3, 2), (4, 25), (5, 30), (37, 32), (38, 3)] := by kernel_rfl
theorem CP : Try.prog.cellsOf 34 = 39 := by kernel_rfl
theorem CI : Try.prog.cellsOf 3 = 1 := by kernel_rfl
theorem CI64 : Try.prog.cellsOf 2 = 1 := by kernel_rfl
theorem CR : Try.prog.cellsOf 32 = 1 := by kernel_rfl
theorem UI : Try.prog.underlying 3 = some (.int .i64) := by kernel_rfl
theorem UI64 : Try.prog.underlying 2 = some (.int .i64) := by kernel_rfl
theorem UR : Try.prog.underlying 32 = some (.slice 2) := by kernel_rfl
theorem UPS : Try.prog.underlying 22 = some (.slice 34) := by kernel_rfl
section
variable {H : Type} {enc : TypeId × Value → H} {W : World} {base : Nat} {held : Bool} {fuel : Nat} {cs : List Value} {x : DataW H × List MemPlace}
theorem cells_bytes (h : DataW.trod enc Try.prog W base (fun _ => true) held fuel 25 cs = some x) : ∃ p n c B, cs = [.slice p n c] ∧ Tx W p n c B ∧ n ≤ 9223372036854775807 := by
  have h0 := h
  rcases open_ints Try.underlying25 Try.underlying5 C5 h with ⟨hcs, _⟩ | ⟨a, len, cap, zs, hcs, _⟩
  · rw [hcs] at h0
    obtain ⟨⟨B, hB⟩, hl⟩ := open_bytes (a0 := none) (len0 := 0) (cap0 := 0) h0
    exact ⟨_, _, _, B, hcs, hB, hl⟩
  · rw [hcs] at h0
    obtain ⟨⟨B, hB⟩, hl⟩ := open_bytes (a0 := some a) (len0 := len) (cap0 := cap) h0
    exact ⟨_, _, _, B, hcs, hB, hl⟩
theorem cells_row (h : DataW.trod enc Try.prog W base (fun _ => true) held fuel 32 cs = some x) : ∃ p n c R, cs = [.slice p n c] ∧ Ints W p n c R ∧ n ≤ 9223372036854775807 := by
  rcases open_ints UR UI64 CI64 h with ⟨hcs, _⟩ | ⟨a, len, cap, zs, hcs, _, hl, hm, hz, _, hx, hw⟩
  · exact ⟨_, _, _, [], hcs, ⟨rfl, Nat.le_refl _, fun x hx => by simp at hx, Or.inl rfl⟩, by omega⟩
  · simp only [if_true] at hz
    refine ⟨_, _, _, zs.take len, hcs, ⟨by rw [List.length_take, hz]; exact (Nat.min_eq_left hl).symm, hl, fun y hy => bounds_i64 (hw y (List.mem_of_mem_take hy)), ?_⟩, by unfold maxLen at hm; omega⟩
    rcases Nat.eq_zero_or_pos len with h0 | h0
    · exact Or.inl (by rw [h0, List.take_zero])
    · right
      have hsp := World.cell?_spot (hx 0 (by omega))
      obtain ⟨g, o, spot⟩ := a
      have hspot : spot = none := by simpa [Addr.add] using hsp
      subst hspot
      refine ⟨g, o, rfl, fun i hi => ?_⟩
      rw [List.length_take] at hi
      have := hx i (by omega)
      rw [show (⟨g, o, none⟩ : Addr).add i = ⟨g, o + i, none⟩ from by unfold Addr.add; split <;> simp_all] at this
      rw [this, List.getD_eq_getElem?_getD, List.getD_eq_getElem?_getD, List.getElem?_take_of_lt (by omega)]
theorem cells_digest {sp : Nat → Bool} (h : DataW.trod enc Try.prog W base sp held fuel 30 cs = some x) (hcs : cs.length = 32) : ∃ D : List Nat, cs = vals D ∧ D.length = 32 ∧ Sm.allB D := by
  cases fuel with
  | zero => simp [DataW.trod] at h
  | succ m =>
    rw [DataW.trod_step] at h
    unfold DataW.trodStep at h
    simp only [Try.underlying30] at h
    rw [if_pos (by rw [C25]; exact hcs), C5] at h
    simp only [Option.map_eq_some_iff] at h
    obtain ⟨ys, hy, _⟩ := h
    obtain ⟨_, hl⟩ := mapM_bytes _ ys hy
    have hk : ∀ i, ∃ z : Nat, i < 32 → z < 256 ∧ (cs.drop (i * 1)).take 1 = [.int .u8 (z : Nat)] := fun i => by
      by_cases hi : i < 32
      · obtain ⟨z, hz⟩ := hl i (List.mem_range.2 hi)
        exact ⟨z, fun _ => hz⟩
      · exact ⟨0, fun h => absurd h hi⟩
    obtain ⟨Z, hZ⟩ := Classical.axiomOfChoice hk
    refine ⟨(List.range 32).map Z, ?_, by simp, fun x hx => ?_⟩
    · apply List.ext_getElem?
      intro i
      by_cases hi : i < 32
      · have h3 := (hZ i hi).2
        have h5 : cs[i]? = some (.int .u8 (Z i : Nat)) := by
          have := congrArg (·[0]?) h3
          simpa [List.getElem?_take, List.getElem?_drop] using this
        rw [h5]
        simp [vals, hi]
      · rw [List.getElem?_eq_none (by omega), List.getElem?_eq_none (by simp [vals]; omega)]
    · simp only [List.mem_map, List.mem_range] at hx
      obtain ⟨i, hi, rfl⟩ := hx
      exact (hZ i hi).1
theorem cells_part (h : DataW.trod enc Try.prog W base (fun _ => true) held fuel 34 cs = some x) : ∃ t : Pt, cs = t.cells ∧ t.Ok W := by
  have hp := PF
  unfold fieldsOf at hp
  split at hp
  case h_2 => cases hp
  case h_1 fs hu =>
  simp only [Option.some.injEq] at hp
  obtain ⟨xs, n, _, _, hlen, hxs, hf⟩ := DataW.trod_struct hu h
  rw [CP] at hlen
  have hfs : fs.size = 8 := by
    have := congrArg List.length hp
    simpa using this
  have get : ∀ (i o : Nat) (t : TypeId), ([(0, 5), (1, 5), (2, 3), (3, 2), (4, 25), (5, 30), (37, 32), (38, 3)] : List (Nat × TypeId))[i]? = some (o, t) →
      ∃ y, DataW.trod enc Try.prog W base (fun _ => true) held n t ((cs.drop o).take (Try.prog.cellsOf t)) = some y := fun i o t hi => by
    obtain ⟨f, h1, h2, h3⟩ := field_at hp hi
    have h4 := hf i f h1
    rw [h2, h3] at h4
    have hlt : i < xs.length := by rw [hxs]; exact (Array.getElem?_eq_some_iff.1 h1).1
    exact ⟨xs[i], by rw [h4, List.getElem?_eq_getElem hlt]⟩
  obtain ⟨y0, h0⟩ := get 0 0 _ rfl
  obtain ⟨y1, h1⟩ := get 1 1 _ rfl
  obtain ⟨y2, h2⟩ := get 2 2 _ rfl
  obtain ⟨y3, h3⟩ := get 3 3 _ rfl
  obtain ⟨y4, h4⟩ := get 4 4 _ rfl
  obtain ⟨y5, h5⟩ := get 5 5 _ rfl
  obtain ⟨y6, h6⟩ := get 6 37 _ rfl
  obtain ⟨y7, h7⟩ := get 7 38 _ rfl
  rw [C5] at h0 h1
  rw [CI] at h2 h7
  rw [CI64] at h3
  rw [C22] at h4
  rw [C25] at h5
  rw [CR] at h6
  obtain ⟨a0, e0, _, w0⟩ := DataW.trod_int Try.underlying5 h0
  obtain ⟨a1, e1, _, w1⟩ := DataW.trod_int Try.underlying5 h1
  obtain ⟨a2, e2, _, w2⟩ := DataW.trod_int UI h2
  obtain ⟨a3, e3, _, w3⟩ := DataW.trod_int UI64 h3
  obtain ⟨bp, bn, bc, B, e4, hB, hBl⟩ := cells_bytes h4
  obtain ⟨D, e5, hD, hDb⟩ := cells_digest h5 (by rw [List.length_take, List.length_drop, hlen]; omega)
  obtain ⟨rp, rn, rc, R, e6, hR, hRl⟩ := cells_row h6
  obtain ⟨a7, e7, _, w7⟩ := DataW.trod_int UI h7
  have b0 := bounds_u8 w0
  have b1 := bounds_u8 w1
  have cut : ∀ o n, cs.drop o = (cs.drop o).take n ++ cs.drop (o + n) := fun o n => by
    rw [← List.drop_drop]; exact (List.take_append_drop n _).symm
  have hall : cs = [.int .u8 a0] ++ ([.int .u8 a1] ++ ([.int .i64 a2] ++ ([.int .i64 a3] ++ ([.slice bp bn bc] ++ (vals D ++ ([.slice rp rn rc] ++ ([.int .i64 a7] ++ []))))))) := by
    have := cut 0 1
    rw [List.drop_zero] at this
    rw [List.drop_zero] at e0
    rw [this, e0, cut 1 1, e1, cut 2 1, e2, cut 3 1, e3, cut 4 1, e4, cut 5 32, e5, cut 37 1, e6, cut 38 1, e7, List.drop_eq_nil_of_le (by omega)]
  refine ⟨⟨a0.toNat, a1.toNat, a2, a3, bp, bn, bc, B, D, rp, rn, rc, R, a7⟩, ?_, ⟨by show a0.toNat < 256; omega, by show a1.toNat < 256; omega, bounds_i64 w2, bounds_i64 w3, hB, hBl, hD, hDb, hR, hRl, bounds_i64 w7⟩⟩
  rw [hall]
  unfold Pt.cells
  have c0 : ((a0.toNat : Nat) : Int) = a0 := by omega
  have c1 : ((a1.toNat : Nat) : Int) = a1 := by omega
  simp only [c0, c1]
  rfl
end
instance : Inhabited Pt := ⟨⟨0, 0, 0, 0, none, 0, 0, [], [], none, 0, 0, [], 0⟩⟩
/-- A list of Parts that lies in memory. -/
structure Parts (w : World) (p : Option Addr) (len cap : Nat) (L : List Pt) : Prop where
  size : len = L.length
  le : len ≤ cap
  at' : len ≠ 0 → ∃ g o, p = some ⟨g, o, none⟩ ∧ ∀ i, i < len → w.rangeAt g (o + i * 39) (L.getD i default).cells ∧ (L.getD i default).Ok w
theorem open_parts {H : Type} {enc : TypeId × Value → H} {W : World} {base : Nat} {held : Bool} {fuel : Nat} {a0 : Option Addr} {len0 cap0 : Nat} {x : DataW H × List MemPlace}
    (h : DataW.trod enc Try.prog W base (fun _ => true) held fuel 22 (Value.slice a0 len0 cap0).cells.toList = some x) : (∃ L, Parts W a0 len0 cap0 L) ∧ len0 ≤ 9223372036854775807 := by
  rcases open_slice UPS h with ⟨hcs, _⟩ | ⟨a, len, cap, m, n, Dd, Pl, hcs, _, hl, hm, hmm, _, hx⟩
  · simp [Value.cells] at hcs
    obtain ⟨rfl, rfl, rfl⟩ := hcs
    exact ⟨⟨[], rfl, Nat.le_refl _, fun h => absurd rfl h⟩, by omega⟩
  · simp [Value.cells] at hcs
    obtain ⟨rfl, rfl, rfl⟩ := hcs
    simp only [if_true] at hmm
    rw [CP] at hx
    obtain ⟨V, hV⟩ := choose_lt (α := Pt) (n := len0) (p := fun i t => W.cells? base (a.add (i * 39)) 39 = some t.cells ∧ t.Ok W) (fun i hi => by
      obtain ⟨cs', h1, h2⟩ := hx i (by omega)
      obtain ⟨t, rfl, ht⟩ := cells_part h2
      exact ⟨t, h1, ht⟩)
    refine ⟨⟨(List.range len0).map V, by simp, hl, fun hn => ?_⟩, by unfold maxLen at hm; omega⟩
    obtain ⟨g, o, spot⟩ := a
    have hspot : spot = none := by
      have h0 := (World.cells?_some (hV 0 (by omega)).1).2.2 0 (by omega)
      have := World.cell?_spot (h0.trans rfl)
      simpa [Addr.add] using this
    subst hspot
    refine ⟨g, o, rfl, fun i hi => ?_⟩
    have e : ((List.range len0).map V).getD i default = V i := by simp [List.getD_eq_getElem?_getD, hi]
    rw [e]
    refine ⟨fun j v hv => ?_, (hV i hi).2⟩
    obtain ⟨_, hlen, hc⟩ := World.cells?_some (hV i hi).1
    have hj : j < 39 := by rw [← hlen]; exact (List.getElem?_eq_some_iff.1 hv).1
    have := hc j hj
    have ap : ∀ b o n : Nat, (⟨b, o, none⟩ : Addr).add n = ⟨b, o + n, none⟩ := fun b o n => by unfold Addr.add; split <;> simp_all
    rw [hv, ap, ap] at this
    exact this
end Go.Proofs.Ytlkclbhgbkcplaa
