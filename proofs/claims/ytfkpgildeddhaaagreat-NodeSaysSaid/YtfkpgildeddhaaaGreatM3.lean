/- WlOut, CodNums, NdByP, NdLst, NdRead, GenEqs, BoxRefB, BoxRefG, NdSame, NlEqual, NlBoxSame, NlSame, NlEmpty, GenBox, BoxEach, NlKid, NdRightP, NlEach, NlReadEnt, DkMath, NlReadKid, NlEachK. -/
import Derived.Test.YtfkpgildeddhaaaGreatM2
import Derived.Maps.AppendAt
import Derived.Laws.AppendOwn
import Derived.Great.BuildSlice
/- Bytes under way, in a row of one's own. -/
namespace Go.Proofs.YtfkpgildeddhaaaGreat.Wl
open Go.RowKit

/-- The n bytes B in a row of one's own, from the world w0 on. -/
structure Out (w0 w : World) (v : Value) (n : Nat) (B : List Nat) : Prop where
  len : n = B.length
  own : w.ownsRow w0.heap.size 5 1 v n (vals B)
  ok : Sm.allB B
  low : Below w0.heap.size w0 w
theorem Out.none (w : World) : Out w w (.slice none 0 0) 0 [] := ⟨rfl, World.ownsRow_nil w w.heap.size 5 1, (fun x hx => by cases hx), Below.refl _ _⟩
theorem Out.later {w0 w w' : World} {v : Value} {n : Nat} {B : List Nat} (h : Out w0 w v n B) (hb : Below w.heap.size w w') : Out w0 w' v n B := ⟨h.len, owns_later h.own hb, h.ok, h.low.trans (hb.mono h.low.size)⟩
theorem Out.put {w0 w1 w7 : World} {v v7 : Value} {n : Nat} {B P : List Nat} {m : Nat} (h : Out w0 w1 v n B) (hP : Sm.allB P) (hm : P.length = m) (hown : w7.ownsRow w0.heap.size 5 1 v7 (n + m) (vals B ++ vals P)) (hg : w1.grownBy w7 v.ownBlock) : Out w0 w7 v7 (n + m) (B ++ P) :=
  ⟨by rw [List.length_append, hm, h.len], by rw [vals_append]; exact hown, (fun x hx => by
    rcases List.mem_append.1 hx with hx | hx
    · exact h.ok x hx
    · exact hP x hx), h.low.grown hg h.low.size (fun k hk => (h.own.lt k hk).1)⟩
theorem Out.form {w0 w : World} {v : Value} {n : Nat} {B : List Nat} (h : Out w0 w v n B) : ∃ q c, v = .slice q n c := by
  rcases h.own.2 with ⟨rfl, h0⟩ | ⟨g, cap, cur, rfl, _⟩
  · exact ⟨Option.none, 0, by rw [h0]⟩
  · exact ⟨_, cap, rfl⟩
theorem Out.tx {w0 w : World} {q : Option Addr} {n c : Nat} {B : List Nat} (h : Out w0 w (.slice q n c) n B) : Tx w q n c B := tx_of_owns h.own h.ok
/-- A row of one's own, from an elder world on. -/
theorem owns_base {w : World} {base base' n size : Nat} {e : TypeId} {v : Value} {xs : List Value} (h : w.ownsRow base e size v n xs) (hb : base' ≤ base) : w.ownsRow base' e size v n xs :=
  ⟨h.1, h.2.imp id fun ⟨g, cap, cur, hv, hg, r⟩ => ⟨g, cap, cur, hv, Nat.le_trans hb hg, r⟩⟩
theorem byte_ok {x : Nat} (h : x < 256) : Sm.allB [x] := fun y hy => by
  simp only [List.mem_cons, List.not_mem_nil, or_false] at hy
  omega
end Go.Proofs.YtfkpgildeddhaaaGreat.Wl

/- A row's numbers as bytes, plainly. -/
namespace Go.Proofs.YtfkpgildeddhaaaGreat
open Go.RowKit

theorem be3 (n : Nat) : Cm.be n 3 = [n / 65536 % 256, n / 256 % 256, n % 256] := by
  show [n / 2 ^ 16 % 256, n / 2 ^ 8 % 256, n / 2 ^ 0 % 256] = _
  simp
theorem num_int {n : Int} (h1 : -9223372036854775808 ≤ n) (h2 : n ≤ 9223372036854775807) : IntKind.u64.wrap (IntKind.u64.wrap n + 9223372036854775808) = ((Cm.z64 n : Nat) : Int) := by
  have := (Cm.z64_lt h1 h2).2
  rw [Cm.wrap_u64, Cm.wrap_u64]
  omega
/-- The bytes of a row's numbers. -/
def nums (R : List Int) : List Nat := R.flatMap Cm.num
theorem nums_length (R : List Int) : (nums R).length = 8 * R.length := by
  induction R with
  | nil => rfl
  | cons x R ih =>
    show (Cm.num x ++ nums R).length = _
    rw [List.length_append, ih, Cm.num_length, List.length_cons]
    omega
theorem nums_ok (R : List Int) : Sm.allB (nums R) := fun x hx => by
  obtain ⟨y, _, hy⟩ := List.mem_flatMap.1 hx
  exact Cm.num_ok y x hy
theorem nums_step (R : List Int) (k : Nat) (hk : k < R.length) : nums (R.take (k + 1)) = nums (R.take k) ++ Cm.num (R.getD k 0) := by
  have e : R.getD k 0 = R[k] := by rw [List.getD_eq_getElem?_getD, List.getElem?_eq_getElem hk]; rfl
  rw [e, List.take_succ_eq_append_getElem hk]
  unfold nums
  rw [List.flatMap_append, List.flatMap_cons, List.flatMap_nil, List.append_nil]
def rowB (R : List Int) : List Nat := R.length :: nums R
theorem rowB_length (R : List Int) : (rowB R).length = 1 + 8 * R.length := by
  show (nums R).length + 1 = _
  rw [nums_length]; omega
theorem row_some {w : World} {base n : Nat} {q : Option Addr} {c : Nat} {xs : List Value} (h : w.ownsRow base 5 1 (.slice q n c) n xs) (h0 : 0 < n) : ∃ x, q = some x := by
  rcases h.2 with ⟨hv, _⟩ | ⟨g, cap, cur, hv, _⟩
  · cases hv; omega
  · simp only [Value.slice.injEq] at hv
    exact ⟨_, hv.1⟩
end Go.Proofs.YtfkpgildeddhaaaGreat

/- What a node's bytes are, plainly; bytes under way beside a kid of its own. -/
namespace Go.Proofs.YtfkpgildeddhaaaGreat.Nd
open Go.RowKit Go.Proofs.YtfkpgildeddhaaaGreat.Wl

/-- A row's bytes. -/
def rowBs (R : List Int) : List Nat := R.length % 256 :: Go.Proofs.YtfkpgildeddhaaaGreat.nums R
def PE.bytes (e : PE) : List Nat := (if e.live then 1 else 0) :: rowBs e.row
def PK.bytes (k : PK) : List Nat := k.sum ++ (Cm.be k.live.toNat 3 ++ (Cm.be k.size.toNat 3 ++ (rowBs k.lo ++ (rowBs k.hi ++ rowBs k.key))))
/-- A node's bytes. -/
def PN.bytes (n : PN) : List Nat := n.kind :: n.rows.length % 256 :: (n.rows.flatMap PE.bytes ++ (n.kids.length % 256 :: n.kids.flatMap PK.bytes))
theorem rowBs_length (R : List Int) : (rowBs R).length = 1 + 8 * R.length := by simp [rowBs, nums_length]; omega
theorem rowBs_ok (R : List Int) : Sm.allB (rowBs R) := fun x hx => by
  rcases List.mem_cons.1 hx with rfl | hx
  · exact Nat.mod_lt _ (by omega)
  · exact nums_ok R x hx
theorem flat_succ {α : Type} [Inhabited α] (f : α → List Nat) (L : List α) (k : Nat) (h : k < L.length) : (L.take (k + 1)).flatMap f = (L.take k).flatMap f ++ f (L.getD k default) := by
  rw [List.take_succ_eq_append_getElem h, List.flatMap_append, List.getD_eq_getElem?_getD, List.getElem?_eq_getElem h]
  simp
theorem some_of {w : World} {q : Option Addr} {n c : Nat} {B : List Nat} (h : Tx w q n c B) (hB : B ≠ []) : ∃ x, q = some x := by
  rcases h.at' with ⟨_, hc⟩ | ⟨x, hp, _⟩
  · have := h.size
    have := h.le
    exact absurd (List.length_eq_zero_iff.1 (by omega)) hB
  · exact ⟨x, hp⟩
/-- Bytes under way, and a kid that was copied into a block of its own. -/
structure BySt (w1 : World) (gx : Nat) (kd : Kd) (w : World) (v : Value) (n : Nat) (B : List Nat) : Prop where
  out : Out w1 w v n B
  row : w.heap[gx]? = some (.cells kd.cells.toArray 43 (0, 0))
  ne : v.ownBlock ≠ some gx
theorem BySt.later {w1 w w' : World} {gx : Nat} {kd : Kd} {v : Value} {n : Nat} {B : List Nat} (h : BySt w1 gx kd w v n B) (hb : Below w.heap.size w w') : BySt w1 gx kd w' v n B :=
  ⟨h.out.later hb, (hb.block _ (Array.getElem?_eq_some_iff.1 h.row).1).trans h.row, h.ne⟩
theorem BySt.put {w1 w w7 : World} {gx : Nat} {kd : Kd} {v v7 : Value} {n m : Nat} {B P : List Nat} (h : BySt w1 gx kd w v n B) (hP : Sm.allB P) (hm : P.length = m) (hown : w7.ownsRow w1.heap.size 5 1 v7 (n + m) (vals B ++ vals P)) (hg : w.grownBy w7 v.ownBlock) (hat : v7.ownBlock = v.ownBlock ∨ v7.ownBlock = some w.heap.size) : BySt w1 gx kd w7 v7 (n + m) (B ++ P) := by
  have hlt := (Array.getElem?_eq_some_iff.1 h.row).1
  refine ⟨h.out.put hP hm hown hg, (hg.block _ hlt (fun e => h.ne e.symm)).trans h.row, fun e => ?_⟩
  rcases hat with h2 | h2
  · exact h.ne (h2.symm.trans e)
  · rw [h2] at e
    have := Option.some.inj e
    omega
theorem BySt.start {w1 w : World} {kd : Kd} {v : Value} {n : Nat} {B : List Nat} (h : Out w1 w v n B) : BySt w1 w.heap.size kd (w.alloc (.cells kd.cells.toArray 43)) v n B :=
  ⟨h.later ((Below.refl _ _).alloc (Nat.le_refl _) _), heap_alloc_new w _, fun e => by have := (h.own.lt _ e).2; omega⟩
theorem kd0_size : kd0.cells.length = 37 := rfl
theorem kz : (Tryz.prog.info? 43).map (fun i => (i.zero, i.size)) = some (some (.agg kd0.cells.toArray), 37) := by kernel_rfl
theorem Kd.one {k : Kd} : ∀ u ∈ k.cells, u.oneCell' = true := by
  intro u hu
  rcases List.mem_append.1 hu with hu | hu
  · exact vals_one _ u hu
  · simp only [List.mem_cons, List.not_mem_nil, or_false] at hu
    rcases hu with rfl | rfl | rfl | rfl | rfl <;> rfl
end Go.Proofs.YtfkpgildeddhaaaGreat.Nd

/- Lists of entries, of kids, under way in rows of a call's own: what they point to lies aside. -/
namespace Go.Proofs.YtfkpgildeddhaaaGreat.Nd
open Go.RowKit

theorem UEs : Tryz.prog.underlying 24 = some (.slice 55) := by kernel_rfl
theorem UKs : Tryz.prog.underlying 25 = some (.slice 43) := by kernel_rfl
theorem IEn : (Tryz.prog.info? 55).map (fun i => (i.zero, i.size, i.bytes)) = some (some (.agg #[.slice none 0 0, .bool false]), 2, 32) := by kernel_rfl
theorem IKd : (Tryz.prog.info? 43).map (fun i => (i.zero, i.size, i.bytes)) = some (some (.agg kd0.cells.toArray), 37, 120) := by kernel_rfl
def En.cells (e : En) : List Value := [e.row.val, .bool e.live]
def Kd.rows (k : Kd) : List Rw := [k.lo, k.hi, k.key]
def En.rows (e : En) : List Rw := [e.row]
/-- A list of structs, each with rows of its own that lie aside of the list's block. -/
structure Lst {α : Type} (t : TypeId) (sz : Nat) (cells : α → List Value) (rows : α → List Rw) (B : Nat) (w : World) (v : Value) (n : Nat) (L : List α) : Prop where
  len : n = L.length
  own : w.ownsRow B t sz v n (L.flatMap cells)
  each : ∀ e ∈ L, ∀ r ∈ rows e, FrRw w B r ∧ ∀ x, r.p = some x → r.R ≠ [] → v.ownBlock ≠ some x.block
section
variable {α : Type} {t : TypeId} {sz : Nat} {cells : α → List Value} {rows : α → List Rw} {B : Nat} {w w' : World} {v v' : Value} {n : Nat} {L : List α}
theorem Lst.nil (w : World) : Lst t sz cells rows B w (.slice none 0 0) 0 ([] : List α) := ⟨rfl, World.ownsRow_nil _ _ _ _, fun e he => by cases he⟩
theorem Lst.keep (h : Lst t sz cells rows B w v n L) (hk : ∀ k, B ≤ k → k < w.heap.size → w'.heap[k]? = w.heap[k]?) : Lst t sz cells rows B w' v n L := by
  refine ⟨h.len, ⟨h.own.1, h.own.2.imp id ?_⟩, fun e he r hr => ⟨(h.each e he r hr).1.keep hk, (h.each e he r hr).2⟩⟩
  rintro ⟨g, cap, cur, hv, hg, hh, r⟩
  exact ⟨g, cap, cur, hv, hg, (hk g hg (Array.getElem?_eq_some_iff.1 hh).1).trans hh, r⟩
theorem Lst.later (h : Lst t sz cells rows B w v n L) (hb : Below w.heap.size w w') : Lst t sz cells rows B w' v n L := h.keep fun k _ hk => hb.block k hk
theorem Lst.grown (h : Lst t sz cells rows B w v n L) {g : Nat} (hg : w.grownBy w' (some g)) (hlt : g < B) : Lst t sz cells rows B w' v n L := h.keep fun k hB hk => hg.block k hk (by simp; omega)
theorem Lst.put (h : Lst t sz cells rows B w v n L) {e : α} (he : ∀ r ∈ rows e, FrRw w B r ∧ ∀ x, r.p = some x → r.R ≠ [] → v.ownBlock ≠ some x.block) (hown : w'.ownsRow B t sz v' (n + 1) (L.flatMap cells ++ cells e)) (hg : w.grownBy w' v.ownBlock) (hat : v'.ownBlock = v.ownBlock ∨ v'.ownBlock = some w.heap.size) : Lst t sz cells rows B w' v' (n + 1) (L ++ [e]) := by
  have key : ∀ r : Rw, (FrRw w B r ∧ ∀ x, r.p = some x → r.R ≠ [] → v.ownBlock ≠ some x.block) → FrRw w' B r ∧ ∀ x, r.p = some x → r.R ≠ [] → v'.ownBlock ≠ some x.block := fun r hr => by
    refine ⟨⟨rw_keep hr.1.ok fun x hx hR => hg.block _ (hr.1.lt x hx hR) (fun e => hr.2 x hx hR e.symm), hr.1.lo⟩, fun x hx hR e => ?_⟩
    rcases hat with h1 | h1
    · exact hr.2 x hx hR (h1.symm.trans e)
    · rw [h1] at e
      have := hr.1.lt x hx hR
      have e' : w.heap.size = x.block := Option.some.inj e
      omega
  refine ⟨by rw [List.length_append, ← h.len]; rfl, by rw [List.flatMap_append]; simpa using hown, fun e' he' r hr => ?_⟩
  rcases List.mem_append.1 he' with h1 | h1
  · exact key r (h.each e' h1 r hr)
  · simp only [List.mem_cons, List.not_mem_nil, or_false] at h1
    subst h1
    exact key r (he r hr)
theorem Lst.form (h : Lst t sz cells rows B w v n L) : ∃ q c, v = .slice q n c ∧ n ≤ c := by
  rcases h.own.2 with ⟨rfl, h0⟩ | ⟨g, cap, cur, rfl, _, _, hc, _⟩
  · exact ⟨none, 0, by rw [h0], by omega⟩
  · exact ⟨_, cap, rfl, hc⟩
theorem flat_get (hc : ∀ e ∈ L, (cells e).length = sz) : ∀ (i j : Nat) (u : Value) [Inhabited α], i < L.length → (cells (L.getD i default))[j]? = some u → (L.flatMap cells)[i * sz + j]? = some u := by
  intro i j u _ hi hj
  induction L generalizing i with
  | nil => simp at hi
  | cons a L ih =>
    have ha := hc a (by simp)
    rw [List.flatMap_cons]
    cases i with
    | zero =>
      rw [Nat.zero_mul, Nat.zero_add]
      have hj : (cells a)[j]? = some u := by simpa using hj
      rw [List.getElem?_append_left (List.getElem?_eq_some_iff.1 hj).1]
      exact hj
    | succ i =>
      rw [List.getElem?_append_right (by rw [ha, Nat.succ_mul]; omega), ha, Nat.succ_mul, show i * sz + sz + j - sz = i * sz + j by omega]
      exact ih (fun e he => hc e (by simp [he])) i (by simpa using hi) (by simpa using hj)
theorem Lst.range [Inhabited α] {q : Option Addr} {c : Nat} (h : Lst t sz cells rows B w (.slice q n c) n L) (hc : ∀ e ∈ L, (cells e).length = sz) : L = [] ∨ ∃ g, q = some ⟨g, 0, none⟩ ∧ ∀ i, i < L.length → w.rangeAt g (i * sz) (cells (L.getD i default)) := by
  rcases h.own.2 with ⟨_, h0⟩ | ⟨g, cap, cur, hv, hb, hg, hle, hm, hs, ht⟩
  · exact Or.inl (List.length_eq_zero_iff.1 (by rw [← h.len]; exact h0))
  · simp only [Value.slice.injEq, true_and] at hv
    obtain ⟨rfl, rfl⟩ := hv
    refine Or.inr ⟨g, rfl, fun i hi j u hu => ?_⟩
    have hx := flat_get hc i j u hi hu
    have hlt := (List.getElem?_eq_some_iff.1 hx).1
    rw [World.ownsRow.cellAt h.own (i * sz + j) (by rw [← h.own.1]; exact hlt), hx]
end
abbrev Ens (B : Nat) := Lst 55 2 En.cells En.rows B
/-- Kids besides: their digests, their numbers. -/
structure Kds (B : Nat) (w : World) (v : Value) (n : Nat) (K : List Kd) : Prop where
  lst : Lst 43 37 Kd.cells Kd.rows B w v n K
  good : ∀ k ∈ K, k.sum.length = 32 ∧ Sm.allB k.sum ∧ In64 k.live ∧ In64 k.size
theorem Ens.ents {B : Nat} {w : World} {q : Option Addr} {n c : Nat} {E : List En} (h : Ens B w (.slice q n c) n E) (hn : n ≤ 9223372036854775807) : EntsIn w q n c E := by
  have hf : n ≤ c := by
    obtain ⟨q', c', e, hc⟩ := h.form
    cases e
    exact hc
  refine ⟨h.len, hf, hn, fun e he => (h.each e he e.row (by simp [En.rows])).1.ok, ?_⟩
  rcases h.range (fun e _ => rfl) with h0 | ⟨g, hq, hx⟩
  · exact Or.inl h0
  · exact Or.inr ⟨g, 0, hq, fun i hi => ⟨by have := hx i hi 0 _ rfl; simpa using this, by have := hx i hi 1 _ rfl; simpa using this⟩⟩
theorem Kds.kids {B : Nat} {w : World} {q : Option Addr} {n c : Nat} {K : List Kd} (h : Kds B w (.slice q n c) n K) (hn : n ≤ 9223372036854775807) : KidsIn w q n c K := by
  have hf : n ≤ c := by
    obtain ⟨q', c', e, hc⟩ := h.lst.form
    cases e
    exact hc
  have hr := fun k hk r hr => (h.lst.each k hk r hr).1.ok
  refine ⟨h.lst.len, hf, hn, fun k hk => ⟨(h.good k hk).1, (h.good k hk).2.1, hr k hk k.lo (by simp [Kd.rows]), hr k hk k.hi (by simp [Kd.rows]), hr k hk k.key (by simp [Kd.rows]), (h.good k hk).2.2.1, (h.good k hk).2.2.2⟩, ?_⟩
  rcases h.lst.range (fun k hk => Kd.cells_length (h.good k hk).1) with h0 | ⟨g, hq, hx⟩
  · exact Or.inl h0
  · exact Or.inr ⟨g, 0, hq, fun i hi => by have := hx i hi; simpa using this⟩
theorem ent_fill (q : Option Addr) (m c : Nat) (b : Bool) : Instr.fill (fun i => some (i * 2, 2)) ((Array.range (1 * 2)).map ((Value.agg #[.slice none 0 0, .bool false]).cells[· % (Value.agg #[.slice none 0 0, .bool false]).cells.size]!)) [(0, .agg #[.slice q m c, .bool b])] = some #[.slice q m c, .bool b] := by kernel_rfl
theorem kid_fill (q1 q2 q3 : Option Addr) (m1 c1 m2 c2 m3 c3 : Nat) (x y : Int) : ∀ (D : List Nat), D.length = 32 → Instr.fill (fun i => some (i * 37, 37)) ((Array.range (1 * 37)).map ((Value.agg kd0.cells.toArray).cells[· % (Value.agg kd0.cells.toArray).cells.size]!)) [(0, .agg (vals D ++ [Value.slice q1 m1 c1, .slice q2 m2 c2, .int .i64 x, .int .i64 y, .slice q3 m3 c3]).toArray)] = some ((vals D ++ [Value.slice q1 m1 c1, .slice q2 m2 c2, .int .i64 x, .int .i64 y, .slice q3 m3 c3]).toArray)
  | [a0, a1, a2, a3, a4, a5, a6, a7, a8, a9, a10, a11, a12, a13, a14, a15, a16, a17, a18, a19, a20, a21, a22, a23, a24, a25, a26, a27, a28, a29, a30, a31], _ => by kernel_rfl
theorem wp_ent_one {w : World} {o : Oper} {a : Act} {K : Act → World → Prop} {Q : Exit → Act → World → Prop} (x : Operand) (ho : o.op = .buildSlice 24 1 #[(0, x)]) {q : Option Addr} {m c : Nat} {b : Bool} (hx : a.eval x = .agg #[.slice q m c, .bool b])
    (h : K (a.put o.dst (.slice (some ⟨w.heap.size, 0, none⟩) 1 1)) (w.alloc (.cells #[.slice q m c, .bool b] 55))) : o.wp Tryz.prog a w K Q := by
  obtain ⟨i, hi, hi0, hi1, hi2⟩ := info_parts IEn
  refine wp_buildSlice 24 55 1 #[(0, x)] ho _ i _ UEs hi hi0 (by rw [hi1]; omega) (by rw [hi1]; omega) ?_ h
  rw [hi1]
  simp only [List.map_toArray, List.map_cons, List.map_nil, hx]
  exact ent_fill q m c b
theorem wp_kid_one {w : World} {o : Oper} {a : Act} {K : Act → World → Prop} {Q : Exit → Act → World → Prop} (x : Operand) (ho : o.op = .buildSlice 25 1 #[(0, x)]) {k : Kd} (hk : k.sum.length = 32) (hx : a.eval x = .agg k.cells.toArray)
    (h : K (a.put o.dst (.slice (some ⟨w.heap.size, 0, none⟩) 1 1)) (w.alloc (.cells k.cells.toArray 43))) : o.wp Tryz.prog a w K Q := by
  obtain ⟨i, hi, hi0, hi1, hi2⟩ := info_parts IKd
  refine wp_buildSlice 25 43 1 #[(0, x)] ho k.cells.toArray i _ UKs hi hi0 (by rw [hi1]; omega) (by rw [hi1]; omega) ?_ h
  rw [hi1]
  simp only [List.map_toArray, List.map_cons, List.map_nil, hx]
  exact kid_fill _ _ _ _ _ _ _ _ _ _ _ k.sum hk
theorem wpList_kid_one {w : World} {ops : Array Oper} {rest : List Oper} {o : Oper} {a : Act} {Q : Exit → Act → World → Prop} (hg : o.guard = none) (x : Operand) (ho : o.op = .buildSlice 25 1 #[(0, x)]) {k : Kd} (hk : k.sum.length = 32) (hx : a.eval x = .agg k.cells.toArray)
    (h : wpList Tryz.prog ops Q rest (a.put o.dst (.slice (some ⟨w.heap.size, 0, none⟩) 1 1)) (w.alloc (.cells k.cells.toArray 43))) : wpList Tryz.prog ops Q (o :: rest) a w :=
  wpList_plain hg fun _ hK => wp_kid_one x ho hk hx (hK _ _ h)
theorem En.one {e : En} : ∀ u ∈ e.cells, u.oneCell' = true := by
  intro u hu
  simp only [En.cells, List.mem_cons, List.not_mem_nil, or_false] at hu
  rcases hu with rfl | rfl <;> rfl
theorem ent_news (w : World) (e : En) : ∀ j u, e.cells[j]? = some u → (w.alloc (.cells #[.slice e.row.p e.row.n e.row.c, .bool e.live] 55)).cell? ((⟨w.heap.size, 0, none⟩ : Addr).add j) = some u := fun j u hu => by
  rw [Addr.add_mid, Nat.zero_add, cell_of_row _ w.heap.size j _ _ _ (heap_alloc_new w _)]
  simpa [En.cells, Rw.val] using hu
theorem kid_news (w : World) (k : Kd) : ∀ j u, k.cells[j]? = some u → (w.alloc (.cells k.cells.toArray 43)).cell? ((⟨w.heap.size, 0, none⟩ : Addr).add j) = some u := fun j u hu => by
  rw [Addr.add_mid, Nat.zero_add, cell_of_row _ w.heap.size j _ _ _ (heap_alloc_new w _)]
  simpa using hu
end Go.Proofs.YtfkpgildeddhaaaGreat.Nd

/- What a reader tells of a node, plainly. -/
namespace Go.Proofs.YtfkpgildeddhaaaGreat.Nd
open Go.RowKit

def readE (m : Int) : Nat → Rd → List PE → List PE × Rd
  | 0, s, L => (L, s)
  | n + 1, s, L => readE m n (s.entN m) (L ++ [s.entV m])
def readK (m : Int) : Nat → Rd → List PK → List PK × Rd
  | 0, s, L => (L, s)
  | n + 1, s, L => readK m n (s.kidN m) (L ++ [s.kidV m])
theorem readE_go {m : Int} {n : Nat} {s : Rd} {L : List PE} (hn : 0 < n) : readE m n s L = readE m (n - 1) (s.entN m) (L ++ [s.entV m]) := by
  obtain ⟨k, rfl⟩ : ∃ k, n = k + 1 := ⟨n - 1, by omega⟩
  rfl
theorem readK_go {m : Int} {n : Nat} {s : Rd} {L : List PK} (hn : 0 < n) : readK m n s L = readK m (n - 1) (s.kidN m) (L ++ [s.kidV m]) := by
  obtain ⟨k, rfl⟩ : ∃ k, n = k + 1 := ⟨n - 1, by omega⟩
  rfl
theorem readE_R {m : Int} : ∀ (n : Nat) (s : Rd) (L : List PE), Sm.allB s.R → Sm.allB (readE m n s L).2.R ∧ (readE m n s L).2.R.length ≤ s.R.length
  | 0, s, L, h => ⟨h, Nat.le_refl _⟩
  | n + 1, s, L, h => by
    have h1 := ent_R (m := m) h
    have h2 := readE_R (m := m) n (s.entN m) (L ++ [s.entV m]) h1.1
    exact ⟨h2.1, Nat.le_trans h2.2 h1.2⟩
theorem readK_R {m : Int} : ∀ (n : Nat) (s : Rd) (L : List PK), Sm.allB s.R → Sm.allB (readK m n s L).2.R ∧ (readK m n s L).2.R.length ≤ s.R.length
  | 0, s, L, h => ⟨h, Nat.le_refl _⟩
  | n + 1, s, L, h => by
    have h1 := kid_R (m := m) h
    have h2 := readK_R (m := m) n (s.kidN m) (L ++ [s.kidV m]) h1.1
    exact ⟨h2.1, Nat.le_trans h2.2 h1.2⟩
/-- The steps of a node's reading. -/
structure RdN where
  kind : Nat
  n1 : Nat
  s2 : Rd
  T1 : List PE × Rd
  n2 : Nat
  s4 : Rd
  T2 : List PK × Rd
def rdN (m : Int) (B : List Nat) : RdN :=
  let s0 : Rd := ⟨B, 0⟩
  let s1 := s0.past 1
  let s2 := s1.past 1
  let T1 := readE m (Cm.val (s1.part 1)) s2 []
  let s4 := T1.2.past 1
  ⟨Cm.val (s0.part 1), Cm.val (s1.part 1), s2, T1, Cm.val (T1.2.part 1), s4, readK m (Cm.val (T1.2.part 1)) s4 []⟩
def RdN.node (x : RdN) : PN := ⟨x.kind, x.T1.1, x.T2.1⟩
/-- Whether the bytes are a node's that may be. -/
def RdN.good (x : RdN) (d : Int) : Prop := x.T2.2.e = 0 ∧ x.T2.2.R = [] ∧ x.node.right d = true
theorem rdN_bounds {m : Int} {B : List Nat} (h : Sm.allB B) : (rdN m B).kind < 256 ∧ (rdN m B).n1 < 256 ∧ (rdN m B).n2 < 256 ∧ Sm.allB (rdN m B).s2.R ∧ (rdN m B).s2.R.length ≤ B.length ∧ Sm.allB (rdN m B).T1.2.R ∧ (rdN m B).T1.2.R.length ≤ B.length ∧ Sm.allB (rdN m B).s4.R ∧ (rdN m B).s4.R.length ≤ B.length ∧ ((Rd.mk B 0).past 1).R.length ≤ B.length := by
  have b0 : Sm.allB (Rd.mk B 0).R := h
  have a1 := past_okR (n := 1) b0
  have l1 : ((Rd.mk B 0).past 1).R.length ≤ B.length := Rd.past_len ⟨B, 0⟩ 1
  have a2 := past_okR (n := 1) a1
  have l2 := Nat.le_trans (Rd.past_len ((Rd.mk B 0).past 1) 1) l1
  have e := readE_R (m := m) (Cm.val (((Rd.mk B 0).past 1).part 1)) (((Rd.mk B 0).past 1).past 1) [] a2
  have l3 := Nat.le_trans e.2 l2
  have a4 := past_okR (n := 1) e.1
  have l4 := Nat.le_trans (Rd.past_len _ 1) l3
  exact ⟨val1 b0, val1 a1, val1 e.1, a2, l2, e.1, l3, a4, l4, l1⟩
end Go.Proofs.YtfkpgildeddhaaaGreat.Nd

/- Whether the first numbers of two lists are alike. No program is named here. -/
namespace Go.Proofs.YtfkpgildeddhaaaGreat
open Go.RowKit
/-- Whether the first so many numbers are the same. -/
def eqs (P Q : List Int) : Nat → Bool
  | 0 => true
  | k + 1 => eqs P Q k && (P.getD k 0 == Q.getD k 0)
theorem eqs_iff (P Q : List Int) : ∀ n, eqs P Q n = true ↔ ∀ k, k < n → P.getD k 0 = Q.getD k 0
  | 0 => ⟨fun _ k hk => by omega, fun _ => rfl⟩
  | n + 1 => by
    show (eqs P Q n && (P.getD n 0 == Q.getD n 0)) = true ↔ _
    rw [Bool.and_eq_true, eqs_iff P Q n, beq_iff_eq]
    constructor
    · rintro ⟨h1, h2⟩ k hk
      by_cases hkn : k = n
      · rw [hkn]; exact h2
      · exact h1 k (by omega)
    · intro h
      exact ⟨fun k hk => h k (by omega), h n (by omega)⟩
end Go.Proofs.YtfkpgildeddhaaaGreat

/- indentureref04.SameRow; whether a point is in a box, plainly. -/
namespace Go.Proofs.YtfkpgildeddhaaaGreat
open Go.RowKit

theorem eqs_eq {R S : List Int} (h : R.length = S.length) (he : eqs R S R.length = true) : R = S := by
  apply List.ext_getElem h
  intro i h1 h2
  have := (eqs_iff R S R.length).1 he i h1
  simpa [List.getD_eq_getElem?_getD, h1, h2] using this
def SamRel (w : World) (R S : List Int) (n : Nat) (i : Value) (wr : World) : Prop := ∃ k j : Nat, k ≤ n ∧ i = .int .i64 k ∧ eqs R S k = true ∧ wr = w.drewN j
theorem ret_dec {p : Prop} [Decidable p] (h : p) : Ending.returned (.bool true) = Ending.returned (.bool (decide p)) := by rw [decide_eq_true h]
theorem ret_ndec {p : Prop} [Decidable p] (h : ¬ p) : Ending.returned (.bool false) = Ending.returned (.bool (decide p)) := by rw [decide_eq_false h]
set_option maxRecDepth 100000 in
set_option maxHeartbeats 1000000 in
theorem samerow_any (p q : Option Addr) (n c m e : Nat) (R S : List Int) (w : World) (h : Ints w p n c R) (h2 : Ints w q m e S) (hn9 : n ≤ 9223372036854775807) :
    Calls Tryz.prog 24 #[.slice p n c, .slice q m e] w fun e w' => e = .returned (.bool (decide (R = S))) ∧ ∃ j, w' = w.drewN j := by
  have H1 := Lib.hid h
  have H2 := Lib.hid h2
  clear h h2
  by_cases hn : (n : Int) = m
  case neg =>
    have hne : ¬ R = S := fun h => hn (by rw [H1.out.size, H2.out.size, h])
    have HNE := Lib.hid hne
    clear hne
    go_enter Tryz.func24, Tryz.ntmps24
    go_wp2_with fail
    go_ret
    exact ⟨ret_ndec HNE.out, 0, rfl⟩
  obtain rfl : m = n := by omega
  go_enter Tryz.func24, Tryz.ntmps24
  go_wp2_with fail
  go_loopw [5] (fun i wr => SamRel w R S m i wr) (fun i _ => m - (intOf i).toNat)
  case atStart => exact ⟨0, 0, by omega, rfl, rfl, rfl⟩
  case round =>
    obtain ⟨k, j, hk, rfl, heq, rfl⟩ := hrel
    have HL := Lib.hid heq
    clear heq
    by_cases hlt : k < m
    · obtain ⟨gx, o, rfl, hcx⟩ := H1.out.cell k hlt
      obtain ⟨gy, o2, rfl, hcy⟩ := H2.out.cell k hlt
      have i1 : (0 : Int) ≤ k ∧ (k : Int) < m := by omega
      have hs : eqs R S (k + 1) = (eqs R S k && (R.getD k 0 == S.getD k 0)) := rfl
      have HS := Lib.hid hs
      have HF := Lib.hid (show ¬ R.getD k 0 = S.getD k 0 → ¬ R = S from fun h h3 => h (by rw [h3]))
      clear hs
      generalize R.getD k 0 = x at *
      generalize S.getD k 0 = y at *
      by_cases hxy : x = y
      · subst hxy
        go_upto_region 6 with fail
        go_quiet (fail)
        go_wp2_with fail
        go_roundw
        case rel => exact ⟨k + 1, j + nq, by omega, by go_num, by rw [HS.out, HL.out]; simp, rfl⟩
        case measure => simp [intOf]; omega
      · go_upto_region 6 with fail
        go_quiet (fail)
        go_wp2_with fail
        go_ret
        exact ⟨ret_ndec (HF.out hxy), j + nq, by first | rfl | (simp only [World.drewN]; done) | simp [World.drewN_drewN]⟩
    · obtain rfl : k = m := by omega
      have he := HL.out
      rw [H1.out.size] at he
      have HE := Lib.hid (eqs_eq (H1.out.size.symm.trans H2.out.size) he)
      clear he
      go_wp2_with fail
      go_ret
      exact ⟨ret_dec HE.out, _, rfl⟩
/-- Whether a point is in a box. -/
def hasB (R S P : List Int) (n m l : Nat) : Bool := rightB R S n m l && (les R P l && les P S l)
theorem hasB_not {R S P : List Int} {n m l : Nat} (h : rightB R S n m l = false) : hasB R S P n m l = false := by unfold hasB; rw [h, Bool.false_and]
theorem hasB_right {R S P : List Int} {n m l : Nat} (h : rightB R S n m l = true) : hasB R S P n m l = (les R P l && les P S l) := by unfold hasB; rw [h, Bool.true_and]
theorem rightB_dims {R S : List Int} {n m : Nat} {d : Int} (h : rightB R S n m d = true) : 1 ≤ d ∧ d ≤ 8 ∧ (n : Int) = d ∧ (m : Int) = d := by
  unfold rightB at h
  rw [Bool.and_eq_true, decide_eq_true_eq] at h
  exact h.1
end Go.Proofs.YtfkpgildeddhaaaGreat

/- indentureref04.Same. -/
namespace Go.Proofs.YtfkpgildeddhaaaGreat
open Go.RowKit

set_option maxRecDepth 100000 in
set_option maxHeartbeats 4000000 in
theorem refsame_any (p q r s : Option Addr) (n c m e k f l g : Nat) (R S T U : List Int) (w : World) (h1 : Ints w p n c R) (h2 : Ints w q m e S) (h3 : Ints w r k f T) (h4 : Ints w s l g U)
    (hn : n ≤ 9223372036854775807) (hm : m ≤ 9223372036854775807) :
    Calls Tryz.prog 23 #[.agg #[.slice p n c, .slice q m e], .agg #[.slice r k f, .slice s l g]] w fun e w' => e = .returned (.bool (decide (R = T ∧ S = U))) ∧ Below w.heap.size w w' := by
  have hb1 : Below w.heap.size w (w.alloc (.cells #[.slice p n c, .slice q m e] 41)) := (Below.refl _ _).alloc (Nat.le_refl _) _
  have hs1 : (w.alloc (.cells #[.slice p n c, .slice q m e] 41)).heap.size = w.heap.size + 1 := by simp
  obtain ⟨a0, a1⟩ := pair_alloc w (.slice p n c) (.slice q m e) 41
  go_enter Tryz.func23, Tryz.ntmps23
  go_upto_region 1 with fail
  generalize w.alloc (.cells #[.slice p n c, .slice q m e] 41) = w1 at *
  have hb2 : Below w1.heap.size w1 (w1.alloc (.cells #[.slice r k f, .slice s l g] 41)) := (Below.refl _ _).alloc (Nat.le_refl _) _
  obtain ⟨b0, b1⟩ := pair_alloc w1 (.slice r k f) (.slice s l g) 41
  rw [hs1] at b0 b1
  have c0 := (hb2.cell (p := ⟨w.heap.size, 0, none⟩) (by show w.heap.size < _; omega)).trans a0
  have c1 := (hb2.cell (p := ⟨w.heap.size, 1, none⟩) (by show w.heap.size < _; omega)).trans a1
  have H1 := Lib.hid ((h1.later hb1).later hb2)
  have H2 := Lib.hid ((h2.later hb1).later hb2)
  have H3 := Lib.hid ((h3.later hb1).later hb2)
  have H4 := Lib.hid ((h4.later hb1).later hb2)
  have HB := Lib.hid (hb1.trans (hb2.mono (by omega)))
  generalize w1.alloc (.cells #[.slice r k f, .slice s l g] 41) = w2 at *
  clear hb1 hs1 a0 a1 hb2 h1 h2 h3 h4
  clear w1
  by_cases hRT : R = T
  case neg =>
    have HN := Lib.hid (show ¬ (R = T ∧ S = U) from fun h => hRT h.1)
    have HR := Lib.hid hRT
    clear hRT
    go_wp2_with fail
    refine (samerow_any p r n c k f R T w2 H1.out H3.out hn).mono ?_
    rintro _ w3 ⟨rfl, j, rfl⟩
    rw [decide_eq_false HR.out]
    go_wp2_with fail
    go_ret
    exact ⟨ret_ndec HN.out, Below.drewN HB.out _⟩
  have HD := Lib.hid (show decide (S = U) = decide (R = T ∧ S = U) from decide_eq_decide.2 ⟨fun h => ⟨hRT, h⟩, fun h => h.2⟩)
  have HR := Lib.hid hRT
  clear hRT
  go_wp2_with fail
  refine (samerow_any p r n c k f R T w2 H1.out H3.out hn).mono ?_
  rintro _ w3 ⟨rfl, j, hw3⟩
  have HW := Lib.hid (show Below w2.heap.size w2 w3 by rw [hw3]; exact Below.drewN (Below.refl _ _) _)
  have d0 := (HW.out.cell (p := ⟨w.heap.size, 1, none⟩) (block_lt_of_cell c1)).trans c1
  have d1 := (HW.out.cell (p := ⟨w.heap.size + 1, 1, none⟩) (block_lt_of_cell b1)).trans b1
  have G2 := Lib.hid (H2.out.later HW.out)
  have G4 := Lib.hid (H4.out.later HW.out)
  have GB := Lib.hid (HB.out.trans (HW.out.mono HB.out.size))
  clear hw3 c0 c1 b0 b1
  rw [decide_eq_true HR.out]
  go_wp2_with fail
  refine (samerow_any q s m e l g S U w3 G2.out G4.out hm).mono ?_
  rintro _ w4 ⟨rfl, j2, hw4⟩
  have B4 := Lib.hid (show Below w.heap.size w w4 by rw [hw4]; exact Below.drewN GB.out _)
  clear hw4
  go_wp2_with fail
  go_ret
  exact ⟨congrArg (fun b => Ending.returned (.bool b)) HD.out, B4.out⟩
end Go.Proofs.YtfkpgildeddhaaaGreat

/- indentureref10.Same. -/
namespace Go.Proofs.YtfkpgildeddhaaaGreat.Nd
open Go.RowKit

theorem pk_eq (a b : Kd) : a.pk = b.pk ↔ a.sum = b.sum ∧ a.live = b.live ∧ a.size = b.size ∧ (a.lo.R = b.lo.R ∧ a.hi.R = b.hi.R) ∧ a.key.R = b.key.R := by
  simp only [Kd.pk, PK.mk.injEq]
  constructor
  · rintro ⟨h1, h2, h3, h4, h5, h6⟩
    exact ⟨h1, h4, h5, ⟨h2, h3⟩, h6⟩
  · rintro ⟨h1, h4, h5, ⟨h2, h3⟩, h6⟩
    exact ⟨h1, h2, h3, h4, h5, h6⟩
set_option maxRecDepth 100000 in
set_option maxHeartbeats 2000000 in
theorem rsame_any (a b : Kd) (w : World) (ha : a.Ok w) (hb : b.Ok w) :
    Calls Tryz.prog 14 #[.agg a.cells.toArray, .agg b.cells.toArray] w fun e w' => e = .returned (.bool (decide (a.pk = b.pk))) ∧ Below w.heap.size w w' := by
  have hb1 : Below w.heap.size w (w.alloc (.cells a.cells.toArray 43)) := (Below.refl _ _).alloc (Nat.le_refl _) _
  have r1 := heap_alloc_new w (.cells a.cells.toArray 43)
  have z1 : (w.alloc (.cells a.cells.toArray 43)).heap.size = w.heap.size + 1 := by simp
  have hb2 : Below (w.heap.size + 1) (w.alloc (.cells a.cells.toArray 43)) ((w.alloc (.cells a.cells.toArray 43)).alloc (.cells b.cells.toArray 43)) := (Below.refl _ _).alloc (by omega) _
  have r2 := heap_alloc_new (w.alloc (.cells a.cells.toArray 43)) (.cells b.cells.toArray 43)
  rw [z1] at r2
  have hb12 := hb1.trans (hb2.mono (by omega))
  have r1 := (hb2.block w.heap.size (by omega)).trans r1
  have HA := Lib.hid ha
  have HBK := Lib.hid hb
  clear ha hb hb1 hb2 z1
  go_enter Tryz.func14, Tryz.ntmps14
  go_upto_region 1 with fail
  generalize (w.alloc (.cells a.cells.toArray 43)).alloc (.cells b.cells.toArray 43) = W at *
  have KA := Lib.hid (kat_row r1 HA.out.len)
  have KB := Lib.hid (kat_row r2 HBK.out.len)
  have KOA := Lib.hid (HA.out.later hb12)
  have KOB := Lib.hid (HBK.out.later hb12)
  have LA := Lib.hid HA.out.len
  have LB := Lib.hid HBK.out.len
  have HB := Lib.hid hb12
  have EQ := Lib.hid (pk_eq a b)
  have hq : (Op.equalIn 10000 37 (.agg (u8s a.sum)) (.agg (u8s b.sum))).run Tryz.prog W = .ok (decide (a.sum = b.sum)) W := digest_equal a.sum b.sum LA.out LB.out 9998 W
  have a2 := KA.out.live
  have a3 := KA.out.size
  have a4 := KA.out.lo
  have a5 := KA.out.hi
  have a6 := KA.out.key
  have c2 := KB.out.live
  have c3 := KB.out.size
  have c4 := KB.out.lo
  have c5 := KB.out.hi
  have c6 := KB.out.key
  simp only [Nat.zero_add] at a2 a3 a4 a5 a6 c2 c3 c4 c5 c6
  clear r1 r2 hb12
  by_cases h1 : a.sum = b.sum
  case neg =>
    rw [decide_eq_false h1] at hq
    have HN := Lib.hid (fun h => h1 (EQ.out.1 h).1)
    clear h1
    go_wp2_with (first | (refine wpList_load_mid (by rfl) 37 _ (by rfl) _ 0 (by rfl) (vals a.sum) _ KA.out.sum A25 (by rfl) (by rw [vals_length, LA.out]; exact S25) ?_; rw [vals_toArray]) | (refine wpList_load_mid (by rfl) 37 _ (by rfl) _ 0 (by rfl) (vals b.sum) _ KB.out.sum A25 (by rfl) (by rw [vals_length, LB.out]; exact S25) ?_; rw [vals_toArray]))
    go_ret
    exact ⟨ret_ndec HN.out, HB.out⟩
  rw [decide_eq_true h1] at hq
  have H1 := Lib.hid h1
  clear h1
  by_cases h2 : a.live = b.live
  case neg =>
    have h2b : (a.live == b.live) = false := by simp [h2]
    have HN := Lib.hid (fun h => h2 (EQ.out.1 h).2.1)
    clear h2
    go_wp2_with (first | (refine wpList_load_mid (by rfl) 37 _ (by rfl) _ 0 (by rfl) (vals a.sum) _ KA.out.sum A25 (by rfl) (by rw [vals_length, LA.out]; exact S25) ?_; rw [vals_toArray]) | (refine wpList_load_mid (by rfl) 37 _ (by rfl) _ 0 (by rfl) (vals b.sum) _ KB.out.sum A25 (by rfl) (by rw [vals_length, LB.out]; exact S25) ?_; rw [vals_toArray]))
    go_ret
    exact ⟨ret_ndec HN.out, HB.out⟩
  have h2b : (a.live == b.live) = true := by simp [h2]
  have H2 := Lib.hid h2
  clear h2
  by_cases h3 : a.size = b.size
  case neg =>
    have h3b : (a.size == b.size) = false := by simp [h3]
    have HN := Lib.hid (fun h => h3 (EQ.out.1 h).2.2.1)
    clear h3
    go_wp2_with (first | (refine wpList_load_mid (by rfl) 37 _ (by rfl) _ 0 (by rfl) (vals a.sum) _ KA.out.sum A25 (by rfl) (by rw [vals_length, LA.out]; exact S25) ?_; rw [vals_toArray]) | (refine wpList_load_mid (by rfl) 37 _ (by rfl) _ 0 (by rfl) (vals b.sum) _ KB.out.sum A25 (by rfl) (by rw [vals_length, LB.out]; exact S25) ?_; rw [vals_toArray]))
    go_ret
    exact ⟨ret_ndec HN.out, HB.out⟩
  have h3b : (a.size == b.size) = true := by simp [h3]
  have H3 := Lib.hid h3
  clear h3
  by_cases h4 : a.lo.R = b.lo.R ∧ a.hi.R = b.hi.R
  case neg =>
    have HN := Lib.hid (fun h => h4 (EQ.out.1 h).2.2.2.1)
    have H4 := Lib.hid (decide_eq_false h4)
    clear h4
    go_wp2_with (first | (refine wpList_load_mid (by rfl) 37 _ (by rfl) _ 0 (by rfl) (vals a.sum) _ KA.out.sum A25 (by rfl) (by rw [vals_length, LA.out]; exact S25) ?_; rw [vals_toArray]) | (refine wpList_load_mid (by rfl) 37 _ (by rfl) _ 0 (by rfl) (vals b.sum) _ KB.out.sum A25 (by rfl) (by rw [vals_length, LB.out]; exact S25) ?_; rw [vals_toArray]) | (refine (refsame_any _ _ _ _ _ _ _ _ _ _ _ _ _ _ _ _ W KOA.out.lo.ints KOA.out.hi.ints KOB.out.lo.ints KOB.out.hi.ints KOA.out.lo.top KOA.out.hi.top).mono ?_; rintro _ w5 ⟨rfl, b5⟩; rw [H4.out]; have HB5 := Lib.hid (HB.out.trans (b5.mono HB.out.size)); clear b5))
    go_ret
    exact ⟨ret_ndec HN.out, HB5.out⟩
  have H4 := Lib.hid (decide_eq_true h4)
  have H4' := Lib.hid h4
  clear h4
  have hall := EQ.out
  have HP := Lib.hid (show decide (a.pk = b.pk) = decide (a.key.R = b.key.R) from by
    rw [Bool.eq_iff_iff, decide_eq_true_iff, decide_eq_true_iff, hall]
    exact ⟨fun h => h.2.2.2.2, fun h => ⟨H1.out, H2.out, H3.out, H4'.out, h⟩⟩)
  clear hall
  go_wp2_with (first | (refine wpList_load_mid (by rfl) 37 _ (by rfl) _ 0 (by rfl) (vals a.sum) _ KA.out.sum A25 (by rfl) (by rw [vals_length, LA.out]; exact S25) ?_; rw [vals_toArray]) | (refine wpList_load_mid (by rfl) 37 _ (by rfl) _ 0 (by rfl) (vals b.sum) _ KB.out.sum A25 (by rfl) (by rw [vals_length, LB.out]; exact S25) ?_; rw [vals_toArray]) | (refine (refsame_any _ _ _ _ _ _ _ _ _ _ _ _ _ _ _ _ W KOA.out.lo.ints KOA.out.hi.ints KOB.out.lo.ints KOB.out.hi.ints KOA.out.lo.top KOA.out.hi.top).mono ?_; rintro _ w5 ⟨rfl, b5⟩; rw [H4.out]; have e6 := (b5.cell (block_lt_of_cell a6)).trans a6; have f6 := (b5.cell (block_lt_of_cell c6)).trans c6; have HB5 := Lib.hid (HB.out.trans (b5.mono HB.out.size)); have KA5 := Lib.hid (KOA.out.later b5); have KB5 := Lib.hid (KOB.out.later b5); clear b5 a6 c6) | (refine (samerow_any _ _ _ _ _ _ _ _ w5 KA5.out.key.ints KB5.out.key.ints KA5.out.key.top).mono ?_; rintro _ w6 ⟨rfl, j6, rfl⟩))
  rw [HP.out]
  go_ret
  exact ⟨rfl, Below.drewN HB5.out j6⟩
end Go.Proofs.YtfkpgildeddhaaaGreat.Nd

/- slices.Equal of two rows. -/
namespace Go.Proofs.YtfkpgildeddhaaaGreat.Nd
open Go.RowKit

set_option maxRecDepth 100000 in
set_option maxHeartbeats 1000000 in
theorem sleq_any (p q : Option Addr) (n c m e : Nat) (R S : List Int) (w : World) (h : Ints w p n c R) (h2 : Ints w q m e S) (hn9 : n ≤ 9223372036854775807) :
    Calls Tryz.prog 42 #[.slice p n c, .slice q m e] w fun e w' => e = .returned (.bool (decide (R = S))) ∧ ∃ j, w' = w.drewN j := by
  have H1 := Lib.hid h
  have H2 := Lib.hid h2
  clear h h2
  by_cases hn : (n : Int) = m
  case neg =>
    have hne : ¬ R = S := fun h => hn (by rw [H1.out.size, H2.out.size, h])
    have HNE := Lib.hid hne
    have b0 : ((n : Int) != m) = true := by simpa using hn
    clear hne
    go_enter Tryz.func42, Tryz.ntmps42
    go_wp2_with fail
    go_ret
    exact ⟨ret_ndec HNE.out, 0, rfl⟩
  obtain rfl : m = n := by omega
  go_enter Tryz.func42, Tryz.ntmps42
  go_wp2_with fail
  go_loopw [13] (fun i wr => SamRel w R S m i wr) (fun i _ => m - (intOf i).toNat)
  case atStart => exact ⟨0, 0, by omega, rfl, rfl, rfl⟩
  case round =>
    obtain ⟨k, j, hk, rfl, heq, rfl⟩ := hrel
    have HL := Lib.hid heq
    clear heq
    by_cases hlt : k < m
    · obtain ⟨gx, o, rfl, hcx⟩ := H1.out.cell k hlt
      obtain ⟨gy, o2, rfl, hcy⟩ := H2.out.cell k hlt
      have i1 : (0 : Int) ≤ k ∧ (k : Int) < m := by omega
      have hs : eqs R S (k + 1) = (eqs R S k && (R.getD k 0 == S.getD k 0)) := rfl
      have HS := Lib.hid hs
      have HF := Lib.hid (show ¬ R.getD k 0 = S.getD k 0 → ¬ R = S from fun h h3 => h (by rw [h3]))
      clear hs
      generalize R.getD k 0 = x at *
      generalize S.getD k 0 = y at *
      by_cases hxy : x = y
      · subst hxy
        go_upto_region 6 with fail
        go_quiet (fail)
        go_wp2_with fail
        go_roundw
        case rel => exact ⟨k + 1, j + nq, by omega, by go_num, by rw [HS.out, HL.out]; simp, rfl⟩
        case measure => simp [intOf]; omega
      · have b1 : (x != y) = true := by simpa using hxy
        go_upto_region 6 with fail
        go_quiet (fail)
        go_wp2_with fail
        go_ret
        exact ⟨ret_ndec (HF.out hxy), j + nq, by first | rfl | (simp only [World.drewN]; done) | simp [World.drewN_drewN]⟩
    · obtain rfl : k = m := by omega
      have he := HL.out
      rw [H1.out.size] at he
      have HE := Lib.hid (eqs_eq (H1.out.size.symm.trans H2.out.size) he)
      clear he
      go_wp2_with fail
      go_ret
      exact ⟨ret_dec HE.out, _, rfl⟩
end Go.Proofs.YtfkpgildeddhaaaGreat.Nd

/- box.Same. -/
namespace Go.Proofs.YtfkpgildeddhaaaGreat.Nd
open Go.RowKit

set_option maxRecDepth 100000 in
set_option maxHeartbeats 4000000 in
theorem nbsame_any (p q r s : Option Addr) (n c m e k f l g : Nat) (R S T U : List Int) (w : World) (h1 : Ints w p n c R) (h2 : Ints w q m e S) (h3 : Ints w r k f T) (h4 : Ints w s l g U)
    (hn : n ≤ 9223372036854775807) (hm : m ≤ 9223372036854775807) :
    Calls Tryz.prog 39 #[.agg #[.slice p n c, .slice q m e], .agg #[.slice r k f, .slice s l g]] w fun e w' => e = .returned (.bool (decide (R = T ∧ S = U))) ∧ Below w.heap.size w w' := by
  have hb1 : Below w.heap.size w (w.alloc (.cells #[.slice p n c, .slice q m e] 41)) := (Below.refl _ _).alloc (Nat.le_refl _) _
  have hs1 : (w.alloc (.cells #[.slice p n c, .slice q m e] 41)).heap.size = w.heap.size + 1 := by simp
  obtain ⟨a0, a1⟩ := pair_alloc w (.slice p n c) (.slice q m e) 41
  go_enter Tryz.func39, Tryz.ntmps39
  go_upto_region 1 with fail
  generalize w.alloc (.cells #[.slice p n c, .slice q m e] 41) = w1 at *
  have hb2 : Below w1.heap.size w1 (w1.alloc (.cells #[.slice r k f, .slice s l g] 41)) := (Below.refl _ _).alloc (Nat.le_refl _) _
  obtain ⟨b0, b1⟩ := pair_alloc w1 (.slice r k f) (.slice s l g) 41
  rw [hs1] at b0 b1
  have c0 := (hb2.cell (p := ⟨w.heap.size, 0, none⟩) (by show w.heap.size < _; omega)).trans a0
  have c1 := (hb2.cell (p := ⟨w.heap.size, 1, none⟩) (by show w.heap.size < _; omega)).trans a1
  have H1 := Lib.hid ((h1.later hb1).later hb2)
  have H2 := Lib.hid ((h2.later hb1).later hb2)
  have H3 := Lib.hid ((h3.later hb1).later hb2)
  have H4 := Lib.hid ((h4.later hb1).later hb2)
  have HB := Lib.hid (hb1.trans (hb2.mono (by omega)))
  generalize w1.alloc (.cells #[.slice r k f, .slice s l g] 41) = w2 at *
  clear hb1 hs1 a0 a1 hb2 h1 h2 h3 h4
  clear w1
  by_cases hRT : R = T
  case neg =>
    have HN := Lib.hid (show ¬ (R = T ∧ S = U) from fun h => hRT h.1)
    have HR := Lib.hid hRT
    clear hRT
    go_wp2_with fail
    refine (sleq_any p r n c k f R T w2 H1.out H3.out hn).mono ?_
    rintro _ w3 ⟨rfl, j, rfl⟩
    rw [decide_eq_false HR.out]
    go_wp2_with fail
    go_ret
    exact ⟨ret_ndec HN.out, Below.drewN HB.out _⟩
  have HD := Lib.hid (show decide (S = U) = decide (R = T ∧ S = U) from decide_eq_decide.2 ⟨fun h => ⟨hRT, h⟩, fun h => h.2⟩)
  have HR := Lib.hid hRT
  clear hRT
  go_wp2_with fail
  refine (sleq_any p r n c k f R T w2 H1.out H3.out hn).mono ?_
  rintro _ w3 ⟨rfl, j, hw3⟩
  have HW := Lib.hid (show Below w2.heap.size w2 w3 by rw [hw3]; exact Below.drewN (Below.refl _ _) _)
  have d0 := (HW.out.cell (p := ⟨w.heap.size, 1, none⟩) (block_lt_of_cell c1)).trans c1
  have d1 := (HW.out.cell (p := ⟨w.heap.size + 1, 1, none⟩) (block_lt_of_cell b1)).trans b1
  have G2 := Lib.hid (H2.out.later HW.out)
  have G4 := Lib.hid (H4.out.later HW.out)
  have GB := Lib.hid (HB.out.trans (HW.out.mono HB.out.size))
  clear hw3 c0 c1 b0 b1
  rw [decide_eq_true HR.out]
  go_wp2_with fail
  refine (sleq_any q s m e l g S U w3 G2.out G4.out hm).mono ?_
  rintro _ w4 ⟨rfl, j2, hw4⟩
  have B4 := Lib.hid (show Below w.heap.size w w4 by rw [hw4]; exact Below.drewN GB.out _)
  clear hw4
  go_wp2_with fail
  go_ret
  exact ⟨congrArg (fun b => Ending.returned (.bool b)) HD.out, B4.out⟩
end Go.Proofs.YtfkpgildeddhaaaGreat.Nd

/- node.Same. -/
namespace Go.Proofs.YtfkpgildeddhaaaGreat.Nd
open Go.RowKit

set_option maxRecDepth 100000 in
set_option maxHeartbeats 2000000 in
theorem nsame_any (a b : Kd) (w : World) (ha : a.Ok w) (hb : b.Ok w) :
    Calls Tryz.prog 13 #[.agg a.cells.toArray, .agg b.cells.toArray] w fun e w' => e = .returned (.bool (decide (a.pk = b.pk))) ∧ Below w.heap.size w w' := by
  have hb1 : Below w.heap.size w (w.alloc (.cells a.cells.toArray 43)) := (Below.refl _ _).alloc (Nat.le_refl _) _
  have r1 := heap_alloc_new w (.cells a.cells.toArray 43)
  have z1 : (w.alloc (.cells a.cells.toArray 43)).heap.size = w.heap.size + 1 := by simp
  have hb2 : Below (w.heap.size + 1) (w.alloc (.cells a.cells.toArray 43)) ((w.alloc (.cells a.cells.toArray 43)).alloc (.cells b.cells.toArray 43)) := (Below.refl _ _).alloc (by omega) _
  have r2 := heap_alloc_new (w.alloc (.cells a.cells.toArray 43)) (.cells b.cells.toArray 43)
  rw [z1] at r2
  have hb12 := hb1.trans (hb2.mono (by omega))
  have r1 := (hb2.block w.heap.size (by omega)).trans r1
  have HA := Lib.hid ha
  have HBK := Lib.hid hb
  clear ha hb hb1 hb2 z1
  go_enter Tryz.func13, Tryz.ntmps13
  go_upto_region 1 with fail
  generalize (w.alloc (.cells a.cells.toArray 43)).alloc (.cells b.cells.toArray 43) = W at *
  have KA := Lib.hid (kat_row r1 HA.out.len)
  have KB := Lib.hid (kat_row r2 HBK.out.len)
  have KOA := Lib.hid (HA.out.later hb12)
  have KOB := Lib.hid (HBK.out.later hb12)
  have LA := Lib.hid HA.out.len
  have LB := Lib.hid HBK.out.len
  have HB := Lib.hid hb12
  have EQ := Lib.hid (pk_eq a b)
  have hq : (Op.equalIn 10000 37 (.agg (u8s a.sum)) (.agg (u8s b.sum))).run Tryz.prog W = .ok (decide (a.sum = b.sum)) W := digest_equal a.sum b.sum LA.out LB.out 9998 W
  have a2 := KA.out.live
  have a3 := KA.out.size
  have a4 := KA.out.lo
  have a5 := KA.out.hi
  have a6 := KA.out.key
  have c2 := KB.out.live
  have c3 := KB.out.size
  have c4 := KB.out.lo
  have c5 := KB.out.hi
  have c6 := KB.out.key
  simp only [Nat.zero_add] at a2 a3 a4 a5 a6 c2 c3 c4 c5 c6
  clear r1 r2 hb12
  by_cases h1 : a.sum = b.sum
  case neg =>
    rw [decide_eq_false h1] at hq
    have HN := Lib.hid (fun h => h1 (EQ.out.1 h).1)
    clear h1
    go_wp2_with (first | (refine wpList_load_mid (by rfl) 37 _ (by rfl) _ 0 (by rfl) (vals a.sum) _ KA.out.sum A25 (by rfl) (by rw [vals_length, LA.out]; exact S25) ?_; rw [vals_toArray]) | (refine wpList_load_mid (by rfl) 37 _ (by rfl) _ 0 (by rfl) (vals b.sum) _ KB.out.sum A25 (by rfl) (by rw [vals_length, LB.out]; exact S25) ?_; rw [vals_toArray]))
    go_ret
    exact ⟨ret_ndec HN.out, HB.out⟩
  rw [decide_eq_true h1] at hq
  have H1 := Lib.hid h1
  clear h1
  by_cases h2 : a.live = b.live
  case neg =>
    have h2b : (a.live == b.live) = false := by simp [h2]
    have HN := Lib.hid (fun h => h2 (EQ.out.1 h).2.1)
    clear h2
    go_wp2_with (first | (refine wpList_load_mid (by rfl) 37 _ (by rfl) _ 0 (by rfl) (vals a.sum) _ KA.out.sum A25 (by rfl) (by rw [vals_length, LA.out]; exact S25) ?_; rw [vals_toArray]) | (refine wpList_load_mid (by rfl) 37 _ (by rfl) _ 0 (by rfl) (vals b.sum) _ KB.out.sum A25 (by rfl) (by rw [vals_length, LB.out]; exact S25) ?_; rw [vals_toArray]))
    go_ret
    exact ⟨ret_ndec HN.out, HB.out⟩
  have h2b : (a.live == b.live) = true := by simp [h2]
  have H2 := Lib.hid h2
  clear h2
  by_cases h3 : a.size = b.size
  case neg =>
    have h3b : (a.size == b.size) = false := by simp [h3]
    have HN := Lib.hid (fun h => h3 (EQ.out.1 h).2.2.1)
    clear h3
    go_wp2_with (first | (refine wpList_load_mid (by rfl) 37 _ (by rfl) _ 0 (by rfl) (vals a.sum) _ KA.out.sum A25 (by rfl) (by rw [vals_length, LA.out]; exact S25) ?_; rw [vals_toArray]) | (refine wpList_load_mid (by rfl) 37 _ (by rfl) _ 0 (by rfl) (vals b.sum) _ KB.out.sum A25 (by rfl) (by rw [vals_length, LB.out]; exact S25) ?_; rw [vals_toArray]))
    go_ret
    exact ⟨ret_ndec HN.out, HB.out⟩
  have h3b : (a.size == b.size) = true := by simp [h3]
  have H3 := Lib.hid h3
  clear h3
  by_cases h4 : a.lo.R = b.lo.R ∧ a.hi.R = b.hi.R
  case neg =>
    have HN := Lib.hid (fun h => h4 (EQ.out.1 h).2.2.2.1)
    have H4 := Lib.hid (decide_eq_false h4)
    clear h4
    go_wp2_with (first | (refine wpList_load_mid (by rfl) 37 _ (by rfl) _ 0 (by rfl) (vals a.sum) _ KA.out.sum A25 (by rfl) (by rw [vals_length, LA.out]; exact S25) ?_; rw [vals_toArray]) | (refine wpList_load_mid (by rfl) 37 _ (by rfl) _ 0 (by rfl) (vals b.sum) _ KB.out.sum A25 (by rfl) (by rw [vals_length, LB.out]; exact S25) ?_; rw [vals_toArray]) | (refine (nbsame_any _ _ _ _ _ _ _ _ _ _ _ _ _ _ _ _ W KOA.out.lo.ints KOA.out.hi.ints KOB.out.lo.ints KOB.out.hi.ints KOA.out.lo.top KOA.out.hi.top).mono ?_; rintro _ w5 ⟨rfl, b5⟩; rw [H4.out]; have HB5 := Lib.hid (HB.out.trans (b5.mono HB.out.size)); clear b5))
    go_ret
    exact ⟨ret_ndec HN.out, HB5.out⟩
  have H4 := Lib.hid (decide_eq_true h4)
  have H4' := Lib.hid h4
  clear h4
  have hall := EQ.out
  have HP := Lib.hid (show decide (a.pk = b.pk) = decide (a.key.R = b.key.R) from by
    rw [Bool.eq_iff_iff, decide_eq_true_iff, decide_eq_true_iff, hall]
    exact ⟨fun h => h.2.2.2.2, fun h => ⟨H1.out, H2.out, H3.out, H4'.out, h⟩⟩)
  clear hall
  go_wp2_with (first | (refine wpList_load_mid (by rfl) 37 _ (by rfl) _ 0 (by rfl) (vals a.sum) _ KA.out.sum A25 (by rfl) (by rw [vals_length, LA.out]; exact S25) ?_; rw [vals_toArray]) | (refine wpList_load_mid (by rfl) 37 _ (by rfl) _ 0 (by rfl) (vals b.sum) _ KB.out.sum A25 (by rfl) (by rw [vals_length, LB.out]; exact S25) ?_; rw [vals_toArray]) | (refine (nbsame_any _ _ _ _ _ _ _ _ _ _ _ _ _ _ _ _ W KOA.out.lo.ints KOA.out.hi.ints KOB.out.lo.ints KOB.out.hi.ints KOA.out.lo.top KOA.out.hi.top).mono ?_; rintro _ w5 ⟨rfl, b5⟩; rw [H4.out]; have e6 := (b5.cell (block_lt_of_cell a6)).trans a6; have f6 := (b5.cell (block_lt_of_cell c6)).trans c6; have HB5 := Lib.hid (HB.out.trans (b5.mono HB.out.size)); have KA5 := Lib.hid (KOA.out.later b5); have KB5 := Lib.hid (KOB.out.later b5); clear b5 a6 c6) | (refine (sleq_any _ _ _ _ _ _ _ _ w5 KA5.out.key.ints KB5.out.key.ints KA5.out.key.top).mono ?_; rintro _ w6 ⟨rfl, j6, rfl⟩))
  rw [HP.out]
  go_ret
  exact ⟨rfl, Below.drewN HB5.out j6⟩
end Go.Proofs.YtfkpgildeddhaaaGreat.Nd

/- node.Empty. -/
namespace Go.Proofs.YtfkpgildeddhaaaGreat.Nd
open Go.RowKit

set_option maxRecDepth 100000 in
set_option maxHeartbeats 2000000 in
theorem nempty_any (a : Kd) (w : World) (ha : a.Ok w) :
    Calls Tryz.prog 15 #[.agg a.cells.toArray] w fun e w' => e = .returned (.bool (decide (a.pk = PK.none))) ∧ Below w.heap.size w w' := by
  have hb1 : Below w.heap.size w (w.alloc (.cells a.cells.toArray 43)) := (Below.refl _ _).alloc (Nat.le_refl _) _
  have r1 := heap_alloc_new w (.cells a.cells.toArray 43)
  obtain ⟨d, hd, hdr⟩ := UKd
  have HA := Lib.hid ha
  have HD := Lib.hid hd
  have HDR := Lib.hid hdr
  clear ha hd hdr
  go_enter Tryz.func15, Tryz.ntmps15
  go_upto_region 1 with fail
  generalize w.alloc (.cells a.cells.toArray 43) = W at *
  have R1 := Lib.hid (range_kd r1)
  have HOK := Lib.hid (HA.out.later hb1)
  have HL := Lib.hid (Kd.cells_length HA.out.len)
  have HB := Lib.hid hb1
  clear r1 hb1
  go_wp2_with (first
    | (refine wpList_load_mid (by rfl) 43 _ (by rfl) _ 0 (by rfl) a.cells d R1.out HD.out HDR.out (by rw [HL.out]; exact SKd) ?_)
    | (refine wpList_build (by rfl) (by rfl) kd0_built ?_)
    | (refine (nsame_any a kd0 W HOK.out (kd0_ok W)).mono ?_; rintro _ w5 ⟨rfl, b5⟩; rw [kd0_pk]))
  go_ret
  exact ⟨rfl, HB.out.trans (b5.mono HB.out.size)⟩
end Go.Proofs.YtfkpgildeddhaaaGreat.Nd

/- A box's corners in memory; a call through a value that is a function. -/
namespace Go.Proofs.YtfkpgildeddhaaaGreat
open Go.RowKit

/-- A box's corners: two slices. -/
def BoxAt (w : World) (B : Nat) (p : Option Addr) (n c : Nat) (q : Option Addr) (m d : Nat) : Prop := w.cell? ⟨B, 0, none⟩ = some (.slice p n c) ∧ w.cell? ⟨B, 1, none⟩ = some (.slice q m d)
theorem enter_side {F : Nat} {fn : Func} {c : Code} (hf : Tryz.prog.funcs[F]? = some fn) (hname : (fn.name == "runtime.NumGoroutine") = false) (hb : fn.body = some c) : ∀ args w, (callFunc F args).run Tryz.prog w = .ok (.enter F args) w := fun args w => by
  have h1 : fn.name ≠ "runtime.NumGoroutine" := by simpa using hname
  simp [callFunc, hf, h1, hb, mark]
theorem boxed (w : World) (v : Value) (t : TypeId) : (w.alloc (.cells #[v] t)).cell? ⟨w.heap.size, 0, none⟩ = some v := cell_of_row _ _ 0 _ t (0, 0) (heap_alloc_new w _)
end Go.Proofs.YtfkpgildeddhaaaGreat

/- box.dimensions; box.each over whatever function of the sides. -/
namespace Go.Proofs.YtfkpgildeddhaaaGreat
open Go.RowKit

set_option maxRecDepth 100000 in
theorem dimensions_any (d : Int) (w : World) :
    Calls Tryz.prog 64 #[.int .i64 d] w fun e w' => e = .returned (.bool (decide (1 ≤ d ∧ d ≤ 8))) ∧ w = w' := by
  by_cases h1 : 1 ≤ d
  · by_cases h2 : d ≤ 8
    · go_enter Tryz.func64, Tryz.ntmps64
      go_wp2_with fail
      go_ret
      exact ⟨ret_dec ⟨h1, h2⟩, rfl⟩
    · go_enter Tryz.func64, Tryz.ntmps64
      go_wp2_with fail
      go_ret
      exact ⟨ret_ndec (by omega), rfl⟩
  · go_enter Tryz.func64, Tryz.ntmps64
    go_wp2_with fail
    go_ret
    exact ⟨congrArg (fun b => Ending.returned (.bool b)) (by rw [decide_eq_false (show ¬ 1 ≤ d by omega)]; rfl), rfl⟩
/-- Whether all of the first so many hold. -/
def alls (f : Nat → Bool) : Nat → Bool
  | 0 => true
  | k + 1 => alls f k && f k
theorem alls_iff (f : Nat → Bool) : ∀ n, alls f n = true ↔ ∀ k, k < n → f k = true
  | 0 => ⟨fun _ k hk => by omega, fun _ => rfl⟩
  | n + 1 => by
    show (alls f n && f n) = true ↔ _
    rw [Bool.and_eq_true, alls_iff f n]
    constructor
    · rintro ⟨h1, h2⟩ k hk
      by_cases hkn : k = n
      · rw [hkn]; exact h2
      · exact h1 k (by omega)
    · intro h
      exact ⟨fun k hk => h k (by omega), h n (by omega)⟩
theorem alls_false {f : Nat → Bool} {k n : Nat} (hk : k < n) (h : f k = false) : alls f n = false := by
  cases e : alls f n with
  | false => rfl
  | true => rw [(alls_iff f n).1 e k hk] at h; cases h
theorem alls_les (R S : List Int) : ∀ n, alls (fun k => decide (R.getD k 0 ≤ S.getD k 0)) n = les R S n
  | 0 => rfl
  | n + 1 => by
    show (alls _ n && _) = (les R S n && _)
    rw [alls_les R S n]
theorem alls_and (f g : Nat → Bool) : ∀ n, alls (fun k => f k && g k) n = (alls f n && alls g n)
  | 0 => rfl
  | n + 1 => by
    show (alls _ n && (f n && g n)) = ((alls f n && f n) && (alls g n && g n))
    rw [alls_and f g n]
    cases alls f n <;> cases alls g n <;> cases f n <;> cases g n <;> rfl
/-- What the function of a side tells, and that it turns nothing. -/
def Asks (w : World) (n : Nat) (f : Nat → Bool) (F : Nat) (cap : Array Value) : Prop :=
  ∀ (k : Nat) (w' : World), k < n → Below w.heap.size w w' → Calls Tryz.prog F (#[.int .i64 k] ++ cap) w' fun e w'' => e = .returned (.bool (f k)) ∧ ∃ j, w'' = w'.drewN j
def EachRel (w : World) (f : Nat → Bool) (n : Nat) (i : Value) (wr : World) : Prop := ∃ k j : Nat, k ≤ n ∧ i = .int .i64 k ∧ alls f k = true ∧ wr = w.drewN j
set_option maxRecDepth 100000 in
set_option maxHeartbeats 1000000 in
theorem each_any (n : Nat) (hn : n < 9223372036854775807) (f : Nat → Bool) (F : Nat) (cap : Array Value) (hF : ∀ args w, (callFunc F args).run Tryz.prog w = .ok (.enter F args) w) (w : World) (hs : Asks w n f F cap) :
    Calls Tryz.prog 65 #[.int .i64 n, .func (.func F) #[] cap] w fun e w' => e = .returned (.bool (alls f n)) ∧ ∃ j, w' = w.drewN j := by
  have HS := Lib.hid hs
  clear hs
  go_enter Tryz.func65, Tryz.ntmps65
  go_wp2_with fail
  go_loopw [7] (fun i wr => EachRel w f n i wr) (fun i _ => n - (intOf i).toNat)
  case atStart => exact ⟨0, 0, by omega, rfl, rfl, rfl⟩
  case round =>
    obtain ⟨k, j, hk, rfl, hal, rfl⟩ := hrel
    have HA := Lib.hid hal
    clear hal
    by_cases hlt : k < n
    · have hc := HS.out k (w.drewN j) hlt (Below.drewN (Below.refl _ _) j)
      cases hfk : f k with
      | false =>
        rw [hfk] at hc
        have HC := Lib.hid hc
        have HX := Lib.hid (alls_false hlt hfk)
        clear hc hfk
        go_wp2_with (refine HC.out.mono ?_; rintro e w'' ⟨rfl, j2, rfl⟩)
        go_ret
        exact ⟨congrArg (fun b => Ending.returned (.bool b)) HX.out.symm, j + j2, rfl⟩
      | true =>
        rw [hfk] at hc
        have HC := Lib.hid hc
        have HX := Lib.hid (show alls f (k + 1) = true by show (alls f k && f k) = true; rw [HA.out, hfk]; rfl)
        clear hc hfk
        go_wp2_with (refine HC.out.mono ?_; rintro e w'' ⟨rfl, j2, rfl⟩)
        go_roundw
        case rel => exact ⟨k + 1, j + j2, by omega, by go_num, HX.out, rfl⟩
        case measure => simp [intOf]; omega
    · obtain rfl : k = n := by omega
      go_wp2_with fail
      go_ret
      exact ⟨congrArg (fun b => Ending.returned (.bool b)) HA.out.symm, j, rfl⟩
set_option maxRecDepth 100000 in
set_option maxHeartbeats 1000000 in
theorem rightside (B : Nat) (p q : Option Addr) (n c m e : Nat) (R S : List Int) (k : Nat) (hk : k < n) (hm : k < m) (w : World) (hB : BoxAt w B p n c q m e) (h : Ints w p n c R) (h2 : Ints w q m e S) :
    Calls Tryz.prog 66 #[.int .i64 k, .pointer (some ⟨B, 0, none⟩)] w fun e w' => e = .returned (.bool (decide (R.getD k 0 ≤ S.getD k 0))) ∧ ∃ j, w' = w.drewN j := by
  obtain ⟨hB0, hB1⟩ := hB
  obtain ⟨g, o, rfl, hc⟩ := h.cell k hk
  obtain ⟨g2, o2, rfl, hc2⟩ := h2.cell k hm
  clear h h2
  generalize R.getD k 0 = x at *
  generalize S.getD k 0 = y at *
  have b1 : (0 : Int) ≤ k ∧ (k : Int) < n := by omega
  have b2 : (0 : Int) ≤ k ∧ (k : Int) < m := by omega
  go_enter Tryz.func66, Tryz.ntmps66
  go_wp2_with fail
  go_quiet (fail)
  go_wp2_with fail
  go_ret
  exact ⟨rfl, _, rfl⟩
set_option maxRecDepth 100000 in
set_option maxHeartbeats 1000000 in
theorem right_any (p q : Option Addr) (n c m e : Nat) (R S : List Int) (d : Int) (w : World) (h : Ints w p n c R) (h2 : Ints w q m e S) :
    Calls Tryz.prog 40 #[.agg #[.slice p n c, .slice q m e], .int .i64 d] w fun e w' => e = .returned (.bool (rightB R S n m d)) ∧ Below w.heap.size w w' := by
  have hb : Below w.heap.size w (w.alloc (.cells #[.slice p n c, .slice q m e] 41)) := (Below.refl _ _).alloc (Nat.le_refl _) _
  obtain ⟨e0, e1⟩ := pair_alloc w (.slice p n c) (.slice q m e) 41
  have H1 := Lib.hid (h.later hb)
  have H2 := Lib.hid (h2.later hb)
  have HB := Lib.hid hb
  clear h h2 hb
  have hD := dimensions_any d
  by_cases hd : 1 ≤ d ∧ d ≤ 8
  case neg =>
    rw [decide_eq_false hd] at hD
    have HD := Lib.hid hD
    rw [rightB_not (by omega)]
    clear hD hd
    go_enter Tryz.func40, Tryz.ntmps40
    go_wp2_with ((go_at_call 64; refine (HD.out _).mono ?_; rintro _ w' ⟨rfl, rfl⟩))
    go_ret
    exact ⟨rfl, HB.out⟩
  rw [decide_eq_true hd] at hD
  have HD := Lib.hid hD
  clear hD
  by_cases hn : (n : Int) = d
  case neg =>
    rw [rightB_not (fun h => hn h.2.2.1)]
    have q1 : ((n : Int) == d) = false := by simpa using hn
    clear hd hn
    go_enter Tryz.func40, Tryz.ntmps40
    go_wp2_with ((go_at_call 64; refine (HD.out _).mono ?_; rintro _ w' ⟨rfl, rfl⟩))
    go_ret
    exact ⟨rfl, HB.out⟩
  subst hn
  by_cases hm : (m : Int) = n
  case neg =>
    rw [rightB_not (fun h => hm h.2.2.2)]
    have q1 : ((m : Int) == n) = false := by simpa using hm
    clear hd hm
    go_enter Tryz.func40, Tryz.ntmps40
    go_wp2_with ((go_at_call 64; refine (HD.out _).mono ?_; rintro _ w' ⟨rfl, rfl⟩))
    go_ret
    exact ⟨rfl, HB.out⟩
  obtain rfl : m = n := by omega
  rw [rightB_les (by omega)]
  have hn8 : m < 9223372036854775807 := by omega
  clear hm hd
  go_enter Tryz.func40, Tryz.ntmps40
  go_upto_region 1 with fail
  have hs0 : w.heap.size < (w.alloc (.cells #[.slice p m c, .slice q m e] 41)).heap.size := by simp
  generalize w.alloc (.cells #[.slice p m c, .slice q m e] 41) = w0 at *
  have HE := Lib.hid (each_any m hn8 (fun k => decide (R.getD k 0 ≤ S.getD k 0)) 66 #[.pointer (some ⟨w.heap.size, 0, none⟩)] (enter_side Tryz.func66 (by kernel_rfl) rfl) w0 (fun k w' hk hb => rightside w.heap.size p q m c m e R S k hk hk w' ⟨(hb.cell (p := ⟨w.heap.size, 0, none⟩) hs0).trans e0, (hb.cell (p := ⟨w.heap.size, 1, none⟩) hs0).trans e1⟩ (H1.out.later hb) (H2.out.later hb)))
  rw [alls_les] at HE
  go_wp2_with (first | (go_at_call 64; refine (HD.out _).mono ?_; rintro _ w' ⟨rfl, rfl⟩) | (go_at_call 65; refine HE.out.mono ?_; rintro _ w' ⟨rfl, j, rfl⟩))
  go_ret
  exact ⟨rfl, Below.drewN HB.out _⟩
end Go.Proofs.YtfkpgildeddhaaaGreat

/- node.KidRight. -/
namespace Go.Proofs.YtfkpgildeddhaaaGreat.Nd
open Go.RowKit

theorem nil_pair (R S : List Int) : (decide (R = []) && decide (S = [])) = decide (R.length + S.length = 0) := by
  rw [Bool.eq_iff_iff, Bool.and_eq_true, decide_eq_true_iff, decide_eq_true_iff, decide_eq_true_iff, ← List.length_eq_zero_iff, ← List.length_eq_zero_iff]
  omega
set_option maxRecDepth 100000 in
set_option maxHeartbeats 2000000 in
theorem nkid_any (a : Kd) (dm : Int) (w : World) (ha : a.Ok w) :
    Calls Tryz.prog 11 #[.agg a.cells.toArray, .int .i64 dm] w fun e w' => e = .returned (.bool (a.pk.right dm)) ∧ Below w.heap.size w w' := by
  have hb1 : Below w.heap.size w (w.alloc (.cells a.cells.toArray 43)) := (Below.refl _ _).alloc (Nat.le_refl _) _
  have r1 := heap_alloc_new w (.cells a.cells.toArray 43)
  obtain ⟨d, hd, hdr⟩ := UKd
  have hp : a.pk.right dm = if a.pk = PK.none then true else if a.size < 1 ∨ 1048576 < a.size ∨ a.live < 0 ∨ a.size < a.live then false else if a.live = 0 then decide (a.lo.R.length + a.hi.R.length = 0) else rightB a.lo.R a.hi.R a.lo.n a.hi.n dm := by
    rw [ha.lo.ints.size, ha.hi.ints.size]
    rfl
  obtain ⟨X, hX⟩ : ∃ X, a.pk.right dm = X := ⟨_, rfl⟩
  rw [hX] at hp
  rw [hX]
  have HX := Lib.hid hp
  have HA := Lib.hid ha
  have HD := Lib.hid hd
  have HDR := Lib.hid hdr
  clear ha hd hdr hp hX
  go_enter Tryz.func11, Tryz.ntmps11
  go_upto_region 1 with fail
  generalize w.alloc (.cells a.cells.toArray 43) = W at *
  have R1 := Lib.hid (range_kd r1)
  have KA := Lib.hid (kat_row r1 HA.out.len)
  have HOK := Lib.hid (HA.out.later hb1)
  have HL := Lib.hid (Kd.cells_length HA.out.len)
  have HB := Lib.hid hb1
  clear r1 hb1
  by_cases h0 : a.pk = PK.none
  · have hx := HX.out
    rw [if_pos h0] at hx
    subst hx
    have H0 := Lib.hid (decide_eq_true h0)
    clear h0
    go_wp2_with (first
      | (refine wpList_load_mid (by rfl) 43 _ (by rfl) _ 0 (by rfl) a.cells d R1.out HD.out HDR.out (by rw [HL.out]; exact SKd) ?_)
      | (refine (nempty_any a W HOK.out).mono ?_; rintro _ w5 ⟨rfl, b5⟩; rw [H0.out]))
    go_ret
    exact ⟨rfl, HB.out.trans (b5.mono HB.out.size)⟩
  have hx := HX.out
  rw [if_neg h0] at hx
  have HX2 := Lib.hid hx
  have H0 := Lib.hid (decide_eq_false h0)
  clear h0 hx HX
  go_upto_region 3 with (first
    | (refine wpList_load_mid (by rfl) 43 _ (by rfl) _ 0 (by rfl) a.cells d R1.out HD.out HDR.out (by rw [HL.out]; exact SKd) ?_)
    | (refine (nempty_any a W HOK.out).mono ?_; rintro _ w5 ⟨rfl, b5⟩; rw [H0.out]; have a2 := (b5.cell (block_lt_of_cell KA.out.live)).trans KA.out.live; have a3 := (b5.cell (block_lt_of_cell KA.out.size)).trans KA.out.size; have a4 := (b5.cell (block_lt_of_cell KA.out.lo)).trans KA.out.lo; have a5 := (b5.cell (block_lt_of_cell KA.out.hi)).trans KA.out.hi; have HB5 := Lib.hid (HB.out.trans (b5.mono HB.out.size)); have HK5 := Lib.hid (HOK.out.later b5); clear b5))
  simp only [Nat.zero_add, Rw.val] at a2 a3 a4 a5
  by_cases h1 : a.size < 1
  · have hx := HX2.out
    rw [if_pos (Or.inl h1)] at hx
    subst hx
    go_wp2_with fail
    go_ret
    exact ⟨rfl, HB5.out⟩
  by_cases h2 : 1048576 < a.size
  · have hx := HX2.out
    rw [if_pos (Or.inr (Or.inl h2))] at hx
    subst hx
    go_wp2_with fail
    go_ret
    exact ⟨rfl, HB5.out⟩
  by_cases h3 : a.live < 0
  · have hx := HX2.out
    rw [if_pos (Or.inr (Or.inr (Or.inl h3)))] at hx
    subst hx
    go_wp2_with fail
    go_ret
    exact ⟨rfl, HB5.out⟩
  by_cases h4 : a.size < a.live
  · have hx := HX2.out
    rw [if_pos (Or.inr (Or.inr (Or.inr h4)))] at hx
    subst hx
    go_wp2_with fail
    go_ret
    exact ⟨rfl, HB5.out⟩
  have hx := HX2.out
  rw [if_neg (by omega)] at hx
  by_cases h5 : a.live = 0
  · have h5b : (a.live == 0) = true := by simp [h5]
    rw [if_pos h5, ← nil_pair] at hx
    have HX5 := Lib.hid hx
    have H5 := Lib.hid h5
    clear h5 hx HX2
    go_wp2_with (refine (nbsame_any _ _ _ _ _ _ _ _ _ _ _ _ a.lo.R a.hi.R [] [] w5 HK5.out.lo.ints HK5.out.hi.ints (ints_nil _ _ _) (ints_nil _ _ _) HK5.out.lo.top HK5.out.hi.top).mono ?_; rintro _ w6 ⟨rfl, b6⟩)
    go_ret
    exact ⟨by rw [HX5.out]; rfl, HB5.out.trans (b6.mono HB5.out.size)⟩
  · have h5b : (a.live == 0) = false := by simp [h5]
    rw [if_neg h5] at hx
    have HX5 := Lib.hid hx
    clear h5 hx HX2
    go_wp2_with (refine (right_any _ _ _ _ _ _ _ _ dm w5 HK5.out.lo.ints HK5.out.hi.ints).mono ?_; rintro _ w6 ⟨rfl, b6⟩)
    go_ret
    exact ⟨by rw [HX5.out]; rfl, HB5.out.trans (b6.mono HB5.out.size)⟩
end Go.Proofs.YtfkpgildeddhaaaGreat.Nd

/- Which nodes may be, over what lies in memory. -/
namespace Go.Proofs.YtfkpgildeddhaaaGreat.Nd
open Go.RowKit

theorem right_def (kind : Nat) (E : List En) (K : List Kd) (d : Int) : (pnOf kind E K).right d =
    if ¬ (1 ≤ d ∧ d ≤ 8) then false
    else if E.all (fun e => e.pe.long d) = false then false
    else if K.all (fun k => k.pk.right d) = false then false
    else if kind = 1 then if E.length = 1 ∧ K.length = 2 then K.all (fun k => k.pk.keyless) else false
    else if kind = 2 then if 0 < E.length ∧ E.length < 5 ∧ K.length = 0 then E.all (fun e => e.live) else false
    else if kind = 3 ∧ E.length = 0 ∧ 1 < K.length ∧ K.length < 5 then K.all (fun k => k.pk.keyed d) else false := by
  unfold PN.right pnOf
  simp only [List.all_map, List.length_map]
  rfl
end Go.Proofs.YtfkpgildeddhaaaGreat.Nd

/- node.each over whatever function; the functions that node.Right hands it. -/
namespace Go.Proofs.YtfkpgildeddhaaaGreat.Nd
open Go.RowKit

/-- What the function of an entry tells, from the world w on. -/
def AskE (w : World) (E : List En) (f : PE → Bool) (F : Nat) (cap : Array Value) : Prop :=
  ∀ (e : En) (w' : World), e ∈ E → e.row.Ok w' → Below w.heap.size w w' → Calls Tryz.prog F (#[.agg #[e.row.val, .bool e.live]] ++ cap) w' fun r w'' => r = .returned (.bool (f e.pe)) ∧ Below w'.heap.size w' w''
def AskK (w : World) (K : List Kd) (f : PK → Bool) (F : Nat) (cap : Array Value) : Prop :=
  ∀ (k : Kd) (w' : World), k ∈ K → k.Ok w' → Below w.heap.size w w' → Calls Tryz.prog F (#[.agg k.cells.toArray] ++ cap) w' fun r w'' => r = .returned (.bool (f k.pk)) ∧ Below w'.heap.size w' w''
theorem allT_map {α β : Type} [Inhabited α] (g : α → β) (f : β → Bool) (L : List α) (k : Nat) (h : k < L.length) : allT f (L.map g) (k + 1) = (allT f (L.map g) k && f (g (L.getD k default))) := by
  unfold allT
  rw [← List.map_take, ← List.map_take, List.take_succ_eq_append_getElem h, List.map_append, List.all_append, List.getD_eq_getElem?_getD, List.getElem?_eq_getElem h]
  simp
theorem all_map_false {α β : Type} [Inhabited α] (g : α → β) (f : β → Bool) (L : List α) (k : Nat) (h : k < L.length) (hf : f (g (L.getD k default)) = false) : (L.map g).all f = false := by
  rw [List.all_eq_false]
  refine ⟨g L[k], List.mem_map.2 ⟨_, List.getElem_mem h, rfl⟩, ?_⟩
  rw [List.getD_eq_getElem?_getD, List.getElem?_eq_getElem h] at hf
  simpa using hf
theorem allT_whole {α β : Type} (g : α → β) (f : β → Bool) (L : List α) : allT f (L.map g) L.length = (L.map g).all f := by
  have := allT_all f (L.map g)
  rwa [List.length_map] at this
def EaRel {α : Type} (w : World) (n : Nat) (f : α → Bool) (L : List α) (i : Value) (wr : World) : Prop := ∃ k : Nat, k ≤ n ∧ i = .int .i64 k ∧ allT f L k = true ∧ Below w.heap.size w wr
theorem UEn0 : (Tryz.prog.underlying 55).map (·.isRow) = some true := by kernel_rfl
theorem UEn : ∃ d, Tryz.prog.underlying 55 = some d ∧ d.isRow = true := by
  have h := UEn0
  revert h
  cases Tryz.prog.underlying 55 with
  | none => intro h; cases h
  | some d => intro h; exact ⟨d, rfl, by simpa using h⟩
theorem SEn : (Tryz.prog.info? 55).map (·.size) = some 2 := by kernel_rfl
set_option maxRecDepth 100000 in
set_option maxHeartbeats 2000000 in
theorem eachE_any (p : Option Addr) (n c : Nat) (E : List En) (f : PE → Bool) (F : Nat) (cap : Array Value) (hF : ∀ args w, (callFunc F args).run Tryz.prog w = .ok (.enter F args) w) (w : World) (hE : EntsIn w p n c E) (hs : AskE w E f F cap) :
    Calls Tryz.prog 57 #[.slice p n c, .func (.func F) #[] cap] w fun e w' => e = .returned (.bool ((E.map En.pe).all f)) ∧ Below w.heap.size w w' := by
  have HS := Lib.hid hs
  have HE := Lib.hid hE
  have HN := Lib.hid hE.size
  have HTOP := Lib.hid hE.top
  clear hs hE
  go_enter Tryz.func57, Tryz.ntmps57
  go_wp2_with fail
  go_loopw [9] (fun i wr => EaRel w n f (E.map En.pe) i wr) (fun i _ => n - (intOf i).toNat)
  case atStart => exact ⟨0, by omega, rfl, rfl, Below.refl _ _⟩
  case round =>
    obtain ⟨k, hk, rfl, hal, hb⟩ := hrel
    have HA := Lib.hid hal
    have HB := Lib.hid hb
    have htop := HTOP.out
    clear hal hb
    by_cases hlt : k < n
    · obtain ⟨g, o, rfl, c1, c2, hok⟩ := (HE.out.later HB.out).get k hlt
      have i1 : (0 : Int) ≤ k ∧ (k : Int) < n := by omega
      have hlen : k < E.length := by rw [← HN.out]; exact hlt
      have HT := Lib.hid (allT_map En.pe f E k hlen)
      have HX := Lib.hid (all_map_false En.pe f E k hlen)
      have hmem := getD_mem E k hlen
      generalize E.getD k default = e at *
      have hb1 : Below wr.heap.size wr (wr.alloc (.cells #[e.row.val, .bool e.live] 55)) := (Below.refl _ _).alloc (Nat.le_refl _) _
      have hc := HS.out e _ hmem (hok.later hb1) (HB.out.trans (hb1.mono HB.out.size))
      have HB1 := Lib.hid (HB.out.trans (hb1.mono HB.out.size))
      simp only [Rw.val] at c1
      unfold Rw.val at hc HB1
      clear hok hmem hb1
      go_upto_region 4 with fail
      obtain ⟨z0, z1⟩ := pair_alloc wr (.slice e.row.p e.row.n e.row.c) (.bool e.live) 55
      generalize wr.alloc (.cells #[.slice e.row.p e.row.n e.row.c, .bool e.live] 55) = w1 at *
      cases hfk : f e.pe with
      | false =>
        rw [hfk] at hc
        have HC := Lib.hid hc
        have HXX := Lib.hid (HX.out hfk)
        clear hc hfk HX HT
        go_wp2_with (refine HC.out.mono ?_; rintro e w'' ⟨rfl, b2⟩)
        go_ret
        exact ⟨congrArg (fun b => Ending.returned (.bool b)) HXX.out.symm, HB1.out.trans (b2.mono HB1.out.size)⟩
      | true =>
        rw [hfk] at hc
        have HC := Lib.hid hc
        have HXX := Lib.hid (show allT f (E.map En.pe) (k + 1) = true by rw [HT.out, HA.out, hfk]; rfl)
        clear hc hfk HX HT
        go_wp2_with (refine HC.out.mono ?_; rintro e w'' ⟨rfl, b2⟩; have HB2 := Lib.hid (HB1.out.trans (b2.mono HB1.out.size)); clear b2)
        go_roundw
        case rel => exact ⟨k + 1, by omega, by go_num, HXX.out, HB2.out⟩
        case measure => simp [intOf]; omega
    · obtain rfl : n = k := by omega
      have HW := Lib.hid (show allT f (E.map En.pe) n = (E.map En.pe).all f from by rw [HN.out]; exact allT_whole En.pe f E)
      go_wp2_with fail
      go_ret
      exact ⟨congrArg (fun b => Ending.returned (.bool b)) (by rw [← HW.out, HA.out]), HB.out⟩
end Go.Proofs.YtfkpgildeddhaaaGreat.Nd

/- node.readEntry. -/
namespace Go.Proofs.YtfkpgildeddhaaaGreat.Nd
open Go.RowKit

/-- An entry that was read. -/
def REnt (w : World) (g : Nat) (R : List Int) (live : Bool) (s : Rd) (e : Ending) (w' : World) : Prop :=
  ∃ r : Rw, e = .returned (.agg #[.slice r.p r.n r.c, .bool live]) ∧ r.R = R ∧ FrRw w' w.heap.size r ∧ RSx w' g s ∧ w.grownBy w' (some g)
set_option maxRecDepth 100000 in
set_option maxHeartbeats 2000000 in
theorem readEnt_any (s : Rd) (g : Nat) (w : World) (hs : RSx w g s) (hl : s.R.length < 1099511627776) :
    Calls Tryz.prog 27 #[.pointer (some ⟨g, 0, none⟩)] w (REnt w g (s.truth.rowV 8) s.truthV (s.entN 8)) := by
  have e5 : s.entN 8 = (s.truth.row 8).2 := rfl
  rw [e5]
  clear e5
  have hok : Sm.allB s.R := by obtain ⟨p, n, c, h⟩ := hs; exact h.tx.ok
  have hg : g < w.heap.size := hs.lt
  have hb1 : Below w.heap.size w (w.alloc (.cells #[.slice none 0 0, .bool false] 55)) := (Below.refl _ _).alloc (Nat.le_refl _) _
  have r1 := heap_alloc_new w (.cells #[.slice none 0 0, .bool false] 55)
  have z1 : (w.alloc (.cells #[.slice none 0 0, .bool false] 55)).heap.size = w.heap.size + 1 := by simp
  go_enter Tryz.func27, Tryz.ntmps27
  go_upto_region 1 with fail
  generalize w.alloc (.cells #[.slice none 0 0, .bool false] 55) = w1 at *
  have hb2 : Below w1.heap.size w1 (w1.alloc (.cells #[.slice none 0 0, .bool false] 55)) := (Below.refl _ _).alloc (Nat.le_refl _) _
  have r2 := heap_alloc_new w1 (.cells #[.slice none 0 0, .bool false] 55)
  rw [z1] at r2
  go_upto_region 2 with fail
  generalize w1.alloc (.cells #[.slice none 0 0, .bool false] 55) = w2 at *
  have hb12 : Below w.heap.size w w2 := hb1.trans (hb2.mono (by omega))
  have R1 := Lib.hid ((hb2.block w.heap.size (by omega)).trans r1)
  have R2 := Lib.hid r2
  have B2 := Lib.hid hb12
  have HT := Lib.hid (ltruth_any s g w2 (hs.later hb12) hl)
  have hto := truth_R hok
  have HTO := Lib.hid hto.1
  have HTL := Lib.hid (Nat.lt_of_le_of_lt hto.2 hl)
  have hri := rowV_in (m := 8) hto.1
  have hrl := rowV_len (m := 8) hto.1
  clear r1 r2 hb1 hb2 hb12 z1 hs hok hto hl
  clear w1
  generalize s.truthV = lv at *
  generalize s.truth = s1 at *
  obtain ⟨gx, hgx⟩ : ∃ gx, gx = w.heap.size := ⟨_, rfl⟩
  rw [← hgx] at R1 R2 hg ⊢
  have HGX := Lib.hid hgx
  clear hgx
  go_upto_region 3 with (go_at_call 51; refine HT.out.mono ?_; rintro e w3 hp; obtain ⟨rfl, h3, k3⟩ := hp; have R13 := Lib.hid ((k3.block gx (Array.getElem?_eq_some_iff.1 R1.out).1 (by simp; omega)).trans R1.out); have R23 := Lib.hid ((k3.block (gx + 1) (Array.getElem?_eq_some_iff.1 R2.out).1 (by simp; omega)).trans R2.out); have c1 := cell_of_row w3 (gx + 1) 1 _ _ _ R23.out; have f1 := frozen_of_row w3 (gx + 1) 1 _ _ R23.out; have H3 := Lib.hid h3; have G3 := Lib.hid (grown_twice (grown_of_below B2.out (some g)) k3); clear h3 k3)
  have r4 := heap_setCell_same w3 (gx + 1) 1 _ _ (.bool lv) R23.out
  have hb4 : Below (gx + 1) w3 (w3.setCell ⟨gx + 1, 1, none⟩ (.bool lv)) := (Below.refl _ _).setCell (p := ⟨gx + 1, 1, none⟩) (Nat.le_refl _) _
  have z4 : (w3.setCell ⟨gx + 1, 1, none⟩ (.bool lv)).heap.size = w3.heap.size := by simp [World.setCell]
  have HR4 := Lib.hid (H3.out.low (hb4.mono (by omega)))
  have R14 := Lib.hid ((hb4.block gx (by omega)).trans R13.out)
  have R24 := Lib.hid r4
  have G4 := Lib.hid (grown_new G3.out (show w.heap.size ≤ gx + 1 by have := HGX.out; omega) hb4 (by omega))
  clear r4 hb4 z4 c1 f1 R13 R23 H3 G3
  generalize w3.setCell ⟨gx + 1, 1, none⟩ (.bool lv) = w4 at *
  have HW := Lib.hid (lrow_any s1 g w4 HR4.out HTL.out)
  have HRI := Lib.hid hri
  have HRL := Lib.hid hrl
  clear hri hrl
  generalize s1.rowV 8 = R at *
  generalize (s1.row 8).2 = s2 at *
  go_upto_region 4 with (go_at_call 52; refine HW.out.mono ?_; rintro e w5 hp; obtain ⟨v5, rfl, o5, h5, k5⟩ := hp; obtain ⟨r5, rfl, hrR, -, hfr⟩ := fr_of_own o5 HRI.out (by have := HRL.out; omega); have HFR := Lib.hid hfr; have HRR := Lib.hid hrR; have R15 := Lib.hid ((k5.block gx (Array.getElem?_eq_some_iff.1 R14.out).1 (by simp; omega)).trans R14.out); have R25 := Lib.hid ((k5.block (gx + 1) (Array.getElem?_eq_some_iff.1 R24.out).1 (by simp; omega)).trans R24.out); have c0 := cell_of_row w5 (gx + 1) 0 _ _ _ R25.out; have f0 := frozen_of_row w5 (gx + 1) 0 _ _ R25.out; have H5 := Lib.hid h5; have G5 := Lib.hid (grown_twice G4.out k5); have Z4 := Lib.hid (show gx + 1 < w4.heap.size from (Array.getElem?_eq_some_iff.1 R24.out).1); clear o5 h5 k5 hfr hrR; unfold Rw.val)
  have r6 := heap_setCell_same w5 (gx + 1) 0 _ _ (.slice r5.p r5.n r5.c) R25.out
  have hb6 : Below (gx + 1) w5 (w5.setCell ⟨gx + 1, 0, none⟩ (.slice r5.p r5.n r5.c)) := (Below.refl _ _).setCell (p := ⟨gx + 1, 0, none⟩) (Nat.le_refl _) _
  have z6 : (w5.setCell ⟨gx + 1, 0, none⟩ (.slice r5.p r5.n r5.c)).heap.size = w5.heap.size := by simp [World.setCell]
  have HR6 := Lib.hid (H5.out.low (hb6.mono (by omega)))
  have R16 := Lib.hid ((hb6.block gx (by omega)).trans R15.out)
  have R26 := Lib.hid r6
  have G6 := Lib.hid (grown_new G5.out (show w.heap.size ≤ gx + 1 by have := HGX.out; omega) hb6 (by omega))
  have F6 := Lib.hid (HFR.out.keep (w' := w5.setCell ⟨gx + 1, 0, none⟩ (.slice r5.p r5.n r5.c)) (fun k hk _ => heap_setCell_other _ _ _ _ (by show k ≠ gx + 1; have := Z4.out; omega)))
  clear r6 hb6 z6 c0 f0 R15 R25 H5 G5 HFR
  generalize w5.setCell ⟨gx + 1, 0, none⟩ (.slice r5.p r5.n r5.c) = w6 at *
  have c0 := cell_of_row w6 (gx + 1) 0 _ _ _ R26.out
  have c1 := cell_of_row w6 (gx + 1) 1 _ _ _ R26.out
  have a0 := cell_of_row w6 gx 0 _ _ _ R16.out
  have a1 := cell_of_row w6 gx 1 _ _ _ R16.out
  have f0 := frozen_of_row w6 gx 0 _ _ R16.out
  have f1 := frozen_of_row w6 gx 1 _ _ R16.out
  obtain ⟨du, hdu, hdr⟩ := UEn
  have HD := Lib.hid hdu
  have HDR := Lib.hid hdr
  clear hdu hdr
  go_wp2_with fail
  have r7 := heap_setCell_same w6 gx 0 _ _ (.slice r5.p r5.n r5.c) R16.out
  have r8 := heap_setCell_same _ gx 1 _ _ (.bool lv) r7
  have hb8 : Below gx w6 ((w6.setCell ⟨gx, 0, none⟩ (.slice r5.p r5.n r5.c)).setCell ⟨gx, 1, none⟩ (.bool lv)) := ((Below.refl _ _).setCell (p := ⟨gx, 0, none⟩) (Nat.le_refl _) _).setCell (p := ⟨gx, 1, none⟩) (Nat.le_refl _) _
  have z8 : ((w6.setCell ⟨gx, 0, none⟩ (.slice r5.p r5.n r5.c)).setCell ⟨gx, 1, none⟩ (.bool lv)).heap.size = w6.heap.size := by simp [World.setCell]
  refine ret_str 2 (by kernel_rfl) gx _ #[.slice r5.p r5.n r5.c, .bool lv] HD.out HDR.out SEn (by rfl) r8 ?_
  refine ⟨r5, rfl, HRR.out, ?_, HR6.out.low (hb8.mono (by omega)), grown_new G6.out (show w.heap.size ≤ gx by have := HGX.out; omega) hb8 (by omega)⟩
  refine (F6.out.keep (fun k hk _ => ?_)).base (by have := Z4.out; have := HGX.out; omega)
  have hne : k ≠ gx := by have := Z4.out; omega
  rw [heap_setCell_other _ _ _ _ (by exact hne), heap_setCell_other _ _ _ _ (by exact hne)]
end Go.Proofs.YtfkpgildeddhaaaGreat.Nd

/- The reference's disk, plainly: what it holds, and what each call makes of it. -/
namespace Go.Proofs.YtfkpgildeddhaaaGreat.Dk
open Go.RowKit

/-- The bytes P laid over L from o on. -/
def over (L : List Nat) (o : Nat) (P : List Nat) : List Nat := L.take o ++ P ++ L.drop (o + P.length)
theorem over_length {L P : List Nat} {o : Nat} (h : o + P.length ≤ L.length) : (over L o P).length = L.length := by
  simp [over]; omega
theorem over_nil (L : List Nat) (o : Nat) : over L o [] = L := by simp [over]
theorem over_ok {L P : List Nat} {o : Nat} (h : Sm.allB L) (k : Sm.allB P) : Sm.allB (over L o P) := fun x hx => by
  simp only [over, List.mem_append] at hx
  rcases hx with (hx | hx) | hx
  · exact h x (List.mem_of_mem_take hx)
  · exact k x hx
  · exact h x (List.mem_of_mem_drop hx)
theorem over_step {L B : List Nat} {o k : Nat} (hk : k < B.length) (ho : o + B.length ≤ L.length) :
    (u8s (over L o (B.take k))).setIfInBounds (o + k) (.int .u8 (B.getD k 0 : Nat)) = u8s (over L o (B.take (k + 1))) := by
  have hlt : o + k < L.length := by omega
  have e1 : over L o (B.take k) = (L.take o ++ B.take k) ++ L[o + k] :: L.drop (o + k + 1) := by
    unfold over
    rw [List.length_take, Nat.min_eq_left (by omega), List.drop_eq_getElem_cons hlt]
  have e2 : over L o (B.take (k + 1)) = (L.take o ++ B.take k) ++ B.getD k 0 :: L.drop (o + k + 1) := by
    unfold over
    rw [List.length_take, Nat.min_eq_left (by omega), List.take_succ_eq_append_getElem hk, List.getD_eq_getElem?_getD, List.getElem?_eq_getElem hk]
    simp only [Option.getD_some, List.append_assoc, List.cons_append, List.nil_append, Nat.add_assoc]
  rw [e1, e2]
  exact u8s_set _ _ _ _ _ (by simp; omega)

/-- What a disk holds: all bytes, how many sectors; is it dead; how many writes are left (-1: no fuse), how much of the last one comes; how many came. -/
structure D where
  L : List Nat
  n : Nat
  dead : Bool
  left : Int
  torn : Nat
  writes : Nat
structure D.ok (s : D) : Prop where
  len : s.L.length = 64 * s.n
  bytes : Sm.allB s.L
  small : s.n ≤ 4096
  torn : s.torn ≤ 64
  left : -1 ≤ s.left ∧ s.left < 9223372036854775808
def D.new (n : Nat) : D := ⟨zeros (64 * n), n, false, -1, 0, 0⟩
theorem D.new_ok {n : Nat} (h : n ≤ 4096) : (D.new n).ok := ⟨by simp [D.new, zeros], zeros_ok _, h, by simp [D.new], by simp [D.new]⟩
def D.fuse (s : D) (k torn : Int) : D := { s with left := if k < 0 then -1 else k, torn := if torn < 0 then 0 else if torn > 64 then 64 else torn.toNat }
theorem D.fuse_ok {s : D} (h : s.ok) {k : Int} (torn : Int) (hk : k < 9223372036854775808) : (s.fuse k torn).ok :=
  ⟨h.len, h.bytes, h.small, by
    simp only [D.fuse]
    split
    · omega
    · split <;> omega, by simp only [D.fuse]; split <;> omega⟩
def D.wake (s : D) : D := { s with dead := false, left := -1 }
theorem D.wake_ok {s : D} (h : s.ok) : s.wake.ok := ⟨h.len, h.bytes, h.small, h.torn, by simp [D.wake]⟩
def D.many (s : D) : Nat := if s.left = 0 then s.torn else 64
/-- The write of a disk that takes it. -/
def D.put (s : D) (i : Nat) (B : List Nat) : D :=
  { s with L := over s.L (64 * i) (B.take s.many), dead := decide (s.left = 0), left := if s.left = 0 then -1 else if s.left > 0 then s.left - 1 else s.left, writes := s.writes + 1 }
def D.no (s : D) (i : Int) (m : Nat) : Nat := if s.dead = true then 30 else if i < 0 ∨ (s.n : Int) ≤ i then 9 else if m ≠ 64 then 1 else 0
def D.write (s : D) (i : Int) (B : List Nat) : D := if s.no i B.length = 0 then s.put i.toNat B else s
def D.says (s : D) (i : Int) (m : Nat) : Nat := if s.no i m = 0 then (if s.left = 0 then 30 else 0) else s.no i m
theorem D.no_zero {s : D} {i : Int} {m : Nat} (h : s.no i m = 0) : s.dead = false ∧ 0 ≤ i ∧ i < s.n ∧ m = 64 := by
  unfold D.no at h
  split at h
  · omega
  · split at h
    · omega
    · split at h
      · omega
      · exact ⟨by simp_all, by omega, by omega, by omega⟩
theorem D.put_ok {s : D} (h : s.ok) {i : Nat} {B : List Nat} (hi : i < s.n) (hB : Sm.allB B) (hl : B.length = 64) : (s.put i B).ok := by
  have ht : s.many ≤ 64 := by
    have := h.torn
    unfold D.many
    split <;> omega
  have hL := h.len
  refine ⟨?_, over_ok h.bytes (fun x hx => hB x (List.mem_of_mem_take hx)), h.small, h.torn, ?_⟩
  · show (over s.L (64 * i) (B.take s.many)).length = 64 * s.n
    rw [over_length (by rw [List.length_take]; omega), hL]
  · have := h.left
    simp only [D.put]
    split
    · omega
    · split <;> omega
theorem D.write_ok {s : D} (h : s.ok) (i : Int) {B : List Nat} (hB : Sm.allB B) : (s.write i B).ok := by
  unfold D.write
  split
  · next h0 =>
    obtain ⟨_, h1, h2, h3⟩ := D.no_zero h0
    exact D.put_ok h (by omega) hB h3
  · exact h

/-- What a call leaves as it was: all blocks but those of P. -/
structure Only (P : Nat → Prop) (w w' : World) : Prop where
  os : w'.os = w.os
  tape : w'.tape = w.tape
  output : w'.output = w.output
  size : w.heap.size ≤ w'.heap.size
  block : ∀ k, k < w.heap.size → ¬ P k → w'.heap[k]? = w.heap[k]?
theorem Only.refl (P : Nat → Prop) (w : World) : Only P w w := ⟨rfl, rfl, rfl, Nat.le_refl _, fun _ _ _ => rfl⟩
theorem Only.trans {P : Nat → Prop} {a b c : World} (h : Only P a b) (k : Only P b c) : Only P a c :=
  ⟨k.os.trans h.os, k.tape.trans h.tape, k.output.trans h.output, Nat.le_trans h.size k.size, fun i hi hp => (k.block i (Nat.lt_of_lt_of_le hi h.size) hp).trans (h.block i hi hp)⟩
theorem Only.mono {P Q : Nat → Prop} {w w' : World} (h : Only P w w') (hq : ∀ k, P k → Q k) : Only Q w w' :=
  ⟨h.os, h.tape, h.output, h.size, fun k hk hn => h.block k hk (fun hp => hn (hq k hp))⟩
theorem Only.of_below (P : Nat → Prop) {w w' : World} (h : Below w.heap.size w w') : Only P w w' := ⟨h.os, h.tape, h.output, h.size, fun k hk _ => h.block k hk⟩
theorem Only.setCell {P : Nat → Prop} (w : World) {a : Addr} (ha : P a.block) (v : Value) : Only P w (w.setCell a v) :=
  ⟨rfl, rfl, rfl, by simp [World.setCell], fun k _ hn => heap_setCell_other _ _ _ _ (fun e => hn (by rw [e]; exact ha))⟩
theorem Only.below {P : Nat → Prop} {w w' : World} {base : Nat} (h : Only P w w') (hs : base ≤ w.heap.size) (hp : ∀ k, P k → base ≤ k) : Below base w w' :=
  ⟨h.os, h.tape, h.output, h.size, fun k hk => h.block k (by omega) (fun e => by have := hp k e; omega)⟩
/-- A text whose block stayed. -/
theorem tx_keep {w w' : World} {p : Option Addr} {n c : Nat} {B : List Nat} (h : Tx w p n c B) (hk : ∀ x, p = some x → B ≠ [] → w'.heap[x.block]? = w.heap[x.block]?) : Tx w' p n c B :=
  ⟨h.size, h.le, h.ok, h.at'.imp id fun ⟨x, hp, hx⟩ => ⟨x, hp, fun j u hu => by
    have h1 := hx j u hu
    have hB : B ≠ [] := by rintro rfl; simp [vals] at hu
    have hb : (x.add j).block = x.block := by cases x; simp [Addr.add]; split <;> rfl
    rw [World.cell?_of_block (w := w) (by rw [hb]; exact hk x hp hB)]
    exact h1⟩, h.sp⟩
end Go.Proofs.YtfkpgildeddhaaaGreat.Dk

/- node.readKid. -/
namespace Go.Proofs.YtfkpgildeddhaaaGreat.Nd
open Go.RowKit Go.Proofs.YtfkpgildeddhaaaGreat.Dk

section
variable {k : Kd} (h : k.sum.length = 32)
include h
theorem kd_set_lo (r : Rw) : k.cells.toArray.setIfInBounds 32 r.val = ({ k with lo := r } : Kd).cells.toArray := by simp [Kd.cells, vals_length, h]
theorem kd_set_hi (r : Rw) : k.cells.toArray.setIfInBounds 33 r.val = ({ k with hi := r } : Kd).cells.toArray := by simp [Kd.cells, vals_length, h]
theorem kd_set_live (x : Int) : k.cells.toArray.setIfInBounds 34 (.int .i64 x) = ({ k with live := x } : Kd).cells.toArray := by simp [Kd.cells, vals_length, h]
theorem kd_set_size (x : Int) : k.cells.toArray.setIfInBounds 35 (.int .i64 x) = ({ k with size := x } : Kd).cells.toArray := by simp [Kd.cells, vals_length, h]
theorem kd_set_key (r : Rw) : k.cells.toArray.setIfInBounds 36 r.val = ({ k with key := r } : Kd).cells.toArray := by simp [Kd.cells, vals_length, h]
end
/-- A kid under way in the block gx + 1, behind the one that is told. -/
structure KdSt (w0 w : World) (gx g : Nat) (k : Kd) (s : Rd) : Prop where
  res : w.heap[gx]? = some (.cells kd0.cells.toArray 43 (0, 0))
  row : w.heap[gx + 1]? = some (.cells k.cells.toArray 43 (0, 0))
  rd : RSx w g s
  gr : w0.grownBy w (some g)
  len : k.sum.length = 32
  at' : w0.heap.size = gx ∧ g < gx
  lo : FrRw w (gx + 2) k.lo
  hi : FrRw w (gx + 2) k.hi
  key : FrRw w (gx + 2) k.key
section
variable {w0 w w' : World} {gx g : Nat} {k k' : Kd} {s s' : Rd}
theorem KdSt.call (h : KdSt w0 w gx g k s) (hr : RSx w' g s') (hg : w.grownBy w' (some g)) : KdSt w0 w' gx g k s' := by
  have h1 := h.at'
  have hk : ∀ j, gx + 2 ≤ j → j < w.heap.size → w'.heap[j]? = w.heap[j]? := fun j hj hl => hg.block j hl (by simp; omega)
  exact ⟨(hg.block gx (Array.getElem?_eq_some_iff.1 h.res).1 (by simp; omega)).trans h.res, (hg.block (gx + 1) (Array.getElem?_eq_some_iff.1 h.row).1 (by simp; omega)).trans h.row, hr, grown_twice h.gr hg, h.len, h1, h.lo.keep hk, h.hi.keep hk, h.key.keep hk⟩
theorem KdSt.put (h : KdSt w0 w gx g k s) (hr : w'.heap[gx + 1]? = some (.cells k'.cells.toArray 43 (0, 0))) (ho : Only (fun j => j = gx + 1) w w') (hl : k'.sum.length = 32) (h1 : FrRw w (gx + 2) k'.lo) (h2 : FrRw w (gx + 2) k'.hi) (h3 : FrRw w (gx + 2) k'.key) : KdSt w0 w' gx g k' s := by
  have ha := h.at'
  have hk : ∀ j, gx + 2 ≤ j → j < w.heap.size → w'.heap[j]? = w.heap[j]? := fun j hj hl => ho.block j hl (by omega)
  have hb : Below (gx + 1) w w' := ho.below (by have := (Array.getElem?_eq_some_iff.1 h.row).1; omega) (fun j hj => by omega)
  exact ⟨(hb.block gx (by omega)).trans h.res, hr, h.rd.low (hb.mono (by omega)), grown_new h.gr (B := gx + 1) (by omega) hb hb.size, hl, ha, h1.keep hk, h2.keep hk, h3.keep hk⟩
theorem KdSt.cell (h : KdSt w0 w gx g k s) : KAt w (gx + 1) 0 k := kat_row h.row h.len
end
theorem only_cells (w : World) (g o : Nat) (vs : List Value) : Only (fun j => j = g) w (w.setCells g o vs) := by
  obtain ⟨h1, h2, h3, h4⟩ := size_setCells g vs o w
  exact ⟨h2, h3, h4, by omega, fun j _ hj => heap_setCells_other g vs o w j hj⟩
theorem kd_there {w : World} {g : Nat} {k : Kd} (h : w.heap[g]? = some (.cells k.cells.toArray 43 (0, 0))) (hl : k.sum.length = 32) : w.there g 0 32 := fun j hj => by
  refine ⟨?_, frozen_of_row w g _ _ _ h⟩
  rw [cell_of_row w g _ _ _ _ h]
  rw [Array.getElem?_eq_getElem (by rw [List.size_toArray, Kd.cells_length hl]; omega)]
  rfl
theorem kd_sum {w : World} {g : Nat} {k : Kd} {D : List Nat} (h : w.heap[g]? = some (.cells k.cells.toArray 43 (0, 0))) (hl : k.sum.length = 32) (hD : D.length = 32) : (w.setCells g 0 (vals D)).heap[g]? = some (.cells ({ k with sum := D } : Kd).cells.toArray 43 (0, 0)) := by
  have := heap_setCells_same g 43 (vals D) [] (vals k.sum) [k.lo.val, k.hi.val, .int .i64 k.live, .int .i64 k.size, k.key.val] w (by simpa [Kd.cells] using h) (by rw [vals_length, vals_length, hl, hD])
  simpa [Kd.cells] using this
/-- A kid that was read. -/
def RKid (w : World) (g : Nat) (k : PK) (s : Rd) (e : Ending) (w' : World) : Prop :=
  ∃ kd : Kd, e = .returned (.agg kd.cells.toArray) ∧ kd.pk = k ∧ kd.Ok w' ∧ FrRw w' w.heap.size kd.lo ∧ FrRw w' w.heap.size kd.hi ∧ FrRw w' w.heap.size kd.key ∧ RSx w' g s ∧ w.grownBy w' (some g)
set_option maxRecDepth 100000 in
set_option maxHeartbeats 4000000 in
theorem readKid_any (s : Rd) (g : Nat) (w : World) (hs : RSx w g s) (hl : s.R.length < 1099511627776) :
    Calls Tryz.prog 28 #[.pointer (some ⟨g, 0, none⟩)] w (RKid w g (s.kidV 8) (s.kidN 8)) := by
  have hok : Sm.allB s.R := by obtain ⟨p, n, c, h⟩ := hs; exact h.tx.ok
  obtain ⟨V, hV⟩ : ∃ V, s.kidV 8 = V := ⟨_, rfl⟩
  obtain ⟨sN, hN⟩ : ∃ t, s.kidN 8 = t := ⟨_, rfl⟩
  rw [hV, hN]
  have hV : (⟨s.digV, s.k3.rowV 8, (s.k4 8).rowV 8, s.k1.countV 1048576, s.k2.countV 1048576, (s.k5 8).rowV 8⟩ : PK) = V := hV
  have hN : ((s.k5 8).row 8).2 = sN := hN
  have h1 := k1_R hok
  have h2 := k2_R hok
  have h3 := k3_R hok
  have h4 := k4_R (m := 8) hok
  have h5 := k5_R (m := 8) hok
  have HC1 := Lib.hid (countV_in (m := 1048576) h1.1 (by omega))
  have HC2 := Lib.hid (countV_in (m := 1048576) h2.1 (by omega))
  have HI3 := Lib.hid (rowV_in (m := 8) h3.1)
  have HI4 := Lib.hid (rowV_in (m := 8) h4.1)
  have HI5 := Lib.hid (rowV_in (m := 8) h5.1)
  have HL3 := Lib.hid (rowV_len (m := 8) h3.1)
  have HL4 := Lib.hid (rowV_len (m := 8) h4.1)
  have HL5 := Lib.hid (rowV_len (m := 8) h5.1)
  have HD1 := Lib.hid (digV_length s)
  have HD2 := Lib.hid (digV_ok hok)
  have HA0 := Lib.hid (fun w1 (h : RSx w1 g s) => ldigest_any s g w1 h hl)
  have HA1 := Lib.hid (fun w1 (h : RSx w1 g s.k1) => rcount_any s.k1 1048576 g w1 h (Nat.lt_of_le_of_lt h1.2 hl))
  have HA2 := Lib.hid (fun w1 (h : RSx w1 g s.k2) => rcount_any s.k2 1048576 g w1 h (Nat.lt_of_le_of_lt h2.2 hl))
  have HA3 := Lib.hid (fun w1 (h : RSx w1 g s.k3) => lrow_any s.k3 g w1 h (Nat.lt_of_le_of_lt h3.2 hl))
  have HA4 := Lib.hid (fun w1 (h : RSx w1 g (s.k4 8)) => lrow_any (s.k4 8) g w1 h (Nat.lt_of_le_of_lt h4.2 hl))
  have HA5 := Lib.hid (fun w1 (h : RSx w1 g (s.k5 8)) => lrow_any (s.k5 8) g w1 h (Nat.lt_of_le_of_lt h5.2 hl))
  rw [show s.past 32 = s.k1 from rfl] at HA0
  rw [show s.k1.count 1048576 = s.k2 from rfl] at HA1
  rw [show s.k2.count 1048576 = s.k3 from rfl] at HA2
  rw [show (s.k3.row 8).2 = s.k4 8 from rfl] at HA3
  rw [show ((s.k4 8).row 8).2 = s.k5 8 from rfl] at HA4
  rw [hN] at HA5
  clear h1 h2 h3 h4 h5 hN hok
  generalize s.digV = D at *
  generalize s.k1.countV 1048576 = cl at *
  generalize s.k2.countV 1048576 = cz at *
  generalize s.k3.rowV 8 = A3 at *
  generalize (s.k4 8).rowV 8 = A4 at *
  generalize (s.k5 8).rowV 8 = A5 at *
  generalize s.k1 = s1 at *
  generalize s.k2 = s2 at *
  generalize s.k3 = s3 at *
  generalize s.k4 8 = s4 at *
  generalize s.k5 8 = s5 at *
  have HV := Lib.hid hV
  clear hV
  have hz := (zero_of_info kz).1
  have hg : g < w.heap.size := hs.lt
  have hb1 : Below w.heap.size w (w.alloc (.cells kd0.cells.toArray 43)) := (Below.refl _ _).alloc (Nat.le_refl _) _
  have r1 := heap_alloc_new w (.cells kd0.cells.toArray 43)
  have z1 : (w.alloc (.cells kd0.cells.toArray 43)).heap.size = w.heap.size + 1 := by simp
  go_enter Tryz.func28, Tryz.ntmps28
  go_upto_region 1 with fail
  generalize w.alloc (.cells kd0.cells.toArray 43) = w1 at *
  have hb2 : Below w1.heap.size w1 (w1.alloc (.cells kd0.cells.toArray 43)) := (Below.refl _ _).alloc (Nat.le_refl _) _
  have r2 := heap_alloc_new w1 (.cells kd0.cells.toArray 43)
  rw [z1] at r2
  go_upto_region 2 with fail
  generalize w1.alloc (.cells kd0.cells.toArray 43) = w2 at *
  have hb12 : Below w.heap.size w w2 := hb1.trans (hb2.mono (by omega))
  obtain ⟨gx, hgx⟩ : ∃ gx, gx = w.heap.size := ⟨_, rfl⟩
  have H2 := Lib.hid (show KdSt w w2 gx g kd0 s from by
    rw [hgx]
    exact ⟨(hb2.block w.heap.size (by omega)).trans r1, r2, hs.later hb12, grown_of_below hb12 _, by simp [kd0, zeros], ⟨rfl, hg⟩, fr_none _ _, fr_none _ _, fr_none _ _⟩)
  have HGX := Lib.hid hgx
  rw [← hgx]
  clear hb1 r1 z1 hb2 r2 hb12 hs hl hg hgx hz
  clear w1
  have A0 := Lib.hid (HA0.out w2 H2.out.rd)
  go_upto_region 3 with (first
    | (go_at_call 53; refine A0.out.mono ?_; rintro e w3 ⟨rfl, h3, k3⟩; have H3 := Lib.hid (H2.out.call h3 k3); clear h3 k3)
    | (refine wpList_store_mid (by rfl) 37 _ _ (by rfl) (gx + 1) 0 (u8s D) (by rfl) (by rfl) (by rw [u8s_size, HD1.out]; exact kd_there H3.out.row H3.out.len) (by rw [u8s_size, HD1.out]; exact S25) (u8s_one _) ?_))
  have r4 := kd_sum (D := D) H3.out.row H3.out.len HD1.out
  have H4 := Lib.hid (H3.out.put (k' := { kd0 with sum := D }) r4 (only_cells _ _ _ _) HD1.out (fr_none _ _) (fr_none _ _) (fr_none _ _))
  clear r4 H3 A0 H2
  rw [show (u8s D).toList = vals D from rfl]
  generalize w3.setCells (gx + 1) 0 (vals D) = w4 at *
  have A0 := Lib.hid (HA1.out w4 H4.out.rd)
  go_upto_region 4 with (go_at_call 54; refine A0.out.mono ?_; rintro e w5 ⟨rfl, h3, k3⟩; have H5 := Lib.hid (H4.out.call h3 k3); have c9 := H5.out.cell.live; rw [Nat.zero_add] at c9; have f9 := frozen_of_row w5 (gx + 1) 34 _ _ H5.out.row; clear h3 k3)
  have r4 := heap_setCell_same w5 (gx + 1) 34 _ _ (.int .i64 cl) H5.out.row
  rw [kd_set_live H5.out.len] at r4
  have H6 := Lib.hid (H5.out.put r4 (Only.setCell (P := fun j => j = gx + 1) _ (a := ⟨gx + 1, 34, none⟩) rfl _) H5.out.len H5.out.lo H5.out.hi H5.out.key)
  clear r4 c9 f9 A0 H5 H4
  generalize w5.setCell ⟨gx + 1, 34, none⟩ (.int .i64 cl) = w6 at *
  have A0 := Lib.hid (HA2.out w6 H6.out.rd)
  go_upto_region 5 with (go_at_call 54; refine A0.out.mono ?_; rintro e w7 ⟨rfl, h3, k3⟩; have H7 := Lib.hid (H6.out.call h3 k3); have c9 := H7.out.cell.size; rw [Nat.zero_add] at c9; have f9 := frozen_of_row w7 (gx + 1) 35 _ _ H7.out.row; clear h3 k3)
  have r4 := heap_setCell_same w7 (gx + 1) 35 _ _ (.int .i64 cz) H7.out.row
  rw [kd_set_size H7.out.len] at r4
  have H8 := Lib.hid (H7.out.put r4 (Only.setCell (P := fun j => j = gx + 1) _ (a := ⟨gx + 1, 35, none⟩) rfl _) H7.out.len H7.out.lo H7.out.hi H7.out.key)
  clear r4 c9 f9 A0 H7 H6
  generalize w7.setCell ⟨gx + 1, 35, none⟩ (.int .i64 cz) = w8 at *
  have A0 := Lib.hid (HA3.out w8 H8.out.rd)
  go_upto_region 6 with (go_at_call 52; refine A0.out.mono ?_; rintro e w9 ⟨v9, rfl, o9, h3, k3⟩; obtain ⟨q3, rfl, hr9, -, hf9⟩ := fr_of_own o9 HI3.out (by have := HL3.out; omega); have FR3 := Lib.hid hf9; have RR3 := Lib.hid hr9; have Z3 := Lib.hid (show gx + 2 ≤ w8.heap.size from (Array.getElem?_eq_some_iff.1 H8.out.row).1); have H9 := Lib.hid (H8.out.call h3 k3); have c9 := H9.out.cell.lo; rw [Nat.zero_add] at c9; have f9 := frozen_of_row w9 (gx + 1) 32 _ _ H9.out.row; clear h3 k3 o9 hf9 hr9; unfold Rw.val at c9; unfold Rw.val)
  have r4 := heap_setCell_same w9 (gx + 1) 32 _ _ q3.val H9.out.row
  rw [kd_set_lo H9.out.len] at r4
  have H10 := Lib.hid (H9.out.put r4 (Only.setCell (P := fun j => j = gx + 1) _ (a := ⟨gx + 1, 32, none⟩) rfl _) H9.out.len (FR3.out.base Z3.out) H9.out.hi H9.out.key)
  clear r4 c9 f9 A0 H9 H8 FR3 Z3
  unfold Rw.val at H10
  generalize w9.setCell ⟨gx + 1, 32, none⟩ (.slice q3.p q3.n q3.c) = w10 at *
  have A0 := Lib.hid (HA4.out w10 H10.out.rd)
  go_upto_region 7 with (go_at_call 52; refine A0.out.mono ?_; rintro e w11 ⟨v9, rfl, o9, h3, k3⟩; obtain ⟨q4, rfl, hr9, -, hf9⟩ := fr_of_own o9 HI4.out (by have := HL4.out; omega); have FR4 := Lib.hid hf9; have RR4 := Lib.hid hr9; have Z4 := Lib.hid (show gx + 2 ≤ w10.heap.size from (Array.getElem?_eq_some_iff.1 H10.out.row).1); have H11 := Lib.hid (H10.out.call h3 k3); have c9 := H11.out.cell.hi; rw [Nat.zero_add] at c9; have f9 := frozen_of_row w11 (gx + 1) 33 _ _ H11.out.row; clear h3 k3 o9 hf9 hr9; unfold Rw.val at c9; unfold Rw.val)
  have r4 := heap_setCell_same w11 (gx + 1) 33 _ _ q4.val H11.out.row
  rw [kd_set_hi H11.out.len] at r4
  have H12 := Lib.hid (H11.out.put r4 (Only.setCell (P := fun j => j = gx + 1) _ (a := ⟨gx + 1, 33, none⟩) rfl _) H11.out.len H11.out.lo (FR4.out.base Z4.out) H11.out.key)
  clear r4 c9 f9 A0 H11 H10 FR4 Z4
  unfold Rw.val at H12
  generalize w11.setCell ⟨gx + 1, 33, none⟩ (.slice q4.p q4.n q4.c) = w12 at *
  have A0 := Lib.hid (HA5.out w12 H12.out.rd)
  go_upto_region 8 with (go_at_call 52; refine A0.out.mono ?_; rintro e w13 ⟨v9, rfl, o9, h3, k3⟩; obtain ⟨q5, rfl, hr9, -, hf9⟩ := fr_of_own o9 HI5.out (by have := HL5.out; omega); have FR5 := Lib.hid hf9; have RR5 := Lib.hid hr9; have Z5 := Lib.hid (show gx + 2 ≤ w12.heap.size from (Array.getElem?_eq_some_iff.1 H12.out.row).1); have H13 := Lib.hid (H12.out.call h3 k3); have c9 := H13.out.cell.key; rw [Nat.zero_add] at c9; have f9 := frozen_of_row w13 (gx + 1) 36 _ _ H13.out.row; clear h3 k3 o9 hf9 hr9; unfold Rw.val at c9; unfold Rw.val)
  have r4 := heap_setCell_same w13 (gx + 1) 36 _ _ q5.val H13.out.row
  rw [kd_set_key H13.out.len] at r4
  have H14 := Lib.hid (H13.out.put r4 (Only.setCell (P := fun j => j = gx + 1) _ (a := ⟨gx + 1, 36, none⟩) rfl _) H13.out.len H13.out.lo H13.out.hi (FR5.out.base Z5.out))
  clear r4 c9 f9 A0 H13 H12 FR5 Z5
  unfold Rw.val at H14
  generalize w13.setCell ⟨gx + 1, 36, none⟩ (.slice q5.p q5.n q5.c) = w14 at *
  have HF := Lib.hid (show KdSt w w14 gx g (⟨D, q3, q4, cl, cz, q5⟩ : Kd) sN from H14.out)
  clear H14
  obtain ⟨kd, hkd⟩ : ∃ kd : Kd, (⟨D, q3, q4, cl, cz, q5⟩ : Kd) = kd := ⟨_, rfl⟩
  have HPK := Lib.hid (show kd.pk = V from by rw [← hkd, ← HV.out, ← RR3.out, ← RR4.out, ← RR5.out]; rfl)
  have HIN := Lib.hid (show In64 kd.live ∧ In64 kd.size ∧ Sm.allB kd.sum from by rw [← hkd]; exact ⟨⟨by have := HC1.out; show -9223372036854775808 ≤ cl; omega, by have := HC1.out; show cl ≤ 9223372036854775807; omega⟩, ⟨by have := HC2.out; show -9223372036854775808 ≤ cz; omega, by have := HC2.out; show cz ≤ 9223372036854775807; omega⟩, HD2.out⟩)
  rw [hkd] at HF
  clear hkd
  obtain ⟨du, hdu, hdr⟩ := UKd
  have HD := Lib.hid hdu
  have HDR := Lib.hid hdr
  have HCL := Lib.hid (Kd.cells_length HF.out.len)
  have HRR := Lib.hid (range_kd HF.out.row)
  clear hdu hdr
  go_wp2_with (first
    | (refine wpList_load_mid (by rfl) 43 _ (by rfl) _ 0 (by rfl) kd.cells du HRR.out HD.out HDR.out (by rw [HCL.out]; exact SKd) ?_)
    | (refine wpList_store_row (by rfl) 43 _ _ (by rfl) gx kd.cells.toArray (by rfl) (by rfl) _ _ HF.out.res (by rw [List.size_toArray, HCL.out]; exact SKd) (by simp only [List.size_toArray, HCL.out, kd0_size]) (all_oneCell_toArray Kd.one) ?_))
  have r9 := setRow_heap _ gx _ kd.cells.toArray _ _ HF.out.res
  have hb9 : Below gx w14 (w14.setRow gx kd.cells.toArray) := Below.setRow (Below.refl _ _) (Nat.le_refl _) _
  have hfr : ∀ r : Rw, FrRw w14 (gx + 2) r → FrRw (w14.setRow gx kd.cells.toArray) w.heap.size r := fun r h => (h.keep (fun j hj _ => setRow_other _ _ _ _ (by omega))).base (by have := HGX.out; omega)
  have f1 := hfr _ HF.out.lo
  have f2 := hfr _ HF.out.hi
  have f3 := hfr _ HF.out.key
  refine ret_str 2 (by kernel_rfl) gx _ _ HD.out HDR.out (by rw [List.size_toArray, HCL.out]; exact SKd) (by rfl) r9 ⟨kd, rfl, HPK.out, ⟨HF.out.len, HIN.out.2.2, f1.ok, f2.ok, f3.ok, HIN.out.1, HIN.out.2.1⟩, f1, f2, f3, HF.out.rd.low (hb9.mono (by have := HF.out.at'; omega)), grown_new HF.out.gr (show w.heap.size ≤ gx by have := HGX.out; omega) hb9 hb9.size⟩
end Go.Proofs.YtfkpgildeddhaaaGreat.Nd

/- node.each over kids; what the functions that node.Right hands it tell. -/
namespace Go.Proofs.YtfkpgildeddhaaaGreat.Nd
open Go.RowKit

set_option maxRecDepth 100000 in
set_option maxHeartbeats 2000000 in
theorem eachK_any (p : Option Addr) (n c : Nat) (K : List Kd) (f : PK → Bool) (F : Nat) (cap : Array Value) (hF : ∀ args w, (callFunc F args).run Tryz.prog w = .ok (.enter F args) w) (w : World) (hK : KidsIn w p n c K) (hs : AskK w K f F cap) :
    Calls Tryz.prog 59 #[.slice p n c, .func (.func F) #[] cap] w fun e w' => e = .returned (.bool ((K.map Kd.pk).all f)) ∧ Below w.heap.size w w' := by
  have HS := Lib.hid hs
  have HK := Lib.hid hK
  have HN := Lib.hid hK.size
  have HTOP := Lib.hid hK.top
  obtain ⟨du, hdu, hdr⟩ := UKd
  have HD := Lib.hid hdu
  have HDR := Lib.hid hdr
  have HZ := Lib.hid (zero_of_info kz)
  clear hs hK hdu hdr
  go_enter Tryz.func59, Tryz.ntmps59
  go_wp2_with fail
  go_loopw [9] (fun i wr => EaRel w n f (K.map Kd.pk) i wr) (fun i _ => n - (intOf i).toNat)
  case atStart => exact ⟨0, by omega, rfl, rfl, Below.refl _ _⟩
  case round =>
    obtain ⟨k, hk, rfl, hal, hb⟩ := hrel
    have HA := Lib.hid hal
    have HB := Lib.hid hb
    have htop := HTOP.out
    clear hal hb
    by_cases hlt : k < n
    · obtain ⟨g, o, rfl, hrg, hok⟩ := (HK.out.later HB.out).get k hlt
      have i1 : (0 : Int) ≤ k ∧ (k : Int) < n := by omega
      have hlen : k < K.length := by rw [← HN.out]; exact hlt
      have HT := Lib.hid (allT_map Kd.pk f K k hlen)
      have HX := Lib.hid (all_map_false Kd.pk f K k hlen)
      have hmem := getD_mem K k hlen
      generalize K.getD k default = e at *
      have hb1 : Below wr.heap.size wr (wr.alloc (.cells e.cells.toArray 43)) := (Below.refl _ _).alloc (Nat.le_refl _) _
      have hc := HS.out e _ hmem (hok.later hb1) (HB.out.trans (hb1.mono HB.out.size))
      have HB1 := Lib.hid (HB.out.trans (hb1.mono HB.out.size))
      have HR := Lib.hid hrg
      have HCL := Lib.hid (Kd.cells_length hok.len)
      have HC0 := Lib.hid hc
      have hz0 := HZ.out.1
      clear hok hmem hb1 hrg hc
      go_upto_region 4 with (first
        | (refine wpList_load_mid (by rfl) 43 _ (by rfl) g (o + k * 37) (by rfl) e.cells du HR.out HD.out HDR.out (by rw [HCL.out]; exact SKd) ?_)
        | (refine wpList_store_row (by rfl) 43 (.tmp 6) (.tmp 12) (by rfl) wr.heap.size e.cells.toArray (by rfl) (by rfl) _ _ (heap_alloc_new wr _) (by rw [List.size_toArray, HCL.out]; exact SKd) (by simp only [List.size_toArray, HCL.out, kd0_size]) (all_oneCell_toArray Kd.one) ?_; rw [setRow_alloc]))
      have HRR := Lib.hid (range_kd (heap_alloc_new wr (.cells e.cells.toArray 43)))
      have hc := HC0.out
      generalize wr.alloc (.cells e.cells.toArray 43) = w1 at *
      clear hz0 HC0
      cases hfk : f e.pk with
      | false =>
        rw [hfk] at hc
        have HC := Lib.hid hc
        have HXX := Lib.hid (HX.out hfk)
        clear hc hfk HX HT
        go_wp2_with (first
          | (refine wpList_load_mid (by rfl) 43 _ (by rfl) _ 0 (by rfl) e.cells du HRR.out HD.out HDR.out (by rw [HCL.out]; exact SKd) ?_)
          | (refine HC.out.mono ?_; rintro e w'' ⟨rfl, b2⟩))
        go_ret
        exact ⟨congrArg (fun b => Ending.returned (.bool b)) HXX.out.symm, HB1.out.trans (b2.mono HB1.out.size)⟩
      | true =>
        rw [hfk] at hc
        have HC := Lib.hid hc
        have HXX := Lib.hid (show allT f (K.map Kd.pk) (k + 1) = true by rw [HT.out, HA.out, hfk]; rfl)
        clear hc hfk HX HT
        go_wp2_with (first
          | (refine wpList_load_mid (by rfl) 43 _ (by rfl) _ 0 (by rfl) e.cells du HRR.out HD.out HDR.out (by rw [HCL.out]; exact SKd) ?_)
          | (refine HC.out.mono ?_; rintro e w'' ⟨rfl, b2⟩; have HB2 := Lib.hid (HB1.out.trans (b2.mono HB1.out.size)); clear b2))
        go_roundw
        case rel => exact ⟨k + 1, by omega, by go_num, HXX.out, HB2.out⟩
        case measure => simp [intOf]; omega
    · obtain rfl : n = k := by omega
      have HW := Lib.hid (show allT f (K.map Kd.pk) n = (K.map Kd.pk).all f from by rw [HN.out]; exact allT_whole Kd.pk f K)
      go_wp2_with fail
      go_ret
      exact ⟨congrArg (fun b => Ending.returned (.bool b)) (by rw [← HW.out, HA.out]), HB.out⟩
end Go.Proofs.YtfkpgildeddhaaaGreat.Nd
