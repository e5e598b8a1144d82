/- Gen0, Gen, GenRow, GenTx, WlOut, GenDg, WpConcat, CodMath, ShaMath, ShaPreMath, ShaSumOk, WlMath, WlNeed, WpNeed, CodW, CodClone. -/
import Derived.Laws.BitsAllLaws
import Derived.Test.YtlkeobohcfbgcaaProg
import Derived.WalkKit
import Derived.WalkSpells
import Derived.WalkLawsBesides
import Derived.BigQuiet
import Derived.Deep.QuietTactic
import Derived.Lib.Hide
import Derived.StillTailTactics
import Derived.Deep.WholeRow
import Derived.Deep.MidRow
import Derived.Deep.RegionHeld3
import Derived.Deep.RegionLaw
import Derived.Deep.AppendLies
import Derived.Laws.AppendOwnNone
import Derived.ChangeKeysEq
import Derived.Lib.SlBytesConst
import Derived.Maps.AppendAt
import Derived.Deep.DeepMust
import Derived.Deep.DeepCutAuto
import Derived.Test.YtlkeobohcfbgcaaRows
import Derived.ProofKit
import Derived.OpenShut
import Derived.ShutString
import Derived.ChangeOld
import Derived.Deep.Matrix
import Derived.Lib.AppendZeros
import Derived.Lib.MinMax
/- Plain lemmas on lists of natural numbers: bytes. No program is named here. -/
namespace Go.Proofs.Ytlkeobohcfbgcaa.Sm
def allB (l : List Nat) : Prop := ∀ x ∈ l, x < 256
theorem getD_lt {l : List Nat} {m : Nat} (h : ∀ x ∈ l, x < m) (hm : 0 < m) (i : Nat) : l.getD i 0 < m := by
  rw [List.getD_eq_getElem?_getD]
  cases hh : l[i]? with
  | none => simpa using hm
  | some x => simpa using h x (List.mem_of_getElem? hh)
theorem allB_drop {l : List Nat} (h : allB l) (n : Nat) : allB (l.drop n) := fun x hx => h x (List.mem_of_mem_drop hx)
theorem getD_take (B : List Nat) (n i : Nat) (h : i < n) : (B.take n).getD i 0 = B.getD i 0 := by
  simp [List.getD_eq_getElem?_getD, List.getElem?_take_of_lt h]
theorem getD_drop (B : List Nat) (n i : Nat) : (B.drop n).getD i 0 = B.getD (n + i) 0 := by
  simp [List.getD_eq_getElem?_getD]
theorem getD_app_left (A B : List Nat) (i : Nat) (h : i < A.length) : (A ++ B).getD i 0 = A.getD i 0 := by
  rw [List.getD_eq_getElem?_getD, List.getD_eq_getElem?_getD, List.getElem?_append_left h]
theorem getD_app_right (A B : List Nat) (i : Nat) : (A ++ B).getD (A.length + i) 0 = B.getD i 0 := by
  rw [List.getD_eq_getElem?_getD, List.getD_eq_getElem?_getD, List.getElem?_append_right (by omega), Nat.add_sub_cancel_left]
end Go.Proofs.Ytlkeobohcfbgcaa.Sm

/- Bytes in memory: slices that read as bytes, rows that a call owns, texts, strings of bytes, digests compared. -/
namespace Go.Proofs.Ytlkeobohcfbgcaa
open Go.RowKit

def u8s (l : List Nat) : Array Value := (l.map fun x => Value.int .u8 (x : Nat)).toArray
/-- What lies whole in the block of the result is what is told. -/
theorem ret_row {fn : Func} {P : Ending → World → Prop} (p : Tmp) {ty : TypeId} (hr : fn.results = #[.cell p ty]) {tmps : Array Value} {w : World} (g : Nat) (t : TypeId) (cs : Array Value) {n : Nat} {e : TypeId}
    (hu : Try.prog.underlying ty = some (.array n e)) (hi : (Try.prog.info? ty).map (·.size) = some n)
    (hp : tmps.getD p undef = .pointer (some ⟨g, 0, none⟩)) (hg : w.heap[g]? = some (.cells cs t (0, 0)))
    (hn : cs.size = n) (h : P (.returned (.agg cs)) w) : bodyPost Try.prog fn P .ret ⟨tmps, []⟩ w :=
  bodyPost_ret (a := ⟨tmps, []⟩) (v := .agg cs) (results_cell_row hr tmps w g t cs (0, 0) (.array n e) hp hg hu rfl (by rw [hn]; exact hi)) rfl h
theorem setRow_alloc (w : World) (old cs : Array Value) (t : TypeId) : (w.alloc (.cells old t (0, 0))).setRow w.heap.size cs = w.alloc (.cells cs t (0, 0)) := by
  unfold World.setRow World.alloc
  congr 1
  apply Array.ext
  · simp
  · intro k h1 h2
    simp only [Array.getElem_modify, Array.getElem_push]
    by_cases hk : k = w.heap.size
    · subst hk; simp
    · have : k < w.heap.size := by simp at h1; omega
      simp [this, Ne.symm hk]
/-- All the world's blocks are as they were. -/
structure SameHeap (w w' : World) : Prop where
  below : Below w.heap.size w w'
  heap : w'.heap = w.heap
theorem SameHeap.refl (w : World) : SameHeap w w := ⟨Below.refl _ _, rfl⟩
theorem SameHeap.drewN {a w : World} (h : SameHeap a w) (n : Nat) : SameHeap a (w.drewN n) := by
  induction n with
  | zero => exact h
  | succ n ih => exact ⟨ih.below.drew, ih.heap⟩
theorem SameHeap.cell {a w : World} (h : SameHeap a w) (p : Addr) : w.cell? p = a.cell? p := by simp only [World.cell?, h.heap]
theorem SameHeap.frozen {a w : World} (h : SameHeap a w) (p : Addr) : w.frozen? p = a.frozen? p := by simp only [World.frozen?, h.heap]
theorem Below.setRow {B : Nat} {a w : World} (h : Below B a w) {g : Nat} (hg : B ≤ g) (cs : Array Value) : Below B a (w.setRow g cs) :=
  h.trans ⟨rfl, rfl, rfl, by simp, fun k hk => setRow_other _ _ _ _ (by omega)⟩
/-- From an address on lie these bytes. -/
def bytesAt (w : World) (g o : Nat) (B : List Nat) : Prop := ∀ i, i < B.length → w.cell? ⟨g, o + i, none⟩ = some (.int .u8 (B.getD i 0 : Nat))
def zeros (n : Nat) : List Nat := List.replicate n 0
theorem zeros_succ {n : Nat} (h : 0 < n) : zeros n = 0 :: zeros (n - 1) := by
  cases n with
  | zero => omega
  | succ n => rfl
theorem getD_left {l : List Nat} (r : List Nat) (i : Nat) (h : i < l.length) : (l ++ r).getD i 0 = l.getD i 0 := by
  rw [List.getD_eq_getElem?_getD, List.getD_eq_getElem?_getD, List.getElem?_append_left h]
/-- A slice that reads as these bytes. -/
structure Bytes (w : World) (p : Option Addr) (len cap : Nat) (B : List Nat) : Prop where
  size : len = B.length
  le : len ≤ cap
  ok : Sm.allB B
  at' : cap = 0 ∨ ∃ g o, p = some ⟨g, o, none⟩ ∧ bytesAt w g o B
theorem Bytes.ne {w : World} {p : Option Addr} {len cap : Nat} {B : List Nat} (h : Bytes w p len cap B) (hn : B ≠ []) : ∃ g o, p = some ⟨g, o, none⟩ ∧ bytesAt w g o B := by
  rcases h.at' with hc | h1
  · have := h.size
    have := h.le
    exact absurd (List.length_eq_zero_iff.1 (by omega)) hn
  · exact h1
theorem Bytes.later {w w' : World} {p : Option Addr} {len cap : Nat} {B : List Nat} (h : Bytes w p len cap B) {H : Nat} (hb : Below H w w') (hH : ∀ g o, p = some ⟨g, o, none⟩ → B ≠ [] → g < H) : Bytes w' p len cap B :=
  ⟨h.size, h.le, h.ok, h.at'.imp id fun ⟨g, o, hp, hx⟩ => ⟨g, o, hp, fun i hi => (hb.cell (p := ⟨g, o + i, none⟩) (hH g o hp (by intro e; rw [e] at hi; simp at hi))).trans (hx i hi)⟩⟩
theorem Bytes.lt {w : World} {p : Option Addr} {len cap : Nat} {B : List Nat} (h : Bytes w p len cap B) : ∀ g o, p = some ⟨g, o, none⟩ → B ≠ [] → g < w.heap.size := fun g o hp hn => by
  obtain ⟨g', o', hp', hx⟩ := h.ne hn
  rw [hp] at hp'
  obtain ⟨rfl, rfl⟩ : g = g' ∧ o = o' := by simpa using hp'
  exact block_lt_of_cell (hx 0 (List.length_pos_iff.2 hn))
theorem bytesAt.drop {w : World} {g o : Nat} {B : List Nat} (h : bytesAt w g o B) (n : Nat) : bytesAt w g (o + n) (B.drop n) := fun i hi => by
  have h1 : n + i < B.length := by simp at hi; omega
  have := h (n + i) h1
  rw [Nat.add_assoc, this]
  simp [List.getD_eq_getElem?_getD]
def lenOf : Value → Nat
  | .slice _ n _ => n
  | _ => 0
theorem u8s_get (l : List Nat) (i : Nat) (h : i < l.length) : (u8s l)[i]? = some (.int .u8 (l.getD i 0 : Nat)) := by
  simp [u8s, List.getD_eq_getElem?_getD, List.getElem?_eq_getElem h]
theorem u8s_cell {w : World} {g : Nat} {l : List Nat} {t : TypeId} {fr : Nat × Nat} (hg : w.heap[g]? = some (.cells (u8s l) t fr)) (i : Nat) (h : i < l.length) : w.cell? ⟨g, i, none⟩ = some (.int .u8 (l.getD i 0 : Nat)) := by
  rw [cell_of_row w g i _ t fr hg, u8s_get l i h]
theorem u8s_set (p r : List Nat) (y x k : Nat) (hk : p.length = k) : (u8s (p ++ y :: r)).setIfInBounds k (.int .u8 (x : Nat)) = u8s (p ++ x :: r) := by
  subst hk
  apply Array.ext'
  simp [u8s]
theorem u8s_one (l : List Nat) : (u8s l).all (·.oneCell') = true := by simp [u8s, Value.oneCell']
theorem u8s_size (l : List Nat) : (u8s l).size = l.length := by simp [u8s]
/-- An array's element, the array being a value. -/
theorem run_index_array {P : Program} {t e : TypeId} {n : Nat} (ht : P.underlying t = some (.array n e)) {d : TypeDesc} (hd : P.underlying e = some d) (hnd : (match d with | .struct _ => false | .array _ _ => false | _ => true) = true)
    (hs : (P.info? e).map (·.size) = some 1) (cs : Array Value) (k : Nat) (hk : k < n) (v : Value) (hv : cs[k]? = some v) (w : World) :
    (Instr.index t (.agg cs) (.int .i64 k)).run P w = .ok v w := by
  have hagg : (isAgg e).run P w = .ok false w := by
    unfold isAgg
    rw [Sem.run_bind, run_underlying hd w]
    cases d <;> simp_all
  cases hq : P.info? e with
  | none => simp [hq] at hs
  | some i =>
    have hsz : i.size = 1 := by simpa [hq] using hs
    have hb : (0 : Int) ≤ k ∧ (k : Int) < n := by omega
    simp [Instr.index, run_underlying ht, asIntOf, hb, part, sizeOf, typeInfo, hq, hsz, hagg, hv, Sem.run_bind]
    intro h
    omega
theorem U5 : Try.prog.underlying 5 = some (.int .u8) := by kernel_rfl
theorem S5 : (Try.prog.info? 5).map (·.size) = some 1 := by kernel_rfl
theorem I5 : (Try.prog.info? 5).map (fun i => (i.zero, i.size, i.bytes)) = some (some (.int .u8 0), 1, 1) := by kernel_rfl
def vals (l : List Nat) : List Value := l.map fun x => Value.int .u8 (x : Nat)
theorem vals_length (l : List Nat) : (vals l).length = l.length := by simp [vals]
theorem vals_get (l : List Nat) (i : Nat) (h : i < l.length) : (vals l)[i]? = some (.int .u8 (l.getD i 0 : Nat)) := by
  simp [vals, List.getD_eq_getElem?_getD, List.getElem?_eq_getElem h]
/-- What a call owns reads as its bytes. -/
theorem Bytes.of_owns {w : World} {base g n cap : Nat} {B : List Nat} (h : w.ownsRow base 5 1 (.slice (some ⟨g, 0, none⟩) n cap) n (vals B)) (hB : Sm.allB B) : Bytes w (some ⟨g, 0, none⟩) n cap B := by
  obtain ⟨hl, h2⟩ := h
  have hn : n = B.length := by simpa [vals_length] using hl.symm
  rcases h2 with ⟨h3, _⟩ | ⟨g', cap', cur, hv, hb, hg, hle, hm, hs, ht⟩
  · simp at h3
  · obtain ⟨rfl, rfl⟩ : g = g' ∧ cap = cap' := by simpa using hv
    refine ⟨hn, hle, hB, Or.inr ⟨g, 0, rfl, fun i hi => ?_⟩⟩
    rw [Nat.zero_add, cell_of_row w g i cur _ _ hg]
    have e : (cur.toList.take (n * 1))[i]? = (vals B)[i]? := by rw [ht]
    rw [vals_get B i hi, List.getElem?_take_of_lt (by omega)] at e
    simpa using e
theorem made_zeros (n : Nat) : madeCells (Value.cells (.int .u8 0)) n = u8s (zeros n) := by
  apply Array.ext
  · simp [size_madeCells, u8s, zeros]
  · intro i h1 h2
    simp [madeCells, u8s, zeros, Value.cells, Nat.mod_one]
theorem u8s_toList (l : List Nat) : (u8s l).toList = vals l := by simp [u8s, vals]
theorem vals_one (l : List Nat) : ∀ u ∈ vals l, u.oneCell' = true := by
  intro u hu
  simp only [vals, List.mem_map] at hu
  obtain ⟨x, _, rfl⟩ := hu
  rfl
theorem owns_mk {w : World} {base g n cap : Nat} {L : List Nat} (hg : w.heap[g]? = some (.cells (u8s L) 5 (0, 0))) (hL : L.length = cap) (hn : n ≤ cap) (hm : cap ≤ maxLen) (hb : base ≤ g) :
    w.ownsRow base 5 1 (.slice (some ⟨g, 0, none⟩) n cap) n (vals (L.take n)) := by
  refine ⟨by simp [vals]; omega, Or.inr ⟨g, cap, u8s L, rfl, hb, hg, hn, hm, by rw [u8s_size]; omega, ?_⟩⟩
  rw [u8s_toList, Nat.mul_one]
  simp [vals]
theorem cells_of_row {w : World} {g : Nat} {L : List Nat} {t : TypeId} (hg : w.heap[g]? = some (.cells (u8s L) t (0, 0))) : ∀ j u, (vals L)[j]? = some u → w.cell? ((⟨g, 0, none⟩ : Addr).add j) = some u := fun j u hu => by
  rw [Addr.add_mid, Nat.zero_add, cell_of_row w g j _ _ _ hg, ← Array.getElem?_toList, u8s_toList]
  exact hu
theorem heap_setCells_other (g : Nat) : ∀ (vs : List Value) (o : Nat) (w : World) (k : Nat), k ≠ g → (w.setCells g o vs).heap[k]? = w.heap[k]?
  | [], _, _, _, _ => rfl
  | v :: r, o, w, k, h => by
    rw [World.setCells, heap_setCells_other g r (o + 1) _ k h, heap_setCell_other _ _ _ _ h]
theorem heap_setCells_same (g : Nat) (t : TypeId) : ∀ (vs A B C : List Value) (w : World), w.heap[g]? = some (.cells (A ++ B ++ C).toArray t (0, 0)) → vs.length = B.length →
    (w.setCells g A.length vs).heap[g]? = some (.cells (A ++ vs ++ C).toArray t (0, 0))
  | [], A, B, C, w, h, hl => by
    obtain rfl : B = [] := List.length_eq_zero_iff.1 (by simpa using hl.symm)
    exact h
  | v :: r, A, B, C, w, h, hl => by
    match B, hl with
    | b :: B, hl =>
      have h1 := heap_setCell_same w g A.length _ _ v h
      have e : ((A ++ b :: B ++ C).toArray).setIfInBounds A.length v = ((A ++ [v]) ++ B ++ C).toArray := by
        apply Array.ext'
        simp
      rw [e] at h1
      have := heap_setCells_same g t r (A ++ [v]) B C _ h1 (by simpa using hl)
      rw [World.setCells]
      simpa using this
theorem size_setCells (g : Nat) : ∀ (vs : List Value) (o : Nat) (w : World), (w.setCells g o vs).heap.size = w.heap.size ∧ (w.setCells g o vs).os = w.os ∧ (w.setCells g o vs).tape = w.tape ∧ (w.setCells g o vs).output = w.output
  | [], _, _ => ⟨rfl, rfl, rfl, rfl⟩
  | v :: r, o, w => by
    obtain ⟨h1, h2, h3, h4⟩ := size_setCells g r (o + 1) (w.setCell ⟨g, o, none⟩ v)
    rw [World.setCells]
    exact ⟨h1.trans (by simp [World.setCell]), h2.trans rfl, h3.trans rfl, h4.trans rfl⟩
theorem rangeAt_row {w : World} {g : Nat} {t : TypeId} (A B C : List Value) (h : w.heap[g]? = some (.cells (A ++ B ++ C).toArray t (0, 0))) : w.rangeAt g A.length B := fun j v hv => by
  have hj : j < B.length := (List.getElem?_eq_some_iff.1 hv).1
  rw [cell_of_row w g _ _ t _ h]
  rw [List.getElem?_eq_getElem hj] at hv
  simpa [hj, List.getElem?_append_right, List.getElem?_append] using hv
theorem there_row {w : World} {g : Nat} {t : TypeId} {C : Array Value} (h : w.heap[g]? = some (.cells C t (0, 0))) (o n : Nat) (hn : o + n ≤ C.size) : w.there g o n := fun j hj => by
  refine ⟨?_, frozen_of_row w g _ _ t h⟩
  rw [cell_of_row w g _ _ t _ h, Array.getElem?_eq_getElem (by omega)]
  rfl
theorem vals_toArray (l : List Nat) : (vals l).toArray = u8s l := rfl
theorem bytesAt.take {w : World} {g o : Nat} {B : List Nat} (h : bytesAt w g o B) (n : Nat) : bytesAt w g o (B.take n) := fun i hi => by
  have h1 : i < B.length := by simp at hi; omega
  rw [h i h1]
  have h2 : i < n := by simp at hi; omega
  simp [List.getD_eq_getElem?_getD, List.getElem?_take_of_lt h2]
theorem Bytes.take {w : World} {p : Option Addr} {len cap : Nat} {B : List Nat} (h : Bytes w p len cap B) (n : Nat) (hn : n ≤ len) : Bytes w p n cap (B.take n) :=
  ⟨by have := h.size; simp; omega, by have := h.le; omega, fun x hx => h.ok x (List.mem_of_mem_take hx), h.at'.imp id fun ⟨g, o, hp, hx⟩ => ⟨g, o, hp, hx.take n⟩⟩
theorem grown_setCells {w w1 : World} {g : Nat} (h : w.grownBy w1 (some g)) (o : Nat) (vs : List Value) : w.grownBy (w1.setCells g o vs) (some g) := by
  obtain ⟨h1, h2, h3, h4⟩ := size_setCells g vs o w1
  exact ⟨h2.trans h.os, h3.trans h.tape, h4.trans h.output, by rw [h1]; exact h.size, fun k hk hne => (heap_setCells_other g vs o w1 k (by intro e; exact hne (by rw [e]))).trans (h.block k hk hne)⟩
theorem grown_later {w w1 w2 : World} {r : Option Nat} (h : w.grownBy w1 r) (hb : Below w1.heap.size w1 w2) : w.grownBy w2 r :=
  ⟨hb.os.trans h.os, hb.tape.trans h.tape, hb.output.trans h.output, Nat.le_trans h.size hb.size, fun k hk hne => (hb.block k (Nat.lt_of_lt_of_le hk h.size)).trans (h.block k hk hne)⟩
theorem Bytes.grown {w w' : World} {p : Option Addr} {len cap : Nat} {B : List Nat} (h : Bytes w p len cap B) {g : Nat} (hg : w.grownBy w' (some g)) (hn : B ≠ [] → ∀ a, p = some a → a.block ≠ g) : Bytes w' p len cap B :=
  ⟨h.size, h.le, h.ok, h.at'.imp id fun ⟨b, o, hp, hx⟩ => ⟨b, o, hp, fun i hi => by
    have h1 := hx i hi
    have hb : w'.heap[b]? = w.heap[b]? := hg.block b (block_lt_of_cell h1) (by intro e; exact hn (by intro e0; rw [e0] at hi; simp at hi) _ hp (by simpa using e))
    rw [World.cell?_of_block (w := w) (w' := w') (a := ⟨b, o + i, none⟩) hb]
    exact h1⟩⟩
theorem grown_setCell (w : World) (g o : Nat) (u : Value) : w.grownBy (w.setCell ⟨g, o, none⟩ u) (some g) :=
  ⟨rfl, rfl, rfl, by simp [World.setCell], fun k _ hne => heap_setCell_other _ _ _ _ (by intro e; exact hne (by rw [e]))⟩
theorem Bytes.heap {w w' : World} {p : Option Addr} {len cap : Nat} {B : List Nat} (h : Bytes w p len cap B) (e : w'.heap = w.heap) : Bytes w' p len cap B :=
  ⟨h.size, h.le, h.ok, h.at'.imp id fun ⟨b, o, hp, hx⟩ => ⟨b, o, hp, fun i hi => by
    have h1 := hx i hi
    simp only [World.cell?, e] at h1 ⊢
    exact h1⟩⟩
theorem E5 : (Try.prog.info? 5).map (·.size) = some 1 := by kernel_rfl
theorem vals_drop (B : List Nat) (n : Nat) : vals (B.drop n) = (vals B).drop n := by simp [vals]
theorem Bytes.drop {w : World} {g o ln cp : Nat} {B : List Nat} (h : Bytes w (some ⟨g, o, none⟩) ln cp B) (m : Nat) (hl : m ≤ ln) : Bytes w (some ⟨g, o + m, none⟩) (ln - m) (cp - m) (B.drop m) := by
  have h1 := h.size
  have h2 := h.le
  refine ⟨by simp; omega, by omega, Sm.allB_drop h.ok m, Or.inr ⟨g, o + m, rfl, ?_⟩⟩
  rcases h.at' with hc | ⟨g', o', hp, hx⟩
  · intro i hi
    simp only [List.length_drop] at hi
    omega
  · obtain ⟨rfl, rfl⟩ : g = g' ∧ o = o' := by simpa using hp
    exact hx.drop m
theorem below_of {w w1 w2 : World} (hb : Below w1.heap.size w1 w2) (e : w1.heap = w.heap) (e1 : w1.os = w.os) (e2 : w1.tape = w.tape) (e3 : w1.output = w.output) : Below w.heap.size w w2 :=
  ⟨hb.os.trans e1, hb.tape.trans e2, hb.output.trans e3, by rw [← e]; exact hb.size, fun k hk => by rw [hb.block k (by rw [e]; exact hk), e]⟩
theorem setRow_alloc2 (w : World) (A : Obj) (old cs : Array Value) (t : TypeId) : ((w.alloc A).alloc (.cells old t (0, 0))).setRow (w.heap.size + 1) cs = (w.alloc A).alloc (.cells cs t (0, 0)) := by
  have := setRow_alloc (w.alloc A) old cs t
  rw [show (w.alloc A).heap.size = w.heap.size + 1 from by simp] at this
  exact this
theorem zeros_ok (n : Nat) : Sm.allB (zeros n) := fun x hx => by
  have := (List.mem_replicate.1 hx).2
  omega
/-- A text among texts: its bytes lie from whatever address on, or it is nil. -/
structure Tx (w : World) (p : Option Addr) (len cap : Nat) (B : List Nat) : Prop where
  size : len = B.length
  le : len ≤ cap
  ok : Sm.allB B
  at' : (p = none ∧ cap = 0) ∨ ∃ x, p = some x ∧ ∀ j u, (vals B)[j]? = some u → w.cell? (x.add j) = some u
  sp : ∀ x, p = some x → 0 < cap → x.spot = none
theorem Tx.later {w w' : World} {p : Option Addr} {len cap : Nat} {B : List Nat} (h : Tx w p len cap B) (hb : Below w.heap.size w w') : Tx w' p len cap B :=
  ⟨h.size, h.le, h.ok, h.at'.imp id fun ⟨x, hp, hx⟩ => ⟨x, hp, fun j u hu => (hb.cell (p := x.add j) (block_lt_of_cell (hx j u hu))).trans (hx j u hu)⟩, h.sp⟩
theorem Tx.cells {w : World} {x : Addr} {n c : Nat} {B : List Nat} (h : Tx w (some x) n c B) : ∀ j u, (vals B)[j]? = some u → w.cell? (x.add j) = some u := by
  rcases h.at' with ⟨hp, _⟩ | ⟨y, hp, hx⟩
  · cases hp
  · cases hp; exact hx
/-- A slice that reads as these texts. -/
structure Texts (w : World) (p : Option Addr) (len cap : Nat) (L : List (List Nat)) : Prop where
  size : len = L.length
  le : len ≤ cap
  at' : L ≠ [] → ∃ g o, p = some ⟨g, o, none⟩ ∧ ∀ i, i < L.length → ∃ q n c, w.cell? ⟨g, o + i, none⟩ = some (.slice q n c) ∧ Tx w q n c (L.getD i [])
theorem Texts.later {w w' : World} {p : Option Addr} {len cap : Nat} {L : List (List Nat)} (h : Texts w p len cap L) (hb : Below w.heap.size w w') : Texts w' p len cap L :=
  ⟨h.size, h.le, fun hn => by
    obtain ⟨g, o, hp, hx⟩ := h.at' hn
    refine ⟨g, o, hp, fun i hi => ?_⟩
    obtain ⟨q, n, c, h1, h2⟩ := hx i hi
    exact ⟨q, n, c, (hb.cell (p := ⟨g, o + i, none⟩) (block_lt_of_cell h1)).trans h1, h2.later hb⟩⟩
theorem take_succ_getD (L : List (List Nat)) (k : Nat) (h : k < L.length) : L.take (k + 1) = L.take k ++ [L.getD k []] := by
  rw [List.take_succ_eq_append_getElem h, List.getD_eq_getElem?_getD, List.getElem?_eq_getElem h]; rfl
theorem vals_append (A B : List Nat) : vals (A ++ B) = vals A ++ vals B := by simp [vals]
theorem owns_later {w w' : World} {base : Nat} {v : Value} {n : Nat} {xs : List Value} (h : w.ownsRow base 5 1 v n xs) (hb : Below w.heap.size w w') : w'.ownsRow base 5 1 v n xs := by
  obtain ⟨h1, h2⟩ := h
  refine ⟨h1, h2.imp id ?_⟩
  rintro ⟨g, cap, cur, hv, hg, hh, r⟩
  exact ⟨g, cap, cur, hv, hg, (hb.block _ (Array.getElem?_eq_some_iff.1 hh).1).trans hh, r⟩
theorem Bytes.cells {w : World} {g o n c : Nat} {B : List Nat} (h : Bytes w (some ⟨g, o, none⟩) n c B) : ∀ j u, (vals B)[j]? = some u → w.cell? ((⟨g, o, none⟩ : Addr).add j) = some u := fun j u hu => by
  have hj : j < B.length := by have := (List.getElem?_eq_some_iff.1 hu).1; simpa [vals] using this
  obtain ⟨g', o', hp, hx⟩ := h.ne (by intro e; rw [e] at hj; simp at hj)
  obtain ⟨rfl, rfl⟩ : g = g' ∧ o = o' := by simpa using hp
  rw [vals_get _ _ hj] at hu
  rw [Addr.add_mid, hx j hj, hu]
theorem Bytes.tx {w : World} {p : Option Addr} {n c : Nat} {B : List Nat} (h : Bytes w p n c B) : Tx w p n c B := by
  have h1 := h.size
  have h2 := h.le
  rcases h.at' with hc | ⟨g, o, hp, hx⟩
  · refine ⟨h1, h2, h.ok, ?_, fun _ _ h3 => by omega⟩
    cases p with
    | none => exact Or.inl ⟨rfl, hc⟩
    | some x =>
      refine Or.inr ⟨x, rfl, fun j u hu => ?_⟩
      have := (List.getElem?_eq_some_iff.1 hu).1
      rw [vals_length] at this
      omega
  · subst hp
    exact ⟨h1, h2, h.ok, Or.inr ⟨_, rfl, h.cells⟩, fun x hx _ => by cases hx; rfl⟩
theorem Tx.bytes {w : World} {p : Option Addr} {n c : Nat} {B : List Nat} (h : Tx w p n c B) : Bytes w p n c B := by
  refine ⟨h.size, h.le, h.ok, ?_⟩
  rcases h.at' with ⟨_, hc⟩ | ⟨x, hp, hx⟩
  · exact Or.inl hc
  · rcases Nat.eq_zero_or_pos c with h0 | h0
    · exact Or.inl h0
    · have hs := h.sp x hp h0
      obtain ⟨g, o, sp⟩ := x
      obtain rfl : sp = none := hs
      exact Or.inr ⟨g, o, hp, fun i hi => by rw [← Addr.add_mid]; exact hx i _ (vals_get B i hi)⟩
theorem A9 : Try.prog.underlying 9 = some .string := by kernel_rfl
theorem C5 : Try.prog.cellsOf 5 = 1 := by kernel_rfl
theorem run_part_u8 (l : List Nat) (i : Nat) (h : i < l.length) (w : World) : (_root_.Go.part 5 (u8s l) (i * 1)).run Try.prog w = .ok (.int .u8 (l.getD i 0 : Nat)) w := by
  have hagg : (isAgg 5).run Try.prog w = .ok false w := by
    unfold isAgg
    rw [Sem.run_bind, run_underlying U5 w]
    rfl
  have := u8s_get l i h
  simp [_root_.Go.part, Sem.run_bind, hagg, this]
theorem eqItems_u8 (a b : List Nat) (d : Nat) (w : World) : ∀ is : List Nat, (∀ i ∈ is, i < a.length ∧ i < b.length) → (Op.eqItems (d + 1) 5 1 (u8s a) (u8s b) is).run Try.prog w = .ok (is.all fun i => a.getD i 0 == b.getD i 0) w
  | [], _ => rfl
  | i :: is, h => by
    have h1 := h i (by simp)
    have ih := eqItems_u8 a b d w is (fun j hj => h j (by simp [hj]))
    have e1 : (Op.equalIn (d + 1) 5 (.int .u8 (a.getD i 0 : Nat)) (.int .u8 (b.getD i 0 : Nat))).run Try.prog w = .ok (a.getD i 0 == b.getD i 0) w := by
      rw [run_equalIn_int w d 5 .u8 .u8 _ _ U5]
      congr 1
      rw [Bool.eq_iff_iff]
      simp only [beq_iff_eq]
      omega
    simp only [Op.eqItems, Sem.run_bind, run_part_u8 a i h1.1, run_part_u8 b i h1.2, Result.andThen_ok, e1]
    cases hc : (a.getD i 0 == b.getD i 0)
    · simp only [List.all_cons, hc, Bool.false_and]
      rfl
    · simp only [List.all_cons, hc, Bool.true_and, Bool.not_true, Bool.false_eq_true, if_false]
      exact ih
theorem all_getD (a b : List Nat) (ha : a.length = 32) (hb : b.length = 32) : ((List.range 32).all fun i => a.getD i 0 == b.getD i 0) = decide (a = b) := by
  rw [Bool.eq_iff_iff]
  simp only [List.all_eq_true, List.mem_range, beq_iff_eq, decide_eq_true_eq]
  constructor
  · intro h
    apply List.ext_getElem (by omega)
    intro i h1 h2
    have := h i (by omega)
    simpa [List.getD_eq_getElem?_getD, List.getElem?_eq_getElem h1, List.getElem?_eq_getElem h2] using this
  · rintro rfl i _
    rfl
theorem Bytes.row {w : World} {g : Nat} {L : List Nat} {t : TypeId} {fr : Nat × Nat} (hg : w.heap[g]? = some (.cells (u8s L) t fr)) (hL : Sm.allB L) : Bytes w (some ⟨g, 0, none⟩) L.length L.length L :=
  ⟨rfl, Nat.le_refl _, hL, Or.inr ⟨g, 0, rfl, fun i hi => by rw [Nat.zero_add]; exact u8s_cell hg i hi⟩⟩
/-- A text's bytes as numbers. -/
def txt (s : ByteArray) : List Nat := s.data.toList.map UInt8.toNat
theorem txt_length (s : ByteArray) : (txt s).length = s.size := by unfold txt; rw [List.length_map]; rfl
theorem txt_ok (s : ByteArray) : Sm.allB (txt s) := by
  intro x hx
  simp only [txt, List.mem_map] at hx
  obtain ⟨b, _, rfl⟩ := hx
  exact b.toNat_lt
theorem index_txt (s : ByteArray) (i : Int) (j : Nat) (hi : i = j) (h : j < s.size) (w : World) : (Instr.index 9 (.string s) (.int .i64 i)).run Try.prog w = .ok (.int .u8 ((txt s).getD j 0 : Nat)) w := by
  subst hi
  rw [run_index_string w 9 s .i64 _ A9, dif_pos (by omega)]
  have h2 : j < s.data.size := h
  have e : (txt s).getD j 0 = (s.data[j]'h2).toNat := by
    unfold txt
    rw [List.getD_eq_getElem?_getD, List.getElem?_map, Array.getElem?_toList, Array.getElem?_eq_getElem h2]
    rfl
  rw [e]
  rfl
def strOf (l : List Nat) : ByteArray := strOfNums (l.map Int.ofNat)
theorem txt_strOf {l : List Nat} (h : Sm.allB l) : txt (strOf l) = l := by
  unfold txt strOf
  rw [strOfNums_data, List.map_map, List.map_map]
  conv => rhs; rw [← List.map_id l]
  apply List.map_congr_left
  intro x hx
  have := h x hx
  simp
  omega
theorem strOf_txt (s : ByteArray) : strOf (txt s) = s := by
  have h : (strOf (txt s)).data.toList = s.data.toList := by
    unfold txt strOf
    rw [strOfNums_data, List.map_map, List.map_map]
    conv => rhs; rw [← List.map_id s.data.toList]
    apply List.map_congr_left
    intro x _
    simp
  cases s with
  | mk a =>
    cases hs : strOf (txt ⟨a⟩) with
    | mk b =>
      rw [hs] at h
      congr 1
      exact Array.ext' h
theorem strOf_size (l : List Nat) : (strOf l).size = l.length := by unfold strOf; rw [strOfNums_size, List.length_map]
theorem grown_below {w wr w' : World} {g : Nat} (h : Below w.heap.size w wr) (hg : wr.grownBy w' (some g)) (hl : w.heap.size ≤ g) : Below w.heap.size w w' :=
  h.grown hg h.size (fun k hk => by simp at hk; omega)
theorem owns_form {w : World} {base n : Nat} {v : Value} {B : List Nat} (h : w.ownsRow base 5 1 v n (vals B)) (hB : Sm.allB B) : ∃ q c, v = .slice q n c ∧ Bytes w q n c B := by
  have hl : n = B.length := by have := h.1; rw [vals_length, Nat.mul_one] at this; exact this.symm
  rcases h.2 with ⟨rfl, h0⟩ | ⟨g, cap, cur, rfl, r⟩
  · subst h0
    have hb : B = [] := List.length_eq_zero_iff.1 hl.symm
    exact ⟨none, 0, rfl, ⟨hl, Nat.le_refl _, hB, Or.inl rfl⟩⟩
  · exact ⟨_, cap, rfl, Bytes.of_owns h hB⟩
theorem vals_set (B : List Nat) (j x : Nat) : vals (B.set j x) = (vals B).set j (.int .u8 (x : Nat)) := by simp [vals, List.map_set]
theorem set_ok {B : List Nat} (h : Sm.allB B) (j x : Nat) (hx : x < 256) : Sm.allB (B.set j x) := fun y hy => by
  rcases List.mem_or_eq_of_mem_set hy with h1 | rfl
  · exact h y h1
  · exact hx
theorem grown_twice {a b c : World} {r : Option Nat} (h : a.grownBy b r) (k : b.grownBy c r) : a.grownBy c r :=
  ⟨k.os.trans h.os, k.tape.trans h.tape, k.output.trans h.output, Nat.le_trans h.size k.size, fun i hi hne => (k.block i (Nat.lt_of_lt_of_le hi h.size) hne).trans (h.block i hi hne)⟩
theorem strOf_eq {A B : List Nat} (hA : Sm.allB A) (hB : Sm.allB B) : strOf A = strOf B ↔ A = B := by
  constructor
  · intro h
    rw [← txt_strOf hA, ← txt_strOf hB, h]
  · rintro rfl
    rfl
theorem Tx.heap {w w' : World} {p : Option Addr} {n c : Nat} {B : List Nat} (h : Tx w p n c B) (e : w'.heap = w.heap) : Tx w' p n c B :=
  ⟨h.size, h.le, h.ok, h.at'.imp id fun ⟨x, hp, hx⟩ => ⟨x, hp, fun j u hu => by have := hx j u hu; simp only [World.cell?, e] at this ⊢; exact this⟩, h.sp⟩
theorem str_eq {A B : List Nat} (hA : Sm.allB A) (hB : Sm.allB B) : ((strOf A).toList == (strOf B).toList) = decide (A = B) := by
  rw [Bool.eq_iff_iff, beq_iff_eq, decide_eq_true_iff, ByteArray.toList_eq, ByteArray.toList_eq]
  constructor
  · intro h
    apply (strOf_eq hA hB).1
    cases hA' : strOf A
    cases hB' : strOf B
    rw [hA', hB'] at h
    congr 1
    exact Array.ext' h
  · rintro rfl
    rfl
theorem Below.drewN {B : Nat} {a w : World} (h : Below B a w) (n : Nat) : Below B a (w.drewN n) := ⟨h.os, h.tape, h.output, h.size, h.block⟩
theorem tx_of_owns {w : World} {base n : Nat} {q : Option Addr} {c : Nat} {B : List Nat} (h : w.ownsRow base 5 1 (.slice q n c) n (vals B)) (hB : Sm.allB B) : Tx w q n c B := by
  have hl : n = B.length := by have := h.1; rw [vals_length, Nat.mul_one] at this; exact this.symm
  rcases h.2 with ⟨h1, h0⟩ | ⟨g, cap, cur, h1, r⟩
  · simp at h1
    obtain ⟨rfl, rfl, rfl⟩ := h1
    exact ⟨hl, Nat.le_refl _, hB, Or.inl ⟨rfl, rfl⟩, fun _ h _ => by cases h⟩
  · simp at h1
    obtain ⟨rfl, rfl⟩ := h1
    exact (Bytes.of_owns h hB).tx
/-- 'wpList_load_row' under a guard that says yes. -/
theorem wpList_load_rowG {ops : Array Oper} {rest : List Oper} {o : Oper} {a : Act} {w : World} {Q : Exit → Act → World → Prop} (hw : Region.wanted o (yielded ops a.tmps) = true) (ty : TypeId) (x : Operand) (ho : o.op = .load ty x)
    (g : Nat) (hx : a.eval x = .pointer (some ⟨g, 0, none⟩)) (t : TypeId) (cs : Array Value) (fr : Nat × Nat) {n : Nat} {e : TypeId} (hg : w.heap[g]? = some (.cells cs t fr))
    (hu : Try.prog.underlying ty = some (.array n e)) (hi : (Try.prog.info? ty).map (·.size) = some cs.size)
    (h : wpList Try.prog ops Q rest (a.put o.dst (.agg cs)) w) : wpList Try.prog ops Q (o :: rest) a w :=
  BigFrame.wpList_want hw fun _ hK => wp_load_row ty x ho g hx t cs fr _ hg hu rfl hi (hK _ _ h)
end Go.Proofs.Ytlkeobohcfbgcaa

/- What every row's proof wants: the program's closed facts; arguments opened: bytes. -/
namespace Go.Proofs.Ytlkeobohcfbgcaa
open Go.ChangeShapes Go.WideShapes Go.ChangeAt Go.RowKit Go.Deep

theorem gen_own : ownKnob Try.prog.godebug = none := by kernel_rfl
theorem gen_laidOut : laidOutB Try.prog = true := by kernel_rfl
def nats (z : List Int) (n : Nat) : List Nat := (z.take n).map Int.toNat
theorem nats_ok {z : List Int} (h : ∀ n ∈ z, (Lit.int .u8 n).wf = true) (n : Nat) : Sm.allB (nats z n) := by
  intro x hx
  simp only [nats, List.mem_map] at hx
  obtain ⟨y, hy, rfl⟩ := hx
  have := bounds_u8 (h y (List.mem_of_mem_take hy))
  omega
theorem nats_get {z : List Int} (h : ∀ n ∈ z, (Lit.int .u8 n).wf = true) (n j : Nat) (hn : n ≤ z.length) (u : Value) (hu : (vals (nats z n))[j]? = some u) : j < n ∧ u = .int .u8 (z.getD j 0) := by
  have hj : j < n := by
    have := (List.getElem?_eq_some_iff.1 hu).1
    simp [vals, nats] at this
    omega
  refine ⟨hj, ?_⟩
  have hz : j < z.length := by omega
  have hb := bounds_u8 (h z[j] (List.getElem_mem hz))
  rw [vals_get _ _ (by simp [nats]; omega)] at hu
  simp only [Option.some.injEq] at hu
  rw [← hu]
  simp only [nats, List.getD_eq_getElem?_getD, List.getElem?_map, List.getElem?_take_of_lt hj, List.getElem?_eq_getElem hz, Option.map_some, Option.getD_some]
  congr 1
  omega
end Go.Proofs.Ytlkeobohcfbgcaa

/- Slices of bytes turned into texts. -/
namespace Go.Proofs.Ytlkeobohcfbgcaa
open Go.RowKit

theorem A22 : Try.prog.underlying 36 = some (.slice 5) := by kernel_rfl
/-- Bytes that are read become a text of the same bytes. -/
theorem convert_bytes {w : World} {p : Option Addr} {n c : Nat} {B : List Nat} (h : Bytes w p n c B) (hB : B ≠ []) : (convert 36 9 (.slice p n c)).run Try.prog w = .ok (.string (strOfNums (B.map Int.ofNat))) w := by
  obtain ⟨g, o, rfl, hx⟩ := h.ne hB
  exact run_convert_bytes_arg (P := Try.prog) w 36 5 A22 U5 g o n c (B.map Int.ofNat) (by rw [List.length_map]; exact h.size.symm) (fun i hi => by
    have hi2 : i < B.length := by have := h.size; omega
    rw [hx i hi2]
    simp [List.getD_eq_getElem?_getD, hi2]) 9 A9
theorem convert_tx {w : World} {p : Option Addr} {n c : Nat} {B : List Nat} (h : Tx w p n c B) : (convert 36 9 (.slice p n c)).run Try.prog w = .ok (.string (strOf B)) w := by
  by_cases hB : B = []
  · subst hB
    obtain rfl : n = 0 := h.size
    rw [run_convert_bytes_string w _ _ _ _ _ _ A22 U5 A9]
    cases p with
    | none => rfl
    | some x => exact rfl
  · exact convert_bytes h.bytes hB
end Go.Proofs.Ytlkeobohcfbgcaa

/- Bytes under way, in a row of one's own. -/
namespace Go.Proofs.Ytlkeobohcfbgcaa.Wl
open Go.RowKit

/-- The n bytes B in a row of one's own, from the world w0 on. -/
structure Out (w0 w : World) (v : Value) (n : Nat) (B : List Nat) : Prop where
  len : n = B.length
  own : w.ownsRow w0.heap.size 5 1 v n (vals B)
  ok : Sm.allB B
  low : Below w0.heap.size w0 w
theorem Out.none (w : World) : Out w w (.slice none 0 0) 0 [] := ⟨rfl, World.ownsRow_nil w w.heap.size 5 1, (fun x hx => by cases hx), Below.refl _ _⟩
theorem Out.later {w0 w w' : World} {v : Value} {n : Nat} {B : List Nat} (h : Out w0 w v n B) (hb : Below w.heap.size w w') : Out w0 w' v n B := ⟨h.len, owns_later h.own hb, h.ok, h.low.trans (hb.mono h.low.size)⟩
theorem Out.put {w0 w1 w7 : World} {v v7 : Value} {n : Nat} {B P : List Nat} {m : Nat} (h : Out w0 w1 v n B) (hP : Sm.allB P) (hm : P.length = m) (hown : w7.ownsRow w0.heap.size 5 1 v7 (n + m) (vals B ++ vals P)) (hg : w1.grownBy w7 v.ownBlock) : Out w0 w7 v7 (n + m) (B ++ P) :=
  ⟨by rw [List.length_append, hm, h.len], by rw [vals_append]; exact hown, (fun x hx => by
    rcases List.mem_append.1 hx with hx | hx
    · exact h.ok x hx
    · exact hP x hx), h.low.grown hg h.low.size (fun k hk => (h.own.lt k hk).1)⟩
theorem Out.form {w0 w : World} {v : Value} {n : Nat} {B : List Nat} (h : Out w0 w v n B) : ∃ q c, v = .slice q n c := by
  rcases h.own.2 with ⟨rfl, h0⟩ | ⟨g, cap, cur, rfl, _⟩
  · exact ⟨Option.none, 0, by rw [h0]⟩
  · exact ⟨_, cap, rfl⟩
theorem Out.tx {w0 w : World} {q : Option Addr} {n c : Nat} {B : List Nat} (h : Out w0 w (.slice q n c) n B) : Tx w q n c B := tx_of_owns h.own h.ok
/-- A row of one's own, from an elder world on. -/
theorem owns_base {w : World} {base base' n size : Nat} {e : TypeId} {v : Value} {xs : List Value} (h : w.ownsRow base e size v n xs) (hb : base' ≤ base) : w.ownsRow base' e size v n xs :=
  ⟨h.1, h.2.imp id fun ⟨g, cap, cur, hv, hg, r⟩ => ⟨g, cap, cur, hv, Nat.le_trans hb hg, r⟩⟩
theorem byte_ok {x : Nat} (h : x < 256) : Sm.allB [x] := fun y hy => by
  simp only [List.mem_cons, List.not_mem_nil, or_false] at hy
  omega
end Go.Proofs.Ytlkeobohcfbgcaa.Wl

/- Digests: arrays of 32 bytes, compared. -/
namespace Go.Proofs.Ytlkeobohcfbgcaa
open Go.RowKit

theorem A25 : Try.prog.underlying 44 = some (.array 32 5) := by kernel_rfl
theorem Z25 : (Try.prog.info? 44).map (fun i => (i.zero, i.size)) = some (some (.agg (u8s (zeros 32))), 32) := by kernel_rfl
theorem S25 : (Try.prog.info? 44).map (·.size) = some 32 := by kernel_rfl
theorem digest_equal (a b : List Nat) (ha : a.length = 32) (hb : b.length = 32) (d : Nat) (w : World) : (Op.equalIn (d + 2) 44 (.agg (u8s a)) (.agg (u8s b))).run Try.prog w = .ok (decide (a = b)) w := by
  obtain ⟨i, hi, hi1⟩ : ∃ i, Try.prog.info? 5 = some i ∧ i.size = 1 := by
    obtain ⟨i5, hi, _, hi1, _⟩ := info_parts I5
    exact ⟨i5, hi, hi1⟩
  rw [run_equalIn_array w (d + 1) (u8s a) (u8s b) A25 hi, C5, eqItems_u8 a b d w _ (fun i hi => by have := List.mem_range.1 hi; omega), all_getD a b ha hb]
theorem digest_eql (a b : List Nat) (ha : a.length = 32) (hb : b.length = 32) (w : World) : (binOp .eql 44 (.agg (u8s a)) (.agg (u8s b))).run Try.prog w = .ok (.bool (decide (a = b))) w := by
  rw [run_eql_struct, digest_equal a b ha hb 9998 w]
  rfl
theorem digest_neq (a b : List Nat) (ha : a.length = 32) (hb : b.length = 32) (w : World) : (binOp .neq 44 (.agg (u8s a)) (.agg (u8s b))).run Try.prog w = .ok (.bool (!decide (a = b))) w := by
  rw [run_neq_struct, digest_equal a b ha hb 9998 w]
  rfl
end Go.Proofs.Ytlkeobohcfbgcaa

/- slices.Grow, slices.Concat of texts. -/
namespace Go.Proofs.Ytlkeobohcfbgcaa.Wl
open Go.RowKit

theorem U3 : Try.prog.underlying 3 = some (.int .i64) := by kernel_rfl
theorem own_none {w : World} {g cap : Nat} {cur : Array Value} (hg : w.heap[g]? = some (.cells cur 5 (0, 0))) (hm : cap ≤ maxLen) (hs : cur.size = cap) {base : Nat} (hb : base ≤ g) : w.ownsRow base 5 1 (.slice (some ⟨g, 0, none⟩) 0 cap) 0 (vals []) :=
  ⟨rfl, Or.inr ⟨g, cap, cur, rfl, hb, hg, Nat.zero_le _, hm, by omega, by simp [vals]⟩⟩
set_option maxRecDepth 100000 in
set_option maxHeartbeats 1000000 in
theorem grow_any (n : Nat) (w : World) (hn : n < 1099511627776) :
    Calls Try.prog 66 #[.slice none 0 0, .int .i64 n] w fun e w' => ∃ q c, e = .returned (.slice q 0 c) ∧ Out w w' (.slice q 0 c) 0 [] := by
  by_cases h0 : n = 0
  · subst h0
    go_enter Try.func66, Try.ntmps66
    go_wp2_with fail
    go_ret
    exact ⟨none, 0, rfl, Out.none w⟩
  · have h1 : (n : Int) > 0 := by omega
    obtain ⟨i5, hi, hi0, hi1, hi2⟩ := info_parts I5
    have HA := Lib.hid (Lib.run_append_nil_zeros (P := Try.prog) w 36 3 36 5 i5 (.int .u8 0) .i64 .i64 A22 U3 hi hi0 n (by omega) (by rw [hi1]; omega) (by omega) (by rw [hi2]; omega))
    have hle := grownCap_ge w n 0 5
    have hmx := grownCap_le_maxLen w n 0 5 (by unfold maxLen; omega)
    generalize grownCap w n 0 5 = cap at *
    have HO := Lib.hid (own_none (cap := cap) (heap_alloc_new w.drew (.cells (Builtin.zeroCells (Value.int .u8 0).cells n ++ Builtin.zeroCells (Value.int .u8 0).cells (cap - n)) 5)) hmx (by simp [size_zeroCells, Value.cells]; omega) (Nat.le_refl w.heap.size))
    have HB := Lib.hid (((Below.refl w.heap.size w).drew).alloc (Nat.le_refl _) (.cells (Builtin.zeroCells (Value.int .u8 0).cells n ++ Builtin.zeroCells (Value.int .u8 0).cells (cap - n)) 5))
    clear hi hi0 hi1 hi2
    generalize w.drew.alloc (.cells (Builtin.zeroCells (Value.int .u8 0).cells n ++ Builtin.zeroCells (Value.int .u8 0).cells (cap - n)) 5) = w2 at *
    go_enter Try.func66, Try.ntmps66
    go_wp2_with (at_builtin; refine Lib.wpList_append_run _ (by rfl) (.tmp 20) (.tmp 21) 36 3 (by rfl) _ _ (by rfl) (by rfl) _ _ HA.out ?_)
    go_ret
    exact ⟨some ⟨w.heap.size, 0, none⟩, cap, rfl, rfl, HO.out, (fun x hx => by cases hx), HB.out⟩
/-- The bytes of the first k texts. -/
def flat (L : List (List Nat)) : Nat → List Nat
  | 0 => []
  | k + 1 => flat L k ++ L.getD k []
theorem flat_le (L : List (List Nat)) {j k : Nat} (h : j ≤ k) : (flat L j).length ≤ (flat L k).length := by
  induction h with
  | refl => exact Nat.le_refl _
  | step _ ih => rw [flat, List.length_append]; omega
def SizeRel (w : World) (L : List (List Nat)) (len : Nat) (s i : Value) (wr : World) : Prop := ∃ k : Nat, k ≤ len ∧ i = .int .i64 k ∧ s = .int .i64 ((flat L k).length : Nat) ∧ w = wr
def CatRel (w0 w : World) (L : List (List Nat)) (len : Nat) (v i : Value) (wr : World) : Prop := ∃ k m : Nat, k ≤ len ∧ i = .int .i64 k ∧ Out w0 wr v m (flat L k) ∧ Below w.heap.size w wr
set_option maxRecDepth 100000 in
set_option maxHeartbeats 1000000 in
theorem concat_any (L : List (List Nat)) (p : Option Addr) (len cap : Nat) (w : World) (hL : Texts w p len cap L) (hl : (flat L L.length).length < 1099511627776) (hlen : len < 1099511627776) :
    Calls Try.prog 50 #[.slice p len cap] w fun e w' => ∃ q c, e = .returned (.slice q (flat L L.length).length c) ∧ Out w w' (.slice q (flat L L.length).length c) (flat L L.length).length (flat L L.length) := by
  have hsz := hL.size
  have hle := hL.le
  have HL := Lib.hid hL
  rw [← hsz] at hl ⊢
  have HSZ := Lib.hid hsz
  clear hL hsz
  go_enter Try.func50, Try.ntmps50
  go_wp2_with fail
  go_loopw [3, 11] (fun s i wr => SizeRel w L len s i wr) (fun _ i _ => len - (intOf i).toNat)
  case atStart => exact ⟨0, Nat.zero_le _, rfl, rfl, rfl⟩
  case round =>
    obtain ⟨k, hk, rfl, rfl, rfl⟩ := hrel
    by_cases hlt : k < len
    · obtain ⟨g, o, hp, hx⟩ := HL.out.at' (by intro e; have := HSZ.out; rw [e] at this; simp at this; omega)
      obtain ⟨q, n, c, h1, h2⟩ := hx k (by have := HSZ.out; omega)
      subst hp
      have l1 : (k : Int) < len := by omega
      have i1 : (0 : Int) ≤ k ∧ (k : Int) < len := by omega
      have hf := flat_le L (show k + 1 ≤ len from hlt)
      have HF := Lib.hid (show (flat L (k + 1)).length = (flat L k).length + n from by rw [flat, List.length_append, h2.size])
      have hfn : (flat L k).length + n < 1099511627776 := by have := HF.out; omega
      clear hx hf
      generalize (flat L k).length = z at *
      have q1 : IntKind.i64.wrap ((z : Int) + (n : Int)) = (z : Int) + (n : Int) := IntWalk.i64_in _ (by omega)
      have q2 : ¬ ((z : Int) + (n : Int) < 0) := by omega
      go_wp2_with fail
      go_roundw
      case rel => exact ⟨k + 1, by omega, by go_num, by rw [HF.out]; go_num, rfl⟩
      case measure => simp [intOf]; omega
    · obtain rfl : k = len := by omega
      go_wp2_with fail
      refine (grow_any (flat L k).length w hl).mono ?_
      rintro e w1 ⟨q, c, rfl, o1⟩
      have O1 := Lib.hid o1
      obtain ⟨i5, hi, hi0, hi1, hi2⟩ := info_parts I5
      have HI := Lib.hid hi
      have HI0 := Lib.hid hi0
      have HI1 := Lib.hid hi1
      have HI2 := Lib.hid hi2
      clear hi hi0 hi1 hi2 o1
      go_wp2_with fail
      go_loopw [6, 27] (fun v i wr => CatRel w w L k v i wr) (fun _ i _ => k - (intOf i).toNat)
      case atStart => exact ⟨0, 0, Nat.zero_le _, rfl, O1.out, O1.out.low⟩
      case round =>
        obtain ⟨j, m, hj, rfl, hO, hb⟩ := hrel
        have HO := Lib.hid hO
        have HB := Lib.hid hb
        obtain ⟨q0, c0, rfl⟩ := hO.form
        clear hO hb O1
        by_cases hlt : j < k
        · obtain ⟨g, o, hp, hx⟩ := HL.out.at' (by intro e; have := HSZ.out; rw [e] at this; simp at this; omega)
          obtain ⟨q, n, c, h1, h2⟩ := hx j (by have := HSZ.out; omega)
          subst hp
          have l1 : (j : Int) < k := by omega
          have i1 : (0 : Int) ≤ j ∧ (j : Int) < k := by omega
          have hf := flat_le L (show j + 1 ≤ k from hlt)
          have HF := Lib.hid (show (flat L (j + 1)).length = (flat L j).length + n from by rw [flat, List.length_append, h2.size])
          have hfn : (flat L j).length + n < 1099511627776 := by have := HF.out; omega
          have c1 := (HB.out.cell (p := ⟨g, o + j, none⟩) (block_lt_of_cell h1)).trans h1
          have T := Lib.hid (h2.later HB.out)
          have hnc := h2.le
          have hmn : m + n < 1099511627776 := by have := HO.out.len; omega
          clear hx hf h1 h2
          rcases T.out.at' with ⟨rfl, rfl⟩ | ⟨x, rfl, _⟩
          · obtain rfl : n = 0 := by omega
            have HE := Lib.hid (show L.getD j [] = [] from List.eq_nil_of_length_eq_zero T.out.size.symm)
            go_wp2_with (at_builtin; refine wpList_append_own_none (by rfl) (.tmp 31) (.tmp 32) 36 (by rfl) w.heap.size 5 i5 1 A22 HI.out _ m _ (by rfl) HO.out.own (by rfl) ?_)
            go_roundw
            case rel => exact ⟨j + 1, m, by omega, by go_num, by rw [flat, HE.out, List.append_nil]; exact HO.out, HB.out⟩
            case measure => simp [intOf]; omega
          · go_wp2_with (at_builtin; refine wpList_append_own _ (by rfl) (.tmp 31) (.tmp 32) 36 (by rfl) w.heap.size 5 i5 (.int .u8 0) 1 1 A22 HI.out HI0.out HI1.out HI2.out (by rfl) (by decide) _ m _ (by rfl) HO.out.own x n c (vals (L.getD j [])) (by rfl) (by rw [vals_length, Nat.mul_one]; exact T.out.size.symm) T.out.cells (vals_one _) (by unfold maxLen; omega) (by omega) HB.out.size ?_; intro v7 w7 hown7 hgrow7 _; have O7 := Lib.hid (HO.out.put T.out.ok T.out.size.symm hown7 hgrow7); clear hown7 hgrow7)
            go_roundw
            case rel => exact ⟨j + 1, m + n, by omega, by go_num, by rw [flat]; exact O7.out, O7.out.low⟩
            case measure => simp [intOf]; omega
        · obtain rfl : j = k := by omega
          obtain rfl : m = (flat L j).length := HO.out.len
          go_wp2_with fail
          go_ret
          exact ⟨q0, c0, rfl, HO.out⟩
end Go.Proofs.Ytlkeobohcfbgcaa.Wl

/- Plain mathematics of package codec: bytes of a number, the highest first; which bytes stand ahead. No program is named here. -/
namespace Go.Proofs.Ytlkeobohcfbgcaa.Cm
/-- The lowest s bytes of n, the highest first. -/
def be (n s : Nat) : List Nat := (List.range s).map fun i => n / 2 ^ (8 * (s - 1 - i)) % 256
theorem be_length (n s : Nat) : (be n s).length = s := by simp [be]
theorem be_get (n s i : Nat) (h : i < s) : (be n s).getD i 0 = n / 2 ^ (8 * (s - 1 - i)) % 256 := by
  simp [be, List.getD_eq_getElem?_getD, h]
theorem be_take (n s i : Nat) (h : i < s) : (be n s).take (i + 1) = (be n s).take i ++ [n / 2 ^ (8 * (s - 1 - i)) % 256] := by
  rw [List.take_succ_eq_append_getElem (by rw [be_length]; exact h)]
  simp [be]
theorem be_ok (n s : Nat) : Sm.allB (be n s) := by
  intro x hx
  simp only [be, List.mem_map] at hx
  obtain ⟨i, _, rfl⟩ := hx
  exact Nat.mod_lt _ (by omega)
theorem be_succ (n s : Nat) : be n (s + 1) = (n / 2 ^ (8 * s) % 256) :: be n s := by
  unfold be
  rw [List.range_succ_eq_map, List.map_cons, List.map_map]
  congr 1
  apply List.map_congr_left
  intro i _
  simp only [Function.comp_apply]
  rw [show s + 1 - 1 - (i + 1) = s - 1 - i from by omega]
/-- A number of 64 bits with a sign, and 2^63 together. -/
def z64 (n : Int) : Nat := (n + 9223372036854775808).toNat
theorem z64_lt {n : Int} (h1 : -9223372036854775808 ≤ n) (h2 : n ≤ 9223372036854775807) : z64 n < 18446744073709551616 ∧ ((z64 n : Nat) : Int) = n + 9223372036854775808 := by
  unfold z64; omega
theorem xor63_lo {x : Nat} (h : x < 2 ^ 63) : x ^^^ 2 ^ 63 = 2 ^ 63 + x := by
  apply Nat.eq_of_testBit_eq
  intro i
  rw [Nat.testBit_xor, Nat.testBit_two_pow]
  rcases Nat.lt_trichotomy i 63 with hi | rfl | hi
  · rw [Nat.testBit_two_pow_add_gt hi, decide_eq_false (by omega), Bool.xor_false]
  · rw [Nat.testBit_two_pow_add_eq, decide_eq_true rfl, Bool.xor_true]
  · have e1 : x.testBit i = false := Nat.testBit_lt_two_pow (Nat.lt_trans h (Nat.pow_lt_pow_right (by omega) hi))
    have e2 : (2 ^ 63 + x).testBit i = false := Nat.testBit_lt_two_pow (by
      have : 2 ^ 64 ≤ 2 ^ i := Nat.pow_le_pow_right (by omega) hi
      omega)
    rw [e1, e2, decide_eq_false (by omega), Bool.xor_false]
theorem xor63_hi {x : Nat} (h : x < 2 ^ 63) : (2 ^ 63 + x) ^^^ 2 ^ 63 = x := by
  rw [← xor63_lo h, Nat.xor_assoc, Nat.xor_self, Nat.xor_zero]
theorem wrap_u64 (n : Int) : IntKind.u64.wrap n = n % 18446744073709551616 := IntKind.wrap_u64 n
/-- The bits of a number, the sign's one turned. -/
theorem sign_int {n : Int} (h1 : -9223372036854775808 ≤ n) (h2 : n ≤ 9223372036854775807) : bits .xor .u64 (IntKind.u64.wrap n) 9223372036854775808 = ((z64 n : Nat) : Int) := by
  rw [wrap_u64]
  by_cases h : 0 ≤ n
  · obtain ⟨x, rfl⟩ : ∃ x : Nat, n = x := ⟨n.toNat, by omega⟩
    have e : (x : Int) % 18446744073709551616 = (x : Nat) := by omega
    rw [e]
    have := u64_xor_nat x 9223372036854775808 (by omega) (by omega)
    refine Eq.trans this ?_
    have e2 : x ^^^ 9223372036854775808 = 9223372036854775808 + x := xor63_lo (by omega)
    rw [e2]
    unfold z64
    omega
  · obtain ⟨x, hx⟩ : ∃ x : Nat, n = (x : Int) - 9223372036854775808 := ⟨(n + 9223372036854775808).toNat, by omega⟩
    subst hx
    have e : ((x : Int) - 9223372036854775808) % 18446744073709551616 = ((9223372036854775808 + x : Nat) : Int) := by omega
    rw [e]
    have := u64_xor_nat (9223372036854775808 + x) 9223372036854775808 (by omega) (by omega)
    refine Eq.trans this ?_
    have e2 : (9223372036854775808 + x) ^^^ 9223372036854775808 = x := xor63_hi (by omega)
    rw [e2]
    unfold z64
    omega
/-- A number's bytes. -/
def num (n : Int) : List Nat := be (z64 n) 8
theorem num_length (n : Int) : (num n).length = 8 := be_length _ _
theorem num_ok (n : Int) : Sm.allB (num n) := be_ok _ _
/-- What bytes make together, the highest first. -/
def val (B : List Nat) : Nat := B.foldl (fun n b => n * 256 + b) 0
theorem foldl_val (B : List Nat) (m : Nat) : B.foldl (fun n b => n * 256 + b) m = m * 256 ^ B.length + val B := by
  induction B generalizing m with
  | nil => simp [val]
  | cons b B ih =>
    unfold val
    rw [List.foldl_cons, List.foldl_cons, ih, ih (0 * 256 + b), List.length_cons, Nat.pow_succ, Nat.zero_mul, Nat.zero_add, Nat.add_mul, Nat.mul_assoc, Nat.mul_comm 256]
    omega
theorem val_cons (b : Nat) (B : List Nat) : val (b :: B) = b * 256 ^ B.length + val B := by
  have := foldl_val B (0 * 256 + b)
  unfold val at this ⊢
  rw [List.foldl_cons, this]
  simp
theorem val_snoc (B : List Nat) (b : Nat) : val (B ++ [b]) = val B * 256 + b := by
  unfold val; rw [List.foldl_append]; rfl
theorem pow8 (s : Nat) : (2 : Nat) ^ (8 * s) = 256 ^ s := by rw [Nat.pow_mul]
theorem val_lt {B : List Nat} (h : Sm.allB B) : val B < 256 ^ B.length := by
  induction B with
  | nil => simp [val]
  | cons b B ih =>
    have h1 := h b (by simp)
    have h2 := ih (fun x hx => h x (by simp [hx]))
    rw [val_cons, List.length_cons, Nat.pow_succ]
    have : b * 256 ^ B.length + 256 ^ B.length ≤ 256 ^ B.length * 256 := by
      rw [Nat.mul_comm (256 ^ B.length) 256, ← Nat.succ_mul]
      exact Nat.mul_le_mul_right _ h1
    omega
theorem val_be (n s : Nat) : val (be n s) = n % 256 ^ s := by
  induction s with
  | zero => simp [be, val, Nat.mod_one]
  | succ s ih =>
    rw [be_succ, val_cons, be_length, ih, pow8, Nat.pow_succ, Nat.mod_mul]
    rw [Nat.mul_comm]
    omega
theorem be_val {B : List Nat} (h : Sm.allB B) : be (val B) B.length = B := by
  induction B with
  | nil => simp [be]
  | cons b B ih =>
    have h1 := h b (by simp)
    have hB : Sm.allB B := fun x hx => h x (by simp [hx])
    have h2 := val_lt hB
    rw [List.length_cons, be_succ, val_cons, pow8]
    have hp : 0 < 256 ^ B.length := Nat.pow_pos (by omega)
    have e1 : (b * 256 ^ B.length + val B) / 256 ^ B.length = b := by
      rw [Nat.mul_comm, Nat.mul_add_div hp, Nat.div_eq_of_lt h2]; omega
    rw [e1, Nat.mod_eq_of_lt h1]
    congr 1
    have key : ∀ s m k : Nat, s ≤ k → be (m * 256 ^ k + val B) s = be (val B) s := by
      intro s
      induction s with
      | zero => intro m k _; simp [be]
      | succ s ihs =>
        intro m k hk
        rw [be_succ, be_succ, ihs m k (by omega), pow8]
        congr 1
        obtain ⟨j, rfl⟩ : ∃ j, k = s + 1 + j := ⟨k - (s + 1), by omega⟩
        have : m * 256 ^ (s + 1 + j) = 256 ^ s * (256 * (m * 256 ^ j)) := by
          rw [Nat.pow_add, Nat.pow_succ]
          simp only [Nat.mul_assoc, Nat.mul_comm, Nat.mul_left_comm]
        rw [this, Nat.mul_add_div (Nat.pow_pos (by omega))]
        omega
    rw [key B.length b B.length (Nat.le_refl _)]
    exact ih hB
/-- Which bytes stand ahead. -/
def cmpL : List Nat → List Nat → Int
  | [], [] => 0
  | [], _ :: _ => -1
  | _ :: _, [] => 1
  | x :: a, y :: b => if x < y then -1 else if y < x then 1 else cmpL a b
theorem cmpL_cons (x y : Nat) (a b : List Nat) : cmpL (x :: a) (y :: b) = if x < y then -1 else if y < x then 1 else cmpL a b := rfl
theorem cmpL_same (C a b : List Nat) : cmpL (C ++ a) (C ++ b) = cmpL a b := by
  induction C with
  | nil => rfl
  | cons x C ih =>
    show cmpL (x :: (C ++ a)) (x :: (C ++ b)) = _
    rw [cmpL_cons, if_neg (by omega), if_neg (by omega)]
    exact ih
theorem cmpL_at {a b : List Nat} {i : Nat} (h : a.take i = b.take i) : cmpL a b = cmpL (a.drop i) (b.drop i) := by
  rw [← List.take_append_drop i a, ← List.take_append_drop i b, h, cmpL_same]
  rw [List.take_append_drop]
  have e : (b.take i ++ a.drop i).drop i = a.drop i := by
    rw [← h, List.take_append_drop]
  rw [e]
theorem cmpL_lens (a b : List Nat) (h : a = [] ∨ b = []) : cmpL a b = if a.length < b.length then -1 else if b.length < a.length then 1 else 0 := by
  rcases h with rfl | rfl
  · cases b <;> simp [cmpL]
  · cases a <;> simp [cmpL]
theorem cmpL_neg (a b : List Nat) : cmpL b a = - cmpL a b := by
  induction a generalizing b with
  | nil => cases b <;> simp [cmpL]
  | cons x a ih =>
    cases b with
    | nil => simp [cmpL]
    | cons y b =>
      simp only [cmpL]
      by_cases h1 : x < y
      · rw [if_pos h1, if_neg (by omega), if_pos h1]; rfl
      · by_cases h2 : y < x
        · rw [if_pos h2, if_neg h1, if_pos h2]
        · rw [if_neg h1, if_neg h2, if_neg h2, if_neg h1]; exact ih b
theorem cmpL_zero (a b : List Nat) : cmpL a b = 0 ↔ a = b := by
  induction a generalizing b with
  | nil => cases b <;> simp [cmpL]
  | cons x a ih =>
    cases b with
    | nil => simp [cmpL]
    | cons y b =>
      simp only [cmpL]
      by_cases h1 : x < y
      · rw [if_pos h1]; simp; omega
      · by_cases h2 : y < x
        · rw [if_neg h1, if_pos h2]; simp; omega
        · rw [if_neg h1, if_neg h2, ih b]
          obtain rfl : x = y := by omega
          simp
theorem cmpL_range (a b : List Nat) : cmpL a b = -1 ∨ cmpL a b = 0 ∨ cmpL a b = 1 := by
  induction a generalizing b with
  | nil => cases b <;> simp [cmpL]
  | cons x a ih =>
    cases b with
    | nil => simp [cmpL]
    | cons y b =>
      simp only [cmpL]
      by_cases h1 : x < y
      · rw [if_pos h1]; exact Or.inl rfl
      · by_cases h2 : y < x
        · rw [if_neg h1, if_pos h2]; exact Or.inr (Or.inr rfl)
        · rw [if_neg h1, if_neg h2]; exact ih b
theorem cmp_val : ∀ (a b : List Nat), a.length = b.length → Sm.allB a → Sm.allB b → (cmpL a b < 0 ↔ val a < val b)
  | [], [], _, _, _ => by simp [cmpL, val]
  | [], _ :: _, h, _, _ => by simp at h
  | _ :: _, [], h, _, _ => by simp at h
  | x :: a, y :: b, h, ha, hb => by
    have hl : a.length = b.length := by simpa using h
    have ha' : Sm.allB a := fun z hz => ha z (by simp [hz])
    have hb' : Sm.allB b := fun z hz => hb z (by simp [hz])
    have ih := cmp_val a b hl ha' hb'
    have va := val_lt ha'
    have vb := val_lt hb'
    rw [val_cons, val_cons, hl]
    rw [hl] at va
    simp only [cmpL]
    generalize 256 ^ b.length = P at *
    by_cases h1 : x < y
    · rw [if_pos h1]
      have : (x + 1) * P ≤ y * P := Nat.mul_le_mul_right _ h1
      rw [Nat.add_mul] at this
      constructor
      · intro _; omega
      · intro _; decide
    · by_cases h2 : y < x
      · rw [if_neg h1, if_pos h2]
        have : (y + 1) * P ≤ x * P := Nat.mul_le_mul_right _ h2
        rw [Nat.add_mul] at this
        constructor
        · intro h; exact absurd h (by decide)
        · intro h; omega
      · rw [if_neg h1, if_neg h2, ih]
        obtain rfl : x = y := by omega
        omega
/-- The lesser number's bytes stand ahead. -/
theorem num_order {n m : Int} (h1 : -9223372036854775808 ≤ n) (h2 : n ≤ 9223372036854775807) (k1 : -9223372036854775808 ≤ m) (k2 : m ≤ 9223372036854775807) : cmpL (num n) (num m) < 0 ↔ n < m := by
  rw [cmp_val _ _ (by rw [num_length, num_length]) (num_ok n) (num_ok m)]
  unfold num
  rw [val_be, val_be]
  obtain ⟨a1, a2⟩ := z64_lt h1 h2
  obtain ⟨b1, b2⟩ := z64_lt k1 k2
  rw [Nat.mod_eq_of_lt (by omega), Nat.mod_eq_of_lt (by omega)]
  omega
end Go.Proofs.Ytlkeobohcfbgcaa.Cm

/- Plain mathematics of SHA-256, over natural numbers: words below 2^32, lists of words, lists of bytes. No program is named here. -/
namespace Go.Proofs.Ytlkeobohcfbgcaa.Sm
def rot (n x : Nat) : Nat := (x * 2 ^ (32 - n)) % 4294967296 ||| x / 2 ^ n
def s0 (x : Nat) : Nat := (rot 7 x ^^^ rot 18 x) ^^^ x / 8
def s1 (x : Nat) : Nat := (rot 17 x ^^^ rot 19 x) ^^^ x / 1024
def b0 (a : Nat) : Nat := (rot 2 a ^^^ rot 13 a) ^^^ rot 22 a
def b1 (e : Nat) : Nat := (rot 6 e ^^^ rot 11 e) ^^^ rot 25 e
def ch (e f g : Nat) : Nat := (e &&& f) ^^^ ((4294967295 - e) &&& g)
def mj (a b c : Nat) : Nat := ((a &&& b) ^^^ (a &&& c)) ^^^ (b &&& c)
structure V8 where
  (a b c d e f g h : Nat)
def V8.ok (v : V8) : Prop := v.a < 4294967296 ∧ v.b < 4294967296 ∧ v.c < 4294967296 ∧ v.d < 4294967296 ∧ v.e < 4294967296 ∧ v.f < 4294967296 ∧ v.g < 4294967296 ∧ v.h < 4294967296
def V8.list (v : V8) : List Nat := [v.a, v.b, v.c, v.d, v.e, v.f, v.g, v.h]
def t1 (k w : Nat) (v : V8) : Nat := (v.h + b1 v.e + ch v.e v.f v.g + k + w) % 4294967296
def t2 (v : V8) : Nat := (b0 v.a + mj v.a v.b v.c) % 4294967296
def step (k w : Nat) (v : V8) : V8 := ⟨(t1 k w v + t2 v) % 4294967296, v.a, v.b, v.c, (v.d + t1 k w v) % 4294967296, v.e, v.f, v.g⟩
def rounds (K W : List Nat) (v : V8) : Nat → V8
  | 0 => v
  | n + 1 => step (K.getD n 0) (W.getD n 0) (rounds K W v n)
def add8 (v u : V8) : V8 := ⟨(v.a + u.a) % 4294967296, (v.b + u.b) % 4294967296, (v.c + u.c) % 4294967296, (v.d + u.d) % 4294967296, (v.e + u.e) % 4294967296, (v.f + u.f) % 4294967296, (v.g + u.g) % 4294967296, (v.h + u.h) % 4294967296⟩
def turn (K W : List Nat) (v : V8) : V8 := add8 v (rounds K W v 64)
def word (B : List Nat) (i : Nat) : Nat := B.getD (4 * i) 0 * 16777216 + B.getD (4 * i + 1) 0 * 65536 + B.getD (4 * i + 2) 0 * 256 + B.getD (4 * i + 3) 0
def words (B : List Nat) : Nat → List Nat
  | 0 => []
  | n + 1 => words B n ++ [word B n]
def more (l : List Nat) : Nat → List Nat
  | 0 => l
  | n + 1 => more l n ++ [((more l n).getD n 0 + s0 ((more l n).getD (n + 1) 0) + (more l n).getD (n + 9) 0 + s1 ((more l n).getD (n + 14) 0)) % 4294967296]
def sched (B : List Nat) : List Nat := more (words B 16) 48
def ks : List Nat := [0x428a2f98, 0x71374491, 0xb5c0fbcf, 0xe9b5dba5, 0x3956c25b, 0x59f111f1, 0x923f82a4, 0xab1c5ed5, 0xd807aa98, 0x12835b01, 0x243185be, 0x550c7dc3, 0x72be5d74, 0x80deb1fe, 0x9bdc06a7, 0xc19bf174, 0xe49b69c1, 0xefbe4786, 0x0fc19dc6, 0x240ca1cc, 0x2de92c6f, 0x4a7484aa, 0x5cb0a9dc, 0x76f988da, 0x983e5152, 0xa831c66d, 0xb00327c8, 0xbf597fc7, 0xc6e00bf3, 0xd5a79147, 0x06ca6351, 0x14292967, 0x27b70a85, 0x2e1b2138, 0x4d2c6dfc, 0x53380d13, 0x650a7354, 0x766a0abb, 0x81c2c92e, 0x92722c85, 0xa2bfe8a1, 0xa81a664b, 0xc24b8b70, 0xc76c51a3, 0xd192e819, 0xd6990624, 0xf40e3585, 0x106aa070, 0x19a4c116, 0x1e376c08, 0x2748774c, 0x34b0bcb5, 0x391c0cb3, 0x4ed8aa4a, 0x5b9cca4f, 0x682e6ff3, 0x748f82ee, 0x78a5636f, 0x84c87814, 0x8cc70208, 0x90befffa, 0xa4506ceb, 0xbef9a3f7, 0xc67178f2]
def first : V8 := ⟨0x6a09e667, 0xbb67ae85, 0x3c6ef372, 0xa54ff53a, 0x510e527f, 0x9b05688c, 0x1f83d9ab, 0x5be0cd19⟩
/-- The words behind n full blocks of the bytes B. -/
def blocks (B : List Nat) (v : V8) : Nat → V8
  | 0 => v
  | n + 1 => turn ks (sched (B.drop (64 * n))) (blocks B v n)
def big (n : Nat) (k : Nat) : Nat := n / 2 ^ (8 * (7 - k)) % 256
def bigs (n : Nat) : List Nat := [big n 0, big n 1, big n 2, big n 3, big n 4, big n 5, big n 6, big n 7]
def fill (n : Nat) : List Nat := 128 :: (List.replicate ((119 - n % 64) % 64) 0 ++ bigs (8 * n))
def bytes4 (w : Nat) : List Nat := [w / 16777216 % 256, w / 65536 % 256, w / 256 % 256, w % 256]
def bytesOf (v : V8) : List Nat := v.list.flatMap bytes4
def full (T : List Nat) : List Nat := T ++ fill T.length
/-- The sum of a text. -/
def sum (T : List Nat) : List Nat := bytesOf (blocks (full T) first ((full T).length / 64))

theorem rot_lt {n x : Nat} (h : x < 4294967296) : rot n x < 4294967296 := by
  unfold rot
  have h2 : x / 2 ^ n < 2 ^ 32 := Nat.lt_of_le_of_lt (Nat.div_le_self _ _) (by omega)
  have h1 : x * 2 ^ (32 - n) % 4294967296 < 2 ^ 32 := by have := Nat.mod_lt (x * 2 ^ (32 - n)) (show 0 < 4294967296 by omega); omega
  have := Nat.or_lt_two_pow h1 h2
  omega
theorem xor_lt {a b : Nat} (h1 : a < 4294967296) (h2 : b < 4294967296) : a ^^^ b < 4294967296 := by
  have := Nat.xor_lt_two_pow (n := 32) (x := a) (y := b) (by omega) (by omega); omega
theorem and_lt {a b : Nat} (h2 : b < 4294967296) : a &&& b < 4294967296 := by
  have := Nat.and_lt_two_pow (n := 32) a (y := b) (by omega); omega
theorem s0_lt {x : Nat} (h : x < 4294967296) : s0 x < 4294967296 := xor_lt (xor_lt (rot_lt h) (rot_lt h)) (by omega)
theorem s1_lt {x : Nat} (h : x < 4294967296) : s1 x < 4294967296 := xor_lt (xor_lt (rot_lt h) (rot_lt h)) (by omega)
theorem b0_lt {x : Nat} (h : x < 4294967296) : b0 x < 4294967296 := xor_lt (xor_lt (rot_lt h) (rot_lt h)) (rot_lt h)
theorem b1_lt {x : Nat} (h : x < 4294967296) : b1 x < 4294967296 := xor_lt (xor_lt (rot_lt h) (rot_lt h)) (rot_lt h)
theorem ch_lt {e f g : Nat} (h2 : f < 4294967296) (h3 : g < 4294967296) : ch e f g < 4294967296 := xor_lt (and_lt h2) (and_lt h3)
theorem mj_lt {a b c : Nat} (h2 : b < 4294967296) (h3 : c < 4294967296) : mj a b c < 4294967296 := xor_lt (xor_lt (and_lt h2) (and_lt h3)) (and_lt h3)
theorem step_ok {k w : Nat} {v : V8} (h : v.ok) : (step k w v).ok := by
  obtain ⟨ha, hb, hc, hd, he, hf, hg, hh⟩ := h
  exact ⟨Nat.mod_lt _ (by omega), ha, hb, hc, Nat.mod_lt _ (by omega), he, hf, hg⟩
theorem rounds_ok {K W : List Nat} {v : V8} (h : v.ok) (n : Nat) : (rounds K W v n).ok := by
  induction n with
  | zero => exact h
  | succ n ih => exact step_ok ih
theorem add8_ok {v u : V8} : (add8 v u).ok := by
  refine ⟨?_, ?_, ?_, ?_, ?_, ?_, ?_, ?_⟩ <;> exact Nat.mod_lt _ (by omega)
theorem first_ok : first.ok := by unfold V8.ok first; decide
theorem blocks_ok {B : List Nat} {v : V8} (h : v.ok) (n : Nat) : (blocks B v n).ok := by
  cases n with
  | zero => exact h
  | succ n => exact add8_ok
theorem length_words (B : List Nat) (n : Nat) : (words B n).length = n := by
  induction n with
  | zero => rfl
  | succ n ih => simp [words, ih]
theorem length_more (l : List Nat) (n : Nat) : (more l n).length = l.length + n := by
  induction n with
  | zero => rfl
  | succ n ih => simp [more, ih]; omega
theorem length_sched (B : List Nat) : (sched B).length = 64 := by simp [sched, length_more, length_words]
def allW (l : List Nat) : Prop := ∀ x ∈ l, x < 4294967296
theorem word_lt {B : List Nat} (h : allB B) (i : Nat) : word B i < 4294967296 := by
  have h0 := getD_lt h (by omega) (4 * i)
  have h1 := getD_lt h (by omega) (4 * i + 1)
  have h2 := getD_lt h (by omega) (4 * i + 2)
  have h3 := getD_lt h (by omega) (4 * i + 3)
  unfold word; omega
theorem words_ok {B : List Nat} (h : allB B) (n : Nat) : allW (words B n) := by
  induction n with
  | zero => intro x hx; simp [words] at hx
  | succ n ih =>
    intro x hx
    simp only [words, List.mem_append, List.mem_singleton] at hx
    rcases hx with hx | rfl
    · exact ih x hx
    · exact word_lt h n
theorem more_ok {l : List Nat} (h : allW l) (n : Nat) : allW (more l n) := by
  induction n with
  | zero => exact h
  | succ n ih =>
    intro x hx
    simp only [more, List.mem_append, List.mem_singleton] at hx
    rcases hx with hx | rfl
    · exact ih x hx
    · exact Nat.mod_lt _ (by omega)
theorem sched_ok {B : List Nat} (h : allB B) : allW (sched B) := more_ok (words_ok h 16) 48
theorem ks_ok : allW ks := by unfold allW ks; decide
theorem big_lt (n k : Nat) : big n k < 256 := Nat.mod_lt _ (by omega)
theorem not_nat {e : Nat} (h : e < 4294967296) : 4294967295 ^^^ e = 4294967295 - e := by
  have h1 : (BitVec.allOnes 32 ^^^ BitVec.ofNat 32 e).toNat = (~~~ BitVec.ofNat 32 e).toNat := by rw [BitVec.allOnes_xor]
  rw [BitVec.toNat_xor, BitVec.toNat_not, BitVec.toNat_allOnes, BitVec.toNat_ofNat, Nat.mod_eq_of_lt (by omega)] at h1
  exact h1
theorem max_u32 : IntKind.u32.max = 4294967295 := by decide
theorem b1_int {e : Nat} (h : e < 4294967296) : bits .xor .u32 (bits .xor .u32 (rot 6 e : Nat) (rot 11 e : Nat)) (rot 25 e : Nat) = ((b1 e : Nat) : Int) := by
  rw [u32_xor_nat _ _ (rot_lt h) (rot_lt h), u32_xor_nat _ _ (xor_lt (rot_lt h) (rot_lt h)) (rot_lt h)]; rfl
theorem b0_int {e : Nat} (h : e < 4294967296) : bits .xor .u32 (bits .xor .u32 (rot 2 e : Nat) (rot 13 e : Nat)) (rot 22 e : Nat) = ((b0 e : Nat) : Int) := by
  rw [u32_xor_nat _ _ (rot_lt h) (rot_lt h), u32_xor_nat _ _ (xor_lt (rot_lt h) (rot_lt h)) (rot_lt h)]; rfl
theorem ch_int {e f g : Nat} (he : e < 4294967296) (hf : f < 4294967296) (hg : g < 4294967296) :
    bits .xor .u32 (bits .and .u32 (e : Nat) (f : Nat)) (bits .and .u32 (bits .xor .u32 IntKind.u32.max (e : Nat)) (g : Nat)) = ((ch e f g : Nat) : Int) := by
  have h1 : bits .xor .u32 IntKind.u32.max (e : Nat) = ((4294967295 - e : Nat) : Int) := by
    rw [max_u32]
    have := u32_xor_nat 4294967295 e (by omega) he
    rw [not_nat he] at this
    exact this
  rw [h1, u32_and_nat _ _ he hf, u32_and_nat _ _ (by omega) hg, u32_xor_nat _ _ (and_lt hf) (and_lt hg)]; rfl
theorem mj_int {a b c : Nat} (ha : a < 4294967296) (hb : b < 4294967296) (hc : c < 4294967296) :
    bits .xor .u32 (bits .xor .u32 (bits .and .u32 (a : Nat) (b : Nat)) (bits .and .u32 (a : Nat) (c : Nat))) (bits .and .u32 (b : Nat) (c : Nat)) = ((mj a b c : Nat) : Int) := by
  rw [u32_and_nat _ _ ha hb, u32_and_nat _ _ ha hc, u32_and_nat _ _ hb hc, u32_xor_nat _ _ (and_lt hb) (and_lt hc), u32_xor_nat _ _ (xor_lt (and_lt hb) (and_lt hc)) (and_lt hc)]; rfl
theorem t1_int {u : V8} (hu : u.ok) (k w : Nat) :
    ((u.h : Nat) + bits .xor .u32 (bits .xor .u32 (rot 6 u.e : Nat) (rot 11 u.e : Nat)) (rot 25 u.e : Nat) + bits .xor .u32 (bits .and .u32 (u.e : Nat) (u.f : Nat)) (bits .and .u32 (bits .xor .u32 IntKind.u32.max (u.e : Nat)) (u.g : Nat)) + (k : Nat) + (w : Nat)) % 4294967296 = ((t1 k w u : Nat) : Int) := by
  obtain ⟨ha, hb, hc, hd, he, hf, hg, hh⟩ := hu
  rw [b1_int he, ch_int he hf hg]; unfold t1; omega
theorem t2_int {u : V8} (hu : u.ok) :
    (bits .xor .u32 (bits .xor .u32 (rot 2 u.a : Nat) (rot 13 u.a : Nat)) (rot 22 u.a : Nat) + bits .xor .u32 (bits .xor .u32 (bits .and .u32 (u.a : Nat) (u.b : Nat)) (bits .and .u32 (u.a : Nat) (u.c : Nat))) (bits .and .u32 (u.b : Nat) (u.c : Nat))) % 4294967296 = ((t2 u : Nat) : Int) := by
  obtain ⟨ha, hb, hc, hd, he, hf, hg, hh⟩ := hu
  rw [b0_int ha, mj_int ha hb hc]; unfold t2; omega
theorem or_shl {a b n : Nat} (h : b < 2 ^ n) : a * 2 ^ n ||| b = a * 2 ^ n + b := by
  have := Nat.shiftLeft_add_eq_or_of_lt h a
  rw [Nat.shiftLeft_eq] at this
  exact this.symm
theorem word_nat {x0 x1 x2 x3 : Nat} (h1 : x1 < 256) (h2 : x2 < 256) (h3 : x3 < 256) : ((x0 * 16777216 ||| x1 * 65536) ||| x2 * 256) ||| x3 = x0 * 16777216 + x1 * 65536 + x2 * 256 + x3 := by
  have e1 : x0 * 16777216 ||| x1 * 65536 = x0 * 16777216 + x1 * 65536 := or_shl (n := 24) (by omega)
  have e2 : (x0 * 16777216 + x1 * 65536) ||| x2 * 256 = x0 * 16777216 + x1 * 65536 + x2 * 256 := by
    have := or_shl (a := x0 * 256 + x1) (n := 16) (b := x2 * 256) (by omega)
    rw [show (x0 * 256 + x1) * 2 ^ 16 = x0 * 16777216 + x1 * 65536 from by omega] at this
    exact this
  have e3 : (x0 * 16777216 + x1 * 65536 + x2 * 256) ||| x3 = x0 * 16777216 + x1 * 65536 + x2 * 256 + x3 := by
    have := or_shl (a := x0 * 65536 + x1 * 256 + x2) (n := 8) (b := x3) (by omega)
    rw [show (x0 * 65536 + x1 * 256 + x2) * 2 ^ 8 = x0 * 16777216 + x1 * 65536 + x2 * 256 from by omega] at this
    exact this
  rw [e1, e2, e3]
theorem word_int {x0 x1 x2 x3 : Nat} (h0 : x0 < 256) (h1 : x1 < 256) (h2 : x2 < 256) (h3 : x3 < 256) :
    bits .or .u32 (bits .or .u32 (bits .or .u32 ((x0 : Nat) * 16777216) ((x1 : Nat) * 65536)) ((x2 : Nat) * 256)) (x3 : Nat) = ((x0 * 16777216 + x1 * 65536 + x2 * 256 + x3 : Nat) : Int) := by
  have e0 : ((x0 : Nat) : Int) * 16777216 = ((x0 * 16777216 : Nat) : Int) := by omega
  have e1 : ((x1 : Nat) : Int) * 65536 = ((x1 * 65536 : Nat) : Int) := by omega
  have e2 : ((x2 : Nat) : Int) * 256 = ((x2 * 256 : Nat) : Int) := by omega
  have l1 : x0 * 16777216 ||| x1 * 65536 < 4294967296 := by have := Nat.or_lt_two_pow (n := 32) (x := x0 * 16777216) (y := x1 * 65536) (by omega) (by omega); omega
  have l2 : (x0 * 16777216 ||| x1 * 65536) ||| x2 * 256 < 4294967296 := by have := Nat.or_lt_two_pow (n := 32) (x := x0 * 16777216 ||| x1 * 65536) (y := x2 * 256) (by omega) (by omega); omega
  rw [e0, e1, e2, u32_or_nat _ _ (by omega) (by omega), u32_or_nat _ _ l1 (by omega), u32_or_nat _ _ l2 (by omega), word_nat h1 h2 h3]
theorem s0_int {x : Nat} (h : x < 4294967296) : bits .xor .u32 (bits .xor .u32 (rot 7 x : Nat) (rot 18 x : Nat)) ((x : Nat) / 8) = ((s0 x : Nat) : Int) := by
  have e : ((x : Nat) : Int) / 8 = ((x / 8 : Nat) : Int) := by omega
  rw [e, u32_xor_nat _ _ (rot_lt h) (rot_lt h), u32_xor_nat _ _ (xor_lt (rot_lt h) (rot_lt h)) (by omega)]; rfl
theorem s1_int {x : Nat} (h : x < 4294967296) : bits .xor .u32 (bits .xor .u32 (rot 17 x : Nat) (rot 19 x : Nat)) ((x : Nat) / 1024) = ((s1 x : Nat) : Int) := by
  have e : ((x : Nat) : Int) / 1024 = ((x / 1024 : Nat) : Int) := by omega
  rw [e, u32_xor_nat _ _ (rot_lt h) (rot_lt h), u32_xor_nat _ _ (xor_lt (rot_lt h) (rot_lt h)) (by omega)]; rfl
end Go.Proofs.Ytlkeobohcfbgcaa.Sm

/- A preimage, plainly. -/
namespace Go.Proofs.Ytlkeobohcfbgcaa
open Go.RowKit

def part (t : List Nat) : List Nat := Sm.bigs t.length ++ t
def pre (tag : Nat) (L : List (List Nat)) : List Nat := tag :: L.flatMap part
def tot (L : List (List Nat)) : Nat := (pre 0 L).length
theorem pre_length (tag : Nat) (L : List (List Nat)) : (pre tag L).length = tot L := by simp [pre, tot]
theorem pre_step (tag : Nat) (L : List (List Nat)) (k : Nat) (h : k < L.length) : pre tag (L.take (k + 1)) = pre tag (L.take k) ++ part (L.getD k []) := by
  rw [take_succ_getD L k h]; simp [pre]
theorem part_length (t : List Nat) : (part t).length = 8 + t.length := by simp [part, Sm.bigs]; omega
theorem tot_step (L : List (List Nat)) (k : Nat) (h : k < L.length) : tot (L.take (k + 1)) = tot (L.take k) + (8 + (L.getD k []).length) := by
  have := congrArg List.length (pre_step 0 L k h)
  rw [List.length_append, part_length] at this
  exact this
theorem tot_split (L : List (List Nat)) (k : Nat) : tot L = tot (L.take k) + ((L.drop k).flatMap part).length := by
  have h : L.flatMap part = (L.take k).flatMap part ++ (L.drop k).flatMap part := by rw [← List.flatMap_append, List.take_append_drop]
  simp only [tot, pre, List.length_cons]
  rw [h, List.length_append]
  omega
theorem tot_take_le (L : List (List Nat)) (k : Nat) : tot (L.take k) ≤ tot L := by
  have := tot_split L k
  omega
theorem len_le_flat (M : List (List Nat)) : M.length ≤ (M.flatMap part).length := by
  induction M with
  | nil => simp
  | cons t M ih => rw [List.flatMap_cons, List.length_append, part_length]; simp only [List.length_cons]; omega
theorem len_le_tot (L : List (List Nat)) : L.length ≤ tot L := by
  have := len_le_flat L
  simp only [tot, pre, List.length_cons]
  omega
def PreRel (w : World) (tag len : Nat) (L : List (List Nat)) (v i : Value) (wr : World) : Prop :=
  ∃ k : Nat, k ≤ len ∧ i = .int .i64 k ∧ wr.ownsRow w.heap.size 5 1 v (tot (L.take k)) (vals (pre tag (L.take k))) ∧ Below w.heap.size w wr
theorem tot_zero : tot ([] : List (List Nat)) = 1 := rfl
theorem bigs_all (n : Nat) : Sm.allB (Sm.bigs n) := by
  have h : ∀ k, Sm.big n k < 256 := fun k => by unfold Sm.big; exact Nat.mod_lt _ (by omega)
  intro x hx
  simp only [Sm.bigs, List.mem_cons, List.not_mem_nil, or_false] at hx
  rcases hx with rfl | rfl | rfl | rfl | rfl | rfl | rfl | rfl <;> exact h _
end Go.Proofs.Ytlkeobohcfbgcaa

/- A sum's bytes are bytes. -/
namespace Go.Proofs.Ytlkeobohcfbgcaa

theorem sum_ok (B : List Nat) : Sm.allB (Sm.sum B) := by
  intro x hx
  simp only [Sm.sum, Sm.bytesOf, List.mem_flatMap] at hx
  obtain ⟨w, _, hx⟩ := hx
  simp only [Sm.bytes4, List.mem_cons, List.not_mem_nil, or_false] at hx
  rcases hx with rfl | rfl | rfl | rfl <;> exact Nat.mod_lt _ (by omega)
end Go.Proofs.Ytlkeobohcfbgcaa

/- The log of a disk, plainly. -/
namespace Go.Proofs.Ytlkeobohcfbgcaa.Wl
open Go.RowKit

/-- How many sectors a record of n bytes has. -/
def need (n : Nat) : Nat := 1 + (n - 19 + 63) / 64
theorem need_pos (n : Nat) : 1 ≤ need n := by unfold need; omega
/-- The sum of the record number k behind another one's. -/
def rsum (last : List Nat) (k : Nat) (b : List Nat) : List Nat := Sm.sum (pre 87 [last, Cm.num k, b])
theorem rsum_length (last : List Nat) (k : Nat) (b : List Nat) : (rsum last k b).length = 32 := rfl
theorem rsum_ok (last : List Nat) (k : Nat) (b : List Nat) : Sm.allB (rsum last k b) := sum_ok _
/-- The first 19 bytes, with zeros behind them. -/
def pad19 (b : List Nat) : List Nat := b.take 19 ++ zeros (19 - b.length)
theorem pad19_length (b : List Nat) : (pad19 b).length = 19 := by simp [pad19, zeros]; omega
/-- A record's first sector. -/
def head (last : List Nat) (k : Nat) (b : List Nat) : List Nat := 87 :: (Cm.be b.length 3 ++ Cm.num k ++ pad19 b ++ rsum last k b ++ [1])
theorem head_length (last : List Nat) (k : Nat) (b : List Nat) : (head last k b).length = 64 := by
  simp [head, Cm.be_length, Cm.num_length, pad19_length, rsum_length]
/-- Its other sectors. -/
def rest (b : List Nat) : List Nat := b.drop 19 ++ zeros (64 * (need b.length - 1) - (b.length - 19))
theorem rest_length (b : List Nat) : (rest b).length = 64 * (need b.length - 1) := by
  simp only [rest, zeros, List.length_append, List.length_drop, List.length_replicate, need]
  omega
def sects (last : List Nat) (k : Nat) (b : List Nat) : List Nat := head last k b ++ rest b
theorem sects_length (last : List Nat) (k : Nat) (b : List Nat) : (sects last k b).length = 64 * need b.length := by
  have := need_pos b.length
  rw [sects, List.length_append, head_length, rest_length]
  omega
theorem pad19_ok {b : List Nat} (h : Sm.allB b) : Sm.allB (pad19 b) := fun x hx => by
  simp only [pad19, List.mem_append] at hx
  rcases hx with hx | hx
  · exact h x (List.mem_of_mem_take hx)
  · exact zeros_ok _ x hx
theorem head_ok (last : List Nat) (k : Nat) {b : List Nat} (h : Sm.allB b) : Sm.allB (head last k b) := fun x hx => by
  simp only [head, List.mem_cons, List.mem_append, List.not_mem_nil, or_false] at hx
  rcases hx with rfl | (((hx | hx) | hx) | hx) | rfl
  · omega
  · exact Cm.be_ok _ _ x hx
  · exact Cm.num_ok _ x hx
  · exact pad19_ok h x hx
  · exact rsum_ok _ _ _ x hx
  · omega
theorem rest_ok {b : List Nat} (h : Sm.allB b) : Sm.allB (rest b) := fun x hx => by
  simp only [rest, List.mem_append] at hx
  rcases hx with hx | hx
  · exact h x (List.mem_of_mem_drop hx)
  · exact zeros_ok _ x hx
theorem sects_ok (last : List Nat) (k : Nat) {b : List Nat} (h : Sm.allB b) : Sm.allB (sects last k b) := fun x hx => by
  rcases List.mem_append.1 hx with hx | hx
  · exact head_ok _ _ h x hx
  · exact rest_ok h x hx
/-- The sum of the first k records; their sectors; how many bytes these have. -/
def last (R : List (List Nat)) : Nat → List Nat
  | 0 => zeros 32
  | k + 1 => rsum (last R k) k (R.getD k [])
def all (R : List (List Nat)) : Nat → List Nat
  | 0 => []
  | k + 1 => all R k ++ sects (last R k) k (R.getD k [])
def size (R : List (List Nat)) : Nat → Nat
  | 0 => 0
  | k + 1 => size R k + 64 * need (R.getD k []).length
theorem last_length (R : List (List Nat)) : ∀ k, (last R k).length = 32
  | 0 => by simp [last, zeros]
  | _ + 1 => rfl
theorem last_ok (R : List (List Nat)) : ∀ k, Sm.allB (last R k)
  | 0 => zeros_ok _
  | _ + 1 => rsum_ok _ _ _
theorem all_length (R : List (List Nat)) : ∀ k, (all R k).length = size R k
  | 0 => rfl
  | k + 1 => by rw [all, size, List.length_append, sects_length, all_length R k]
theorem getD_app (R : List (List Nat)) (b : List Nat) {k : Nat} (h : k < R.length) : (R ++ [b]).getD k [] = R.getD k [] := by
  simp [List.getD_eq_getElem?_getD, List.getElem?_append_left h]
theorem getD_end (R : List (List Nat)) (b : List Nat) : (R ++ [b]).getD R.length [] = b := by
  simp [List.getD_eq_getElem?_getD]
theorem last_app (R : List (List Nat)) (b : List Nat) : ∀ k, k ≤ R.length → last (R ++ [b]) k = last R k
  | 0, _ => rfl
  | k + 1, h => by rw [last, last, last_app R b k (by omega), getD_app R b (by omega)]
theorem all_app (R : List (List Nat)) (b : List Nat) : ∀ k, k ≤ R.length → all (R ++ [b]) k = all R k
  | 0, _ => rfl
  | k + 1, h => by rw [all, all, all_app R b k (by omega), last_app R b k (by omega), getD_app R b (by omega)]
theorem size_app (R : List (List Nat)) (b : List Nat) : ∀ k, k ≤ R.length → size (R ++ [b]) k = size R k
  | 0, _ => rfl
  | k + 1, h => by rw [size, size, size_app R b k (by omega), getD_app R b (by omega)]
theorem last_one (R : List (List Nat)) (b : List Nat) : last (R ++ [b]) (R ++ [b]).length = rsum (last R R.length) R.length b := by
  rw [List.length_append, List.length_singleton, last, last_app R b _ (Nat.le_refl _), getD_end]
theorem all_one (R : List (List Nat)) (b : List Nat) : all (R ++ [b]) (R ++ [b]).length = all R R.length ++ sects (last R R.length) R.length b := by
  rw [List.length_append, List.length_singleton, all, all_app R b _ (Nat.le_refl _), last_app R b _ (Nat.le_refl _), getD_end]
theorem size_one (R : List (List Nat)) (b : List Nat) : size (R ++ [b]) (R ++ [b]).length = size R R.length + 64 * need b.length := by
  rw [List.length_append, List.length_singleton, size, size_app R b _ (Nat.le_refl _), getD_end]
theorem all_ok (R : List (List Nat)) (h : ∀ b ∈ R, Sm.allB b) : ∀ k, Sm.allB (all R k)
  | 0 => fun x hx => by cases hx
  | k + 1 => fun x hx => by
    rcases List.mem_append.1 hx with hx | hx
    · exact all_ok R h k x hx
    · refine sects_ok _ _ ?_ x hx
      by_cases hk : k < R.length
      · rw [List.getD_eq_getElem?_getD, List.getElem?_eq_getElem hk]
        exact h _ (List.getElem_mem hk)
      · rw [List.getD_eq_getElem?_getD, List.getElem?_eq_none (by omega)]
        exact fun x hx => by cases hx
theorem size_mono (R : List (List Nat)) {j k : Nat} (h : j ≤ k) : size R j ≤ size R k := by
  induction h with
  | refl => exact Nat.le_refl _
  | step _ ih => rw [size]; omega
/-- What bytes say of a record that begins at a place: its length, its bytes. -/
def lenAt (d : List Nat) (at' : Nat) : Nat := 65536 * d.getD (at' + 1) 0 + 256 * d.getD (at' + 2) 0 + d.getD (at' + 3) 0
def byteAt (d : List Nat) (at' i : Nat) : Nat := if i < 19 then d.getD (at' + 12 + i) 0 else d.getD (at' + 64 + i - 19) 0
def recAt (d : List Nat) (at' n : Nat) : List Nat := (List.range n).map (byteAt d at')
theorem recAt_length (d : List Nat) (at' n : Nat) : (recAt d at' n).length = n := by simp [recAt]
theorem recAt_succ (d : List Nat) (at' n : Nat) : recAt d at' (n + 1) = recAt d at' n ++ [byteAt d at' n] := by simp [recAt, List.range_succ]
theorem byteAt_lt {d : List Nat} (h : Sm.allB d) (at' i : Nat) : byteAt d at' i < 256 := by
  unfold byteAt
  split <;> exact Sm.getD_lt h (by omega) _
theorem recAt_ok {d : List Nat} (h : Sm.allB d) (at' n : Nat) : Sm.allB (recAt d at' n) := fun x hx => by
  simp only [recAt, List.mem_map] at hx
  obtain ⟨i, _, rfl⟩ := hx
  exact byteAt_lt h at' i
/-- One step of reading behind the records R: no log; the end; one more record. -/
inductive Next where
  | no
  | stop
  | more (b : List Nat)
def next (d : List Nat) (R : List (List Nat)) : Next :=
  if size R R.length < d.length ∧ d.getD (size R R.length + 63) 0 = 1 then
    (if 100000 < lenAt d (size R R.length) ∨ d.length < size R R.length + 64 * need (lenAt d (size R R.length)) then .no
    else if head (last R R.length) R.length (recAt d (size R R.length) (lenAt d (size R R.length))) = (d.drop (size R R.length)).take 64 then .more (recAt d (size R R.length) (lenAt d (size R R.length)))
    else .no)
  else .stop
/-- The records of so many steps. -/
def go (d : List Nat) : Nat → List (List Nat) → Option (List (List Nat))
  | 0, R => some R
  | f + 1, R => match next d R with
    | .no => none
    | .stop => some R
    | .more b => go d f (R ++ [b])
/-- The log of a disk's bytes, if there is one. -/
def reads (d : List Nat) : Option (List (List Nat)) := go d (d.length / 64 + 1) []
theorem go_stop {d : List Nat} {R : List (List Nat)} (h : next d R = .stop) : ∀ f, go d f R = some R
  | 0 => rfl
  | f + 1 => by rw [go, h]
end Go.Proofs.Ytlkeobohcfbgcaa.Wl

/- The reference's log: Need. -/
namespace Go.Proofs.Ytlkeobohcfbgcaa.Wl
open Go.RowKit

/-- How many sectors a record of n bytes has, whatever n is. -/
def needI (n : Int) : Nat := if n < 0 ∨ 100000 < n then 0 else need n.toNat
theorem needI_nat {n : Nat} (h : n ≤ 100000) : needI n = need n := by unfold needI; rw [if_neg (by omega)]; rfl
def NeedRel (w : World) (n : Nat) (kv lv : Value) (wr : World) : Prop :=
  ∃ i k : Nat, k = 1 + i ∧ i ≤ (n - 19 + 63) / 64 ∧ kv = .int .i64 (k : Int) ∧ lv = .int .i64 ((n : Int) - 19 - 64 * i) ∧ wr = w
set_option maxRecDepth 100000 in
set_option maxHeartbeats 1000000 in
theorem rneed_any (n : Int) (w : World) (h1 : -9223372036854775808 ≤ n) (h2 : n ≤ 9223372036854775807) :
    Calls Try.prog 10 #[.int .i64 n] w fun e w' => e = .returned (.int .i64 (needI n : Nat)) ∧ w' = w := by
  by_cases h0 : n < 0
  · have e : needI n = 0 := by unfold needI; rw [if_pos (Or.inl h0)]
    rw [e]
    go_enter Try.func10, Try.ntmps10
    go_wp2_with fail
    go_ret
    exact ⟨rfl, rfl⟩
  · by_cases h3 : n > 100000
    · have e : needI n = 0 := by unfold needI; rw [if_pos (Or.inr h3)]
      rw [e]
      go_enter Try.func10, Try.ntmps10
      go_wp2_with fail
      go_ret
      exact ⟨rfl, rfl⟩
    · obtain ⟨m, rfl⟩ : ∃ m : Nat, n = m := ⟨n.toNat, by omega⟩
      have hm : m ≤ 100000 := by omega
      have HE := Lib.hid (show needI m = 1 + (m - 19 + 63) / 64 from needI_nat hm)
      have q1 : IntKind.i64.wrap ((m : Int) - 19) = (m : Int) - 19 := IntWalk.i64_in _ (by omega)
      go_enter Try.func10, Try.ntmps10
      go_wp2_with fail
      go_loopw [3, 4] (fun kv lv wr => NeedRel w m kv lv wr) (fun _ lv _ => (intOf lv).toNat)
      case atStart => exact ⟨0, 1, rfl, Nat.zero_le _, rfl, by simp, rfl⟩
      case round =>
        obtain ⟨i, k, hki, hi, rfl, rfl, rfl⟩ := hrel
        by_cases hg : (m : Int) - 19 - 64 * i > 0
        · have hg' : 0 < (m : Int) - 19 - 64 * i := hg
          have q2 : IntKind.i64.wrap ((m : Int) - 19 - 64 * i - 64) = (m : Int) - 19 - 64 * i - 64 := IntWalk.i64_in _ (by omega)
          have hk8 : (k : Int) < 100000 := by omega
          have HKI := Lib.hid hki
          clear hki
          have HI := Lib.hid (show i + 1 ≤ (m - 19 + 63) / 64 from by omega)
          clear hi
          generalize hx : (m : Int) - 19 - 64 * i = x at *
          have HX := Lib.hid hx
          clear hx
          go_wp2_with fail
          go_roundw
          case rel => exact ⟨i + 1, k + 1, by have := HKI.out; omega, HI.out, by go_num, by rw [show (m : Int) - 19 - 64 * ((i + 1 : Nat) : Int) = x - 64 from by have := HX.out; omega], rfl⟩
          case measure => simp [intOf]; omega
        · have hg' : ¬ 0 < (m : Int) - 19 - 64 * i := hg
          have hend : k = needI m := by rw [HE.out]; omega
          have HEND := Lib.hid hend
          clear hend hi hki
          generalize (m : Int) - 19 - 64 * i = x at *
          go_wp2_with fail
          go_ret
          exact ⟨congrArg (fun y : Nat => Ending.returned (.int .i64 (y : Int))) HEND.out, rfl⟩
end Go.Proofs.Ytlkeobohcfbgcaa.Wl

/- Package wal, as it landed: inFirst, Need. -/
namespace Go.Proofs.Ytlkeobohcfbgcaa.Wl
open Go.RowKit

set_option maxHeartbeats 1000000 in
theorem infirst_any (n : Nat) (w : World) : Calls Try.prog 30 #[.int .i64 n] w fun e w' => e = .returned (.int .i64 (min n 19 : Nat)) ∧ w = w' := by
  have e : ((min n 19 : Nat) : Int) = min (n : Int) 19 := by omega
  rw [e]
  clear e
  go_enter Try.func30, Try.ntmps30
  go_wp2_with fail
  go_ret
  exact ⟨rfl, rfl⟩
set_option maxRecDepth 100000 in
set_option maxHeartbeats 1000000 in
theorem wneed_any (n : Int) (w : World) (h1 : -9223372036854775808 ≤ n) (h2 : n ≤ 9223372036854775807) :
    Calls Try.prog 9 #[.int .i64 n] w fun e w' => e = .returned (.int .i64 (needI n : Nat)) ∧ w = w' := by
  by_cases h0 : n < 0
  · have e : needI n = 0 := by unfold needI; rw [if_pos (Or.inl h0)]
    rw [e]
    clear e
    go_enter Try.func9, Try.ntmps9
    go_wp2_with fail
    go_ret
    exact ⟨rfl, rfl⟩
  · by_cases h3 : n > 100000
    · have e : needI n = 0 := by unfold needI; rw [if_pos (Or.inr h3)]
      rw [e]
      clear e
      go_enter Try.func9, Try.ntmps9
      go_wp2_with fail
      go_ret
      exact ⟨rfl, rfl⟩
    · obtain ⟨m, rfl⟩ : ∃ m : Nat, n = m := ⟨n.toNat, by omega⟩
      have hm : m ≤ 100000 := by omega
      have HE := Lib.hid (show needI m = 1 + (m - 19 + 63) / 64 from needI_nat hm)
      obtain ⟨k, hk⟩ : ∃ k, min m 19 = k := ⟨_, rfl⟩
      have hkm : k ≤ m ∧ k ≤ 19 := by omega
      have hkx : m - 19 = m - k := by omega
      have HK := Lib.hid hk
      have HX := Lib.hid hkx
      clear hk hkx
      have q1 : IntKind.i64.wrap ((m : Int) - k) = (m : Int) - k := IntWalk.i64_in _ (by omega)
      have q2 : IntKind.i64.wrap ((m : Int) - k + 64) = (m : Int) - k + 64 := IntWalk.i64_in _ (by omega)
      have q3 : IntKind.i64.wrap ((m : Int) - k + 64 - 1) = (m : Int) - k + 63 := by rw [IntWalk.i64_in _ (by omega)]; omega
      obtain ⟨hkm1, hkm2⟩ := hkm
      clear h1 h2
      go_enter Try.func9, Try.ntmps9
      go_wp2_with fail
      refine (infirst_any m w).mono ?_
      rintro e w' ⟨rfl, rfl⟩
      rw [HK.out]
      go_wp2_with fail
      go_ret
      refine ⟨?_, rfl⟩
      rw [HE.out, HX.out]
      show Ending.returned (Value.int IntKind.i64 (1 + ((m : Int) - k + 63) / 64)) = _
      congr 2
      omega
end Go.Proofs.Ytlkeobohcfbgcaa.Wl

/- The contracts of codec.Writer: put, Byte, value, refuse. -/
namespace Go.Proofs.Ytlkeobohcfbgcaa
open Go.RowKit

/-- The world behind calls that wrote at the block g, at the row that v owned, and in new blocks. -/
structure WStep (w w' : World) (g : Nat) (v v' : Value) : Prop where
  os : w'.os = w.os
  tape : w'.tape = w.tape
  output : w'.output = w.output
  size : w.heap.size ≤ w'.heap.size
  block : ∀ k, k < w.heap.size → k ≠ g → v.ownBlock ≠ some k → w'.heap[k]? = w.heap[k]?
  own : ∀ k, v'.ownBlock = some k → v.ownBlock = some k ∨ w.heap.size ≤ k
theorem WStep.refl (w : World) (g : Nat) (v : Value) : WStep w w g v v := ⟨rfl, rfl, rfl, Nat.le_refl _, fun _ _ _ _ => rfl, fun _ h => Or.inl h⟩
theorem WStep.trans {a b c : World} {g : Nat} {v1 v2 v3 : Value} (h : WStep a b g v1 v2) (k : WStep b c g v2 v3) : WStep a c g v1 v3 :=
  ⟨k.os.trans h.os, k.tape.trans h.tape, k.output.trans h.output, Nat.le_trans h.size k.size,
    fun i hi hg hv => (k.block i (Nat.lt_of_lt_of_le hi h.size) hg (fun e => by rcases h.own i e with h1 | h1; exact hv h1; omega)).trans (h.block i hi hg hv),
    fun i hi => by
      rcases k.own i hi with h1 | h1
      · exact h.own i h1
      · exact Or.inr (Nat.le_trans h.size h1)⟩
theorem WStep.of_below {w w' : World} (g : Nat) (v : Value) (h : Below w.heap.size w w') : WStep w w' g v v :=
  ⟨h.os, h.tape, h.output, h.size, fun k hk _ _ => h.block k hk, fun _ h => Or.inl h⟩
theorem WStep.alloc (w : World) (g : Nat) (v : Value) (o : Obj) : WStep w (w.alloc o) g v v := WStep.of_below g v ((Below.refl _ _).alloc (Nat.le_refl _) _)
theorem WStep.below {w w' : World} {base g : Nat} {v v' : Value} (h : WStep w w' g v v') (hg : base ≤ g) (hv : ∀ k, v.ownBlock = some k → base ≤ k) (hs : base ≤ w.heap.size) : Below base w w' :=
  ⟨h.os, h.tape, h.output, h.size, fun k hk => h.block k (by omega) (by omega) (fun e => by have := hv k e; omega)⟩
/-- What a writer holds: its bytes, its error. -/
structure St where
  B : List Nat
  e : Nat
def St.put (s : St) (P : List Nat) : St := if s.e = 0 then ⟨s.B ++ P, 0⟩ else s
def St.no : St := ⟨[], 10⟩
structure WS (w : World) (base g : Nat) (v : Value) (s : St) : Prop where
  row : w.heap[g]? = some (.cells #[v, .int .i64 s.e] 79 (0, 0))
  own : w.ownsRow base 5 1 v s.B.length (vals s.B)
  ok : Sm.allB s.B
  nil : s.e ≠ 0 → v = .slice none 0 0 ∧ s.B = []
theorem WS.lt {w : World} {base g : Nat} {v : Value} {s : St} (h : WS w base g v s) : g < w.heap.size := (Array.getElem?_eq_some_iff.1 h.row).1
theorem WS.err {w : World} {base g : Nat} {v : Value} {s : St} (h : WS w base g v s) : w.cell? ⟨g, 1, none⟩ = some (.int .i64 s.e) := by
  rw [cell_of_row w g 1 _ _ _ h.row]; rfl
theorem WS.out {w : World} {base g : Nat} {v : Value} {s : St} (h : WS w base g v s) : w.cell? ⟨g, 0, none⟩ = some v := by
  rw [cell_of_row w g 0 _ _ _ h.row]; rfl
theorem WS.later {w w' : World} {base g : Nat} {v : Value} {s : St} (h : WS w base g v s) (hb : Below w.heap.size w w') : WS w' base g v s :=
  ⟨(hb.block _ h.lt).trans h.row, owns_later h.own hb, h.ok, h.nil⟩
/-- What a row owns is none of the writer's own cells. -/
theorem own_other {w : World} {base g n : Nat} {v : Value} {xs : List Value} {cs : Array Value} {fr : Nat × Nat} (h : w.ownsRow base 5 1 v n xs) (hr : w.heap[g]? = some (.cells cs 79 fr)) : v.ownBlock ≠ some g := by
  rcases h.2 with ⟨rfl, _⟩ | ⟨g', cap, cur, rfl, _, hg', _⟩
  · simp [Value.ownBlock]
  · intro e
    obtain rfl : g' = g := by simpa [Value.ownBlock] using e
    rw [hr] at hg'
    simp at hg'
theorem own_setCell {w : World} {base n : Nat} {v : Value} {xs : List Value} (h : w.ownsRow base 5 1 v n xs) {a : Addr} (ha : v.ownBlock ≠ some a.block) (u : Value) : (w.setCell a u).ownsRow base 5 1 v n xs := by
  obtain ⟨h1, h2⟩ := h
  refine ⟨h1, ?_⟩
  rcases h2 with h2 | ⟨g, cap, cur, rfl, hg, hh, r⟩
  · exact Or.inl h2
  · exact Or.inr ⟨g, cap, cur, rfl, hg, by rw [Below.heap_setCell _ _ _ _ (fun e => ha (by simp [Value.ownBlock, e]))]; exact hh, r⟩
theorem slice_of_owns {w : World} {base n : Nat} {v : Value} {xs : List Value} (h : w.ownsRow base 5 1 v n xs) : ∃ q c, v = .slice q n c := by
  rcases h.2 with ⟨rfl, rfl⟩ | ⟨g, cap, cur, rfl, _⟩
  · exact ⟨_, _, rfl⟩
  · exact ⟨_, _, rfl⟩
/-- A text of whatever other memory stays. -/
theorem Tx.step {w w' : World} {p : Option Addr} {n c : Nat} {B : List Nat} (h : Tx w p n c B) {g : Nat} {v v' : Value} (hs : WStep w w' g v v') (hg : ∀ x, p = some x → B ≠ [] → x.block ≠ g ∧ v.ownBlock ≠ some x.block) : Tx w' p n c B :=
  ⟨h.size, h.le, h.ok, h.at'.imp id fun ⟨x, hp, hx⟩ => ⟨x, hp, fun j u hu => by
    have h1 := hx j u hu
    have hB : B ≠ [] := by rintro rfl; simp [vals] at hu
    obtain ⟨a1, a2⟩ := hg x hp hB
    have hb : (x.add j).block = x.block := by cases x; simp [Addr.add]; split <;> rfl
    rw [World.cell?_of_block (w := w) (hs.block _ (block_lt_of_cell h1) (by rw [hb]; exact a1) (by rw [hb]; exact a2))]
    exact h1⟩, h.sp⟩
/-- The post of a call that writes. -/
def WPost (w : World) (base g : Nat) (v : Value) (s : St) (e : Ending) (w' : World) : Prop := e = .returned (.tuple #[]) ∧ ∃ v', WS w' base g v' s ∧ WStep w w' g v v'
/-- Behind the append and the store. -/
theorem WS.stored {w w2 : World} {base g : Nat} {v v2 : Value} {s : St} {P : List Nat} (h : WS w base g v s) (he : s.e = 0) (hP : Sm.allB P) (ho : w2.ownsRow base 5 1 v2 (s.B.length + P.length) (vals s.B ++ vals P))
    (hg : w.grownBy w2 v.ownBlock) (hv : ∀ k, v2.ownBlock = some k → v.ownBlock = some k ∨ w.heap.size ≤ k) : WS (w2.setCell ⟨g, 0, none⟩ v2) base g v2 (s.put P) ∧ WStep w (w2.setCell ⟨g, 0, none⟩ v2) g v v2 := by
  have hne := own_other h.own h.row
  have hr2 : w2.heap[g]? = some (.cells #[v, .int .i64 s.e] 79 (0, 0)) := (hg.block g h.lt (fun e => hne e.symm)).trans h.row
  have hs := heap_setCell_same w2 g 0 _ _ v2 hr2
  have e : s.put P = ⟨s.B ++ P, 0⟩ := by unfold St.put; rw [if_pos he]
  rw [e]
  refine ⟨⟨?_, ?_, fun x hx => ?_, fun hc => absurd rfl hc⟩, ?_⟩
  · rw [he] at hs; exact hs
  · have := own_setCell ho (a := ⟨g, 0, none⟩) (own_other ho hr2) v2
    rw [← vals_append] at this
    simpa using this
  · rcases List.mem_append.1 hx with hx | hx
    · exact h.ok x hx
    · exact hP x hx
  · refine ⟨hg.os, hg.tape, hg.output, by simpa [World.setCell] using hg.size, fun k hk h1 h2 => ?_, hv⟩
    rw [Below.heap_setCell _ _ _ _ h1]
    exact hg.block k hk (fun e => h2 e.symm)
set_option maxRecDepth 100000 in
set_option maxHeartbeats 1000000 in
theorem put_any (s : St) (P : List Nat) (base g : Nat) (v : Value) (p : Option Addr) (n c : Nat) (w : World) (hs : WS w base g v s) (hP : Tx w p n c P) (hl : s.B.length + P.length < 1099511627776) (hbw : base ≤ w.heap.size) :
    Calls Try.prog 67 #[.pointer (some ⟨g, 0, none⟩), .slice p n c] w (WPost w base g v (s.put P)) := by
  have hn := hP.size
  by_cases he : s.e = 0
  · obtain ⟨q0, c0, hv0⟩ := slice_of_owns hs.own
    obtain ⟨m, hm⟩ : ∃ m, m = s.B.length := ⟨_, rfl⟩
    rw [← hm] at hv0
    subst hv0
    have h1 : w.cell? ⟨g, 1, none⟩ = some (.int .i64 0) := by have := hs.err; rw [he] at this; exact this
    have h0 := hs.out
    have f0 : w.frozen? ⟨g, 0, none⟩ = false := frozen_of_row w g 0 _ _ hs.row
    obtain ⟨i5, hi, hi0, hi1, hi2⟩ := info_parts I5
    have HI := Lib.hid hi
    have HI0 := Lib.hid hi0
    have HI1 := Lib.hid hi1
    have HI2 := Lib.hid hi2
    have HS := Lib.hid hs
    have HP := Lib.hid hP
    have HE := Lib.hid he
    have HO := Lib.hid hs.own
    have HN := Lib.hid hn
    have hnl : n < 1099511627776 := by omega
    have hnn : s.B.length + n < 1099511627776 := by omega
    rw [← hm] at hnn
    have HM := Lib.hid hm
    have ho2 := hs.own
    rw [← hm] at ho2
    have HO2 := Lib.hid ho2
    clear hi hi0 hi1 hi2 hs he hl hn hm ho2
    have HR := Lib.hid HS.out.row
    rcases hP.at' with ⟨hp, hc⟩ | ⟨x, hp, _⟩
    · subst hp
      subst hc
      obtain rfl : n = 0 := by have := hP.le; omega
      have hP0 : P = [] := List.length_eq_zero_iff.1 HN.out.symm
      have HP0 := Lib.hid hP0
      clear hP hP0
      go_enter Try.func67, Try.ntmps67
      go_wp2_with (at_builtin; refine wpList_append_own_none (by rfl) (.tmp 13) (.tmp 14) 36 (by rfl) base 5 i5 1 A22 HI.out _ m _ (by rfl) HO2.out (by rfl) ?_)
      go_end0
      refine ⟨rfl, _, HS.out.stored HE.out HP.out.ok ?_ ⟨rfl, rfl, rfl, Nat.le_refl _, fun _ _ _ => rfl⟩ (fun k hk => Or.inl hk)⟩
      rw [HP0.out, List.length_nil, Nat.add_zero]
      simpa [vals, ← HM.out] using HO2.out
    · subst hp
      clear hP
      go_enter Try.func67, Try.ntmps67
      go_wp2_with (at_builtin; refine wpList_append_own_at w (by rfl) (.tmp 13) (.tmp 14) 36 (by rfl) base 5 i5 (.int .u8 0) 1 1 A22 HI.out HI0.out HI1.out HI2.out (by rfl) (by decide) _ m _ (by rfl) HO2.out x n c (vals P) (by rfl) (by rw [vals_length, Nat.mul_one]; exact HN.out.symm) HP.out.cells (vals_one _) (by unfold maxLen; omega) (by omega) hbw ?_; intro v2 w2 hown2 hgrow2 _ hat2; obtain ⟨q2, c2, hv2⟩ := slice_of_owns hown2; have hr2 := (hgrow2.block g HS.out.lt (fun e => own_other HS.out.own HS.out.row e.symm)).trans HR.out; have hc2 : w2.cell? ⟨g, 0, none⟩ = some (.slice q0 m c0) := (cell_of_row w2 g 0 _ _ _ hr2).trans rfl; have hf2 : w2.frozen? ⟨g, 0, none⟩ = false := frozen_of_row w2 g 0 _ _ hr2; have HO3 := Lib.hid hown2; have HG3 := Lib.hid hgrow2; have HA3 := Lib.hid hat2; have HV3 := Lib.hid hv2; rw [hv2]; clear hown2 hgrow2 hat2 hv2 hr2)
      go_end0
      refine ⟨rfl, _, HS.out.stored HE.out HP.out.ok ?_ ?_ (fun k hk => ?_)⟩
      · have e : m + n = s.B.length + P.length := by rw [HM.out, HN.out]
        have := HO3.out
        rw [HV3.out, e] at this
        rw [e]
        exact this
      · exact HG3.out
      · rw [← HV3.out] at hk
        rcases HA3.out with h1 | h1
        · exact Or.inl (h1.symm.trans hk)
        · rw [h1] at hk
          cases hk
          exact Or.inr (Nat.le_refl _)
  · have h1 := hs.err
    have b1 : ((s.e : Int) == 0) = false := by simp; omega
    have e : s.put P = s := by unfold St.put; rw [if_neg he]
    rw [e]
    have HS := Lib.hid hs
    clear hs hP he e hl hn
    go_enter Try.func67, Try.ntmps67
    go_wp2_with fail
    go_end0
    exact ⟨rfl, v, HS.out, WStep.refl _ _ _⟩
theorem WPost.trans {w w1 : World} {base g : Nat} {v v1 : Value} {s : St} (h : WStep w w1 g v v1) {e : Ending} {w' : World} (k : WPost w1 base g v1 s e w') : WPost w base g v s e w' := by
  obtain ⟨he, v', h1, h2⟩ := k
  exact ⟨he, v', h1, h.trans h2⟩
set_option maxRecDepth 100000 in
set_option maxHeartbeats 1000000 in
theorem byte_any (s : St) (x : Nat) (hx : x < 256) (base g : Nat) (v : Value) (w : World) (hs : WS w base g v s) (hl : s.B.length + 1 < 1099511627776) (hbw : base ≤ w.heap.size) :
    Calls Try.prog 51 #[.pointer (some ⟨g, 0, none⟩), .int .u8 x] w (WPost w base g v (s.put [x])) := by
  have ha := WStep.alloc w g v (.cells #[.int .u8 x] 5)
  have hsa := hs.later ((Below.refl w.heap.size w).alloc (Nat.le_refl _) (.cells #[.int .u8 x] 5))
  have hB : Tx (w.alloc (.cells #[.int .u8 x] 5)) (some ⟨w.heap.size, 0, none⟩) 1 1 [x] := (Bytes.row (L := [x]) (heap_alloc_new w _) (by intro y hy; simp at hy; omega)).tx
  have HA := Lib.hid ha
  have HSA := Lib.hid hsa
  have HB := Lib.hid hB
  clear ha hsa hB hs
  go_enter Try.func51, Try.ntmps51
  go_wp2_with fail
  refine (put_any s [x] base g v _ 1 1 _ HSA.out HB.out hl (by simp; omega)).mono ?_
  rintro e w1 hp
  obtain ⟨rfl, v1, h1, h2⟩ := hp
  have H1 := Lib.hid h1
  have H2 := Lib.hid (HA.out.trans h2)
  clear h1 h2
  go_wp2_with fail
  go_end0
  exact ⟨rfl, v1, H1.out, H2.out⟩
set_option maxHeartbeats 1000000 in
theorem refuse_any (s : St) (base g : Nat) (v : Value) (w : World) (hs : WS w base g v s) :
    Calls Try.prog 68 #[.pointer (some ⟨g, 0, none⟩)] w (WPost w base g v .no) := by
  have h0 := hs.out
  have h1 := hs.err
  have f0 : w.frozen? ⟨g, 0, none⟩ = false := frozen_of_row w g 0 _ _ hs.row
  have f1 : w.frozen? ⟨g, 1, none⟩ = false := frozen_of_row w g 1 _ _ hs.row
  have HS := Lib.hid hs
  clear hs
  go_enter Try.func68, Try.ntmps68
  go_wp2_with fail
  go_end0
  have r1 := heap_setCell_same w g 0 _ _ (.slice none 0 0) HS.out.row
  have r2 := heap_setCell_same _ g 1 _ _ (.int .i64 10) r1
  refine ⟨rfl, .slice none 0 0, ⟨r2, World.ownsRow_nil _ _ _ _, fun x hx => by simp [St.no] at hx, fun _ => ⟨rfl, rfl⟩⟩, ?_⟩
  refine ⟨rfl, rfl, rfl, by simp [World.setCell], fun k hk h1 h2 => ?_, fun k hk => by simp [Value.ownBlock] at hk⟩
  rw [Below.heap_setCell _ _ _ _ h1, Below.heap_setCell _ _ _ _ h1]
def ValRel (w : World) (base g : Nat) (v : Value) (s : St) (n size : Nat) (i : Value) (wr : World) : Prop :=
  ∃ (k : Nat) (v' : Value), k ≤ size ∧ i = .int .i64 k ∧ WS wr base g v' (s.put ((Cm.be n size).take k)) ∧ WStep w wr g v v'
theorem St.put_nil {s : St} (h : s.e ≠ 0 ∨ s.e = 0) : s.put [] = s := by
  unfold St.put
  obtain ⟨B, e⟩ := s
  rcases h with h | h
  · rw [if_neg h]
  · rw [if_pos h]
    simp at h
    subst h
    simp
theorem St.put_put (s : St) (P Q : List Nat) : (s.put P).put Q = s.put (P ++ Q) := by
  unfold St.put
  by_cases h : s.e = 0
  · rw [if_pos h, if_pos rfl, if_pos h, List.append_assoc]
  · rw [if_neg h, if_neg h, if_neg h]
theorem St.put_len (s : St) (P : List Nat) : (s.put P).B.length ≤ s.B.length + P.length := by
  unfold St.put
  by_cases h : s.e = 0
  · rw [if_pos h, List.length_append]; exact Nat.le_refl _
  · rw [if_neg h]; omega
set_option maxRecDepth 100000 in
set_option maxHeartbeats 1000000 in
theorem value_any (s : St) (n size : Nat) (_hn : n < 18446744073709551616) (hsize : size ≤ 8) (base g : Nat) (v : Value) (w : World) (hs : WS w base g v s) (hl : s.B.length + size < 1099511627776) (hbw : base ≤ w.heap.size) :
    Calls Try.prog 60 #[.pointer (some ⟨g, 0, none⟩), .int .u64 n, .int .i64 size] w (WPost w base g v (s.put (Cm.be n size))) := by
  have HS := Lib.hid hs
  have HL := Lib.hid hl
  have HBW := Lib.hid hbw
  clear hs hl hbw
  go_enter Try.func60, Try.ntmps60
  go_wp2_with fail
  go_loopw [8] (fun i wr => ValRel w base g v s n size i wr) (fun i _ => size - (intOf i).toNat)
  case atStart => exact ⟨0, v, by omega, rfl, by rw [List.take_zero, St.put_nil (by omega)]; exact HS.out, WStep.refl _ _ _⟩
  case round =>
    obtain ⟨k, v1, hk, rfl, h1, h2⟩ := hrel
    have H1 := Lib.hid h1
    have H2 := Lib.hid h2
    clear h1 h2 HS
    by_cases hlt : k < size
    · have HI : (0 : Int) ≤ 8 * (size - 1 - k) ∧ 8 * (size - 1 - (k : Int)) ≤ 64 := by omega
      go_wp2_with fail
      rw [show (n : Int) / 2 ^ (8 * (size - 1 - k)) % 256 = ((n / 2 ^ (8 * (size - 1 - k)) % 256 : Nat) : Int) from by rw [Int.natCast_emod, Int.natCast_ediv, Int.natCast_pow]; rfl]
      obtain ⟨x, hx⟩ : ∃ x, x = n / 2 ^ (8 * (size - 1 - k)) % 256 := ⟨_, rfl⟩
      rw [← hx]
      have hx8 : x < 256 := by rw [hx]; exact Nat.mod_lt _ (by omega)
      have HX := Lib.hid hx
      clear hx
      have hlen := St.put_len s ((Cm.be n size).take k)
      rw [List.length_take, Cm.be_length] at hlen
      refine (byte_any _ x hx8 base g v1 _ H1.out (by have := HL.out; omega) (Nat.le_trans HBW.out H2.out.size)).mono ?_
      rintro e w1 hp
      obtain ⟨rfl, v2, h3, h4⟩ := hp
      have H3 := Lib.hid h3
      have H4 := Lib.hid (H2.out.trans h4)
      clear h3 h4 hlen
      go_wp2_with fail
      go_roundw
      case rel =>
        refine ⟨k + 1, v2, by omega, by go_num, ?_, H4.out⟩
        have := H3.out
        rw [St.put_put, HX.out, ← Cm.be_take n size k hlt] at this
        exact this
      case measure => simp [intOf]; omega
    · obtain rfl : k = size := by omega
      go_wp2_with fail
      go_end0
      refine ⟨rfl, v1, ?_, H2.out⟩
      have := H1.out
      rw [List.take_of_length_le (by rw [Cm.be_length]; exact Nat.le_refl _)] at this
      exact this
def St.truth (s : St) (x : Bool) : St := s.put [if x then 1 else 0]
def St.count (s : St) (n : Int) : St := if 0 ≤ n ∧ n ≤ 1048576 then s.put (Cm.be n.toNat 3) else .no
def St.text (s : St) (T : List Nat) : St := (s.count T.length).put T
def St.row (s : St) (R : List Int) : St := if R.length ≤ 255 then R.foldl (fun s n => s.put (Cm.num n)) (s.put [R.length]) else .no
set_option maxRecDepth 100000 in
set_option maxHeartbeats 1000000 in
theorem count_any (s : St) (n : Int) (h1 : -9223372036854775808 ≤ n) (h2 : n ≤ 9223372036854775807) (base g : Nat) (v : Value) (w : World) (hs : WS w base g v s) (hl : s.B.length + 3 < 1099511627776) (hbw : base ≤ w.heap.size) :
    Calls Try.prog 52 #[.pointer (some ⟨g, 0, none⟩), .int .i64 n] w (WPost w base g v (s.count n)) := by
  have HS := Lib.hid hs
  clear hs
  unfold St.count
  by_cases hn : 0 ≤ n ∧ n ≤ 1048576
  · rw [if_pos hn]
    obtain ⟨m, rfl⟩ : ∃ m : Nat, n = m := ⟨n.toNat, by omega⟩
    obtain ⟨a1, a2⟩ := hn
    have b1 : ¬ (m : Int) < 0 := by omega
    have b2 : ¬ (1048576 : Int) < m := by omega
    rw [Int.toNat_natCast]
    go_enter Try.func52, Try.ntmps52
    go_wp2_with fail
    refine (value_any s m 3 (by omega) (by omega) base g v _ HS.out hl hbw).mono ?_
    rintro e w1 hp
    obtain ⟨rfl, v2, h3, h4⟩ := hp
    have H3 := Lib.hid h3
    have H4 := Lib.hid h4
    clear h3 h4
    go_wp2_with fail
    go_end0
    exact ⟨rfl, v2, H3.out, H4.out⟩
  · rw [if_neg hn]
    by_cases b1 : n < 0
    · clear hn
      go_enter Try.func52, Try.ntmps52
      go_wp2_with fail
      refine (refuse_any s base g v _ HS.out).mono ?_
      rintro e w1 hp
      obtain ⟨rfl, v2, h3, h4⟩ := hp
      have H3 := Lib.hid h3
      have H4 := Lib.hid h4
      clear h3 h4
      go_wp2_with fail
      refine bodyPost_ret (results_none rfl _ _ _) rfl ?_
      exact ⟨rfl, v2, H3.out, H4.out⟩
    · have b2 : (1048576 : Int) < n := by omega
      clear hn
      go_enter Try.func52, Try.ntmps52
      go_wp2_with fail
      refine (refuse_any s base g v _ HS.out).mono ?_
      rintro e w1 hp
      obtain ⟨rfl, v2, h3, h4⟩ := hp
      have H3 := Lib.hid h3
      have H4 := Lib.hid h4
      clear h3 h4
      go_wp2_with fail
      refine bodyPost_ret (results_none rfl _ _ _) rfl ?_
      exact ⟨rfl, v2, H3.out, H4.out⟩
set_option maxRecDepth 100000 in
set_option maxHeartbeats 1000000 in
theorem num_any (s : St) (n : Int) (h1 : -9223372036854775808 ≤ n) (h2 : n ≤ 9223372036854775807) (base g : Nat) (v : Value) (w : World) (hs : WS w base g v s) (hl : s.B.length + 8 < 1099511627776) (hbw : base ≤ w.heap.size) :
    Calls Try.prog 44 #[.pointer (some ⟨g, 0, none⟩), .int .i64 n] w (WPost w base g v (s.put (Cm.num n))) := by
  have HS := Lib.hid hs
  clear hs
  have hx := Cm.sign_int h1 h2
  have hz := (Cm.z64_lt h1 h2).1
  have HX := Lib.hid hx
  have HZ := Lib.hid hz
  clear hx hz
  go_enter Try.func44, Try.ntmps44
  go_wp2_with fail
  rw [HX.out]
  refine (value_any s (Cm.z64 n) 8 HZ.out (by omega) base g v _ HS.out hl hbw).mono ?_
  rintro e w1 hp
  obtain ⟨rfl, v2, h3, h4⟩ := hp
  have H3 := Lib.hid h3
  have H4 := Lib.hid h4
  clear h3 h4
  go_wp2_with fail
  go_end0
  exact ⟨rfl, v2, H3.out, H4.out⟩
theorem St.count_len (s : St) (n : Int) : (s.count n).B.length ≤ s.B.length + 3 := by
  unfold St.count
  split
  · have := St.put_len s (Cm.be n.toNat 3)
    rw [Cm.be_length] at this
    exact this
  · simp [St.no]
end Go.Proofs.Ytlkeobohcfbgcaa

/- bytes.Clone. -/
namespace Go.Proofs.Ytlkeobohcfbgcaa
open Go.RowKit

def ClonePost (w : World) (B : List Nat) (e : Ending) (w' : World) : Prop := ∃ q c, e = .returned (.slice q B.length c) ∧ w'.ownsRow w.heap.size 5 1 (.slice q B.length c) B.length (vals B) ∧ Below w.heap.size w w'
set_option maxRecDepth 100000 in
set_option maxHeartbeats 1000000 in
theorem clone_any (B : List Nat) (p : Option Addr) (n c : Nat) (w : World) (hB : Tx w p n c B) (hl : n < 1099511627776) :
    Calls Try.prog 37 #[.slice p n c] w (ClonePost w B) := by
  have heq := fun w' => Lib.run_eql_slice_nil (P := Try.prog) w' 36 5 p n c 0 0 A22
  have hn := hB.size
  have hle := hB.le
  have HN := Lib.hid hn
  have HB := Lib.hid hB
  rcases hB.at' with ⟨hp, hc⟩ | ⟨x, hp, _⟩
  · subst hp
    subst hc
    obtain rfl : n = 0 := by omega
    have hB0 : B = [] := List.length_eq_zero_iff.1 hn.symm
    subst hB0
    clear hn hB
    go_enter Try.func37, Try.ntmps37
    go_wp2_with fail
    go_ret
    exact ⟨none, 0, rfl, World.ownsRow_nil _ _ _ _, Below.refl _ _⟩
  · subst hp
    obtain ⟨i5, hi, hi0, hi1, hi2⟩ := info_parts I5
    have HI := Lib.hid hi
    have HI0 := Lib.hid hi0
    have HI1 := Lib.hid hi1
    have HI2 := Lib.hid hi2
    clear hi hi0 hi1 hi2 hn hB hle
    have hE : (w.alloc (.cells #[] 5)).ownsRow w.heap.size 5 1 (.slice (some ⟨w.heap.size, 0, none⟩) 0 0) 0 (vals ([] : List Nat)) := owns_mk (L := []) (heap_alloc_new w _) rfl (Nat.le_refl _) (by unfold maxLen; omega) (Nat.le_refl _)
    have HE := Lib.hid hE
    clear hE
    go_enter Try.func37, Try.ntmps37
    go_wp2_with (at_builtin; refine wpList_append_own _ (by rfl) (.tmp 5) (.tmp 6) 36 (by rfl) w.heap.size 5 i5 (.int .u8 0) 1 1 A22 HI.out HI0.out HI1.out HI2.out (by rfl) (by decide) _ 0 [] (by rfl) HE.out x n c (vals B) (by rfl) (by rw [vals_length, Nat.mul_one]; exact HN.out.symm) ((HB.out.later ((Below.refl _ _).alloc (Nat.le_refl _) _)).cells) (vals_one _) (by unfold maxLen; omega) (by omega) (by simp) ?_; intro v2 w2 hown2 hgrow2 _; obtain ⟨q2, c2, hv2⟩ := slice_of_owns hown2; have HO3 := Lib.hid hown2; have HG3 := Lib.hid hgrow2; have HV3 := Lib.hid hv2; rw [hv2]; clear hown2 hgrow2 hv2)
    go_ret
    have e : n = B.length := HN.out
    subst e
    have ho := HO3.out
    rw [HV3.out, Nat.zero_add] at ho
    exact ⟨q2, c2, rfl, ho, ((Below.refl w.heap.size w).alloc (Nat.le_refl _) _).grown HG3.out (by simp) (fun k hk => by simp [Value.ownBlock] at hk; omega)⟩
end Go.Proofs.Ytlkeobohcfbgcaa
