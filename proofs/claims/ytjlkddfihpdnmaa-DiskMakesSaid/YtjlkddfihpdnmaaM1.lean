/- Gen0, Gen, GenRow, GenTx, DkMath, DkApi, DkRef, DkFuse, DkLandA, DkLandB, GenBox. -/
import Derived.Laws.BitsAllLaws
import Derived.Test.YtjlkddfihpdnmaaProg
import Derived.WalkKit
import Derived.WalkSpells
import Derived.WalkLawsBesides
import Derived.BigQuiet
import Derived.Deep.QuietTactic
import Derived.Lib.Hide
import Derived.StillTailTactics
import Derived.Deep.WholeRow
import Derived.Deep.MidRow
import Derived.Deep.RegionHeld3
import Derived.Deep.RegionLaw
import Derived.Deep.AppendLies
import Derived.Laws.AppendOwnNone
import Derived.ChangeKeysEq
import Derived.Lib.SlBytesConst
import Derived.Maps.AppendAt
import Derived.Deep.DeepMust
import Derived.Deep.DeepCutAuto
import Derived.Test.YtjlkddfihpdnmaaRows
import Derived.ProofKit
import Derived.OpenShut
import Derived.ShutString
import Derived.ChangeOld
import Derived.Deep.Matrix
/- Plain lemmas on lists of natural numbers: bytes. No program is named here. -/
namespace Go.Proofs.Ytjlkddfihpdnmaa.Sm
def allB (l : List Nat) : Prop := ∀ x ∈ l, x < 256
theorem getD_lt {l : List Nat} {m : Nat} (h : ∀ x ∈ l, x < m) (hm : 0 < m) (i : Nat) : l.getD i 0 < m := by
  rw [List.getD_eq_getElem?_getD]
  cases hh : l[i]? with
  | none => simpa using hm
  | some x => simpa using h x (List.mem_of_getElem? hh)
theorem allB_drop {l : List Nat} (h : allB l) (n : Nat) : allB (l.drop n) := fun x hx => h x (List.mem_of_mem_drop hx)
theorem getD_take (B : List Nat) (n i : Nat) (h : i < n) : (B.take n).getD i 0 = B.getD i 0 := by
  simp [List.getD_eq_getElem?_getD, List.getElem?_take_of_lt h]
theorem getD_drop (B : List Nat) (n i : Nat) : (B.drop n).getD i 0 = B.getD (n + i) 0 := by
  simp [List.getD_eq_getElem?_getD]
theorem getD_app_left (A B : List Nat) (i : Nat) (h : i < A.length) : (A ++ B).getD i 0 = A.getD i 0 := by
  rw [List.getD_eq_getElem?_getD, List.getD_eq_getElem?_getD, List.getElem?_append_left h]
theorem getD_app_right (A B : List Nat) (i : Nat) : (A ++ B).getD (A.length + i) 0 = B.getD i 0 := by
  rw [List.getD_eq_getElem?_getD, List.getD_eq_getElem?_getD, List.getElem?_append_right (by omega), Nat.add_sub_cancel_left]
end Go.Proofs.Ytjlkddfihpdnmaa.Sm

/- Bytes in memory: slices that read as bytes, rows that a call owns, texts, strings of bytes, digests compared. -/
namespace Go.Proofs.Ytjlkddfihpdnmaa
open Go.RowKit

def u8s (l : List Nat) : Array Value := (l.map fun x => Value.int .u8 (x : Nat)).toArray
/-- What lies whole in the block of the result is what is told. -/
theorem ret_row {fn : Func} {P : Ending → World → Prop} (p : Tmp) {ty : TypeId} (hr : fn.results = #[.cell p ty]) {tmps : Array Value} {w : World} (g : Nat) (t : TypeId) (cs : Array Value) {n : Nat} {e : TypeId}
    (hu : Try.prog.underlying ty = some (.array n e)) (hi : (Try.prog.info? ty).map (·.size) = some n)
    (hp : tmps.getD p undef = .pointer (some ⟨g, 0, none⟩)) (hg : w.heap[g]? = some (.cells cs t (0, 0)))
    (hn : cs.size = n) (h : P (.returned (.agg cs)) w) : bodyPost Try.prog fn P .ret ⟨tmps, []⟩ w :=
  bodyPost_ret (a := ⟨tmps, []⟩) (v := .agg cs) (results_cell_row hr tmps w g t cs (0, 0) (.array n e) hp hg hu rfl (by rw [hn]; exact hi)) rfl h
theorem setRow_alloc (w : World) (old cs : Array Value) (t : TypeId) : (w.alloc (.cells old t (0, 0))).setRow w.heap.size cs = w.alloc (.cells cs t (0, 0)) := by
  unfold World.setRow World.alloc
  congr 1
  apply Array.ext
  · simp
  · intro k h1 h2
    simp only [Array.getElem_modify, Array.getElem_push]
    by_cases hk : k = w.heap.size
    · subst hk; simp
    · have : k < w.heap.size := by simp at h1; omega
      simp [this, Ne.symm hk]
/-- All the world's blocks are as they were. -/
structure SameHeap (w w' : World) : Prop where
  below : Below w.heap.size w w'
  heap : w'.heap = w.heap
theorem SameHeap.refl (w : World) : SameHeap w w := ⟨Below.refl _ _, rfl⟩
theorem SameHeap.drewN {a w : World} (h : SameHeap a w) (n : Nat) : SameHeap a (w.drewN n) := by
  induction n with
  | zero => exact h
  | succ n ih => exact ⟨ih.below.drew, ih.heap⟩
theorem SameHeap.cell {a w : World} (h : SameHeap a w) (p : Addr) : w.cell? p = a.cell? p := by simp only [World.cell?, h.heap]
theorem SameHeap.frozen {a w : World} (h : SameHeap a w) (p : Addr) : w.frozen? p = a.frozen? p := by simp only [World.frozen?, h.heap]
theorem Below.setRow {B : Nat} {a w : World} (h : Below B a w) {g : Nat} (hg : B ≤ g) (cs : Array Value) : Below B a (w.setRow g cs) :=
  h.trans ⟨rfl, rfl, rfl, by simp, fun k hk => setRow_other _ _ _ _ (by omega)⟩
/-- From an address on lie these bytes. -/
def bytesAt (w : World) (g o : Nat) (B : List Nat) : Prop := ∀ i, i < B.length → w.cell? ⟨g, o + i, none⟩ = some (.int .u8 (B.getD i 0 : Nat))
def zeros (n : Nat) : List Nat := List.replicate n 0
theorem zeros_succ {n : Nat} (h : 0 < n) : zeros n = 0 :: zeros (n - 1) := by
  cases n with
  | zero => omega
  | succ n => rfl
theorem getD_left {l : List Nat} (r : List Nat) (i : Nat) (h : i < l.length) : (l ++ r).getD i 0 = l.getD i 0 := by
  rw [List.getD_eq_getElem?_getD, List.getD_eq_getElem?_getD, List.getElem?_append_left h]
/-- A slice that reads as these bytes. -/
structure Bytes (w : World) (p : Option Addr) (len cap : Nat) (B : List Nat) : Prop where
  size : len = B.length
  le : len ≤ cap
  ok : Sm.allB B
  at' : cap = 0 ∨ ∃ g o, p = some ⟨g, o, none⟩ ∧ bytesAt w g o B
theorem Bytes.ne {w : World} {p : Option Addr} {len cap : Nat} {B : List Nat} (h : Bytes w p len cap B) (hn : B ≠ []) : ∃ g o, p = some ⟨g, o, none⟩ ∧ bytesAt w g o B := by
  rcases h.at' with hc | h1
  · have := h.size
    have := h.le
    exact absurd (List.length_eq_zero_iff.1 (by omega)) hn
  · exact h1
theorem Bytes.later {w w' : World} {p : Option Addr} {len cap : Nat} {B : List Nat} (h : Bytes w p len cap B) {H : Nat} (hb : Below H w w') (hH : ∀ g o, p = some ⟨g, o, none⟩ → B ≠ [] → g < H) : Bytes w' p len cap B :=
  ⟨h.size, h.le, h.ok, h.at'.imp id fun ⟨g, o, hp, hx⟩ => ⟨g, o, hp, fun i hi => (hb.cell (p := ⟨g, o + i, none⟩) (hH g o hp (by intro e; rw [e] at hi; simp at hi))).trans (hx i hi)⟩⟩
theorem Bytes.lt {w : World} {p : Option Addr} {len cap : Nat} {B : List Nat} (h : Bytes w p len cap B) : ∀ g o, p = some ⟨g, o, none⟩ → B ≠ [] → g < w.heap.size := fun g o hp hn => by
  obtain ⟨g', o', hp', hx⟩ := h.ne hn
  rw [hp] at hp'
  obtain ⟨rfl, rfl⟩ : g = g' ∧ o = o' := by simpa using hp'
  exact block_lt_of_cell (hx 0 (List.length_pos_iff.2 hn))
theorem bytesAt.drop {w : World} {g o : Nat} {B : List Nat} (h : bytesAt w g o B) (n : Nat) : bytesAt w g (o + n) (B.drop n) := fun i hi => by
  have h1 : n + i < B.length := by simp at hi; omega
  have := h (n + i) h1
  rw [Nat.add_assoc, this]
  simp [List.getD_eq_getElem?_getD]
def lenOf : Value → Nat
  | .slice _ n _ => n
  | _ => 0
theorem u8s_get (l : List Nat) (i : Nat) (h : i < l.length) : (u8s l)[i]? = some (.int .u8 (l.getD i 0 : Nat)) := by
  simp [u8s, List.getD_eq_getElem?_getD, List.getElem?_eq_getElem h]
theorem u8s_cell {w : World} {g : Nat} {l : List Nat} {t : TypeId} {fr : Nat × Nat} (hg : w.heap[g]? = some (.cells (u8s l) t fr)) (i : Nat) (h : i < l.length) : w.cell? ⟨g, i, none⟩ = some (.int .u8 (l.getD i 0 : Nat)) := by
  rw [cell_of_row w g i _ t fr hg, u8s_get l i h]
theorem u8s_set (p r : List Nat) (y x k : Nat) (hk : p.length = k) : (u8s (p ++ y :: r)).setIfInBounds k (.int .u8 (x : Nat)) = u8s (p ++ x :: r) := by
  subst hk
  apply Array.ext'
  simp [u8s]
theorem u8s_one (l : List Nat) : (u8s l).all (·.oneCell') = true := by simp [u8s, Value.oneCell']
theorem u8s_size (l : List Nat) : (u8s l).size = l.length := by simp [u8s]
/-- An array's element, the array being a value. -/
theorem run_index_array {P : Program} {t e : TypeId} {n : Nat} (ht : P.underlying t = some (.array n e)) {d : TypeDesc} (hd : P.underlying e = some d) (hnd : (match d with | .struct _ => false | .array _ _ => false | _ => true) = true)
    (hs : (P.info? e).map (·.size) = some 1) (cs : Array Value) (k : Nat) (hk : k < n) (v : Value) (hv : cs[k]? = some v) (w : World) :
    (Instr.index t (.agg cs) (.int .i64 k)).run P w = .ok v w := by
  have hagg : (isAgg e).run P w = .ok false w := by
    unfold isAgg
    rw [Sem.run_bind, run_underlying hd w]
    cases d <;> simp_all
  cases hq : P.info? e with
  | none => simp [hq] at hs
  | some i =>
    have hsz : i.size = 1 := by simpa [hq] using hs
    have hb : (0 : Int) ≤ k ∧ (k : Int) < n := by omega
    simp [Instr.index, run_underlying ht, asIntOf, hb, part, sizeOf, typeInfo, hq, hsz, hagg, hv, Sem.run_bind]
    intro h
    omega
theorem U5 : Try.prog.underlying 5 = some (.int .u8) := by kernel_rfl
theorem S5 : (Try.prog.info? 5).map (·.size) = some 1 := by kernel_rfl
theorem I5 : (Try.prog.info? 5).map (fun i => (i.zero, i.size, i.bytes)) = some (some (.int .u8 0), 1, 1) := by kernel_rfl
def vals (l : List Nat) : List Value := l.map fun x => Value.int .u8 (x : Nat)
theorem vals_length (l : List Nat) : (vals l).length = l.length := by simp [vals]
theorem vals_get (l : List Nat) (i : Nat) (h : i < l.length) : (vals l)[i]? = some (.int .u8 (l.getD i 0 : Nat)) := by
  simp [vals, List.getD_eq_getElem?_getD, List.getElem?_eq_getElem h]
/-- What a call owns reads as its bytes. -/
theorem Bytes.of_owns {w : World} {base g n cap : Nat} {B : List Nat} (h : w.ownsRow base 5 1 (.slice (some ⟨g, 0, none⟩) n cap) n (vals B)) (hB : Sm.allB B) : Bytes w (some ⟨g, 0, none⟩) n cap B := by
  obtain ⟨hl, h2⟩ := h
  have hn : n = B.length := by simpa [vals_length] using hl.symm
  rcases h2 with ⟨h3, _⟩ | ⟨g', cap', cur, hv, hb, hg, hle, hm, hs, ht⟩
  · simp at h3
  · obtain ⟨rfl, rfl⟩ : g = g' ∧ cap = cap' := by simpa using hv
    refine ⟨hn, hle, hB, Or.inr ⟨g, 0, rfl, fun i hi => ?_⟩⟩
    rw [Nat.zero_add, cell_of_row w g i cur _ _ hg]
    have e : (cur.toList.take (n * 1))[i]? = (vals B)[i]? := by rw [ht]
    rw [vals_get B i hi, List.getElem?_take_of_lt (by omega)] at e
    simpa using e
theorem made_zeros (n : Nat) : madeCells (Value.cells (.int .u8 0)) n = u8s (zeros n) := by
  apply Array.ext
  · simp [size_madeCells, u8s, zeros]
  · intro i h1 h2
    simp [madeCells, u8s, zeros, Value.cells, Nat.mod_one]
theorem u8s_toList (l : List Nat) : (u8s l).toList = vals l := by simp [u8s, vals]
theorem vals_one (l : List Nat) : ∀ u ∈ vals l, u.oneCell' = true := by
  intro u hu
  simp only [vals, List.mem_map] at hu
  obtain ⟨x, _, rfl⟩ := hu
  rfl
theorem owns_mk {w : World} {base g n cap : Nat} {L : List Nat} (hg : w.heap[g]? = some (.cells (u8s L) 5 (0, 0))) (hL : L.length = cap) (hn : n ≤ cap) (hm : cap ≤ maxLen) (hb : base ≤ g) :
    w.ownsRow base 5 1 (.slice (some ⟨g, 0, none⟩) n cap) n (vals (L.take n)) := by
  refine ⟨by simp [vals]; omega, Or.inr ⟨g, cap, u8s L, rfl, hb, hg, hn, hm, by rw [u8s_size]; omega, ?_⟩⟩
  rw [u8s_toList, Nat.mul_one]
  simp [vals]
theorem cells_of_row {w : World} {g : Nat} {L : List Nat} {t : TypeId} (hg : w.heap[g]? = some (.cells (u8s L) t (0, 0))) : ∀ j u, (vals L)[j]? = some u → w.cell? ((⟨g, 0, none⟩ : Addr).add j) = some u := fun j u hu => by
  rw [Addr.add_mid, Nat.zero_add, cell_of_row w g j _ _ _ hg, ← Array.getElem?_toList, u8s_toList]
  exact hu
theorem heap_setCells_other (g : Nat) : ∀ (vs : List Value) (o : Nat) (w : World) (k : Nat), k ≠ g → (w.setCells g o vs).heap[k]? = w.heap[k]?
  | [], _, _, _, _ => rfl
  | v :: r, o, w, k, h => by
    rw [World.setCells, heap_setCells_other g r (o + 1) _ k h, heap_setCell_other _ _ _ _ h]
theorem heap_setCells_same (g : Nat) (t : TypeId) : ∀ (vs A B C : List Value) (w : World), w.heap[g]? = some (.cells (A ++ B ++ C).toArray t (0, 0)) → vs.length = B.length →
    (w.setCells g A.length vs).heap[g]? = some (.cells (A ++ vs ++ C).toArray t (0, 0))
  | [], A, B, C, w, h, hl => by
    obtain rfl : B = [] := List.length_eq_zero_iff.1 (by simpa using hl.symm)
    exact h
  | v :: r, A, B, C, w, h, hl => by
    match B, hl with
    | b :: B, hl =>
      have h1 := heap_setCell_same w g A.length _ _ v h
      have e : ((A ++ b :: B ++ C).toArray).setIfInBounds A.length v = ((A ++ [v]) ++ B ++ C).toArray := by
        apply Array.ext'
        simp
      rw [e] at h1
      have := heap_setCells_same g t r (A ++ [v]) B C _ h1 (by simpa using hl)
      rw [World.setCells]
      simpa using this
theorem size_setCells (g : Nat) : ∀ (vs : List Value) (o : Nat) (w : World), (w.setCells g o vs).heap.size = w.heap.size ∧ (w.setCells g o vs).os = w.os ∧ (w.setCells g o vs).tape = w.tape ∧ (w.setCells g o vs).output = w.output
  | [], _, _ => ⟨rfl, rfl, rfl, rfl⟩
  | v :: r, o, w => by
    obtain ⟨h1, h2, h3, h4⟩ := size_setCells g r (o + 1) (w.setCell ⟨g, o, none⟩ v)
    rw [World.setCells]
    exact ⟨h1.trans (by simp [World.setCell]), h2.trans rfl, h3.trans rfl, h4.trans rfl⟩
theorem rangeAt_row {w : World} {g : Nat} {t : TypeId} (A B C : List Value) (h : w.heap[g]? = some (.cells (A ++ B ++ C).toArray t (0, 0))) : w.rangeAt g A.length B := fun j v hv => by
  have hj : j < B.length := (List.getElem?_eq_some_iff.1 hv).1
  rw [cell_of_row w g _ _ t _ h]
  rw [List.getElem?_eq_getElem hj] at hv
  simpa [hj, List.getElem?_append_right, List.getElem?_append] using hv
theorem there_row {w : World} {g : Nat} {t : TypeId} {C : Array Value} (h : w.heap[g]? = some (.cells C t (0, 0))) (o n : Nat) (hn : o + n ≤ C.size) : w.there g o n := fun j hj => by
  refine ⟨?_, frozen_of_row w g _ _ t h⟩
  rw [cell_of_row w g _ _ t _ h, Array.getElem?_eq_getElem (by omega)]
  rfl
theorem vals_toArray (l : List Nat) : (vals l).toArray = u8s l := rfl
theorem bytesAt.take {w : World} {g o : Nat} {B : List Nat} (h : bytesAt w g o B) (n : Nat) : bytesAt w g o (B.take n) := fun i hi => by
  have h1 : i < B.length := by simp at hi; omega
  rw [h i h1]
  have h2 : i < n := by simp at hi; omega
  simp [List.getD_eq_getElem?_getD, List.getElem?_take_of_lt h2]
theorem Bytes.take {w : World} {p : Option Addr} {len cap : Nat} {B : List Nat} (h : Bytes w p len cap B) (n : Nat) (hn : n ≤ len) : Bytes w p n cap (B.take n) :=
  ⟨by have := h.size; simp; omega, by have := h.le; omega, fun x hx => h.ok x (List.mem_of_mem_take hx), h.at'.imp id fun ⟨g, o, hp, hx⟩ => ⟨g, o, hp, hx.take n⟩⟩
theorem grown_setCells {w w1 : World} {g : Nat} (h : w.grownBy w1 (some g)) (o : Nat) (vs : List Value) : w.grownBy (w1.setCells g o vs) (some g) := by
  obtain ⟨h1, h2, h3, h4⟩ := size_setCells g vs o w1
  exact ⟨h2.trans h.os, h3.trans h.tape, h4.trans h.output, by rw [h1]; exact h.size, fun k hk hne => (heap_setCells_other g vs o w1 k (by intro e; exact hne (by rw [e]))).trans (h.block k hk hne)⟩
theorem grown_later {w w1 w2 : World} {r : Option Nat} (h : w.grownBy w1 r) (hb : Below w1.heap.size w1 w2) : w.grownBy w2 r :=
  ⟨hb.os.trans h.os, hb.tape.trans h.tape, hb.output.trans h.output, Nat.le_trans h.size hb.size, fun k hk hne => (hb.block k (Nat.lt_of_lt_of_le hk h.size)).trans (h.block k hk hne)⟩
theorem Bytes.grown {w w' : World} {p : Option Addr} {len cap : Nat} {B : List Nat} (h : Bytes w p len cap B) {g : Nat} (hg : w.grownBy w' (some g)) (hn : B ≠ [] → ∀ a, p = some a → a.block ≠ g) : Bytes w' p len cap B :=
  ⟨h.size, h.le, h.ok, h.at'.imp id fun ⟨b, o, hp, hx⟩ => ⟨b, o, hp, fun i hi => by
    have h1 := hx i hi
    have hb : w'.heap[b]? = w.heap[b]? := hg.block b (block_lt_of_cell h1) (by intro e; exact hn (by intro e0; rw [e0] at hi; simp at hi) _ hp (by simpa using e))
    rw [World.cell?_of_block (w := w) (w' := w') (a := ⟨b, o + i, none⟩) hb]
    exact h1⟩⟩
theorem grown_setCell (w : World) (g o : Nat) (u : Value) : w.grownBy (w.setCell ⟨g, o, none⟩ u) (some g) :=
  ⟨rfl, rfl, rfl, by simp [World.setCell], fun k _ hne => heap_setCell_other _ _ _ _ (by intro e; exact hne (by rw [e]))⟩
theorem Bytes.heap {w w' : World} {p : Option Addr} {len cap : Nat} {B : List Nat} (h : Bytes w p len cap B) (e : w'.heap = w.heap) : Bytes w' p len cap B :=
  ⟨h.size, h.le, h.ok, h.at'.imp id fun ⟨b, o, hp, hx⟩ => ⟨b, o, hp, fun i hi => by
    have h1 := hx i hi
    simp only [World.cell?, e] at h1 ⊢
    exact h1⟩⟩
theorem E5 : (Try.prog.info? 5).map (·.size) = some 1 := by kernel_rfl
theorem vals_drop (B : List Nat) (n : Nat) : vals (B.drop n) = (vals B).drop n := by simp [vals]
theorem Bytes.drop {w : World} {g o ln cp : Nat} {B : List Nat} (h : Bytes w (some ⟨g, o, none⟩) ln cp B) (m : Nat) (hl : m ≤ ln) : Bytes w (some ⟨g, o + m, none⟩) (ln - m) (cp - m) (B.drop m) := by
  have h1 := h.size
  have h2 := h.le
  refine ⟨by simp; omega, by omega, Sm.allB_drop h.ok m, Or.inr ⟨g, o + m, rfl, ?_⟩⟩
  rcases h.at' with hc | ⟨g', o', hp, hx⟩
  · intro i hi
    simp only [List.length_drop] at hi
    omega
  · obtain ⟨rfl, rfl⟩ : g = g' ∧ o = o' := by simpa using hp
    exact hx.drop m
theorem below_of {w w1 w2 : World} (hb : Below w1.heap.size w1 w2) (e : w1.heap = w.heap) (e1 : w1.os = w.os) (e2 : w1.tape = w.tape) (e3 : w1.output = w.output) : Below w.heap.size w w2 :=
  ⟨hb.os.trans e1, hb.tape.trans e2, hb.output.trans e3, by rw [← e]; exact hb.size, fun k hk => by rw [hb.block k (by rw [e]; exact hk), e]⟩
theorem setRow_alloc2 (w : World) (A : Obj) (old cs : Array Value) (t : TypeId) : ((w.alloc A).alloc (.cells old t (0, 0))).setRow (w.heap.size + 1) cs = (w.alloc A).alloc (.cells cs t (0, 0)) := by
  have := setRow_alloc (w.alloc A) old cs t
  rw [show (w.alloc A).heap.size = w.heap.size + 1 from by simp] at this
  exact this
theorem zeros_ok (n : Nat) : Sm.allB (zeros n) := fun x hx => by
  have := (List.mem_replicate.1 hx).2
  omega
/-- A text among texts: its bytes lie from whatever address on, or it is nil. -/
structure Tx (w : World) (p : Option Addr) (len cap : Nat) (B : List Nat) : Prop where
  size : len = B.length
  le : len ≤ cap
  ok : Sm.allB B
  at' : (p = none ∧ cap = 0) ∨ ∃ x, p = some x ∧ ∀ j u, (vals B)[j]? = some u → w.cell? (x.add j) = some u
  sp : ∀ x, p = some x → 0 < cap → x.spot = none
theorem Tx.later {w w' : World} {p : Option Addr} {len cap : Nat} {B : List Nat} (h : Tx w p len cap B) (hb : Below w.heap.size w w') : Tx w' p len cap B :=
  ⟨h.size, h.le, h.ok, h.at'.imp id fun ⟨x, hp, hx⟩ => ⟨x, hp, fun j u hu => (hb.cell (p := x.add j) (block_lt_of_cell (hx j u hu))).trans (hx j u hu)⟩, h.sp⟩
theorem Tx.cells {w : World} {x : Addr} {n c : Nat} {B : List Nat} (h : Tx w (some x) n c B) : ∀ j u, (vals B)[j]? = some u → w.cell? (x.add j) = some u := by
  rcases h.at' with ⟨hp, _⟩ | ⟨y, hp, hx⟩
  · cases hp
  · cases hp; exact hx
/-- A slice that reads as these texts. -/
structure Texts (w : World) (p : Option Addr) (len cap : Nat) (L : List (List Nat)) : Prop where
  size : len = L.length
  le : len ≤ cap
  at' : L ≠ [] → ∃ g o, p = some ⟨g, o, none⟩ ∧ ∀ i, i < L.length → ∃ q n c, w.cell? ⟨g, o + i, none⟩ = some (.slice q n c) ∧ Tx w q n c (L.getD i [])
theorem Texts.later {w w' : World} {p : Option Addr} {len cap : Nat} {L : List (List Nat)} (h : Texts w p len cap L) (hb : Below w.heap.size w w') : Texts w' p len cap L :=
  ⟨h.size, h.le, fun hn => by
    obtain ⟨g, o, hp, hx⟩ := h.at' hn
    refine ⟨g, o, hp, fun i hi => ?_⟩
    obtain ⟨q, n, c, h1, h2⟩ := hx i hi
    exact ⟨q, n, c, (hb.cell (p := ⟨g, o + i, none⟩) (block_lt_of_cell h1)).trans h1, h2.later hb⟩⟩
theorem take_succ_getD (L : List (List Nat)) (k : Nat) (h : k < L.length) : L.take (k + 1) = L.take k ++ [L.getD k []] := by
  rw [List.take_succ_eq_append_getElem h, List.getD_eq_getElem?_getD, List.getElem?_eq_getElem h]; rfl
theorem vals_append (A B : List Nat) : vals (A ++ B) = vals A ++ vals B := by simp [vals]
theorem owns_later {w w' : World} {base : Nat} {v : Value} {n : Nat} {xs : List Value} (h : w.ownsRow base 5 1 v n xs) (hb : Below w.heap.size w w') : w'.ownsRow base 5 1 v n xs := by
  obtain ⟨h1, h2⟩ := h
  refine ⟨h1, h2.imp id ?_⟩
  rintro ⟨g, cap, cur, hv, hg, hh, r⟩
  exact ⟨g, cap, cur, hv, hg, (hb.block _ (Array.getElem?_eq_some_iff.1 hh).1).trans hh, r⟩
theorem Bytes.cells {w : World} {g o n c : Nat} {B : List Nat} (h : Bytes w (some ⟨g, o, none⟩) n c B) : ∀ j u, (vals B)[j]? = some u → w.cell? ((⟨g, o, none⟩ : Addr).add j) = some u := fun j u hu => by
  have hj : j < B.length := by have := (List.getElem?_eq_some_iff.1 hu).1; simpa [vals] using this
  obtain ⟨g', o', hp, hx⟩ := h.ne (by intro e; rw [e] at hj; simp at hj)
  obtain ⟨rfl, rfl⟩ : g = g' ∧ o = o' := by simpa using hp
  rw [vals_get _ _ hj] at hu
  rw [Addr.add_mid, hx j hj, hu]
theorem Bytes.tx {w : World} {p : Option Addr} {n c : Nat} {B : List Nat} (h : Bytes w p n c B) : Tx w p n c B := by
  have h1 := h.size
  have h2 := h.le
  rcases h.at' with hc | ⟨g, o, hp, hx⟩
  · refine ⟨h1, h2, h.ok, ?_, fun _ _ h3 => by omega⟩
    cases p with
    | none => exact Or.inl ⟨rfl, hc⟩
    | some x =>
      refine Or.inr ⟨x, rfl, fun j u hu => ?_⟩
      have := (List.getElem?_eq_some_iff.1 hu).1
      rw [vals_length] at this
      omega
  · subst hp
    exact ⟨h1, h2, h.ok, Or.inr ⟨_, rfl, h.cells⟩, fun x hx _ => by cases hx; rfl⟩
theorem Tx.bytes {w : World} {p : Option Addr} {n c : Nat} {B : List Nat} (h : Tx w p n c B) : Bytes w p n c B := by
  refine ⟨h.size, h.le, h.ok, ?_⟩
  rcases h.at' with ⟨_, hc⟩ | ⟨x, hp, hx⟩
  · exact Or.inl hc
  · rcases Nat.eq_zero_or_pos c with h0 | h0
    · exact Or.inl h0
    · have hs := h.sp x hp h0
      obtain ⟨g, o, sp⟩ := x
      obtain rfl : sp = none := hs
      exact Or.inr ⟨g, o, hp, fun i hi => by rw [← Addr.add_mid]; exact hx i _ (vals_get B i hi)⟩
theorem A9 : Try.prog.underlying 9 = some .string := by kernel_rfl
theorem C5 : Try.prog.cellsOf 5 = 1 := by kernel_rfl
theorem run_part_u8 (l : List Nat) (i : Nat) (h : i < l.length) (w : World) : (_root_.Go.part 5 (u8s l) (i * 1)).run Try.prog w = .ok (.int .u8 (l.getD i 0 : Nat)) w := by
  have hagg : (isAgg 5).run Try.prog w = .ok false w := by
    unfold isAgg
    rw [Sem.run_bind, run_underlying U5 w]
    rfl
  have := u8s_get l i h
  simp [_root_.Go.part, Sem.run_bind, hagg, this]
theorem eqItems_u8 (a b : List Nat) (d : Nat) (w : World) : ∀ is : List Nat, (∀ i ∈ is, i < a.length ∧ i < b.length) → (Op.eqItems (d + 1) 5 1 (u8s a) (u8s b) is).run Try.prog w = .ok (is.all fun i => a.getD i 0 == b.getD i 0) w
  | [], _ => rfl
  | i :: is, h => by
    have h1 := h i (by simp)
    have ih := eqItems_u8 a b d w is (fun j hj => h j (by simp [hj]))
    have e1 : (Op.equalIn (d + 1) 5 (.int .u8 (a.getD i 0 : Nat)) (.int .u8 (b.getD i 0 : Nat))).run Try.prog w = .ok (a.getD i 0 == b.getD i 0) w := by
      rw [run_equalIn_int w d 5 .u8 .u8 _ _ U5]
      congr 1
      rw [Bool.eq_iff_iff]
      simp only [beq_iff_eq]
      omega
    simp only [Op.eqItems, Sem.run_bind, run_part_u8 a i h1.1, run_part_u8 b i h1.2, Result.andThen_ok, e1]
    cases hc : (a.getD i 0 == b.getD i 0)
    · simp only [List.all_cons, hc, Bool.false_and]
      rfl
    · simp only [List.all_cons, hc, Bool.true_and, Bool.not_true, Bool.false_eq_true, if_false]
      exact ih
theorem all_getD (a b : List Nat) (ha : a.length = 32) (hb : b.length = 32) : ((List.range 32).all fun i => a.getD i 0 == b.getD i 0) = decide (a = b) := by
  rw [Bool.eq_iff_iff]
  simp only [List.all_eq_true, List.mem_range, beq_iff_eq, decide_eq_true_eq]
  constructor
  · intro h
    apply List.ext_getElem (by omega)
    intro i h1 h2
    have := h i (by omega)
    simpa [List.getD_eq_getElem?_getD, List.getElem?_eq_getElem h1, List.getElem?_eq_getElem h2] using this
  · rintro rfl i _
    rfl
theorem Bytes.row {w : World} {g : Nat} {L : List Nat} {t : TypeId} {fr : Nat × Nat} (hg : w.heap[g]? = some (.cells (u8s L) t fr)) (hL : Sm.allB L) : Bytes w (some ⟨g, 0, none⟩) L.length L.length L :=
  ⟨rfl, Nat.le_refl _, hL, Or.inr ⟨g, 0, rfl, fun i hi => by rw [Nat.zero_add]; exact u8s_cell hg i hi⟩⟩
/-- A text's bytes as numbers. -/
def txt (s : ByteArray) : List Nat := s.data.toList.map UInt8.toNat
theorem txt_length (s : ByteArray) : (txt s).length = s.size := by unfold txt; rw [List.length_map]; rfl
theorem txt_ok (s : ByteArray) : Sm.allB (txt s) := by
  intro x hx
  simp only [txt, List.mem_map] at hx
  obtain ⟨b, _, rfl⟩ := hx
  exact b.toNat_lt
theorem index_txt (s : ByteArray) (i : Int) (j : Nat) (hi : i = j) (h : j < s.size) (w : World) : (Instr.index 9 (.string s) (.int .i64 i)).run Try.prog w = .ok (.int .u8 ((txt s).getD j 0 : Nat)) w := by
  subst hi
  rw [run_index_string w 9 s .i64 _ A9, dif_pos (by omega)]
  have h2 : j < s.data.size := h
  have e : (txt s).getD j 0 = (s.data[j]'h2).toNat := by
    unfold txt
    rw [List.getD_eq_getElem?_getD, List.getElem?_map, Array.getElem?_toList, Array.getElem?_eq_getElem h2]
    rfl
  rw [e]
  rfl
def strOf (l : List Nat) : ByteArray := strOfNums (l.map Int.ofNat)
theorem txt_strOf {l : List Nat} (h : Sm.allB l) : txt (strOf l) = l := by
  unfold txt strOf
  rw [strOfNums_data, List.map_map, List.map_map]
  conv => rhs; rw [← List.map_id l]
  apply List.map_congr_left
  intro x hx
  have := h x hx
  simp
  omega
theorem strOf_txt (s : ByteArray) : strOf (txt s) = s := by
  have h : (strOf (txt s)).data.toList = s.data.toList := by
    unfold txt strOf
    rw [strOfNums_data, List.map_map, List.map_map]
    conv => rhs; rw [← List.map_id s.data.toList]
    apply List.map_congr_left
    intro x _
    simp
  cases s with
  | mk a =>
    cases hs : strOf (txt ⟨a⟩) with
    | mk b =>
      rw [hs] at h
      congr 1
      exact Array.ext' h
theorem strOf_size (l : List Nat) : (strOf l).size = l.length := by unfold strOf; rw [strOfNums_size, List.length_map]
theorem grown_below {w wr w' : World} {g : Nat} (h : Below w.heap.size w wr) (hg : wr.grownBy w' (some g)) (hl : w.heap.size ≤ g) : Below w.heap.size w w' :=
  h.grown hg h.size (fun k hk => by simp at hk; omega)
theorem owns_form {w : World} {base n : Nat} {v : Value} {B : List Nat} (h : w.ownsRow base 5 1 v n (vals B)) (hB : Sm.allB B) : ∃ q c, v = .slice q n c ∧ Bytes w q n c B := by
  have hl : n = B.length := by have := h.1; rw [vals_length, Nat.mul_one] at this; exact this.symm
  rcases h.2 with ⟨rfl, h0⟩ | ⟨g, cap, cur, rfl, r⟩
  · subst h0
    have hb : B = [] := List.length_eq_zero_iff.1 hl.symm
    exact ⟨none, 0, rfl, ⟨hl, Nat.le_refl _, hB, Or.inl rfl⟩⟩
  · exact ⟨_, cap, rfl, Bytes.of_owns h hB⟩
theorem vals_set (B : List Nat) (j x : Nat) : vals (B.set j x) = (vals B).set j (.int .u8 (x : Nat)) := by simp [vals, List.map_set]
theorem set_ok {B : List Nat} (h : Sm.allB B) (j x : Nat) (hx : x < 256) : Sm.allB (B.set j x) := fun y hy => by
  rcases List.mem_or_eq_of_mem_set hy with h1 | rfl
  · exact h y h1
  · exact hx
theorem grown_twice {a b c : World} {r : Option Nat} (h : a.grownBy b r) (k : b.grownBy c r) : a.grownBy c r :=
  ⟨k.os.trans h.os, k.tape.trans h.tape, k.output.trans h.output, Nat.le_trans h.size k.size, fun i hi hne => (k.block i (Nat.lt_of_lt_of_le hi h.size) hne).trans (h.block i hi hne)⟩
theorem strOf_eq {A B : List Nat} (hA : Sm.allB A) (hB : Sm.allB B) : strOf A = strOf B ↔ A = B := by
  constructor
  · intro h
    rw [← txt_strOf hA, ← txt_strOf hB, h]
  · rintro rfl
    rfl
theorem Tx.heap {w w' : World} {p : Option Addr} {n c : Nat} {B : List Nat} (h : Tx w p n c B) (e : w'.heap = w.heap) : Tx w' p n c B :=
  ⟨h.size, h.le, h.ok, h.at'.imp id fun ⟨x, hp, hx⟩ => ⟨x, hp, fun j u hu => by have := hx j u hu; simp only [World.cell?, e] at this ⊢; exact this⟩, h.sp⟩
theorem str_eq {A B : List Nat} (hA : Sm.allB A) (hB : Sm.allB B) : ((strOf A).toList == (strOf B).toList) = decide (A = B) := by
  rw [Bool.eq_iff_iff, beq_iff_eq, decide_eq_true_iff, ByteArray.toList_eq, ByteArray.toList_eq]
  constructor
  · intro h
    apply (strOf_eq hA hB).1
    cases hA' : strOf A
    cases hB' : strOf B
    rw [hA', hB'] at h
    congr 1
    exact Array.ext' h
  · rintro rfl
    rfl
theorem Below.drewN {B : Nat} {a w : World} (h : Below B a w) (n : Nat) : Below B a (w.drewN n) := ⟨h.os, h.tape, h.output, h.size, h.block⟩
theorem tx_of_owns {w : World} {base n : Nat} {q : Option Addr} {c : Nat} {B : List Nat} (h : w.ownsRow base 5 1 (.slice q n c) n (vals B)) (hB : Sm.allB B) : Tx w q n c B := by
  have hl : n = B.length := by have := h.1; rw [vals_length, Nat.mul_one] at this; exact this.symm
  rcases h.2 with ⟨h1, h0⟩ | ⟨g, cap, cur, h1, r⟩
  · simp at h1
    obtain ⟨rfl, rfl, rfl⟩ := h1
    exact ⟨hl, Nat.le_refl _, hB, Or.inl ⟨rfl, rfl⟩, fun _ h _ => by cases h⟩
  · simp at h1
    obtain ⟨rfl, rfl⟩ := h1
    exact (Bytes.of_owns h hB).tx
/-- 'wpList_load_row' under a guard that says yes. -/
theorem wpList_load_rowG {ops : Array Oper} {rest : List Oper} {o : Oper} {a : Act} {w : World} {Q : Exit → Act → World → Prop} (hw : Region.wanted o (yielded ops a.tmps) = true) (ty : TypeId) (x : Operand) (ho : o.op = .load ty x)
    (g : Nat) (hx : a.eval x = .pointer (some ⟨g, 0, none⟩)) (t : TypeId) (cs : Array Value) (fr : Nat × Nat) {n : Nat} {e : TypeId} (hg : w.heap[g]? = some (.cells cs t fr))
    (hu : Try.prog.underlying ty = some (.array n e)) (hi : (Try.prog.info? ty).map (·.size) = some cs.size)
    (h : wpList Try.prog ops Q rest (a.put o.dst (.agg cs)) w) : wpList Try.prog ops Q (o :: rest) a w :=
  BigFrame.wpList_want hw fun _ hK => wp_load_row ty x ho g hx t cs fr _ hg hu rfl hi (hK _ _ h)
end Go.Proofs.Ytjlkddfihpdnmaa

/- What every row's proof wants: the program's closed facts; arguments opened: bytes. -/
namespace Go.Proofs.Ytjlkddfihpdnmaa
open Go.ChangeShapes Go.WideShapes Go.ChangeAt Go.RowKit Go.Deep

theorem gen_own : ownKnob Try.prog.godebug = none := by kernel_rfl
theorem gen_laidOut : laidOutB Try.prog = true := by kernel_rfl
def nats (z : List Int) (n : Nat) : List Nat := (z.take n).map Int.toNat
theorem nats_ok {z : List Int} (h : ∀ n ∈ z, (Lit.int .u8 n).wf = true) (n : Nat) : Sm.allB (nats z n) := by
  intro x hx
  simp only [nats, List.mem_map] at hx
  obtain ⟨y, hy, rfl⟩ := hx
  have := bounds_u8 (h y (List.mem_of_mem_take hy))
  omega
theorem nats_get {z : List Int} (h : ∀ n ∈ z, (Lit.int .u8 n).wf = true) (n j : Nat) (hn : n ≤ z.length) (u : Value) (hu : (vals (nats z n))[j]? = some u) : j < n ∧ u = .int .u8 (z.getD j 0) := by
  have hj : j < n := by
    have := (List.getElem?_eq_some_iff.1 hu).1
    simp [vals, nats] at this
    omega
  refine ⟨hj, ?_⟩
  have hz : j < z.length := by omega
  have hb := bounds_u8 (h z[j] (List.getElem_mem hz))
  rw [vals_get _ _ (by simp [nats]; omega)] at hu
  simp only [Option.some.injEq] at hu
  rw [← hu]
  simp only [nats, List.getD_eq_getElem?_getD, List.getElem?_map, List.getElem?_take_of_lt hj, List.getElem?_eq_getElem hz, Option.map_some, Option.getD_some]
  congr 1
  omega
end Go.Proofs.Ytjlkddfihpdnmaa

/- Slices of bytes turned into texts. -/
namespace Go.Proofs.Ytjlkddfihpdnmaa
open Go.RowKit

theorem A22 : Try.prog.underlying 31 = some (.slice 5) := by kernel_rfl
/-- Bytes that are read become a text of the same bytes. -/
theorem convert_bytes {w : World} {p : Option Addr} {n c : Nat} {B : List Nat} (h : Bytes w p n c B) (hB : B ≠ []) : (convert 31 9 (.slice p n c)).run Try.prog w = .ok (.string (strOfNums (B.map Int.ofNat))) w := by
  obtain ⟨g, o, rfl, hx⟩ := h.ne hB
  exact run_convert_bytes_arg (P := Try.prog) w 31 5 A22 U5 g o n c (B.map Int.ofNat) (by rw [List.length_map]; exact h.size.symm) (fun i hi => by
    have hi2 : i < B.length := by have := h.size; omega
    rw [hx i hi2]
    simp [List.getD_eq_getElem?_getD, hi2]) 9 A9
theorem convert_tx {w : World} {p : Option Addr} {n c : Nat} {B : List Nat} (h : Tx w p n c B) : (convert 31 9 (.slice p n c)).run Try.prog w = .ok (.string (strOf B)) w := by
  by_cases hB : B = []
  · subst hB
    obtain rfl : n = 0 := h.size
    rw [run_convert_bytes_string w _ _ _ _ _ _ A22 U5 A9]
    cases p with
    | none => rfl
    | some x => exact rfl
  · exact convert_bytes h.bytes hB
end Go.Proofs.Ytjlkddfihpdnmaa

/- The reference's disk, plainly: what it holds, and what each call makes of it. -/
namespace Go.Proofs.Ytjlkddfihpdnmaa.Dk
open Go.RowKit

/-- The bytes P laid over L from o on. -/
def over (L : List Nat) (o : Nat) (P : List Nat) : List Nat := L.take o ++ P ++ L.drop (o + P.length)
theorem over_length {L P : List Nat} {o : Nat} (h : o + P.length ≤ L.length) : (over L o P).length = L.length := by
  simp [over]; omega
theorem over_nil (L : List Nat) (o : Nat) : over L o [] = L := by simp [over]
theorem over_ok {L P : List Nat} {o : Nat} (h : Sm.allB L) (k : Sm.allB P) : Sm.allB (over L o P) := fun x hx => by
  simp only [over, List.mem_append] at hx
  rcases hx with (hx | hx) | hx
  · exact h x (List.mem_of_mem_take hx)
  · exact k x hx
  · exact h x (List.mem_of_mem_drop hx)
theorem over_step {L B : List Nat} {o k : Nat} (hk : k < B.length) (ho : o + B.length ≤ L.length) :
    (u8s (over L o (B.take k))).setIfInBounds (o + k) (.int .u8 (B.getD k 0 : Nat)) = u8s (over L o (B.take (k + 1))) := by
  have hlt : o + k < L.length := by omega
  have e1 : over L o (B.take k) = (L.take o ++ B.take k) ++ L[o + k] :: L.drop (o + k + 1) := by
    unfold over
    rw [List.length_take, Nat.min_eq_left (by omega), List.drop_eq_getElem_cons hlt]
  have e2 : over L o (B.take (k + 1)) = (L.take o ++ B.take k) ++ B.getD k 0 :: L.drop (o + k + 1) := by
    unfold over
    rw [List.length_take, Nat.min_eq_left (by omega), List.take_succ_eq_append_getElem hk, List.getD_eq_getElem?_getD, List.getElem?_eq_getElem hk]
    simp only [Option.getD_some, List.append_assoc, List.cons_append, List.nil_append, Nat.add_assoc]
  rw [e1, e2]
  exact u8s_set _ _ _ _ _ (by simp; omega)

/-- What a disk holds: all bytes, how many sectors; is it dead; how many writes are left (-1: no fuse), how much of the last one comes; how many came. -/
structure D where
  L : List Nat
  n : Nat
  dead : Bool
  left : Int
  torn : Nat
  writes : Nat
structure D.ok (s : D) : Prop where
  len : s.L.length = 64 * s.n
  bytes : Sm.allB s.L
  small : s.n ≤ 4096
  torn : s.torn ≤ 64
  left : -1 ≤ s.left ∧ s.left < 9223372036854775808
def D.new (n : Nat) : D := ⟨zeros (64 * n), n, false, -1, 0, 0⟩
theorem D.new_ok {n : Nat} (h : n ≤ 4096) : (D.new n).ok := ⟨by simp [D.new, zeros], zeros_ok _, h, by simp [D.new], by simp [D.new]⟩
def D.fuse (s : D) (k torn : Int) : D := { s with left := if k < 0 then -1 else k, torn := if torn < 0 then 0 else if torn > 64 then 64 else torn.toNat }
theorem D.fuse_ok {s : D} (h : s.ok) {k : Int} (torn : Int) (hk : k < 9223372036854775808) : (s.fuse k torn).ok :=
  ⟨h.len, h.bytes, h.small, by
    simp only [D.fuse]
    split
    · omega
    · split <;> omega, by simp only [D.fuse]; split <;> omega⟩
def D.wake (s : D) : D := { s with dead := false, left := -1 }
theorem D.wake_ok {s : D} (h : s.ok) : s.wake.ok := ⟨h.len, h.bytes, h.small, h.torn, by simp [D.wake]⟩
def D.many (s : D) : Nat := if s.left = 0 then s.torn else 64
/-- The write of a disk that takes it. -/
def D.put (s : D) (i : Nat) (B : List Nat) : D :=
  { s with L := over s.L (64 * i) (B.take s.many), dead := decide (s.left = 0), left := if s.left = 0 then -1 else if s.left > 0 then s.left - 1 else s.left, writes := s.writes + 1 }
def D.no (s : D) (i : Int) (m : Nat) : Nat := if s.dead = true then 30 else if i < 0 ∨ (s.n : Int) ≤ i then 9 else if m ≠ 64 then 1 else 0
def D.write (s : D) (i : Int) (B : List Nat) : D := if s.no i B.length = 0 then s.put i.toNat B else s
def D.says (s : D) (i : Int) (m : Nat) : Nat := if s.no i m = 0 then (if s.left = 0 then 30 else 0) else s.no i m
theorem D.no_zero {s : D} {i : Int} {m : Nat} (h : s.no i m = 0) : s.dead = false ∧ 0 ≤ i ∧ i < s.n ∧ m = 64 := by
  unfold D.no at h
  split at h
  · omega
  · split at h
    · omega
    · split at h
      · omega
      · exact ⟨by simp_all, by omega, by omega, by omega⟩
theorem D.put_ok {s : D} (h : s.ok) {i : Nat} {B : List Nat} (hi : i < s.n) (hB : Sm.allB B) (hl : B.length = 64) : (s.put i B).ok := by
  have ht : s.many ≤ 64 := by
    have := h.torn
    unfold D.many
    split <;> omega
  have hL := h.len
  refine ⟨?_, over_ok h.bytes (fun x hx => hB x (List.mem_of_mem_take hx)), h.small, h.torn, ?_⟩
  · show (over s.L (64 * i) (B.take s.many)).length = 64 * s.n
    rw [over_length (by rw [List.length_take]; omega), hL]
  · have := h.left
    simp only [D.put]
    split
    · omega
    · split <;> omega
theorem D.write_ok {s : D} (h : s.ok) (i : Int) {B : List Nat} (hB : Sm.allB B) : (s.write i B).ok := by
  unfold D.write
  split
  · next h0 =>
    obtain ⟨_, h1, h2, h3⟩ := D.no_zero h0
    exact D.put_ok h (by omega) hB h3
  · exact h

/-- What a call leaves as it was: all blocks but those of P. -/
structure Only (P : Nat → Prop) (w w' : World) : Prop where
  os : w'.os = w.os
  tape : w'.tape = w.tape
  output : w'.output = w.output
  size : w.heap.size ≤ w'.heap.size
  block : ∀ k, k < w.heap.size → ¬ P k → w'.heap[k]? = w.heap[k]?
theorem Only.refl (P : Nat → Prop) (w : World) : Only P w w := ⟨rfl, rfl, rfl, Nat.le_refl _, fun _ _ _ => rfl⟩
theorem Only.trans {P : Nat → Prop} {a b c : World} (h : Only P a b) (k : Only P b c) : Only P a c :=
  ⟨k.os.trans h.os, k.tape.trans h.tape, k.output.trans h.output, Nat.le_trans h.size k.size, fun i hi hp => (k.block i (Nat.lt_of_lt_of_le hi h.size) hp).trans (h.block i hi hp)⟩
theorem Only.mono {P Q : Nat → Prop} {w w' : World} (h : Only P w w') (hq : ∀ k, P k → Q k) : Only Q w w' :=
  ⟨h.os, h.tape, h.output, h.size, fun k hk hn => h.block k hk (fun hp => hn (hq k hp))⟩
theorem Only.of_below (P : Nat → Prop) {w w' : World} (h : Below w.heap.size w w') : Only P w w' := ⟨h.os, h.tape, h.output, h.size, fun k hk _ => h.block k hk⟩
theorem Only.setCell {P : Nat → Prop} (w : World) {a : Addr} (ha : P a.block) (v : Value) : Only P w (w.setCell a v) :=
  ⟨rfl, rfl, rfl, by simp [World.setCell], fun k _ hn => heap_setCell_other _ _ _ _ (fun e => hn (by rw [e]; exact ha))⟩
theorem Only.below {P : Nat → Prop} {w w' : World} {base : Nat} (h : Only P w w') (hs : base ≤ w.heap.size) (hp : ∀ k, P k → base ≤ k) : Below base w w' :=
  ⟨h.os, h.tape, h.output, h.size, fun k hk => h.block k (by omega) (fun e => by have := hp k e; omega)⟩
/-- A text whose block stayed. -/
theorem tx_keep {w w' : World} {p : Option Addr} {n c : Nat} {B : List Nat} (h : Tx w p n c B) (hk : ∀ x, p = some x → B ≠ [] → w'.heap[x.block]? = w.heap[x.block]?) : Tx w' p n c B :=
  ⟨h.size, h.le, h.ok, h.at'.imp id fun ⟨x, hp, hx⟩ => ⟨x, hp, fun j u hu => by
    have h1 := hx j u hu
    have hB : B ≠ [] := by rintro rfl; simp [vals] at hu
    have hb : (x.add j).block = x.block := by cases x; simp [Addr.add]; split <;> rfl
    rw [World.cell?_of_block (w := w) (by rw [hb]; exact hk x hp hB)]
    exact h1⟩, h.sp⟩
end Go.Proofs.Ytjlkddfihpdnmaa.Dk

/- What the laws want of package disk: contracts over whatever relation PD says that a disk lies in memory. -/
namespace Go.Proofs.Ytjlkddfihpdnmaa.Dk
open Go.RowKit

/-- Bytes of one's own, from base on, in cells that may be written. -/
structure Mine (w : World) (base : Nat) (p : Option Addr) (n c : Nat) (B : List Nat) : Prop where
  size : n = B.length
  le : n ≤ c
  ok : Sm.allB B
  at' : (p = none ∧ c = 0) ∨ ∃ g o t C, p = some ⟨g, o, none⟩ ∧ base ≤ g ∧ w.heap[g]? = some (.cells C t (0, 0)) ∧ ∀ i, i < n → C[o + i]? = some (.int .u8 (B.getD i 0 : Nat))
theorem Mine.tx {w : World} {base : Nat} {p : Option Addr} {n c : Nat} {B : List Nat} (h : Mine w base p n c B) : Tx w p n c B :=
  ⟨h.size, h.le, h.ok, h.at'.imp id fun ⟨g, o, t, C, hp, _, hh, hc⟩ => ⟨⟨g, o, none⟩, hp, fun j u hu => by
    have hj : j < B.length := by
      have := (List.getElem?_eq_some_iff.1 hu).1
      rwa [vals_length] at this
    rw [vals_get B j hj] at hu
    rw [Addr.add_mid, cell_of_row w g (o + j) _ _ _ hh, hc j (by have := h.size; omega)]
    exact hu⟩, fun x hx hc => by
      rcases h.at' with ⟨_, h0⟩ | ⟨g, o, t, C, hp, _⟩
      · omega
      · rw [hp] at hx
        cases hx
        rfl⟩
theorem Mine.base {w : World} {base : Nat} {p : Option Addr} {n c : Nat} {B : List Nat} (h : Mine w base p n c B) : ∀ x, p = some x → base ≤ x.block := fun x hx => by
  rcases h.at' with ⟨h0, _⟩ | ⟨g, o, t, C, hp, hb, _⟩
  · rw [h0] at hx; cases hx
  · rw [hp] at hx; cases hx; exact hb
theorem Mine.some {w : World} {base : Nat} {p : Option Addr} {n c : Nat} {B : List Nat} (h : Mine w base p n c B) (hn : n ≠ 0) : ∃ g o, p = some ⟨g, o, none⟩ := by
  rcases h.at' with ⟨_, h0⟩ | ⟨g, o, t, C, hp, _⟩
  · have := h.le; omega
  · exact ⟨g, o, hp⟩
theorem Mine.later {w w' : World} {base : Nat} {p : Option Addr} {n c : Nat} {B : List Nat} (h : Mine w base p n c B) (hb : Below w.heap.size w w') : Mine w' base p n c B :=
  ⟨h.size, h.le, h.ok, h.at'.imp id fun ⟨g, o, t, C, hp, hbase, hh, hc⟩ => ⟨g, o, t, C, hp, hbase, (hb.block g (Array.getElem?_eq_some_iff.1 hh).1).trans hh, hc⟩⟩
/-- Bytes that lie aside of what a disk owns. -/
structure Safe (w : World) (P : Nat → Prop) (p : Option Addr) (n c : Nat) (B : List Nat) : Prop where
  mine : Mine w 0 p n c B
  off : ∀ x, p = some x → ¬ P x.block
theorem Mine.safe {w : World} {base : Nat} {p : Option Addr} {n c : Nat} {B : List Nat} (h : Mine w base p n c B) {P : Nat → Prop} (hP : ∀ k, P k → k < base) : Safe w P p n c B :=
  ⟨⟨h.size, h.le, h.ok, h.at'.imp id fun ⟨g, o, t, C, hp, _, r⟩ => ⟨g, o, t, C, hp, Nat.zero_le _, r⟩⟩, fun x hx hc => by
    have := h.base x hx
    have := hP _ hc
    omega⟩
theorem Safe.turned {w w' : World} {P P' : Nat → Prop} {p : Option Addr} {n c : Nat} {B : List Nat} (h : Safe w P p n c B) (hp : ∀ k, P' k → P k ∨ w.heap.size ≤ k) (ho : Only P w w') : Safe w' P' p n c B := by
  obtain ⟨⟨h1, h2, h3, h4⟩, h5⟩ := h
  rcases h4 with ⟨rfl, h0⟩ | ⟨g, o, t, C, rfl, hb, hh, hc⟩
  · exact ⟨⟨h1, h2, h3, Or.inl ⟨rfl, h0⟩⟩, fun x hx => by cases hx⟩
  · have hlt : g < w.heap.size := (Array.getElem?_eq_some_iff.1 hh).1
    refine ⟨⟨h1, h2, h3, Or.inr ⟨g, o, t, C, rfl, hb, (ho.block g hlt (h5 _ rfl)).trans hh, hc⟩⟩, fun x hx hP => ?_⟩
    cases hx
    rcases hp _ hP with e | e
    · exact h5 _ rfl e
    · exact absurd e (Nat.not_le.2 hlt)
theorem Safe.later {w w' : World} {P : Nat → Prop} {p : Option Addr} {n c : Nat} {B : List Nat} (h : Safe w P p n c B) (hb : Below w.heap.size w w') : Safe w' P p n c B := h.turned (fun _ e => Or.inl e) (Only.of_below _ hb)
def D.gives (s : D) (i : Int) : List Nat := if s.no i 64 = 0 then (s.L.drop (64 * i.toNat)).take 64 else []
def D.copy (s : D) (t : Nat) : D := ⟨s.L, s.n, false, -1, t, 0⟩
/-- The contracts of package disk. PD w g P s: in the world w the disk s lies in the block g, what it owns are the blocks of P. -/
structure Api (PD : World → Nat → (Nat → Prop) → D → Prop) : Prop where
  ok : ∀ {w g P s}, PD w g P s → s.ok
  lt : ∀ {w g P s}, PD w g P s → ∀ k, P k → k < w.heap.size
  keep : ∀ {w w' g P s} (Q : Nat → Prop), PD w g P s → Only Q w w' → (∀ k, P k → ¬ Q k) → PD w' g P s
  new : ∀ (n : Int) (w : World), 0 ≤ n → n ≤ 4096 → Calls Try.prog 8 #[.int .i64 n] w fun e w' => ∃ g P, e = .returned (.tuple #[.pointer (some ⟨g, 0, none⟩), .int .i64 0]) ∧ PD w' g P (D.new n.toNat) ∧ (∀ k, P k → w.heap.size ≤ k) ∧ Below w.heap.size w w'
  newBad : ∀ (n : Int) (w : World), (n < 0 ∨ 4096 < n) → Calls Try.prog 8 #[.int .i64 n] w fun e w' => e = .returned (.tuple #[.pointer none, .int .i64 1]) ∧ Below w.heap.size w w'
  len : ∀ {w g P s}, PD w g P s → Calls Try.prog 10 #[.pointer (some ⟨g, 0, none⟩)] w fun e w' => e = .returned (.int .i64 s.n) ∧ Below w.heap.size w w'
  dead : ∀ {w g P s}, PD w g P s → Calls Try.prog 19 #[.pointer (some ⟨g, 0, none⟩)] w fun e w' => e = .returned (.bool s.dead) ∧ Below w.heap.size w w'
  writes : ∀ {w g P s}, PD w g P s → Calls Try.prog 20 #[.pointer (some ⟨g, 0, none⟩)] w fun e w' => e = .returned (.int .i64 s.writes) ∧ Below w.heap.size w w'
  all : ∀ {w g P s}, PD w g P s → Calls Try.prog 21 #[.pointer (some ⟨g, 0, none⟩)] w fun e w' => ∃ p c, e = .returned (.slice p (64 * s.n) c) ∧ Mine w' w.heap.size p (64 * s.n) c s.L ∧ Below w.heap.size w w'
  read : ∀ {w g P s} (i : Int), PD w g P s → Calls Try.prog 15 #[.pointer (some ⟨g, 0, none⟩), .int .i64 i] w fun e w' => ∃ p n c, e = .returned (.tuple #[.slice p n c, .int .i64 (s.no i 64)]) ∧ Mine w' w.heap.size p n c (s.gives i) ∧ Below w.heap.size w w'
  fuse : ∀ {w g P s} (k torn : Int), PD w g P s → k < 9223372036854775808 → Calls Try.prog 11 #[.pointer (some ⟨g, 0, none⟩), .int .i64 k, .int .i64 torn] w fun e w' => e = .returned (.tuple #[]) ∧ (∃ P', PD w' g P' (s.fuse k torn) ∧ ∀ k, P' k → P k ∨ w.heap.size ≤ k) ∧ Only P w w'
  wake : ∀ {w g P s}, PD w g P s → Calls Try.prog 13 #[.pointer (some ⟨g, 0, none⟩)] w fun e w' => e = .returned (.tuple #[]) ∧ (∃ P', PD w' g P' s.wake ∧ ∀ k, P' k → P k ∨ w.heap.size ≤ k) ∧ Only P w w'
  write : ∀ {w g P s} (i : Int) (B : List Nat) (p : Option Addr) (n c : Nat), PD w g P s → Tx w p n c B → (∀ x, p = some x → ¬ P x.block) → s.writes < 1000000 →
    Calls Try.prog 17 #[.pointer (some ⟨g, 0, none⟩), .int .i64 i, .slice p n c] w fun e w' => e = .returned (.int .i64 (s.says i n)) ∧ (∃ P', PD w' g P' (s.write i B) ∧ ∀ k, P' k → P k ∨ w.heap.size ≤ k) ∧ Only P w w'
  copy : ∀ {w g P s}, PD w g P s → Calls Try.prog 23 #[.pointer (some ⟨g, 0, none⟩)] w fun e w' => ∃ g' P' t, t ≤ 64 ∧ e = .returned (.pointer (some ⟨g', 0, none⟩)) ∧ PD w' g' P' (s.copy t) ∧ (∀ k, P' k → w.heap.size ≤ k) ∧ Below w.heap.size w w'
/-- A disk of a law's own, from the world w0 on. -/
structure Own (PD : World → Nat → (Nat → Prop) → D → Prop) (w0 w : World) (g : Nat) (P : Nat → Prop) (s : D) : Prop where
  disk : PD w g P s
  own : ∀ k, P k → w0.heap.size ≤ k
  low : Below w0.heap.size w0 w
section
variable {PD : World → Nat → (Nat → Prop) → D → Prop}
theorem Own.later (A : Api PD) {w0 w w' : World} {g : Nat} {P : Nat → Prop} {s : D} (h : Own PD w0 w g P s) (hb : Below w.heap.size w w') : Own PD w0 w' g P s :=
  ⟨A.keep (fun _ => False) h.disk (Only.of_below _ hb) (fun _ _ e => e), h.own, h.low.trans (hb.mono h.low.size)⟩
theorem Own.turned {w0 w w' : World} {g : Nat} {P P' : Nat → Prop} {s s' : D} (h : Own PD w0 w g P s) (hd : PD w' g P' s') (hp : ∀ k, P' k → P k ∨ w.heap.size ≤ k) (ho : Only P w w') : Own PD w0 w' g P' s' :=
  ⟨hd, fun k hk => (hp k hk).elim (h.own k) (fun e => Nat.le_trans h.low.size e), h.low.trans (ho.below h.low.size h.own)⟩
end
end Go.Proofs.Ytjlkddfihpdnmaa.Dk

/- The reference's disk in memory: Fuse, Wake. -/
namespace Go.Proofs.Ytjlkddfihpdnmaa.Dk
open Go.RowKit

/-- The reference's disk s lies in the blocks g (its row) and q (its bytes). -/
structure RD (w : World) (g q : Nat) (s : D) : Prop where
  row : w.heap[g]? = some (.cells #[.slice (some ⟨q, 0, none⟩) (64 * s.n : Nat) (64 * s.n : Nat), .int .i64 s.n, .bool s.dead, .int .i64 s.left, .int .i64 s.torn, .int .i64 s.writes] 33 (0, 0))
  bytes : w.heap[q]? = some (.cells (u8s s.L) 5 (0, 0))
  ne : g ≠ q
  ok : s.ok
theorem RD.lt {w : World} {g q : Nat} {s : D} (h : RD w g q s) : g < w.heap.size ∧ q < w.heap.size := ⟨(Array.getElem?_eq_some_iff.1 h.row).1, (Array.getElem?_eq_some_iff.1 h.bytes).1⟩
theorem RD.fz {w : World} {g q : Nat} {s : D} (h : RD w g q s) (j : Nat) : w.frozen? ⟨g, j, none⟩ = false := frozen_of_row w g j _ _ h.row
theorem RD.c0 {w : World} {g q : Nat} {s : D} (h : RD w g q s) : w.cell? ⟨g, 0, none⟩ = some (.slice (some ⟨q, 0, none⟩) (64 * s.n : Nat) (64 * s.n : Nat)) := (cell_of_row w g 0 _ _ _ h.row).trans rfl
theorem RD.c1 {w : World} {g q : Nat} {s : D} (h : RD w g q s) : w.cell? ⟨g, 1, none⟩ = some (.int .i64 s.n) := (cell_of_row w g 1 _ _ _ h.row).trans rfl
theorem RD.c2 {w : World} {g q : Nat} {s : D} (h : RD w g q s) : w.cell? ⟨g, 2, none⟩ = some (.bool s.dead) := (cell_of_row w g 2 _ _ _ h.row).trans rfl
theorem RD.c3 {w : World} {g q : Nat} {s : D} (h : RD w g q s) : w.cell? ⟨g, 3, none⟩ = some (.int .i64 s.left) := (cell_of_row w g 3 _ _ _ h.row).trans rfl
theorem RD.c4 {w : World} {g q : Nat} {s : D} (h : RD w g q s) : w.cell? ⟨g, 4, none⟩ = some (.int .i64 s.torn) := (cell_of_row w g 4 _ _ _ h.row).trans rfl
theorem RD.c5 {w : World} {g q : Nat} {s : D} (h : RD w g q s) : w.cell? ⟨g, 5, none⟩ = some (.int .i64 s.writes) := (cell_of_row w g 5 _ _ _ h.row).trans rfl
theorem RD.keep {P : Nat → Prop} {w w' : World} {g q : Nat} {s : D} (h : RD w g q s) (ho : Only P w w') (hg : ¬ P g) (hq : ¬ P q) : RD w' g q s :=
  ⟨(ho.block g h.lt.1 hg).trans h.row, (ho.block q h.lt.2 hq).trans h.bytes, h.ne, h.ok⟩
/-- The post of a call that turns a disk. -/
def TurnPost (w : World) (g q : Nat) (v : Value) (s : D) (e : Ending) (w' : World) : Prop := e = .returned v ∧ RD w' g q s ∧ Only (fun k => k = g ∨ k = q) w w'
/-- Cells of the row are written over. -/
theorem RD.dead {w : World} {g q : Nat} {s : D} (h : RD w g q s) (b : Bool) : RD (w.setCell ⟨g, 2, none⟩ (.bool b)) g q { s with dead := b } ∧ Only (fun k => k = g ∨ k = q) w (w.setCell ⟨g, 2, none⟩ (.bool b)) :=
  ⟨⟨heap_setCell_same w g 2 _ _ (.bool b) h.row, (heap_setCell_other _ _ _ _ (fun e => h.ne e.symm)).trans h.bytes, h.ne, ⟨h.ok.len, h.ok.bytes, h.ok.small, h.ok.torn, h.ok.left⟩⟩, Only.setCell w (Or.inl rfl) _⟩
theorem RD.leftTo {w : World} {g q : Nat} {s : D} (h : RD w g q s) (k : Int) (hk : -1 ≤ k ∧ k < 9223372036854775808) : RD (w.setCell ⟨g, 3, none⟩ (.int .i64 k)) g q { s with left := k } ∧ Only (fun k => k = g ∨ k = q) w (w.setCell ⟨g, 3, none⟩ (.int .i64 k)) :=
  ⟨⟨heap_setCell_same w g 3 _ _ (.int .i64 k) h.row, (heap_setCell_other _ _ _ _ (fun e => h.ne e.symm)).trans h.bytes, h.ne, ⟨h.ok.len, h.ok.bytes, h.ok.small, h.ok.torn, hk⟩⟩, Only.setCell w (Or.inl rfl) _⟩
theorem RD.tornTo {w : World} {g q : Nat} {s : D} (h : RD w g q s) (k : Nat) (hk : k ≤ 64) : RD (w.setCell ⟨g, 4, none⟩ (.int .i64 k)) g q { s with torn := k } ∧ Only (fun k => k = g ∨ k = q) w (w.setCell ⟨g, 4, none⟩ (.int .i64 k)) :=
  ⟨⟨heap_setCell_same w g 4 _ _ (.int .i64 k) h.row, (heap_setCell_other _ _ _ _ (fun e => h.ne e.symm)).trans h.bytes, h.ne, ⟨h.ok.len, h.ok.bytes, h.ok.small, hk, h.ok.left⟩⟩, Only.setCell w (Or.inl rfl) _⟩
theorem RD.writesTo {w : World} {g q : Nat} {s : D} (h : RD w g q s) (k : Nat) : RD (w.setCell ⟨g, 5, none⟩ (.int .i64 k)) g q { s with writes := k } ∧ Only (fun k => k = g ∨ k = q) w (w.setCell ⟨g, 5, none⟩ (.int .i64 k)) :=
  ⟨⟨heap_setCell_same w g 5 _ _ (.int .i64 k) h.row, (heap_setCell_other _ _ _ _ (fun e => h.ne e.symm)).trans h.bytes, h.ne, ⟨h.ok.len, h.ok.bytes, h.ok.small, h.ok.torn, h.ok.left⟩⟩, Only.setCell w (Or.inl rfl) _⟩
set_option maxRecDepth 100000 in
set_option maxHeartbeats 1000000 in
theorem rwake_any (s : D) (g q : Nat) (w : World) (h : RD w g q s) :
    Calls Try.prog 14 #[.pointer (some ⟨g, 0, none⟩)] w (TurnPost w g q (.tuple #[]) s.wake) := by
  obtain ⟨h1, o1⟩ := h.dead false
  obtain ⟨h2, o2⟩ := h1.leftTo (-1) (by omega)
  have f1 := h.fz 2
  have f2 := h1.fz 3
  have c1 := h.c2
  have c2 := h1.c3
  have H := Lib.hid (show TurnPost w g q (.tuple #[]) s.wake (.returned (.tuple #[])) _ from ⟨rfl, h2, o1.trans o2⟩)
  clear h h1 h2 o1 o2
  go_enter Try.func14, Try.ntmps14
  go_wp2_with fail
  go_end0
  exact H.out
set_option maxRecDepth 100000 in
set_option maxHeartbeats 1000000 in
theorem rread_any (s : D) (i : Int) (g q : Nat) (w : World) (h : RD w g q s) :
    Calls Try.prog 16 #[.pointer (some ⟨g, 0, none⟩), .int .i64 i] w fun e w' => w' = w ∧ ((s.no i 64 ≠ 0 ∧ e = .returned (.tuple #[.slice none 0 0, .int .i64 (s.no i 64)])) ∨ (s.no i 64 = 0 ∧ e = .returned (.tuple #[.slice (some ⟨q, 64 * i.toNat, none⟩) 64 (64 * s.n - 64 * i.toNat), .int .i64 0]))) := by
  have c0 := h.c0
  have c1 := h.c1
  have c2 := h.c2
  have hn := h.ok.small
  clear h
  cases hd : s.dead with
  | true =>
    rw [hd] at c2
    go_enter Try.func16, Try.ntmps16
    go_wp2_with fail
    go_ret2
    exact ⟨rfl, Or.inl (by simp [D.no, hd])⟩
  | false =>
    rw [hd] at c2
    by_cases h1 : i < 0
    · go_enter Try.func16, Try.ntmps16
      go_wp2_with fail
      go_ret2
      exact ⟨rfl, Or.inl (by simp [D.no, hd, h1])⟩
    · by_cases h2 : (s.n : Int) ≤ i
      · go_enter Try.func16, Try.ntmps16
        go_wp2_with fail
        go_ret2
        exact ⟨rfl, Or.inl (by simp [D.no, hd, h2])⟩
      · obtain ⟨j, rfl⟩ : ∃ j : Nat, i = j := ⟨i.toNat, by omega⟩
        have h3 : (j : Int) < s.n := by omega
        have q1 : IntKind.i64.wrap (64 * (j : Int)) = 64 * (j : Int) := IntWalk.i64_in _ (by omega)
        have q2 : IntKind.i64.wrap (64 * (j : Int) + 64) = 64 * (j : Int) + 64 := IntWalk.i64_in _ (by omega)
        have HS := Lib.hid (show s.no j 64 = 0 from by simp [D.no, hd]; omega)
        go_enter Try.func16, Try.ntmps16
        go_wp2_with fail
        go_ret2
        refine ⟨rfl, Or.inr ⟨HS.out, ?_⟩⟩
        rfl
end Go.Proofs.Ytjlkddfihpdnmaa.Dk

/- The reference's disk: Fuse, New. -/
namespace Go.Proofs.Ytjlkddfihpdnmaa.Dk
open Go.RowKit

theorem RD.tornI {w : World} {g q : Nat} {s : D} (h : RD w g q s) (k : Int) (h0 : 0 ≤ k) (hk : k ≤ 64) : RD (w.setCell ⟨g, 4, none⟩ (.int .i64 k)) g q { s with torn := k.toNat } ∧ Only (fun k => k = g ∨ k = q) w (w.setCell ⟨g, 4, none⟩ (.int .i64 k)) := by
  have := h.tornTo k.toNat (by omega)
  rwa [show ((k.toNat : Nat) : Int) = k from by omega] at this
/-- A store into a disk's row that another store at the same place follows. -/
theorem RD.row4 {w : World} {g q : Nat} {s : D} (h : RD w g q s) (v : Value) : (w.setCell ⟨g, 4, none⟩ v).cell? ⟨g, 4, none⟩ = some v ∧ (w.setCell ⟨g, 4, none⟩ v).frozen? ⟨g, 4, none⟩ = false := by
  have r := heap_setCell_same w g 4 _ _ v h.row
  exact ⟨(cell_of_row _ g 4 _ _ _ r).trans rfl, frozen_of_row _ g 4 _ _ r⟩
theorem RD.row3 {w : World} {g q : Nat} {s : D} (h : RD w g q s) (v : Value) : (w.setCell ⟨g, 3, none⟩ v).cell? ⟨g, 3, none⟩ = some v ∧ (w.setCell ⟨g, 3, none⟩ v).frozen? ⟨g, 3, none⟩ = false := by
  have r := heap_setCell_same w g 3 _ _ v h.row
  exact ⟨(cell_of_row _ g 3 _ _ _ r).trans rfl, frozen_of_row _ g 3 _ _ r⟩
/-- Two stores at one place are the latter. -/
theorem set_twice (w : World) (g j : Nat) (u v : Value) : (w.setCell ⟨g, j, none⟩ u).setCell ⟨g, j, none⟩ v = w.setCell ⟨g, j, none⟩ v := by
  unfold World.setCell
  congr 1
  apply Array.ext
  · simp
  · intro k h1 h2
    simp only [Array.getElem_modify]
    by_cases hk : g = k
    · simp only [hk, if_true]
      cases w.heap[k]'(by simpa using h2) <;> simp
    · simp [hk]
set_option maxRecDepth 100000 in
set_option maxHeartbeats 2000000 in
theorem rfuse_any (s : D) (k torn : Int) (g q : Nat) (w : World) (h : RD w g q s) (hk : k < 9223372036854775808) :
    Calls Try.prog 12 #[.pointer (some ⟨g, 0, none⟩), .int .i64 k, .int .i64 torn] w (TurnPost w g q (.tuple #[]) (s.fuse k torn)) := by
  obtain ⟨k', hk'⟩ : ∃ k', k' = if k < 0 then -1 else k := ⟨_, rfl⟩
  obtain ⟨t', ht'⟩ : ∃ t' : Int, t' = if torn < 0 then 0 else if torn > 64 then 64 else torn := ⟨_, rfl⟩
  obtain ⟨h1, o1⟩ := h.leftTo k' (by rw [hk']; split <;> omega)
  have ht0 : 0 ≤ t' := by
    rw [ht']
    split
    · omega
    · split <;> omega
  have ht6 : t' ≤ 64 := by
    rw [ht']
    split
    · omega
    · split <;> omega
  obtain ⟨h2, o2⟩ := h1.tornI t' ht0 ht6
  have e : ({ s with left := k', torn := t'.toNat } : D) = s.fuse k torn := by
    unfold D.fuse
    rw [hk', ht']
    congr 1
    split
    · rfl
    · split <;> rfl
  have H := Lib.hid (show TurnPost w g q (.tuple #[]) (s.fuse k torn) (.returned (.tuple #[])) ((w.setCell ⟨g, 3, none⟩ (.int .i64 k')).setCell ⟨g, 4, none⟩ (.int .i64 t')) from ⟨rfl, by rw [← e]; exact h2, o1.trans o2⟩)
  have f0 := h.fz 3
  have c0 := h.c3
  obtain ⟨c1, f1⟩ := h.row3 (.int .i64 k)
  have c2 := h1.c4
  have f2 := h1.fz 4
  obtain ⟨c3, f3⟩ := h1.row4 (.int .i64 torn)
  have T := set_twice w g 3 (.int .i64 k) (.int .i64 k')
  have T4 := set_twice (w.setCell ⟨g, 3, none⟩ (.int .i64 k')) g 4 (.int .i64 torn) (.int .i64 t')
  have HT := Lib.hid T
  have HT4 := Lib.hid T4
  clear h h1 h2 o1 o2 e T T4 ht0 ht6
  by_cases hk0 : k < 0
  · rw [if_pos hk0] at hk'
    subst hk'
    by_cases ht0 : torn < 0
    · rw [if_pos ht0] at ht'
      subst ht'
      go_enter Try.func12, Try.ntmps12
      go_upto_region 3 with fail
      rw [HT.out]
      go_wp2_with fail
      go_end0
      rw [HT4.out]
      exact H.out
    · rw [if_neg ht0] at ht'
      by_cases ht6 : torn > 64
      · rw [if_pos ht6] at ht'
        subst ht'
        go_enter Try.func12, Try.ntmps12
        go_upto_region 3 with fail
        rw [HT.out]
        go_wp2_with fail
        go_end0
        rw [HT4.out]
        exact H.out
      · rw [if_neg ht6] at ht'
        subst ht'
        go_enter Try.func12, Try.ntmps12
        go_upto_region 3 with fail
        rw [HT.out]
        go_wp2_with fail
        go_end0
        exact H.out
  · rw [if_neg hk0] at hk'
    subst hk'
    by_cases ht0 : torn < 0
    · rw [if_pos ht0] at ht'
      subst ht'
      go_enter Try.func12, Try.ntmps12
      go_wp2_with fail
      go_end0
      rw [HT4.out]
      exact H.out
    · rw [if_neg ht0] at ht'
      by_cases ht6 : torn > 64
      · rw [if_pos ht6] at ht'
        subst ht'
        go_enter Try.func12, Try.ntmps12
        go_wp2_with fail
        go_end0
        rw [HT4.out]
        exact H.out
      · rw [if_neg ht6] at ht'
        subst ht'
        go_enter Try.func12, Try.ntmps12
        go_wp2_with fail
        go_end0
        exact H.out
theorem make_z (m : Nat) (hm : m ≤ 1000000) (w : World) : (Instr.makeSlice 31 (.int .i64 m) (.int .i64 m)).run Try.prog w = .ok (.slice (some ⟨w.heap.size, 0, none⟩) m m) (w.alloc (.cells (u8s (zeros m)) 5)) := by
  obtain ⟨i5, hi, hi0, hi1, hi2⟩ := info_parts I5
  have := run_make (P := Try.prog) w 31 5 i5 _ A22 hi hi0 .i64 .i64 m m (by omega) (by omega) (by rw [hi2]; omega) (by omega)
  rw [this, hi1]
  simp only [Int.toNat_natCast, Nat.mul_one, made_zeros]
set_option maxRecDepth 100000 in
set_option maxHeartbeats 1000000 in
theorem rnew_any (n : Nat) (w : World) (hn : n ≤ 4096) :
    Calls Try.prog 9 #[.int .i64 n] w fun e w' => e = .returned (.pointer (some ⟨w.heap.size + 1, 0, none⟩)) ∧ RD w' (w.heap.size + 1) w.heap.size (D.new n) ∧ Below w.heap.size w w' := by
  have M1 := make_z (64 * n) (by omega) w
  rw [show ((64 * n : Nat) : Int) = 64 * (n : Int) from by omega] at M1
  have q1 : IntKind.i64.wrap (64 * (n : Int)) = 64 * (n : Int) := IntWalk.i64_in _ (by omega)
  go_enter Try.func9, Try.ntmps9
  go_wp2_with fail
  go_ret
  have b1 := (Below.refl w.heap.size w).alloc (Nat.le_refl _) (.cells (u8s (zeros (64 * n))) 5)
  generalize hw1 : w.alloc (.cells (u8s (zeros (64 * n))) 5) = w1 at *
  have s1 : w1.heap.size = w.heap.size + 1 := by rw [← hw1]; simp
  have r1 : w1.heap[w.heap.size]? = some (.cells (u8s (zeros (64 * n))) 5 (0, 0)) := by rw [← hw1]; exact heap_alloc_new w _
  have b2 := b1.alloc b1.size (.cells #[.slice (some ⟨w.heap.size, 0, none⟩) (64 * n) (64 * n), .int .i64 n, .bool false, .int .i64 (-1), .int .i64 0, .int .i64 0] 33)
  have r2 := heap_alloc_new w1 (.cells #[.slice (some ⟨w.heap.size, 0, none⟩) (64 * n) (64 * n), .int .i64 n, .bool false, .int .i64 (-1), .int .i64 0, .int .i64 0] 33)
  rw [s1] at r2
  exact ⟨rfl, ⟨r2, (heap_alloc_old w1 _ (by omega)).trans r1, by omega, D.new_ok hn⟩, b2⟩
end Go.Proofs.Ytjlkddfihpdnmaa.Dk

/- Package disk, as it landed: how a disk lies in memory; Len, Dead, Writes, Wake, Fuse, New. -/
namespace Go.Proofs.Ytjlkddfihpdnmaa.Dk
open Go.RowKit

/-- The row of a disk. -/
def rowOf (p : Option Addr) (n c : Nat) (lit : Bool) (whole torn : Int) (dead : Bool) (writes : Nat) : Array Value :=
  #[.slice p n c, .bool lit, .int .i64 whole, .int .i64 torn, .bool dead, .int .i64 writes]
/-- The disk s: its row in the block g, its sectors at p. -/
structure DAt (w : World) (g : Nat) (p : Option Addr) (c : Nat) (E : List Value) (lit : Bool) (whole torn : Int) (s : D) : Prop where
  row : w.heap[g]? = some (.cells (rowOf p s.n c lit whole torn s.dead s.writes) 55 (0, 0))
  sec : (p = none ∧ s.n = 0 ∧ c = 0) ∨ ∃ q, p = some ⟨q, 0, none⟩ ∧ q ≠ g ∧ w.heap[q]? = some (.cells (vals s.L ++ E).toArray 60 (0, 0))
  burn : s.dead = false → lit = decide (0 ≤ s.left) ∧ (0 ≤ s.left → whole = s.left ∧ torn = s.torn)
  ok : s.ok
def PD (w : World) (g : Nat) (P : Nat → Prop) (s : D) : Prop :=
  ∃ p c E lit whole torn, DAt w g p c E lit whole torn s ∧ ∀ k, P k ↔ k = g ∨ ∃ a, p = some a ∧ k = a.block
section
variable {w w' : World} {g : Nat} {p : Option Addr} {c : Nat} {E : List Value} {lit : Bool} {whole torn : Int} {s : D} {P : Nat → Prop}
theorem DAt.fz (h : DAt w g p c E lit whole torn s) (j : Nat) : w.frozen? ⟨g, j, none⟩ = false := frozen_of_row w g j _ _ h.row
theorem DAt.c0 (h : DAt w g p c E lit whole torn s) : w.cell? ⟨g, 0, none⟩ = some (.slice p s.n c) := (cell_of_row w g 0 _ _ _ h.row).trans rfl
theorem DAt.c1 (h : DAt w g p c E lit whole torn s) : w.cell? ⟨g, 1, none⟩ = some (.bool lit) := (cell_of_row w g 1 _ _ _ h.row).trans rfl
theorem DAt.c2 (h : DAt w g p c E lit whole torn s) : w.cell? ⟨g, 2, none⟩ = some (.int .i64 whole) := (cell_of_row w g 2 _ _ _ h.row).trans rfl
theorem DAt.c3 (h : DAt w g p c E lit whole torn s) : w.cell? ⟨g, 3, none⟩ = some (.int .i64 torn) := (cell_of_row w g 3 _ _ _ h.row).trans rfl
theorem DAt.c4 (h : DAt w g p c E lit whole torn s) : w.cell? ⟨g, 4, none⟩ = some (.bool s.dead) := (cell_of_row w g 4 _ _ _ h.row).trans rfl
theorem DAt.c5 (h : DAt w g p c E lit whole torn s) : w.cell? ⟨g, 5, none⟩ = some (.int .i64 s.writes) := (cell_of_row w g 5 _ _ _ h.row).trans rfl
theorem DAt.lt (h : DAt w g p c E lit whole torn s) : g < w.heap.size := (Array.getElem?_eq_some_iff.1 h.row).1
theorem DAt.small (h : DAt w g p c E lit whole torn s) : ∀ a, p = some a → a.block < w.heap.size := fun a ha => by
  rcases h.sec with ⟨h0, _⟩ | ⟨q, hq, _, hh⟩
  · rw [h0] at ha; cases ha
  · rw [hq] at ha; cases ha; exact (Array.getElem?_eq_some_iff.1 hh).1
theorem DAt.keep (h : DAt w g p c E lit whole torn s) {Q : Nat → Prop} (ho : Only Q w w') (hg : ¬ Q g) (hp : ∀ a, p = some a → ¬ Q a.block) : DAt w' g p c E lit whole torn s :=
  ⟨(ho.block g h.lt hg).trans h.row, h.sec.imp id fun ⟨q, hq, hne, hh⟩ => ⟨q, hq, hne, (ho.block q (Array.getElem?_eq_some_iff.1 hh).1 (hp _ hq)).trans hh⟩, h.burn, h.ok⟩
theorem DAt.blocks (_ : DAt w g p c E lit whole torn s) : ∀ k, (k = g ∨ ∃ a, p = some a ∧ k = a.block) ↔ k = g ∨ ∃ a, p = some a ∧ k = a.block := fun _ => Iff.rfl
theorem PD.okay (h : PD w g P s) : s.ok := by
  obtain ⟨p, c, E, lit, whole, torn, h, _⟩ := h
  exact h.ok
theorem PD.lt (h : PD w g P s) : ∀ k, P k → k < w.heap.size := fun k hk => by
  obtain ⟨p, c, E, lit, whole, torn, h, hP⟩ := h
  rcases (hP k).1 hk with rfl | ⟨a, ha, rfl⟩
  · exact h.lt
  · exact h.small a ha
theorem PD.keep (Q : Nat → Prop) (h : PD w g P s) (ho : Only Q w w') (hq : ∀ k, P k → ¬ Q k) : PD w' g P s := by
  obtain ⟨p, c, E, lit, whole, torn, h, hP⟩ := h
  exact ⟨p, c, E, lit, whole, torn, h.keep ho (hq g ((hP g).2 (Or.inl rfl))) (fun a ha => hq _ ((hP _).2 (Or.inr ⟨a, ha, rfl⟩))), hP⟩
/-- The row is written over by another row, the sectors stay. -/
theorem DAt.turn (h : DAt w g p c E lit whole torn s) {lit' dead' : Bool} {whole' torn' : Int} {writes' : Nat} {s' : D} (hg : w'.heap[g]? = some (.cells (rowOf p s.n c lit' whole' torn' dead' writes') 55 (0, 0))) (ho : Only (fun k => k = g) w w') (hL : s'.L = s.L) (hn : s'.n = s.n) (hd : s'.dead = dead') (hw : s'.writes = writes')
    (hb : s'.dead = false → lit' = decide (0 ≤ s'.left) ∧ (0 ≤ s'.left → whole' = s'.left ∧ torn' = s'.torn)) (hok : s'.ok) : DAt w' g p c E lit' whole' torn' s' :=
  ⟨by rw [hn, hd, hw]; exact hg, by
    rw [hn, hL]
    exact h.sec.imp id fun ⟨q, hq, hne, hh⟩ => ⟨q, hq, hne, (ho.block q (Array.getElem?_eq_some_iff.1 hh).1 hne).trans hh⟩, hb, hok⟩
theorem DAt.pd (h : DAt w g p c E lit whole torn s) (hP : ∀ k, P k ↔ k = g ∨ ∃ a, p = some a ∧ k = a.block) : ∃ P', PD w g P' s ∧ ∀ k, P' k → P k ∨ w'.heap.size ≤ k := ⟨P, ⟨p, c, E, lit, whole, torn, h, hP⟩, fun _ e => Or.inl e⟩
end
theorem only_setCells {P : Nat → Prop} (w : World) {g : Nat} (hg : P g) (o : Nat) (vs : List Value) : Only P w (w.setCells g o vs) := by
  obtain ⟨h1, h2, h3, h4⟩ := size_setCells g vs o w
  exact ⟨h2, h3, h4, Nat.le_of_eq h1.symm, fun k _ hn => heap_setCells_other g vs o w k (fun e => hn (by rw [e]; exact hg))⟩
set_option maxRecDepth 100000 in
set_option maxHeartbeats 1000000 in
theorem len_any {w : World} {g : Nat} {P : Nat → Prop} {s : D} (h : PD w g P s) :
    Calls Try.prog 10 #[.pointer (some ⟨g, 0, none⟩)] w fun e w' => e = .returned (.int .i64 s.n) ∧ Below w.heap.size w w' := by
  obtain ⟨p, c, E, lit, whole, torn, h, hP⟩ := h
  have c0 := h.c0
  clear h hP
  go_enter Try.func10, Try.ntmps10
  go_wp2_with fail
  go_ret
  exact ⟨rfl, Below.refl _ _⟩
set_option maxRecDepth 100000 in
set_option maxHeartbeats 1000000 in
theorem dead_any {w : World} {g : Nat} {P : Nat → Prop} {s : D} (h : PD w g P s) :
    Calls Try.prog 19 #[.pointer (some ⟨g, 0, none⟩)] w fun e w' => e = .returned (.bool s.dead) ∧ Below w.heap.size w w' := by
  obtain ⟨p, c, E, lit, whole, torn, h, hP⟩ := h
  have c4 := h.c4
  clear h hP
  go_enter Try.func19, Try.ntmps19
  go_wp2_with fail
  go_ret
  exact ⟨rfl, Below.refl _ _⟩
set_option maxRecDepth 100000 in
set_option maxHeartbeats 1000000 in
theorem writes_any {w : World} {g : Nat} {P : Nat → Prop} {s : D} (h : PD w g P s) :
    Calls Try.prog 20 #[.pointer (some ⟨g, 0, none⟩)] w fun e w' => e = .returned (.int .i64 s.writes) ∧ Below w.heap.size w w' := by
  obtain ⟨p, c, E, lit, whole, torn, h, hP⟩ := h
  have c5 := h.c5
  clear h hP
  go_enter Try.func20, Try.ntmps20
  go_wp2_with fail
  go_ret
  exact ⟨rfl, Below.refl _ _⟩
theorem IF : (Try.prog.info? 53).map (·.size) = some 3 := by kernel_rfl
def dark : Array Value := #[.bool false, .int .i64 0, .int .i64 0]
/-- The fuse is laid. -/
theorem DAt.lay {w : World} {g : Nat} {p : Option Addr} {c : Nat} {E : List Value} {lit : Bool} {whole torn : Int} {s : D} (h : DAt w g p c E lit whole torn s) (l : Bool) (k t : Int) :
    w.there g 1 3 ∧ (w.setCells g 1 [.bool l, .int .i64 k, .int .i64 t]).heap[g]? = some (.cells (rowOf p s.n c l k t s.dead s.writes) 55 (0, 0)) ∧ Only (fun k => k = g) w (w.setCells g 1 [.bool l, .int .i64 k, .int .i64 t]) :=
  ⟨there_row h.row 1 3 (by simp [rowOf]), heap_setCells_same g _ [.bool l, .int .i64 k, .int .i64 t] [.slice p s.n c] [.bool lit, .int .i64 whole, .int .i64 torn] [.bool s.dead, .int .i64 s.writes] w h.row rfl, only_setCells (P := fun k => k = g) w rfl 1 _⟩
/-- The three cells of a fuse are written one by one. -/
theorem row_three {w : World} {g : Nat} {p : Option Addr} {n c : Nat} {lit dead : Bool} {whole torn : Int} {writes : Nat} (h : w.heap[g]? = some (.cells (rowOf p n c lit whole torn dead writes) 55 (0, 0))) (l : Bool) (k : Int) :
    w.cell? ⟨g, 1, none⟩ = some (.bool lit) ∧ w.frozen? ⟨g, 1, none⟩ = false ∧ (w.setCell ⟨g, 1, none⟩ (.bool l)).cell? ⟨g, 2, none⟩ = some (.int .i64 whole) ∧ (w.setCell ⟨g, 1, none⟩ (.bool l)).frozen? ⟨g, 2, none⟩ = false ∧ ((w.setCell ⟨g, 1, none⟩ (.bool l)).setCell ⟨g, 2, none⟩ (.int .i64 k)).cell? ⟨g, 3, none⟩ = some (.int .i64 torn) ∧ ((w.setCell ⟨g, 1, none⟩ (.bool l)).setCell ⟨g, 2, none⟩ (.int .i64 k)).frozen? ⟨g, 3, none⟩ = false := by
  have r1 := heap_setCell_same w g 1 _ _ (.bool l) h
  have r2 := heap_setCell_same _ g 2 _ _ (.int .i64 k) r1
  exact ⟨(cell_of_row w g 1 _ _ _ h).trans rfl, frozen_of_row w g 1 _ _ h, (cell_of_row _ g 2 _ _ _ r1).trans rfl, frozen_of_row _ g 2 _ _ r1, (cell_of_row _ g 3 _ _ _ r2).trans rfl, frozen_of_row _ g 3 _ _ r2⟩
set_option maxRecDepth 100000 in
set_option maxHeartbeats 1000000 in
theorem wake_any {w : World} {g : Nat} {P : Nat → Prop} {s : D} (h : PD w g P s) :
    Calls Try.prog 13 #[.pointer (some ⟨g, 0, none⟩)] w fun e w' => e = .returned (.tuple #[]) ∧ (∃ P', PD w' g P' s.wake ∧ ∀ k, P' k → P k ∨ w.heap.size ≤ k) ∧ Only P w w' := by
  obtain ⟨p, c, E, lit, whole, torn, h, hP⟩ := h
  have c4 := h.c4
  have f4 := h.fz 4
  have r1 : (w.setCell ⟨g, 4, none⟩ (.bool false)).heap[g]? = some (.cells (rowOf p s.n c lit whole torn false s.writes) 55 (0, 0)) := heap_setCell_same w g 4 _ _ (.bool false) h.row
  have o1 := Only.setCell (P := fun k => k = g) w (a := ⟨g, 4, none⟩) rfl (.bool false)
  have r2 : ((w.setCell ⟨g, 4, none⟩ (.bool false)).setCells g 1 [.bool false, .int .i64 0, .int .i64 0]).heap[g]? = some (.cells (rowOf p s.n c false 0 0 false s.writes) 55 (0, 0)) := heap_setCells_same g _ [.bool false, .int .i64 0, .int .i64 0] [.slice p s.n c] [.bool lit, .int .i64 whole, .int .i64 torn] [.bool false, .int .i64 s.writes] _ r1 rfl
  have o2 := o1.trans (only_setCells (P := fun k => k = g) (w.setCell ⟨g, 4, none⟩ (.bool false)) rfl 1 [.bool false, .int .i64 0, .int .i64 0])
  obtain ⟨d1, e1, d2, e2, d3, e3⟩ := row_three r1 false 0
  have H := Lib.hid (show (∃ P', PD _ g P' s.wake ∧ ∀ k, P' k → P k ∨ w.heap.size ≤ k) ∧ Only P w _ from ⟨(h.turn (s' := s.wake) r2 o2 rfl rfl rfl rfl (fun _ => ⟨rfl, fun e => absurd e (by simp [D.wake])⟩) (D.wake_ok h.ok)).pd hP, o2.mono (fun k e => (hP k).2 (Or.inl e))⟩)
  clear h r1 r2 o1 o2 hP
  go_enter Try.func13, Try.ntmps13
  go_wp2_with fail
  go_end0
  exact ⟨rfl, H.out⟩
set_option maxRecDepth 100000 in
set_option maxHeartbeats 1000000 in
theorem fuse_any {w : World} {g : Nat} {P : Nat → Prop} {s : D} (k t : Int) (h : PD w g P s) (hk : k < 9223372036854775808) :
    Calls Try.prog 11 #[.pointer (some ⟨g, 0, none⟩), .int .i64 k, .int .i64 t] w fun e w' => e = .returned (.tuple #[]) ∧ (∃ P', PD w' g P' (s.fuse k t) ∧ ∀ k, P' k → P k ∨ w.heap.size ≤ k) ∧ Only P w w' := by
  obtain ⟨p, c, E, lit, whole, torn, h, hP⟩ := h
  obtain ⟨t1, r1, o1⟩ := h.lay false 0 0
  have hok := D.fuse_ok h.ok t hk
  obtain ⟨d1, e1, d2, e2, d3, e3⟩ := row_three h.row false 0
  by_cases h0 : k ≥ 0
  · have hs : s.fuse k t = { s with left := k, torn := (s.fuse k t).torn } := by
      simp only [D.fuse]
      rw [if_neg (by omega)]
    have H := Lib.hid (show ∀ w1 : World, Only (fun k => k = g) w w1 → w1.heap[g]? = some (.cells (rowOf p s.n c false 0 0 s.dead s.writes) 55 (0, 0)) → (∃ P', PD (w1.setCells g 1 [.bool true, .int .i64 k, .int .i64 ((s.fuse k t).torn : Nat)]) g P' (s.fuse k t) ∧ ∀ k, P' k → P k ∨ w.heap.size ≤ k) ∧ Only P w (w1.setCells g 1 [.bool true, .int .i64 k, .int .i64 ((s.fuse k t).torn : Nat)]) from fun w1 o1 r1 => by
      have r2 : (w1.setCells g 1 [.bool true, .int .i64 k, .int .i64 ((s.fuse k t).torn : Nat)]).heap[g]? = some (.cells (rowOf p s.n c true k ((s.fuse k t).torn : Nat) s.dead s.writes) 55 (0, 0)) := heap_setCells_same g _ [.bool true, .int .i64 k, .int .i64 ((s.fuse k t).torn : Nat)] [.slice p s.n c] [.bool false, .int .i64 0, .int .i64 0] [.bool s.dead, .int .i64 s.writes] _ r1 rfl
      have o2 := o1.trans (only_setCells (P := fun k => k = g) w1 rfl 1 [.bool true, .int .i64 k, .int .i64 ((s.fuse k t).torn : Nat)])
      exact ⟨(h.turn (s' := s.fuse k t) r2 o2 (by rw [hs]) (by rw [hs]) (by rw [hs]) (by rw [hs]) (fun _ => by rw [hs]; exact ⟨(decide_eq_true h0).symm, fun _ => ⟨rfl, rfl⟩⟩) hok).pd hP, o2.mono (fun k e => (hP k).2 (Or.inl e))⟩)
    have ht : ((s.fuse k t).torn : Int) = if t < 0 then 0 else if t > 64 then 64 else t := by
      simp only [D.fuse]
      split
      · omega
      · split <;> omega
    rw [ht] at H
    have R1 := Lib.hid r1
    have O1 := Lib.hid o1
    clear h r1 o1 hP hs hok ht t1
    go_enter Try.func11, Try.ntmps11
    go_upto_region 2 with fail
    rw [show ((w.setCell ⟨g, 1, none⟩ (.bool false)).setCell ⟨g, 2, none⟩ (.int .i64 0)).setCell ⟨g, 3, none⟩ (.int .i64 0) = w.setCells g 1 [.bool false, .int .i64 0, .int .i64 0] from rfl]
    generalize w.setCells g 1 [.bool false, .int .i64 0, .int .i64 0] = w1 at *
    obtain ⟨k1, f1, k2, f2, k3, f3⟩ := row_three R1.out true k
    have HH := Lib.hid (H.out w1 O1.out R1.out)
    clear H O1 R1 d1 e1 d2 e2 d3 e3
    by_cases ht0 : t < 0
    · rw [if_pos ht0] at HH
      go_wp2_with fail
      go_end0
      exact ⟨rfl, HH.out⟩
    · rw [if_neg ht0] at HH
      by_cases ht6 : t > 64
      · rw [if_pos ht6] at HH
        go_wp2_with fail
        go_end0
        exact ⟨rfl, HH.out⟩
      · rw [if_neg ht6] at HH
        go_wp2_with fail
        go_end0
        exact ⟨rfl, HH.out⟩
  · have hs : s.fuse k t = { s with left := -1, torn := (s.fuse k t).torn } := by
      simp only [D.fuse]
      rw [if_pos (by omega)]
    have H := Lib.hid (show (∃ P', PD (w.setCells g 1 [.bool false, .int .i64 0, .int .i64 0]) g P' (s.fuse k t) ∧ ∀ k, P' k → P k ∨ w.heap.size ≤ k) ∧ Only P w (w.setCells g 1 [.bool false, .int .i64 0, .int .i64 0]) from
      ⟨(h.turn (s' := s.fuse k t) r1 o1 (by rw [hs]) (by rw [hs]) (by rw [hs]) (by rw [hs]) (fun _ => by rw [hs]; exact ⟨rfl, fun e => absurd e (show ¬ (0 : Int) ≤ -1 by omega)⟩) hok).pd hP, o1.mono (fun k e => (hP k).2 (Or.inl e))⟩)
    clear h r1 o1 hP hs hok t1
    go_enter Try.func11, Try.ntmps11
    go_wp2_with fail
    go_end0
    exact ⟨rfl, H.out⟩
end Go.Proofs.Ytjlkddfihpdnmaa.Dk

/- Package disk, as it landed: New, All, Copy. -/
namespace Go.Proofs.Ytjlkddfihpdnmaa.Dk
open Go.RowKit

theorem US : Try.prog.underlying 51 = some (.slice 60) := by kernel_rfl
theorem UA : Try.prog.underlying 60 = some (.array 64 5) := by kernel_rfl
def sz : Array Value := u8s (zeros 64)
theorem ISZ : (Try.prog.info? 60).map (fun i => (i.zero, i.size, i.bytes)) = some (some (.agg sz), 64, 64) := by kernel_rfl
theorem SSZ : (Try.prog.info? 60).map (fun i => (i.zero, i.size)) = some (some (.agg sz), 64) := by kernel_rfl
theorem sz_size : sz.size = 64 := by rw [sz, u8s_size]; simp [zeros]
theorem zero_at (m j : Nat) (h : j < m) : (u8s (zeros m))[j]! = .int .u8 0 := by
  have := u8s_get (zeros m) j (by simpa [zeros] using h)
  rw [getElem!_def, this]
  simp [zeros, List.getD_eq_getElem?_getD, h]
theorem made_at (z : Array Value) (n i : Nat) (h : i < (madeCells z n).size) : (madeCells z n)[i] = z[i % z.size]! := by simp [madeCells]
theorem made_secs (n : Nat) : madeCells (Value.cells (.agg sz)) (n * 64) = u8s (zeros (64 * n)) := by
  apply Array.ext
  · simp [size_madeCells, u8s, zeros, Nat.mul_comm]
  · intro i h1 h2
    rw [made_at]
    show sz[i % sz.size]! = _
    rw [sz_size]
    refine (zero_at 64 (i % 64) (Nat.mod_lt _ (by omega))).trans ?_
    have h3 : i < (zeros (64 * n)).length := by rwa [u8s_size] at h2
    have := u8s_get (zeros (64 * n)) i h3
    rw [Array.getElem?_eq_getElem h2] at this
    rw [Option.some.inj this]
    simp [zeros, List.getD_eq_getElem?_getD, show i < 64 * n by simpa [zeros] using h3]
theorem make_secs (n : Nat) (hn : n ≤ 4096) (w : World) : (Instr.makeSlice 51 (.int .i64 n) (.int .i64 n)).run Try.prog w = .ok (.slice (some ⟨w.heap.size, 0, none⟩) n n) (w.alloc (.cells (u8s (zeros (64 * n))) 60)) := by
  obtain ⟨i5, hi, hi0, hi1, hi2⟩ := info_parts ISZ
  have := run_make (P := Try.prog) w 51 60 i5 _ US hi hi0 .i64 .i64 n n (by omega) (by omega) (by rw [hi2]; omega) (by omega)
  rw [this, hi1]
  simp only [Int.toNat_natCast, made_secs]
set_option maxRecDepth 100000 in
set_option maxHeartbeats 1000000 in
theorem new_bad (n : Int) (w : World) (h : n < 0 ∨ 4096 < n) :
    Calls Try.prog 8 #[.int .i64 n] w fun e w' => e = .returned (.tuple #[.pointer none, .int .i64 1]) ∧ Below w.heap.size w w' := by
  by_cases h0 : n < 0
  · clear h
    go_enter Try.func8, Try.ntmps8
    go_wp2_with fail
    go_ret2
    exact ⟨rfl, Below.refl _ _⟩
  · have h4 : n > 4096 := by omega
    clear h
    go_enter Try.func8, Try.ntmps8
    go_wp2_with fail
    go_ret2
    exact ⟨rfl, Below.refl _ _⟩
set_option maxRecDepth 100000 in
set_option maxHeartbeats 1000000 in
theorem new_any (n : Int) (w : World) (h0 : 0 ≤ n) (h4 : n ≤ 4096) :
    Calls Try.prog 8 #[.int .i64 n] w fun e w' => ∃ g P, e = .returned (.tuple #[.pointer (some ⟨g, 0, none⟩), .int .i64 0]) ∧ PD w' g P (D.new n.toNat) ∧ (∀ k, P k → w.heap.size ≤ k) ∧ Below w.heap.size w w' := by
  obtain ⟨m, rfl⟩ : ∃ m : Nat, n = m := ⟨n.toNat, by omega⟩
  have hm : m ≤ 4096 := by omega
  have M1 := make_secs m hm w
  have n0 : ¬ (m : Int) < 0 := by omega
  have n4 : ¬ (m : Int) > 4096 := by omega
  go_enter Try.func8, Try.ntmps8
  go_wp2_with fail
  go_ret2
  have b1 := (Below.refl w.heap.size w).alloc (Nat.le_refl _) (.cells (u8s (zeros (64 * m))) 60)
  generalize hw1 : w.alloc (.cells (u8s (zeros (64 * m))) 60) = w1 at *
  have s1 : w1.heap.size = w.heap.size + 1 := by rw [← hw1]; simp
  have r1 : w1.heap[w.heap.size]? = some (.cells (u8s (zeros (64 * m))) 60 (0, 0)) := by rw [← hw1]; exact heap_alloc_new w _
  have b2 := b1.alloc b1.size (.cells (rowOf (some ⟨w.heap.size, 0, none⟩) m m false 0 0 false 0) 55)
  have r2 := heap_alloc_new w1 (.cells (rowOf (some ⟨w.heap.size, 0, none⟩) m m false 0 0 false 0) 55)
  rw [s1] at r2
  refine ⟨w.heap.size + 1, rfl, fun k => k = w.heap.size + 1 ∨ ∃ a, some (⟨w.heap.size, 0, none⟩ : Addr) = some a ∧ k = a.block, ⟨some ⟨w.heap.size, 0, none⟩, m, [], false, 0, 0, ⟨r2, Or.inr ⟨_, rfl, by omega, ?_⟩, fun _ => ⟨rfl, fun e => absurd e (show ¬ (0 : Int) ≤ -1 by omega)⟩, D.new_ok hm⟩, fun _ => Iff.rfl⟩, ?_, b2⟩
  · refine (heap_alloc_old w1 _ (by omega)).trans ?_
    rw [List.append_nil, vals_toArray]
    exact r1
  · rintro k (rfl | ⟨a, ha, rfl⟩)
    · omega
    · cases ha; exact Nat.le_refl _
/-- The bytes of the sector k. -/
def sect (s : D) (k : Nat) : List Nat := (s.L.drop (64 * k)).take 64
section
variable {w w' : World} {g : Nat} {p : Option Addr} {c : Nat} {E : List Value} {lit : Bool} {whole torn : Int} {s : D}
theorem D.ok.sect_length (h : s.ok) {k : Nat} (hk : k < s.n) : (sect s k).length = 64 := by
  have := h.len
  simp only [sect, List.length_take, List.length_drop]
  omega
theorem D.ok.sect_ok (h : s.ok) (k : Nat) : Sm.allB (sect s k) := fun x hx => h.bytes x (List.mem_of_mem_drop (List.mem_of_mem_take hx))
theorem D.ok.split (_h : s.ok) {k : Nat} (_hk : k < s.n) : s.L = s.L.take (64 * k) ++ sect s k ++ s.L.drop (64 * k + 64) := by
  have h1 : s.L.drop (64 * k + 64) = (s.L.drop (64 * k)).drop 64 := by rw [List.drop_drop]
  rw [sect, List.append_assoc, h1, List.take_append_drop, List.take_append_drop]
theorem D.ok.take_succ (_h : s.ok) {k : Nat} (_ : k < s.n) : s.L.take (64 * (k + 1)) = s.L.take (64 * k) ++ sect s k := by
  rw [show 64 * (k + 1) = 64 * k + 64 from by omega, List.take_add, sect]
theorem DAt.sector (h : DAt w g p c E lit whole torn s) {k : Nat} (hk : k < s.n) : ∃ q, p = some ⟨q, 0, none⟩ ∧ q ≠ g ∧ w.heap[q]? = some (.cells (vals (s.L.take (64 * k)) ++ vals (sect s k) ++ (vals (s.L.drop (64 * k + 64)) ++ E)).toArray 60 (0, 0)) := by
  rcases h.sec with ⟨_, h0, _⟩ | ⟨q, hq, hne, hh⟩
  · omega
  · refine ⟨q, hq, hne, ?_⟩
    rw [hh]
    conv => lhs; rw [h.ok.split hk]
    simp only [vals_append, List.append_assoc]
theorem DAt.range (h : DAt w g p c E lit whole torn s) {k : Nat} (hk : k < s.n) : ∃ q, p = some ⟨q, 0, none⟩ ∧ w.rangeAt q (64 * k) (vals (sect s k)) := by
  obtain ⟨q, hq, _, hh⟩ := h.sector hk
  have := rangeAt_row _ _ _ hh
  rw [vals_length, List.length_take, Nat.min_eq_left (by have := h.ok.len; omega)] at this
  exact ⟨q, hq, this⟩
theorem low_later {w0 : World} (h : Below w0.heap.size w0 w) (hb : Below w.heap.size w w') : Below w0.heap.size w0 w' := h.trans (hb.mono h.size)
end
theorem make_all (m : Nat) (hm : m ≤ 1000000) (w : World) : (Instr.makeSlice 31 (.int .i64 0) (.int .i64 m)).run Try.prog w = .ok (.slice (some ⟨w.heap.size, 0, none⟩) 0 m) (w.alloc (.cells (u8s (zeros m)) 5)) := by
  obtain ⟨i5, hi, hi0, hi1, hi2⟩ := info_parts I5
  have := run_make (P := Try.prog) w 31 5 i5 _ A22 hi hi0 .i64 .i64 0 m (by omega) (by omega) (by rw [hi2]; omega) (by omega)
  rw [this, hi1]
  simp only [Int.toNat_natCast, Int.toNat_zero, Nat.mul_one, made_zeros]
/-- All under way: the first k sectors are there. -/
def AllRel (w : World) (s : D) (v i : Value) (wr : World) : Prop := ∃ k : Nat, k ≤ s.n ∧ i = .int .i64 k ∧ wr.ownsRow w.heap.size 5 1 v (64 * k) (vals (s.L.take (64 * k))) ∧ v ≠ .slice none 0 0 ∧ Below w.heap.size w wr
set_option maxRecDepth 100000 in
set_option maxHeartbeats 2000000 in
theorem all_any {w : World} {g : Nat} {P : Nat → Prop} {s : D} (h : PD w g P s) :
    Calls Try.prog 21 #[.pointer (some ⟨g, 0, none⟩)] w fun e w' => ∃ p c, e = .returned (.slice p (64 * s.n) c) ∧ Mine w' w.heap.size p (64 * s.n) c s.L ∧ Below w.heap.size w w' := by
  obtain ⟨p, c, E, lit, whole, torn, h, hP⟩ := h
  have hn := h.ok.small
  have M1 := make_all (64 * s.n) (by omega) w
  rw [show ((64 * s.n : Nat) : Int) = 64 * (s.n : Int) from by omega] at M1
  have q1 : IntKind.i64.wrap (64 * (s.n : Int)) = 64 * (s.n : Int) := IntWalk.i64_in _ (by omega)
  have q1' : IntKind.i64.wrap ((s.n : Int) * 64) = 64 * (s.n : Int) := by rw [Int.mul_comm]; exact q1
  have c0 := h.c0
  have hb := (Below.refl w.heap.size w).alloc (Nat.le_refl _) (.cells (u8s (zeros (64 * s.n))) 5)
  have c1 := (hb.cell (block_lt_of_cell c0)).trans c0
  have HO := Lib.hid (owns_mk (n := 0) (cap := 64 * s.n) (heap_alloc_new w (.cells (u8s (zeros (64 * s.n))) 5)) (by simp [zeros]) (Nat.zero_le _) (by unfold maxLen; omega) (Nat.le_refl _))
  have HB := Lib.hid hb
  have HD := Lib.hid h
  clear hP h hb
  obtain ⟨i5, hi, hi0, hi1, hi2⟩ := info_parts I5
  have HI := Lib.hid hi
  have HI0 := Lib.hid hi0
  have HI1 := Lib.hid hi1
  have HI2 := Lib.hid hi2
  clear hi hi0 hi1 hi2
  have hz := (zero_of_info SSZ).1
  go_enter Try.func21, Try.ntmps21
  go_wp2_with fail
  generalize w.alloc (.cells (u8s (zeros (64 * s.n))) 5) = w1 at *
  clear c0 c1 M1
  go_loopw [3, 18] (fun v i wr => AllRel w s v i wr) (fun _ i _ => s.n - (intOf i).toNat)
  case atStart => exact ⟨0, by omega, rfl, HO.out, by simp, HB.out⟩
  case round =>
    obtain ⟨k, hk, rfl, hv, hvn, hlow⟩ := hrel
    have HV := Lib.hid hv
    have HVN := Lib.hid hvn
    have HL := Lib.hid hlow
    clear hv hvn hlow
    by_cases hlt : k < s.n
    · have l1 : (k : Int) < s.n := by omega
      have i1 : (0 : Int) ≤ k ∧ (k : Int) < s.n := by omega
      obtain ⟨q, rfl, hr⟩ := (HD.out.keep (Q := fun _ => False) (Only.of_below _ HL.out) (fun e => e) (fun _ _ e => e)).range hlt
      have hsl := HD.out.ok.sect_length hlt
      rw [Nat.mul_comm] at hr
      have HR := Lib.hid hr
      have HSL := Lib.hid (show (vals (sect s k)).length = 64 from by rw [vals_length]; exact hsl)
      clear hr hsl
      go_upto_region 5 with (first | (refine wpList_store_row (by rfl) 60 (.tmp 5) (.tmp 21) (by rfl) wr.heap.size (vals (sect s k)).toArray (by rfl) (by rfl) _ _ (heap_alloc_new wr _) (by rw [List.size_toArray, HSL.out]; exact (zero_of_info SSZ).2) (by simp only [List.size_toArray, HSL.out, sz_size]) (all_oneCell_toArray (vals_one _)) ?_; rw [setRow_alloc]) | (refine wpList_load_mid (by rfl) 60 _ (by rfl) q (k * 64) (by rfl) (vals (sect s k)) _ HR.out UA (by rfl) (by rw [HSL.out]; exact (zero_of_info SSZ).2) ?_))
      have hba : Below wr.heap.size wr (wr.alloc (.cells (vals (sect s k)).toArray 60)) := (Below.refl _ _).alloc (Nat.le_refl _) _
      have hrow := heap_alloc_new wr (.cells (vals (sect s k)).toArray 60)
      generalize wr.alloc (.cells (vals (sect s k)).toArray 60) = w3 at *
      generalize wr.heap.size = gx at hrow ⊢
      have HO3 := Lib.hid (owns_later HV.out hba)
      have H3 := Lib.hid (low_later HL.out hba)
      have HX := Lib.hid (cells_of_row hrow)
      clear hba hrow hz
      go_wp2_with (at_builtin; refine wpList_append_own_at _ (by rfl) (.tmp 22) (.tmp 23) 31 (by rfl) w.heap.size 5 i5 (.int .u8 0) 1 1 A22 HI.out HI0.out HI1.out HI2.out (by rfl) (by decide) _ (64 * k) _ (by rfl) HO3.out ⟨gx, 0, none⟩ 64 64 (vals (sect s k)) (by rfl) HSL.out HX.out (vals_one _) (by unfold maxLen; omega) (by omega) H3.out.size ?_; intro v7 w7 hown7 hgrow7 hnil7 _; have O7 := Lib.hid hown7; have G7 := Lib.hid hgrow7; have N7 := Lib.hid (show v7 ≠ .slice none 0 0 from fun e => HVN.out (hnil7.1 e).1); clear hown7 hgrow7 hnil7)
      go_roundw
      case rel =>
        refine ⟨k + 1, by omega, by go_num, ?_, N7.out, ?_⟩
        · have := O7.out
          rw [← vals_append, ← HD.out.ok.take_succ hlt] at this
          exact this
        · rcases HO3.out.2 with ⟨e, _⟩ | ⟨g', cap, cur, e, hb, _⟩
          · exact absurd e HVN.out
          · have hg := G7.out
            rw [e] at hg
            exact grown_below H3.out hg hb
      case measure => simp [intOf]; omega
    · obtain rfl : k = s.n := by omega
      have hL : s.L.take (64 * s.n) = s.L := List.take_of_length_le (Nat.le_of_eq HD.out.ok.len)
      rcases HV.out.2 with ⟨e, _⟩ | ⟨g', cap, cur, rfl, hb, hg, hc, _, _, ht⟩
      · exact absurd e HVN.out
      · have HM := Lib.hid (show Mine wr w.heap.size (some ⟨g', 0, none⟩) (64 * s.n) cap s.L from ⟨HD.out.ok.len.symm, hc, HD.out.ok.bytes, Or.inr ⟨g', 0, _, cur, rfl, hb, hg, fun i hi => by
          have hi' : i < s.L.length := by have := HD.out.ok.len; omega
          have e := congrArg (fun l => l[i]?) ht
          rw [hL, vals_get s.L i hi', List.getElem?_take_of_lt (by omega)] at e
          rw [Nat.zero_add, ← Array.getElem?_toList]
          exact e⟩⟩)
        clear hb hg hc ht hL HV HVN hz
        go_wp2_with fail
        go_ret
        exact ⟨_, _, rfl, HM.out, HL.out⟩
/-- A list of sectors that an append made. -/
theorem secs_form {w : World} {base n : Nat} {v : Value} {L : List Nat} (h : w.ownsRow base 60 64 v (0 + n) ([] ++ vals L)) : ∃ p c E, v = .slice p n c ∧ ((p = none ∧ n = 0 ∧ c = 0) ∨ ∃ q, p = some ⟨q, 0, none⟩ ∧ base ≤ q ∧ w.heap[q]? = some (.cells (vals L ++ E).toArray 60 (0, 0))) := by
  rw [Nat.zero_add, List.nil_append] at h
  rcases h.2 with ⟨rfl, h0⟩ | ⟨q, cap, cur, rfl, hb, hg, _, _, _, ht⟩
  · exact ⟨none, 0, [], by rw [h0], Or.inl ⟨rfl, h0, rfl⟩⟩
  · refine ⟨some ⟨q, 0, none⟩, cap, cur.toList.drop (n * 64), rfl, Or.inr ⟨q, rfl, hb, ?_⟩⟩
    rw [← ht, List.take_append_drop]
    exact hg
/-- A disk that was copied. -/
theorem DAt.copied {w w1 : World} {p : Option Addr} {c : Nat} {E : List Value} {s : D} (hok : s.ok) (hb : Below w.heap.size w w1) (hs : (p = none ∧ s.n = 0 ∧ c = 0) ∨ ∃ q, p = some ⟨q, 0, none⟩ ∧ w.heap.size ≤ q ∧ w1.heap[q]? = some (.cells (vals s.L ++ E).toArray 60 (0, 0))) :
    ∃ P', PD (w1.alloc (.cells (rowOf p s.n c false 0 0 false 0) 55)) w1.heap.size P' (s.copy 0) ∧ (∀ k, P' k → w.heap.size ≤ k) ∧ Below w.heap.size w (w1.alloc (.cells (rowOf p s.n c false 0 0 false 0) 55)) := by
  refine ⟨fun k => k = w1.heap.size ∨ ∃ a, p = some a ∧ k = a.block, ⟨p, c, E, false, 0, 0, ⟨heap_alloc_new w1 _, ?_, fun _ => ⟨rfl, fun e => absurd e (show ¬ (0 : Int) ≤ -1 by omega)⟩, ⟨hok.len, hok.bytes, hok.small, by simp [D.copy], by simp [D.copy]⟩⟩, fun _ => Iff.rfl⟩, ?_, hb.alloc hb.size _⟩
  · refine hs.imp id fun ⟨q, hq, _, hh⟩ => ?_
    have hlt := (Array.getElem?_eq_some_iff.1 hh).1
    exact ⟨q, hq, by omega, (heap_alloc_old w1 _ hlt).trans hh⟩
  · rintro k (rfl | ⟨a, ha, rfl⟩)
    · exact hb.size
    · rcases hs with ⟨h0, _⟩ | ⟨q, hq, hle, _⟩
      · rw [h0] at ha; cases ha
      · rw [hq] at ha; cases ha; exact hle
set_option maxRecDepth 100000 in
set_option maxHeartbeats 2000000 in
theorem copy_any {w : World} {g : Nat} {P : Nat → Prop} {s : D} (h : PD w g P s) :
    Calls Try.prog 23 #[.pointer (some ⟨g, 0, none⟩)] w fun e w' => ∃ g' P' t, t ≤ 64 ∧ e = .returned (.pointer (some ⟨g', 0, none⟩)) ∧ PD w' g' P' (s.copy t) ∧ (∀ k, P' k → w.heap.size ≤ k) ∧ Below w.heap.size w w' := by
  obtain ⟨p, c, E, lit, whole, torn, h, hP⟩ := h
  have hn := h.ok.small
  have c0 := h.c0
  have HD := Lib.hid h
  have SEC := Lib.hid h.sec
  have HVL := Lib.hid (show (vals s.L).length = s.n * 64 from by rw [vals_length, h.ok.len, Nat.mul_comm])
  obtain ⟨i5, hi, hi0, hi1, hi2⟩ := info_parts ISZ
  have HI := Lib.hid hi
  have HI0 := Lib.hid hi0
  have HI1 := Lib.hid hi1
  have HI2 := Lib.hid hi2
  clear hP h hi hi0 hi1 hi2
  have HOK := Lib.hid HD.out.ok
  rcases SEC.out with ⟨rfl, h0, rfl⟩ | ⟨q, rfl, hne, hh⟩
  · have HC := Lib.hid (DAt.copied (w := w) (w1 := w) (p := none) (c := 0) (E := []) HOK.out (Below.refl _ _) (Or.inl ⟨rfl, h0, rfl⟩))
    rw [h0] at c0 HC
    clear h0 SEC HVL HD HOK
    go_enter Try.func23, Try.ntmps23
    go_wp2_with (at_builtin; refine wpList_append_own_none (by rfl) (.const (.slice none 0 0)) (.tmp 6) 51 (by rfl) w.heap.size 60 i5 64 US HI.out _ 0 _ (by rfl) (World.ownsRow_nil w w.heap.size 60 64) (by rfl) ?_)
    go_ret
    obtain ⟨P', h1, h2, h3⟩ := HC.out
    exact ⟨_, P', 0, by omega, rfl, h1, h2, h3⟩
  · have HH := Lib.hid (show ∀ j u, (vals s.L)[j]? = some u → w.cell? ((⟨q, 0, none⟩ : Addr).add j) = some u from fun j u hu => by
      have hj : j < (vals s.L).length := (List.getElem?_eq_some_iff.1 hu).1
      rw [Addr.add_mid, Nat.zero_add, cell_of_row w q j _ _ _ hh]
      simp only [List.getElem?_toArray]
      rw [List.getElem?_append_left hj]
      exact hu)
    clear hne hh SEC
    go_enter Try.func23, Try.ntmps23
    go_wp2_with (at_builtin; refine wpList_append_own_at _ (by rfl) (.const (.slice none 0 0)) (.tmp 6) 51 (by rfl) w.heap.size 60 i5 (.agg sz) 64 64 US HI.out HI0.out HI1.out HI2.out sz_size (by decide) _ 0 _ (by rfl) (World.ownsRow_nil w w.heap.size 60 64) ⟨q, 0, none⟩ s.n c (vals s.L) (by rfl) HVL.out HH.out (vals_one _) (by unfold maxLen; omega) (by omega) (Nat.le_refl _) ?_; intro v1 w1 hown1 hgrow1 _ _; obtain ⟨p1, c1, E1, rfl, hs1⟩ := secs_form hown1; have S1 := Lib.hid hs1; have B1 := Lib.hid (show Below w.heap.size w w1 from ⟨hgrow1.os, hgrow1.tape, hgrow1.output, hgrow1.size, fun k hk => hgrow1.block k hk (by simp [Value.ownBlock])⟩); clear hown1 hgrow1 hs1)
    go_ret
    obtain ⟨P', h1, h2, h3⟩ := DAt.copied HOK.out B1.out S1.out
    exact ⟨_, P', 0, by omega, rfl, h1, h2, h3⟩
end Go.Proofs.Ytjlkddfihpdnmaa.Dk

/- A box's corners in memory; a call through a value that is a function. -/
namespace Go.Proofs.Ytjlkddfihpdnmaa
open Go.RowKit

/-- A box's corners: two slices. -/
def BoxAt (w : World) (B : Nat) (p : Option Addr) (n c : Nat) (q : Option Addr) (m d : Nat) : Prop := w.cell? ⟨B, 0, none⟩ = some (.slice p n c) ∧ w.cell? ⟨B, 1, none⟩ = some (.slice q m d)
theorem enter_side {F : Nat} {fn : Func} {c : Code} (hf : Try.prog.funcs[F]? = some fn) (hname : (fn.name == "runtime.NumGoroutine") = false) (hb : fn.body = some c) : ∀ args w, (callFunc F args).run Try.prog w = .ok (.enter F args) w := fun args w => by
  have h1 : fn.name ≠ "runtime.NumGoroutine" := by simpa using hname
  simp [callFunc, hf, h1, hb, mark]
theorem boxed (w : World) (v : Value) (t : TypeId) : (w.alloc (.cells #[v] t)).cell? ⟨w.heap.size, 0, none⟩ = some v := cell_of_row _ _ 0 _ t (0, 0) (heap_alloc_new w _)
end Go.Proofs.Ytjlkddfihpdnmaa
