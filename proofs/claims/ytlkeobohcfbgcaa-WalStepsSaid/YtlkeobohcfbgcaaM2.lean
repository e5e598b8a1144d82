/- CodR, CodRNew, CodRV, CodRByte, CodRCount, WpText, WlGood, ShaRot, ShaTurn, ShaSched, ShaKs, ShaAll, ShaBig, ShaFill, ShaRow, ShaMore. -/
import Derived.Test.YtlkeobohcfbgcaaM1
import Derived.Lib.BitFns
import Derived.Lib.MinMax
import Derived.Deep.RegionHeld3
import Derived.Test.YtlkeobohcfbgcaaProg
import Derived.WalkKit
import Derived.WalkSpells
import Derived.WalkLawsBesides
import Derived.BigQuiet
import Derived.Deep.QuietTactic
import Derived.Lib.Hide
import Derived.StillTailTactics
import Derived.Deep.WholeRow
import Derived.Deep.MidRow
/- The contracts of codec.Reader: refuse, take, value, atMost, Count, End, Err, Left; codec.New. -/
namespace Go.Proofs.Ytlkeobohcfbgcaa
open Go.RowKit

/-- What a reader holds: the bytes that are left, its error. -/
structure Rd where
  R : List Nat
  e : Nat
structure RS (w : World) (g : Nat) (p : Option Addr) (n c : Nat) (s : Rd) : Prop where
  row : w.heap[g]? = some (.cells #[.slice p n c, .int .i64 s.e] 108 (0, 0))
  tx : Tx w p n c s.R
  lo : ∀ x, p = some x → s.R ≠ [] → x.block < g
def RSx (w : World) (g : Nat) (s : Rd) : Prop := ∃ p n c, RS w g p n c s
theorem RS.lt {w : World} {g : Nat} {p : Option Addr} {n c : Nat} {s : Rd} (h : RS w g p n c s) : g < w.heap.size := (Array.getElem?_eq_some_iff.1 h.row).1
theorem RS.err {w : World} {g : Nat} {p : Option Addr} {n c : Nat} {s : Rd} (h : RS w g p n c s) : w.cell? ⟨g, 1, none⟩ = some (.int .i64 s.e) := (cell_of_row w g 1 _ _ _ h.row).trans rfl
theorem RS.rest {w : World} {g : Nat} {p : Option Addr} {n c : Nat} {s : Rd} (h : RS w g p n c s) : w.cell? ⟨g, 0, none⟩ = some (.slice p n c) := (cell_of_row w g 0 _ _ _ h.row).trans rfl
theorem RS.fz {w : World} {g : Nat} {p : Option Addr} {n c : Nat} {s : Rd} (h : RS w g p n c s) (j : Nat) : w.frozen? ⟨g, j, none⟩ = false := frozen_of_row w g j _ _ h.row
theorem RS.later {w w' : World} {g : Nat} {p : Option Addr} {n c : Nat} {s : Rd} (h : RS w g p n c s) (hb : Below w.heap.size w w') : RS w' g p n c s :=
  ⟨(hb.block _ h.lt).trans h.row, h.tx.later hb, h.lo⟩
theorem RSx.later {w w' : World} {g : Nat} {s : Rd} (h : RSx w g s) (hb : Below w.heap.size w w') : RSx w' g s := by
  obtain ⟨p, n, c, h⟩ := h
  exact ⟨p, n, c, h.later hb⟩
/-- Bytes lie in none of a reader's own cells. -/
theorem tx_other {w : World} {g : Nat} {p q : Option Addr} {n c m d : Nat} {e : Nat} {B : List Nat} (hr : w.heap[g]? = some (.cells #[.slice p n c, .int .i64 e] 108 (0, 0))) (h : Tx w q m d B) : ∀ x, q = some x → B ≠ [] → x.block ≠ g := by
  intro x hx hB hg
  subst hx
  have h0 := h.cells 0 _ (vals_get _ 0 (List.length_pos_iff.2 hB))
  have e0 : x.add 0 = x := by simp [Addr.add]
  rw [e0] at h0
  simp only [World.cell?, hg, hr] at h0
  split at h0 <;> simp_all
  match hx : x.off with
  | 0 => rw [hx] at h0; simp at h0
  | 1 => rw [hx] at h0; simp at h0
  | k + 2 => rw [hx] at h0; simp at h0
theorem Tx.grown {w w' : World} {p : Option Addr} {n c : Nat} {B : List Nat} (h : Tx w p n c B) {g : Nat} (hg : w.grownBy w' (some g)) (hn : ∀ x, p = some x → B ≠ [] → x.block ≠ g) : Tx w' p n c B :=
  ⟨h.size, h.le, h.ok, h.at'.imp id fun ⟨x, hp, hx⟩ => ⟨x, hp, fun j u hu => by
    have h1 := hx j u hu
    have hB : B ≠ [] := by rintro rfl; simp [vals] at hu
    have hb : (x.add j).block = x.block := by cases x; simp [Addr.add]; split <;> rfl
    rw [World.cell?_of_block (w := w) (hg.block _ (block_lt_of_cell h1) (by rw [hb]; intro e; exact hn x hp hB (by simpa using e)))]
    exact h1⟩, h.sp⟩
theorem add_add (x : Addr) (n j : Nat) : (x.add n).add j = x.add (n + j) := by
  simp only [Addr.add]
  by_cases h1 : n = 0
  · subst h1; simp
  · by_cases h2 : j = 0
    · subst h2; simp
    · rw [if_neg h1, if_neg h2, if_neg (by omega)]; simp [Nat.add_assoc]
theorem vals_take (B : List Nat) (n : Nat) : vals (B.take n) = (vals B).take n := by simp [vals]
theorem Tx.take {w : World} {p : Option Addr} {m c : Nat} {B : List Nat} (h : Tx w p m c B) (n : Nat) (hn : n ≤ m) : Tx w p n c (B.take n) :=
  ⟨by have := h.size; rw [List.length_take]; omega, Nat.le_trans hn h.le, fun x hx => h.ok x (List.mem_of_mem_take hx), h.at'.imp id fun ⟨x, hp, hx⟩ => ⟨x, hp, fun j u hu => hx j u (by
    rw [vals_take] at hu
    rw [List.getElem?_take] at hu
    split at hu
    · exact hu
    · cases hu)⟩, h.sp⟩
theorem Tx.drop {w : World} {p : Option Addr} {m c : Nat} {B : List Nat} (h : Tx w p m c B) (n : Nat) (hn : n ≤ m) : Tx w (Option.map (fun x => x.add n) p) (m - n) (c - n) (B.drop n) := by
  have h1 := h.size
  have h2 := h.le
  refine ⟨by rw [List.length_drop]; omega, by omega, fun x hx => h.ok x (List.mem_of_mem_drop hx), ?_, ?_⟩
  · rcases h.at' with ⟨hp, hc⟩ | ⟨x, hp, hx⟩
    · subst hp; subst hc
      exact Or.inl ⟨rfl, by omega⟩
    · subst hp
      refine Or.inr ⟨x.add n, rfl, fun j u hu => ?_⟩
      rw [add_add]
      refine hx (n + j) u ?_
      rw [vals_drop, List.getElem?_drop] at hu
      exact hu
  · intro x hx hc
    cases p with
    | none => cases hx
    | some y =>
      simp at hx
      subst hx
      simp only [Addr.add]
      split
      · exact h.sp y rfl (by omega)
      · rfl
theorem Tx.nothing {w : World} {p : Option Addr} {m c : Nat} {B : List Nat} (h : Tx w p m c B) : Tx w p 0 0 [] :=
  ⟨rfl, Nat.le_refl _, fun x hx => by simp at hx, by
    cases p with
    | none => exact Or.inl ⟨rfl, rfl⟩
    | some x => exact Or.inr ⟨x, rfl, fun j u hu => by simp [vals] at hu⟩, fun _ _ h => by omega⟩
theorem lo_drop {g : Nat} {p : Option Addr} {B : List Nat} (h : ∀ x, p = some x → B ≠ [] → x.block < g) (n : Nat) : ∀ x, Option.map (fun x => x.add n) p = some x → B.drop n ≠ [] → x.block < g := by
  intro x hx hB
  cases p with
  | none => cases hx
  | some y =>
    simp only [Option.map_some, Option.some.injEq] at hx
    subst hx
    have : (y.add n).block = y.block := by cases y; simp [Addr.add]; split <;> rfl
    rw [this]
    exact h y rfl (by rintro rfl; simp at hB)
def Rd.refuse (s : Rd) (k : Nat) : Rd := if s.e = 0 then ⟨s.R, k⟩ else s
def Rd.fits (s : Rd) (n : Nat) : Prop := s.e = 0 ∧ n ≤ s.R.length
instance (s : Rd) (n : Nat) : Decidable (s.fits n) := by unfold Rd.fits; infer_instance
def Rd.part (s : Rd) (n : Nat) : List Nat := if s.fits n then s.R.take n else []
def Rd.past (s : Rd) (n : Nat) : Rd := if s.fits n then ⟨s.R.drop n, 0⟩ else s.refuse 20
def RPost (w : World) (g : Nat) (v : Value) (s : Rd) (e : Ending) (w' : World) : Prop := e = .returned v ∧ RSx w' g s ∧ w.grownBy w' (some g)
set_option maxHeartbeats 1000000 in
theorem rrefuse_any (s : Rd) (k : Nat) (g : Nat) (w : World) (hs : RSx w g s) :
    Calls Try.prog 77 #[.pointer (some ⟨g, 0, none⟩), .int .i64 k] w (RPost w g (.tuple #[]) (s.refuse k)) := by
  obtain ⟨p, n, c, hs⟩ := hs
  have h1 := hs.err
  have f1 := hs.fz 1
  have HS := Lib.hid hs
  clear hs
  by_cases he : s.e = 0
  · have e : s.refuse k = ⟨s.R, k⟩ := by unfold Rd.refuse; rw [if_pos he]
    rw [he] at h1
    rw [e]
    clear he e
    go_enter Try.func77, Try.ntmps77
    go_wp2_with fail
    go_end0
    have r1 := heap_setCell_same w g 1 _ _ (.int .i64 k) HS.out.row
    refine ⟨rfl, ⟨p, n, c, r1, HS.out.tx.grown (grown_setCell w g 1 _) (tx_other HS.out.row HS.out.tx), HS.out.lo⟩, grown_setCell w g 1 _⟩
  · have e : s.refuse k = s := by unfold Rd.refuse; rw [if_neg he]
    have b1 : ((s.e : Int) == 0) = false := by simp; omega
    rw [e]
    clear he e
    go_enter Try.func77, Try.ntmps77
    go_wp2_with fail
    go_end0
    exact ⟨rfl, ⟨p, n, c, HS.out⟩, ⟨rfl, rfl, rfl, Nat.le_refl _, fun _ _ _ => rfl⟩⟩
def TakePost (w : World) (g : Nat) (s : Rd) (n : Nat) (e : Ending) (w' : World) : Prop := ∃ q c, e = .returned (.slice q (s.part n).length c) ∧ Tx w' q (s.part n).length c (s.part n) ∧ RSx w' g (s.past n) ∧ w.grownBy w' (some g)
theorem grown_same (w : World) (r : Option Nat) : w.grownBy w r := ⟨rfl, rfl, rfl, Nat.le_refl _, fun _ _ _ => rfl⟩
theorem tx_nil (w : World) : Tx w none 0 0 [] := ⟨rfl, Nat.le_refl _, fun x hx => by simp at hx, Or.inl ⟨rfl, rfl⟩, fun _ h _ => by cases h⟩
set_option maxRecDepth 100000 in
set_option maxHeartbeats 1000000 in
theorem take_any (s : Rd) (n : Nat) (g : Nat) (w : World) (hs : RSx w g s) (hn : n < 9223372036854775808) (hl : s.R.length < 1099511627776) :
    Calls Try.prog 76 #[.pointer (some ⟨g, 0, none⟩), .int .i64 n] w (TakePost w g s n) := by
  obtain ⟨p, m, c, hs⟩ := hs
  have h0 := hs.rest
  have h1 := hs.err
  have hm := hs.tx.size
  have hmc := hs.tx.le
  have hml : m < 1099511627776 := by omega
  have HM := Lib.hid hm
  have HS := Lib.hid hs
  clear hs hm
  by_cases hlt : m < n
  · have b1 : (m : Int) < n := by omega
    have e : ¬ s.fits n := fun h => by have := h.2; have := HM.out; omega
    have e1 : s.part n = [] := by unfold Rd.part; rw [if_neg e]
    have e2 : s.past n = s.refuse 20 := by unfold Rd.past; rw [if_neg e]
    unfold TakePost
    rw [e1, e2]
    clear e e1 e2 h1
    go_enter Try.func76, Try.ntmps76
    go_wp2_with fail
    refine (rrefuse_any s 20 g _ ⟨p, m, c, HS.out⟩).mono ?_
    rintro e w1 hp
    obtain ⟨rfl, ⟨p1, m1, c1, h2⟩, h3⟩ := hp
    have h4 := h2.err
    have b2 : (((s.refuse 20).e : Int) != 0) = true := by
      unfold Rd.refuse
      split <;> simp
      assumption
    have H2 := Lib.hid h2
    have H3 := Lib.hid h3
    clear h2 h3
    go_wp2_with fail
    go_ret
    exact ⟨none, 0, rfl, tx_nil _, ⟨p1, m1, c1, H2.out⟩, H3.out⟩
  · have b1 : ¬ (m : Int) < n := by omega
    by_cases he : s.e = 0
    · have e : s.fits n := ⟨he, by have := HM.out; omega⟩
      have e1 : s.part n = s.R.take n := by unfold Rd.part; rw [if_pos e]
      have e2 : s.past n = ⟨s.R.drop n, 0⟩ := by unfold Rd.past; rw [if_pos e]
      have e3 : (s.R.take n).length = n := by rw [List.length_take]; have := HM.out; omega
      unfold TakePost
      rw [e1, e2, e3]
      rw [he] at h1
      clear e e1 e2 e3
      have f0 := HS.out.fz 0
      have HE := Lib.hid he
      clear he
      have b3 : (0 : Int) ≤ n := by omega
      by_cases hcn : c = n
      · subst hcn
        obtain rfl : m = c := by omega
        go_enter Try.func76, Try.ntmps76
        go_wp2_with fail
        go_ret
        have r1 := heap_setCell_same w g 0 _ _ (.slice p 0 0) HS.out.row
        rw [HE.out] at r1
        have hd : s.R.drop m = [] := List.drop_eq_nil_of_le (by have := HM.out; omega)
        refine ⟨p, m, rfl, (HS.out.tx.take m (Nat.le_refl _)).grown (grown_setCell w g 0 _) (tx_other HS.out.row (HS.out.tx.take m (Nat.le_refl _))), ?_, grown_setCell w g 0 _⟩
        rw [hd]
        exact ⟨p, 0, 0, r1, HS.out.tx.nothing.grown (grown_setCell w g 0 _) (fun x hx h => absurd rfl h), fun x hx h => absurd rfl h⟩
      · go_enter Try.func76, Try.ntmps76
        go_wp2_with fail
        go_ret
        have r1 := heap_setCell_same w g 0 _ _ (.slice (Option.map (fun x => x.add n) p) (m - n) (c - n)) HS.out.row
        rw [HE.out] at r1
        have t1 := HS.out.tx.take n (by omega)
        have t2 := HS.out.tx.drop n (by omega)
        exact ⟨p, c, rfl, t1.grown (grown_setCell w g 0 _) (tx_other HS.out.row t1), ⟨_, _, _, r1, t2.grown (grown_setCell w g 0 _) (tx_other HS.out.row t2), fun x hx h => lo_drop HS.out.lo n x hx h⟩, grown_setCell w g 0 _⟩
    · have e : ¬ s.fits n := fun h => he h.1
      have e1 : s.part n = [] := by unfold Rd.part; rw [if_neg e]
      have e2 : s.past n = s := by unfold Rd.past Rd.refuse; rw [if_neg e, if_neg he]
      have b2 : ((s.e : Int) != 0) = true := by simp; omega
      unfold TakePost
      rw [e1, e2]
      clear e e1 e2 he
      go_enter Try.func76, Try.ntmps76
      go_wp2_with fail
      go_ret
      exact ⟨none, 0, rfl, tx_nil _, ⟨p, m, c, HS.out⟩, grown_same _ _⟩
end Go.Proofs.Ytlkeobohcfbgcaa

/- The contract of codec.New. -/
namespace Go.Proofs.Ytlkeobohcfbgcaa
open Go.RowKit

theorem rd_built (q : Option Addr) (m c : Nat) : Try.prog.built 108 [(0, .slice q m c)] = some #[.slice q m c, .int .i64 0] := by kernel_rfl
def NewPost (w : World) (B : List Nat) (e : Ending) (w' : World) : Prop := ∃ g, e = .returned (.pointer (some ⟨g, 0, none⟩)) ∧ w.heap.size ≤ g ∧ RSx w' g ⟨B, 0⟩ ∧ Below w.heap.size w w'
set_option maxHeartbeats 1000000 in
theorem rnew_any (B : List Nat) (p : Option Addr) (n c : Nat) (w : World) (hB : Tx w p n c B) (hl : n < 1099511627776) :
    Calls Try.prog 47 #[.slice p n c] w (NewPost w B) := by
  have HB := Lib.hid hB
  clear hB
  go_enter Try.func47, Try.ntmps47
  go_wp2_with fail
  refine (clone_any B p n c _ HB.out hl).mono ?_
  rintro e w1 hp
  obtain ⟨q, m, rfl, h1, h2⟩ := hp
  have H1 := Lib.hid h1
  have H2 := Lib.hid h2
  clear h1 h2
  go_wp2_with fail
  go_ret
  exact ⟨w1.heap.size, rfl, H2.out.size, ⟨q, B.length, m, heap_alloc_new w1 _, (tx_of_owns H1.out HB.out.ok).later ((Below.refl _ _).alloc (Nat.le_refl _) _), fun x hx h => by
    subst hx
    exact (H1.out.lt x.block (by
      rcases H1.out.2 with ⟨h1, _⟩ | ⟨k, cap, cur, h1, _⟩
      · simp at h1
      · simp only [Value.slice.injEq, Option.some.injEq] at h1; rw [h1.1]; rfl)).2⟩, H2.out.alloc H2.out.size _⟩
end Go.Proofs.Ytlkeobohcfbgcaa

/- The contract of codec.Reader.value. -/
namespace Go.Proofs.Ytlkeobohcfbgcaa
open Go.RowKit

theorem Rd.past_len (s : Rd) (n : Nat) : (s.past n).R.length ≤ s.R.length := by
  unfold Rd.past Rd.refuse
  split
  · simp
  · split <;> simp
theorem Rd.refuse_len (s : Rd) (n : Nat) : (s.refuse n).R.length ≤ s.R.length := by
  unfold Rd.refuse
  split <;> simp
theorem Rd.part_ok {s : Rd} (h : Sm.allB s.R) (n : Nat) : Sm.allB (s.part n) := by
  unfold Rd.part
  split
  · exact fun x hx => h x (List.mem_of_mem_take hx)
  · intro x hx; simp at hx
theorem Rd.part_len (s : Rd) (n : Nat) : (s.part n).length ≤ n := by
  unfold Rd.part
  split
  · rw [List.length_take]; omega
  · simp
theorem shl8_or {m b : Nat} (hm : m < 72057594037927936) (hb : b < 256) : bits .or .u64 ((m : Int) * 256) (b : Int) = ((m * 256 + b : Nat) : Int) := by
  rw [show (m : Int) * 256 = ((m * 256 : Nat) : Int) from by omega, u64_or_nat _ _ (by omega) (by omega)]
  have : m * 256 ||| b = m * 256 + b := by
    have h := Nat.shiftLeft_add_eq_or_of_lt (i := 8) (b := b) (by omega) m
    rw [Nat.shiftLeft_eq] at h
    exact h.symm
  rw [this]
theorem take_snoc (B : List Nat) (k : Nat) (h : k < B.length) : B.take (k + 1) = B.take k ++ [B.getD k 0] := by
  rw [List.take_succ_eq_append_getElem h, List.getD_eq_getElem?_getD, List.getElem?_eq_getElem h]; rfl
theorem pow256 (k : Nat) (h : k ≤ 7) : 256 ^ k ≤ 72057594037927936 := Nat.le_trans (Nat.pow_le_pow_right (by omega) h) (by decide)
def RVRel (w : World) (g : Nat) (s : Rd) (B : List Nat) (q : Option Addr) (c : Nat) (a i : Value) (wr : World) : Prop :=
  ∃ k : Nat, k ≤ B.length ∧ i = .int .i64 k ∧ a = .int .u64 (Cm.val (B.take k) : Nat) ∧ Tx wr q B.length c B ∧ RSx wr g s ∧ w.grownBy wr (some g)
set_option maxRecDepth 100000 in
set_option maxHeartbeats 1000000 in
theorem rvalue_any (s : Rd) (n : Nat) (g : Nat) (w : World) (hs : RSx w g s) (hn : n ≤ 8) (hl : s.R.length < 1099511627776) :
    Calls Try.prog 64 #[.pointer (some ⟨g, 0, none⟩), .int .i64 n] w (RPost w g (.int .u64 (Cm.val (s.part n) : Nat)) (s.past n)) := by
  have HS := Lib.hid hs
  have HL := Lib.hid hl
  clear hs hl
  go_enter Try.func64, Try.ntmps64
  go_wp2_with fail
  refine (take_any s n g _ HS.out (by omega) HL.out).mono ?_
  rintro e w1 hp
  obtain ⟨q, c, rfl, h1, h2, h3⟩ := hp
  have hpl := Rd.part_len s n
  generalize s.part n = B at *
  generalize s.past n = s1 at *
  have H1 := Lib.hid h1
  have H2 := Lib.hid h2
  have H3 := Lib.hid h3
  clear h1 h2 h3 HS
  go_wp2_with fail
  go_loopw [5, 12] (fun a i wr => RVRel w g s1 B q c a i wr) (fun _ i _ => B.length - (intOf i).toNat)
  case atStart => exact ⟨0, by omega, rfl, rfl, H1.out, H2.out, H3.out⟩
  case round =>
    obtain ⟨k, hk, rfl, rfl, h4, h5, h6⟩ := hrel
    have H4 := Lib.hid h4
    have H5 := Lib.hid h5
    have H6 := Lib.hid h6
    clear h4 h5 h6 H1 H2 H3
    by_cases hlt : k < B.length
    · obtain ⟨g1, o1, hp, hx⟩ := H4.out.bytes.ne (by rintro rfl; simp at hlt)
      subst hp
      have hc := hx k hlt
      have hle := H4.out.le
      have hb8 : B.getD k 0 < 256 := Sm.getD_lt H4.out.ok (by omega) k
      have hvl : Cm.val (B.take k) < 256 ^ (B.take k).length := Cm.val_lt (fun x hx => H4.out.ok x (List.mem_of_mem_take hx))
      have hv7 : Cm.val (B.take k) < 72057594037927936 := Nat.lt_of_lt_of_le hvl (pow256 _ (by rw [List.length_take]; omega))
      have hst : Cm.val (B.take (k + 1)) = Cm.val (B.take k) * 256 + B.getD k 0 := by rw [take_snoc B k hlt, Cm.val_snoc]
      have HST := Lib.hid hst
      clear hst hvl hx
      generalize Cm.val (B.take k) = m at *
      generalize B.getD k 0 = b at *
      have hor := shl8_or hv7 hb8
      have HOR := Lib.hid hor
      clear hor
      go_wp2_with fail
      rw [HOR.out]
      go_roundw
      case rel => exact ⟨k + 1, by omega, by go_num, by rw [HST.out], H4.out, H5.out, H6.out⟩
      case measure => simp [intOf]; omega
    · obtain rfl : k = B.length := by omega
      rw [List.take_length]
      go_wp2_with fail
      go_ret
      exact ⟨rfl, H5.out, H6.out⟩
end Go.Proofs.Ytlkeobohcfbgcaa

/- The contract of codec.Reader.Byte. -/
namespace Go.Proofs.Ytlkeobohcfbgcaa
open Go.RowKit

theorem val1 {s : Rd} (h : Sm.allB s.R) : Cm.val (s.part 1) < 256 := by
  have h1 := Cm.val_lt (Rd.part_ok h 1)
  have h2 : 256 ^ (s.part 1).length ≤ 256 ^ 1 := Nat.pow_le_pow_right (by omega) (Rd.part_len s 1)
  exact Nat.lt_of_lt_of_le h1 (Nat.le_trans h2 (by decide))
set_option maxHeartbeats 1000000 in
theorem rbyte_any (s : Rd) (g : Nat) (w : World) (hs : RSx w g s) (hl : s.R.length < 1099511627776) :
    Calls Try.prog 48 #[.pointer (some ⟨g, 0, none⟩)] w (RPost w g (.int .u8 (Cm.val (s.part 1) : Nat)) (s.past 1)) := by
  have hok : Sm.allB s.R := by obtain ⟨p, n, c, h⟩ := hs; exact h.tx.ok
  have h3 := val1 hok
  have hv := rvalue_any s 1 g w hs (by omega) hl
  generalize Cm.val (s.part 1) = x at *
  have HV := Lib.hid hv
  have e8 : IntKind.u8.wrap (x : Int) = (x : Nat) := by rw [IntKind.wrap_u8]; omega
  clear hs hv hok
  go_enter Try.func48, Try.ntmps48
  go_wp2_with fail
  refine HV.out.mono ?_
  rintro e w1 hp
  obtain ⟨rfl, h1, h2⟩ := hp
  have H1 := Lib.hid h1
  have H2 := Lib.hid h2
  clear h1 h2
  go_wp2_with fail
  go_ret
  exact ⟨rfl, H1.out, H2.out⟩
end Go.Proofs.Ytlkeobohcfbgcaa

/- The contracts of codec.Reader.atMost, Count. -/
namespace Go.Proofs.Ytlkeobohcfbgcaa
open Go.RowKit

set_option maxHeartbeats 1000000 in
theorem atmost_any (s : Rd) (most n : Int) (g : Nat) (w : World) (hs : RSx w g s) :
    Calls Try.prog 65 #[.pointer (some ⟨g, 0, none⟩), .int .i64 most, .int .i64 n] w (RPost w g (.int .i64 (if most < n then 0 else n)) (if most < n then s.refuse 10 else s)) := by
  have HS := Lib.hid hs
  clear hs
  by_cases h : most < n
  · rw [if_pos h, if_pos h]
    go_enter Try.func65, Try.ntmps65
    go_wp2_with fail
    refine (rrefuse_any s 10 g _ HS.out).mono ?_
    rintro e w1 hp
    obtain ⟨rfl, h2, h3⟩ := hp
    have H2 := Lib.hid h2
    have H3 := Lib.hid h3
    clear h2 h3
    go_wp2_with fail
    go_ret
    exact ⟨rfl, H2.out, H3.out⟩
  · rw [if_neg h, if_neg h]
    go_enter Try.func65, Try.ntmps65
    go_wp2_with fail
    go_ret
    exact ⟨rfl, HS.out, grown_same _ _⟩
def Rd.count (s : Rd) (most : Int) : Rd := if min most 1048576 < (Cm.val (s.part 3) : Nat) then (s.past 3).refuse 10 else s.past 3
def Rd.countV (s : Rd) (most : Int) : Int := if min most 1048576 < (Cm.val (s.part 3) : Nat) then 0 else (Cm.val (s.part 3) : Nat)
theorem val3 {s : Rd} (h : Sm.allB s.R) : Cm.val (s.part 3) < 16777216 := by
  have h1 := Cm.val_lt (Rd.part_ok h 3)
  have h2 : 256 ^ (s.part 3).length ≤ 256 ^ 3 := Nat.pow_le_pow_right (by omega) (Rd.part_len s 3)
  exact Nat.lt_of_lt_of_le h1 (Nat.le_trans h2 (by decide))
set_option maxRecDepth 100000 in
set_option maxHeartbeats 1000000 in
theorem rcount_any (s : Rd) (most : Int) (g : Nat) (w : World) (hs : RSx w g s) (hl : s.R.length < 1099511627776) :
    Calls Try.prog 49 #[.pointer (some ⟨g, 0, none⟩), .int .i64 most] w (RPost w g (.int .i64 (s.countV most)) (s.count most)) := by
  have hok : Sm.allB s.R := by obtain ⟨p, n, c, h⟩ := hs; exact h.tx.ok
  have h3 := val3 hok
  have hva := rvalue_any s 3 g w hs (by omega) hl
  clear hs hok
  by_cases hc : min most 1048576 < ((Cm.val (s.part 3) : Nat) : Int)
  · have e1 : s.countV most = 0 := by unfold Rd.countV; rw [if_pos hc]
    have e2 : s.count most = (s.past 3).refuse 10 := by unfold Rd.count; rw [if_pos hc]
    rw [e1, e2]
    clear e1 e2
    generalize Cm.val (s.part 3) = m at *
    have HC := Lib.hid hc
    clear hc
    go_enter Try.func49, Try.ntmps49
    go_wp2_with fail
    refine hva.mono ?_
    rintro e w1 hp
    obtain ⟨rfl, h4, h5⟩ := hp
    have H4 := Lib.hid h4
    have H5 := Lib.hid h5
    clear h4 h5 hva
    go_wp2_with fail
    have hat := atmost_any (s.past 3) (min most 1048576) m g _ H4.out
    rw [if_pos HC.out, if_pos HC.out] at hat
    refine hat.mono ?_
    rintro e w2 hp
    obtain ⟨rfl, h6, h7⟩ := hp
    have H6 := Lib.hid h6
    have H7 := Lib.hid (grown_twice H5.out h7)
    clear h6 h7 hat
    go_wp2_with fail
    go_ret
    exact ⟨rfl, H6.out, H7.out⟩
  · have e1 : s.countV most = ((Cm.val (s.part 3) : Nat) : Int) := by unfold Rd.countV; rw [if_neg hc]
    have e2 : s.count most = s.past 3 := by unfold Rd.count; rw [if_neg hc]
    rw [e1, e2]
    clear e1 e2
    generalize Cm.val (s.part 3) = m at *
    have HC := Lib.hid hc
    clear hc
    go_enter Try.func49, Try.ntmps49
    go_wp2_with fail
    refine hva.mono ?_
    rintro e w1 hp
    obtain ⟨rfl, h4, h5⟩ := hp
    have H4 := Lib.hid h4
    have H5 := Lib.hid h5
    clear h4 h5 hva
    go_wp2_with fail
    have hat := atmost_any (s.past 3) (min most 1048576) m g _ H4.out
    rw [if_neg (Int.not_lt.mpr HC.out), if_neg (Int.not_lt.mpr HC.out)] at hat
    refine hat.mono ?_
    rintro e w2 hp
    obtain ⟨rfl, h6, h7⟩ := hp
    have H6 := Lib.hid h6
    have H7 := Lib.hid (grown_twice H5.out h7)
    clear h6 h7 hat
    go_wp2_with fail
    go_ret
    exact ⟨rfl, H6.out, H7.out⟩
end Go.Proofs.Ytlkeobohcfbgcaa

/- Package wal, as it landed: the text of the record that should begin. -/
namespace Go.Proofs.Ytlkeobohcfbgcaa.Wl
open Go.RowKit

/-- What is taken for the text of the record that should begin at the first one of these sectors. -/
def textOf (b : List Nat) : List Nat :=
  if 100000 < lenAt b 0 then [] else if b.length < 64 * need (lenAt b 0) then [] else (b.drop 12).take (min (lenAt b 0) 19) ++ (b.drop 64).take (lenAt b 0 - min (lenAt b 0) 19)
theorem val3_len {b : List Nat} (h : 12 ≤ b.length) : Cm.val (Rd.part ⟨(b.take 12).drop 1, 0⟩ 3) = lenAt b 0 := by
  match b, h with
  | a0 :: a1 :: a2 :: a3 :: a4 :: a5 :: a6 :: a7 :: a8 :: a9 :: a10 :: a11 :: r, _ =>
    have hf : Rd.fits ⟨((a0 :: a1 :: a2 :: a3 :: a4 :: a5 :: a6 :: a7 :: a8 :: a9 :: a10 :: a11 :: r).take 12).drop 1, 0⟩ 3 := ⟨rfl, by simp⟩
    rw [Rd.part, if_pos hf]
    simp [Cm.val, lenAt]
    omega
theorem two_texts {w : World} {g : Nat} {q1 q2 : Option Addr} {n1 c1 n2 c2 : Nat} {A B : List Nat} (h : w.heap[g]? = some (.cells #[.slice q1 n1 c1, .slice q2 n2 c2] 36 (0, 0))) (h1 : Tx w q1 n1 c1 A) (h2 : Tx w q2 n2 c2 B) : Texts w (some ⟨g, 0, none⟩) 2 2 [A, B] :=
  ⟨rfl, Nat.le_refl _, fun _ => ⟨g, 0, rfl, fun i hi => by
    have h0 := fun j => cell_of_row w g j _ _ _ h
    match i, hi with
    | 0, _ => exact ⟨q1, n1, c1, h0 0, h1⟩
    | 1, _ => exact ⟨q2, n2, c2, h0 1, h2⟩⟩⟩
set_option maxRecDepth 100000 in
set_option maxHeartbeats 2500000 in
theorem text_wal (b : List Nat) (p : Option Addr) (n c : Nat) (w : World) (hT : Tx w p n c b) (hn : 64 ≤ n) (hl : n ≤ 1000000) :
    Calls Try.prog 33 #[.slice p n c] w fun e w' => ∃ q m d, e = .returned (.slice q m d) ∧ Tx w' q m d (textOf b) ∧ (∀ x, q = some x → textOf b ≠ [] → w.heap.size ≤ x.block) ∧ Below w.heap.size w w' := by
  have hs := hT.size
  have hle := hT.le
  have HT := Lib.hid hT
  have HS := Lib.hid hs
  obtain ⟨k, hk⟩ : ∃ k, k = lenAt b 0 := ⟨_, rfl⟩
  have HK := Lib.hid hk
  have hk2 : k < 16777216 := by
    have a1 := Sm.getD_lt hT.ok (by omega) (0 + 1)
    have a2 := Sm.getD_lt hT.ok (by omega) (0 + 2)
    have a3 := Sm.getD_lt hT.ok (by omega) (0 + 3)
    rw [hk]
    unfold lenAt
    omega
  have T12 := Lib.hid (hT.take 12 (by omega))
  have i12 : (12 : Int) ≤ (c : Int) := by omega
  clear hT hs hk
  go_enter Try.func33, Try.ntmps33
  go_wp2_with fail
  refine (rnew_any (b.take 12) p 12 c w T12.out (by omega)).mono ?_
  rintro e w1 ⟨g, rfl, hg, r1, b1⟩
  have R1 := Lib.hid r1
  have B1 := Lib.hid b1
  have HG := Lib.hid hg
  clear r1 b1 hg
  go_wp2_with fail
  refine (rbyte_any ⟨b.take 12, 0⟩ g w1 R1.out (by simp; omega)).mono ?_
  rintro e w2 ⟨rfl, r2, g2⟩
  have hp1 : Rd.past ⟨b.take 12, 0⟩ 1 = ⟨(b.take 12).drop 1, 0⟩ := by
    rw [Rd.past, if_pos ⟨rfl, by have := HS.out; simp; omega⟩]
  rw [hp1] at r2
  have R2 := Lib.hid r2
  have B2 := Lib.hid (B1.out.grown g2 B1.out.size (fun k e => by cases e; exact HG.out))
  have HV := Lib.hid (show Rd.countV ⟨(b.take 12).drop 1, 0⟩ 100000 = if (100000 : Int) < (k : Int) then 0 else (k : Int) from by
    rw [Rd.countV, val3_len (by have := HS.out; omega), ← HK.out]
    rfl)
  clear r2 g2 hp1 R1 B1
  go_wp2_with fail
  refine (rcount_any ⟨(b.take 12).drop 1, 0⟩ 100000 g w2 R2.out (by simp; omega)).mono ?_
  rintro e w3 ⟨rfl, r3, g3⟩
  rw [HV.out]
  have B3 := Lib.hid (B2.out.grown g3 B2.out.size (fun k e => by cases e; exact HG.out))
  clear r3 g3 HV R2 B2
  obtain ⟨m, hm⟩ : ∃ m : Nat, m = if 100000 < k then 0 else k := ⟨_, rfl⟩
  have hmv : (if (100000 : Int) < (k : Int) then (0 : Int) else (k : Int)) = (m : Int) := by
    rw [hm]
    split <;> split <;> omega
  rw [hmv]
  have hm5 : m ≤ 100000 := by rw [hm]; split <;> omega
  have HM := Lib.hid hm
  clear hm hmv
  obtain ⟨z, hz⟩ : ∃ z, z = need m := ⟨_, rfl⟩
  have HZ := Lib.hid hz
  have hz6 : z ≤ 1564 := by rw [hz]; unfold need; omega
  have HN := Lib.hid ((needI_nat hm5).trans hz.symm)
  clear hz
  have q1 : IntKind.i64.wrap ((z : Int) * 64) = (z : Int) * 64 := IntWalk.i64_in _ (by omega)
  go_wp2_with fail
  refine (wneed_any m w3 (by omega) (by omega)).mono ?_
  rintro e w4 ⟨rfl, rfl⟩
  rw [HN.out]
  by_cases hfit : n < 64 * z
  · have f1 : (z : Int) * 64 > (n : Int) := by omega
    have HE := Lib.hid (show textOf b = [] from by
      unfold textOf
      rw [← HK.out]
      split
      · rfl
      · next h =>
        rw [if_pos]
        have e1 := HM.out
        rw [if_neg h] at e1
        rw [← HS.out, ← e1, ← HZ.out]
        exact hfit)
    go_wp2_with fail
    go_ret
    exact ⟨none, 0, 0, rfl, by rw [HE.out]; exact tx_nil _, fun x hx => (by cases hx), B3.out⟩
  · have f1 : ¬ (z : Int) * 64 > (n : Int) := by omega
    obtain ⟨pg, po, rfl, _⟩ := HT.out.bytes.ne (by intro e; have := HS.out; rw [e] at this; simp at this; omega)
    obtain ⟨f, hf⟩ : ∃ f : Nat, f = min m 19 := ⟨_, rfl⟩
    have HF := Lib.hid hf.symm
    have hf1 : f ≤ m ∧ f ≤ 19 := by rw [hf]; omega
    have hf3 : m - f + 64 ≤ n := by have := HZ.out; unfold need at this; rw [hf]; omega
    obtain ⟨hf1, hf2⟩ := hf1
    clear hf
    have HE := Lib.hid (show textOf b = (b.drop 12).take f ++ (b.drop 64).take (m - f) from by
      unfold textOf
      rw [← HK.out]
      split
      · next h =>
        have e1 := HM.out
        rw [if_pos h] at e1
        have : f = 0 := by omega
        rw [this, e1]
        rfl
      · next h =>
        have e1 := HM.out
        rw [if_neg h] at e1
        rw [if_neg (by rw [← HS.out, ← e1, ← HZ.out]; exact hfit), ← e1, HF.out])
    obtain ⟨d, hd⟩ : ∃ d : Nat, d = m - f := ⟨_, rfl⟩
    rw [← hd] at HE hf3
    have q2 : IntKind.i64.wrap ((m : Int) - (f : Int)) = (d : Int) := by rw [IntWalk.i64_in _ (by omega)]; omega
    have j4 : (f : Int) ≤ ((c - 12 : Nat) : Int) := by omega
    have j5 : (d : Int) ≤ ((c - 64 : Nat) : Int) := by omega
    clear hd
    have TA := Lib.hid ((HT.out.drop 12 (by omega)).take f (by omega))
    have TB := Lib.hid (show Tx w (if c = 64 then (some ⟨pg, po, none⟩ : Option Addr) else some ⟨pg, po + 64, none⟩) d (c - 64) ((b.drop 64).take d) from by
      by_cases h64 : c = 64
      · rw [if_pos h64]
        obtain rfl : d = 0 := by omega
        rw [List.take_zero, h64]
        exact ⟨rfl, Nat.le_refl _, (fun x hx => by cases hx), Or.inr ⟨_, rfl, fun j u hu => by simp [vals] at hu⟩, fun _ h _ => by cases h; rfl⟩
      · rw [if_neg h64]
        have := (HT.out.drop 64 (by omega)).take d (by omega)
        rwa [Option.map_some, Addr.add_mid] at this)
    rw [Option.map_some, Addr.add_mid] at TA
    have HLF := Lib.hid (show (flat [(b.drop 12).take f, (b.drop 64).take d] 2).length < 1099511627776 from by simp [flat]; omega)
    have j1 : (12 : Int) ≤ (n : Int) := by omega
    have j2 : ¬ c = 12 := by omega
    have j3 : (64 : Int) ≤ (n : Int) := by omega
    go_upto_region 6 with fail
    refine wp_region_held_drew (S := fun _ => True) (by kernel_rfl) trivial (fun hHeld => ?_)
    refine wpAnyH_take (i := 0) (oi := ⟨some 18, .move (.tmp 0), _, _, _, _⟩) (v := ?_) rfl (by kernel_rfl) (by kernel_rfl) (by kernel_rfl) (fun _ _ _ h => h) (Or.inl ⟨by rfl, ?_⟩) (by assumption) ?_
    rotate_left
    · intro w' hSw
      go_simp
      try with_reducible rfl
    try simp only [Act.put, List.setIfInBounds_toArray, List.set_cons_zero, List.set_cons_succ]
    refine wpAnyH_take (i := 1) (oi := ⟨some 19, .slice 36 (.tmp 18) (some (.const (.int .i64 12))) none none, _, _, _, _⟩) (v := ?_) rfl (by kernel_rfl) (by kernel_rfl) (by kernel_rfl) (fun _ _ _ h => h) (Or.inl ⟨by rfl, ?_⟩) (by assumption) ?_
    rotate_left
    · intro w' hSw
      go_simp
      try with_reducible rfl
    try simp only [Act.put, List.setIfInBounds_toArray, List.set_cons_zero, List.set_cons_succ]
    refine wpAnyH_take (i := 2) (oi := ⟨some 20, .move (.tmp 4), _, _, _, _⟩) (v := ?_) rfl (by kernel_rfl) (by kernel_rfl) (by kernel_rfl) (fun _ _ _ h => h) (Or.inl ⟨by rfl, ?_⟩) (by assumption) ?_
    rotate_left
    · intro w' hSw
      go_simp
      try with_reducible rfl
    try simp only [Act.put, List.setIfInBounds_toArray, List.set_cons_zero, List.set_cons_succ]
    refine wpAnyH_take (i := 5) (oi := ⟨some 23, .move (.tmp 0), _, _, _, _⟩) (v := ?_) rfl (by kernel_rfl) (by kernel_rfl) (by kernel_rfl) (fun _ _ _ h => h) (Or.inl ⟨by rfl, ?_⟩) (by assumption) ?_
    rotate_left
    · intro w' hSw
      go_simp
      try with_reducible rfl
    try simp only [Act.put, List.setIfInBounds_toArray, List.set_cons_zero, List.set_cons_succ]
    refine wpAnyH_take (i := 6) (oi := ⟨some 24, .slice 36 (.tmp 23) (some (.const (.int .i64 64))) none none, _, _, _, _⟩) (v := ?_) rfl (by kernel_rfl) (by kernel_rfl) (by kernel_rfl) (fun _ _ _ h => h) (Or.inl ⟨by rfl, ?_⟩) (by assumption) ?_
    rotate_left
    · intro w' hSw
      go_simp
      try with_reducible rfl
    try simp only [Act.put, List.setIfInBounds_toArray, List.set_cons_zero, List.set_cons_succ]
    refine wpAnyH_take (i := 7) (oi := ⟨some 25, .move (.tmp 4), _, _, _, _⟩) (v := ?_) rfl (by kernel_rfl) (by kernel_rfl) (by kernel_rfl) (fun _ _ _ h => h) (Or.inl ⟨by rfl, ?_⟩) (by assumption) ?_
    rotate_left
    · intro w' hSw
      go_simp
      try with_reducible rfl
    try simp only [Act.put, List.setIfInBounds_toArray, List.set_cons_zero, List.set_cons_succ]
    refine wpAnyH_take (i := 8) (oi := ⟨some 26, .move (.tmp 4), _, _, _, _⟩) (v := ?_) rfl (by kernel_rfl) (by kernel_rfl) (by kernel_rfl) (fun _ _ _ h => h) (Or.inl ⟨by rfl, ?_⟩) (by assumption) ?_
    rotate_left
    · intro w' hSw
      go_simp
      try with_reducible rfl
    try simp only [Act.put, List.setIfInBounds_toArray, List.set_cons_zero, List.set_cons_succ]
    refine wpAnyH_ready (rs := [3]) (by kernel_rfl) (by simp) ?_
    refine AllReadyH.cons (o := ⟨some 21, .call ⟨.value (.func 30), #[.tmp 20], #[3]⟩, _, _, _, _⟩) rfl (fun K hK => ?_) AllReadyH.nil
    go_simp
    generalize (if c = 64 then (some ⟨pg, po, none⟩ : Option Addr) else some ⟨pg, po + 64, none⟩) = q64 at *
    refine (infirst_any m _).mono ?_
    rintro _ w21 ⟨rfl, rfl⟩
    rw [HF.out]
    try go_wp2_with fail
    refine hK.out _ _ trivial (fun hHeld => ?_)
    clear hK K
    try simp only [Act.put, List.setIfInBounds_toArray, List.set_cons_zero, List.set_cons_succ]
    refine wpAnyH_take (i := 4) (oi := ⟨some 22, .slice 36 (.tmp 19) none (some (.tmp 21)) none, _, _, _, _⟩) (v := ?_) rfl (by kernel_rfl) (by kernel_rfl) (by kernel_rfl) (fun _ _ _ h => h) (Or.inl ⟨by rfl, ?_⟩) (by assumption) ?_
    rotate_left
    · intro w' hSw
      go_simp
      try with_reducible rfl
    try simp only [Act.put, List.setIfInBounds_toArray, List.set_cons_zero, List.set_cons_succ]
    refine wpAnyH_ready (rs := [9]) (by kernel_rfl) (by simp) ?_
    refine AllReadyH.cons (o := ⟨some 27, .call ⟨.value (.func 30), #[.tmp 26], #[3]⟩, _, _, _, _⟩) rfl (fun K hK => ?_) AllReadyH.nil
    go_simp
    refine (infirst_any m _).mono ?_
    rintro _ w27 ⟨rfl, rfl⟩
    rw [HF.out]
    try go_wp2_with fail
    refine hK.out _ _ trivial (fun hHeld => ?_)
    clear hK K
    try simp only [Act.put, List.setIfInBounds_toArray, List.set_cons_zero, List.set_cons_succ]
    refine wpAnyH_take (i := 10) (oi := ⟨some 28, .binOp .sub 3 (.tmp 25) (.tmp 27) 3, _, _, _, _⟩) (v := ?_) rfl (by kernel_rfl) (by kernel_rfl) (by kernel_rfl) (fun _ _ _ h => h) (Or.inl ⟨by rfl, ?_⟩) (by assumption) ?_
    rotate_left
    · intro w' hSw
      go_simp
      try with_reducible rfl
    try simp only [Act.put, List.setIfInBounds_toArray, List.set_cons_zero, List.set_cons_succ]
    refine wpAnyH_take (i := 11) (oi := ⟨some 29, .slice 36 (.tmp 24) none (some (.tmp 28)) none, _, _, _, _⟩) (v := ?_) rfl (by kernel_rfl) (by kernel_rfl) (by kernel_rfl) (fun _ _ _ h => h) (Or.inl ⟨by rfl, ?_⟩) (by assumption) ?_
    rotate_left
    · intro w' hSw
      go_simp
      try with_reducible rfl
    try simp only [Act.put, List.setIfInBounds_toArray, List.set_cons_zero, List.set_cons_succ]
    refine wpAnyH_ready (rs := [12]) (by kernel_rfl) (by simp) ?_
    refine AllReadyH.cons (o := ⟨some 30, .buildSlice 35 2 #[(0, (.tmp 22)), (1, (.tmp 29))], _, _, _, _⟩) rfl (fun K hK => ?_) AllReadyH.nil
    go_simp
    have hba := ((Below.refl w3.heap.size w3).alloc (Nat.le_refl _) (.cells #[.slice (some ⟨pg, po + 12, none⟩) f (c - 12), .slice q64 d (c - 64)] 36)).drew
    have B30 := Lib.hid (B3.out.trans (hba.mono B3.out.size))
    have TX := Lib.hid (show Texts _ (some ⟨w3.heap.size, 0, none⟩) 2 2 [(b.drop 12).take f, (b.drop 64).take d] from two_texts (w := (w3.alloc (.cells #[.slice (some ⟨pg, po + 12, none⟩) f (c - 12), .slice q64 d (c - 64)] 36)).drew) (heap_alloc_new w3 (.cells #[.slice (some ⟨pg, po + 12, none⟩) f (c - 12), .slice q64 d (c - 64)] 36)) (TA.out.later B30.out) (TB.out.later B30.out))
    clear hba
    generalize (w3.alloc (.cells #[.slice (some ⟨pg, po + 12, none⟩) f (c - 12), .slice q64 d (c - 64)] 36)).drew = w30 at *
    generalize w3.heap.size = g30 at *
    try go_wp2_with fail
    refine hK.out _ _ trivial (fun hHeld => ?_)
    clear hK K
    try simp only [Act.put, List.setIfInBounds_toArray, List.set_cons_zero, List.set_cons_succ]
    refine wpAnyH_ready (rs := [13]) (by kernel_rfl) (by simp) ?_
    refine AllReadyH.cons (o := ⟨some 31, .call ⟨.value (.func 50), #[.tmp 30], #[35]⟩, _, _, _, _⟩) rfl (fun K hK => ?_) AllReadyH.nil
    go_simp
    refine (concat_any [(b.drop 12).take f, (b.drop 64).take d] (some ⟨g30, 0, none⟩) 2 2 w30 TX.out HLF.out (by omega)).mono ?_
    rintro _ w31 ⟨q31, c31, rfl, o31⟩
    have O31 := Lib.hid o31
    clear o31
    try go_wp2_with fail
    refine hK.out _ _ trivial (fun hHeld => ?_)
    clear hK K
    try simp only [Act.put, List.setIfInBounds_toArray, List.set_cons_zero, List.set_cons_succ]
    refine wpAnyH_take (i := 14) (oi := ⟨some 2, .assign (.tmp 31), _, _, _, _⟩) (v := ?_) rfl (by kernel_rfl) (by kernel_rfl) (by kernel_rfl) (fun _ _ _ h => h) (Or.inl ⟨by rfl, ?_⟩) (by assumption) ?_
    rotate_left
    · intro w' hSw
      go_simp
      try with_reducible rfl
    try simp only [Act.put, List.setIfInBounds_toArray, List.set_cons_zero, List.set_cons_succ]
    refine wpAnyH_done (by kernel_rfl) ?_ _
    go_wp2_with fail
    go_ret
    refine ⟨q31, _, c31, rfl, ?_, fun x hx _ => ?_, B30.out.trans (O31.out.low.mono B30.out.size)⟩
    · rw [HE.out]
      exact O31.out.tx
    · exact Nat.le_trans B30.out.size (O31.out.own.lt x.block (by rw [hx]; rfl)).1
end Go.Proofs.Ytlkeobohcfbgcaa.Wl

/- Bytes that hold a log: what reading them tells. -/
namespace Go.Proofs.Ytlkeobohcfbgcaa.Wl
open Go.RowKit

theorem getD_take (R : List (List Nat)) {j k : Nat} (h : j < k) : (R.take k).getD j [] = R.getD j [] := by
  simp [List.getD_eq_getElem?_getD, h]
theorem last_take (R : List (List Nat)) (k : Nat) : ∀ j, j ≤ k → last (R.take k) j = last R j
  | 0, _ => rfl
  | j + 1, h => by rw [last, last, last_take R k j (by omega), getD_take R (by omega)]
theorem size_take (R : List (List Nat)) (k : Nat) : ∀ j, j ≤ k → size (R.take k) j = size R j
  | 0, _ => rfl
  | j + 1, h => by rw [size, size, size_take R k j (by omega), getD_take R (by omega)]
theorem all_split (R : List (List Nat)) {k j : Nat} (h : k ≤ j) : ∃ T, all R j = all R k ++ T := by
  induction h with
  | refl => exact ⟨[], (List.append_nil _).symm⟩
  | step _ ih =>
    obtain ⟨T, hT⟩ := ih
    exact ⟨T ++ sects _ _ _, by rw [all, hT, List.append_assoc]⟩
/-- The bytes L begin with the records R, and then no record begins. -/
structure Good (L : List Nat) (R : List (List Nat)) : Prop where
  le : size R R.length ≤ L.length
  pre : L.take (size R R.length) = all R R.length
  stop : size R R.length < L.length → L.getD (size R R.length + 63) 0 ≠ 1
  small : ∀ b ∈ R, b.length ≤ 100000
theorem Good.split {L : List Nat} {R : List (List Nat)} (h : Good L R) {k : Nat} (hk : k < R.length) : ∃ T, L = all R k ++ (sects (last R k) k (R.getD k []) ++ T) := by
  obtain ⟨T, hT⟩ := all_split R (show k + 1 ≤ R.length from hk)
  refine ⟨T ++ L.drop (size R R.length), ?_⟩
  conv => lhs; rw [← List.take_append_drop (size R R.length) L]
  rw [h.pre, hT, all]
  simp only [List.append_assoc]
theorem getD_at {A B : List Nat} {s j : Nat} (hs : A.length = s) : (A ++ B).getD (s + j) 0 = B.getD j 0 := by
  rw [List.getD_eq_getElem?_getD, List.getD_eq_getElem?_getD, List.getElem?_append_right (by omega)]
  congr 2
  omega
theorem be3_val {n : Nat} (h : n < 16777216) : 65536 * (Cm.be n 3).getD 0 0 + 256 * (Cm.be n 3).getD 1 0 + (Cm.be n 3).getD 2 0 = n := by
  rw [Cm.be_get n 3 0 (by omega), Cm.be_get n 3 1 (by omega), Cm.be_get n 3 2 (by omega)]
  simp only [show 8 * (3 - 1 - 0) = 16 from rfl, show 8 * (3 - 1 - 1) = 8 from rfl, show 8 * (3 - 1 - 2) = 0 from rfl]
  omega
/-- The parts of a record's first sector. -/
theorem head_parts (D : List Nat) (k : Nat) (b T : List Nat) (hb : b.length < 16777216) :
    (head D k b ++ T).getD 63 0 = 1 ∧ 65536 * (head D k b ++ T).getD 1 0 + 256 * (head D k b ++ T).getD 2 0 + (head D k b ++ T).getD 3 0 = b.length ∧ ∀ i, i < 19 → (head D k b ++ T).getD (12 + i) 0 = (pad19 b).getD i 0 := by
  have e1 : head D k b ++ T = (87 :: (Cm.be b.length 3 ++ Cm.num k ++ pad19 b ++ rsum D k b)) ++ ([1] ++ T) := by simp [head]
  have e2 : head D k b ++ T = [87] ++ (Cm.be b.length 3 ++ (Cm.num k ++ pad19 b ++ rsum D k b ++ [1] ++ T)) := by simp [head]
  have e3 : head D k b ++ T = (87 :: (Cm.be b.length 3 ++ Cm.num k)) ++ (pad19 b ++ (rsum D k b ++ [1] ++ T)) := by simp [head]
  have hl : (Cm.be b.length 3).length = 3 := Cm.be_length _ _
  refine ⟨?_, ?_, fun i hi => ?_⟩
  · rw [e1, show 63 = 63 + 0 from rfl, getD_at (by simp [Cm.be_length, Cm.num_length, pad19_length, rsum_length])]
    rfl
  · have hv := be3_val hb
    rw [e2]
    generalize Cm.num k ++ pad19 b ++ rsum D k b ++ [1] ++ T = Y
    clear e1 e2 e3
    generalize Cm.be b.length 3 = X at *
    have a0 := getD_at (A := [87]) (B := X ++ Y) (s := 1) (j := 0) rfl
    have a1 := getD_at (A := [87]) (B := X ++ Y) (s := 1) (j := 1) rfl
    have a2 := getD_at (A := [87]) (B := X ++ Y) (s := 1) (j := 2) rfl
    rw [getD_left _ 0 (by omega)] at a0
    rw [getD_left _ 1 (by omega)] at a1
    rw [getD_left _ 2 (by omega)] at a2
    rw [a0, a1, a2]
    exact hv
  · rw [e3, getD_at (s := 12) (by simp [Cm.be_length, Cm.num_length]), getD_left _ i (by rw [pad19_length]; exact hi)]
theorem rest_get (b T : List Nat) {i : Nat} (h1 : 19 ≤ i) (h2 : i < b.length) : (rest b ++ T).getD (i - 19) 0 = b.getD i 0 := by
  have hl : i - 19 < (b.drop 19).length := by rw [List.length_drop]; omega
  rw [rest, List.append_assoc, getD_left _ _ hl, List.getD_eq_getElem?_getD, List.getElem?_drop, List.getD_eq_getElem?_getD, show 19 + (i - 19) = i from by omega]
theorem pad_get (b : List Nat) {i : Nat} (h1 : i < 19) (h2 : i < b.length) : (pad19 b).getD i 0 = b.getD i 0 := by
  rw [pad19, getD_left _ _ (by rw [List.length_take]; omega)]
  simp [List.getD_eq_getElem?_getD, h1]
/-- What is read of a record that is there. -/
theorem rec_there (A T : List Nat) (D : List Nat) (k : Nat) (b : List Nat) (hb : b.length ≤ 100000) :
    (A ++ (sects D k b ++ T)).getD (A.length + 63) 0 = 1 ∧ lenAt (A ++ (sects D k b ++ T)) A.length = b.length ∧ recAt (A ++ (sects D k b ++ T)) A.length b.length = b ∧ ((A ++ (sects D k b ++ T)).drop A.length).take 64 = head D k b := by
  have e : sects D k b ++ T = head D k b ++ (rest b ++ T) := by rw [sects, List.append_assoc]
  rw [e]
  obtain ⟨h1, h2, h3⟩ := head_parts D k b (rest b ++ T) (by omega)
  refine ⟨by rw [getD_at rfl]; exact h1, ?_, ?_, ?_⟩
  · unfold lenAt
    rw [getD_at rfl, getD_at rfl, getD_at rfl]
    exact h2
  · refine List.ext_getElem (recAt_length _ _ _) fun i hi1 hi2 => ?_
    have hg : (recAt (A ++ (head D k b ++ (rest b ++ T))) A.length b.length)[i] = byteAt (A ++ (head D k b ++ (rest b ++ T))) A.length i := by simp [recAt]
    rw [hg]
    have hbi : b[i] = b.getD i 0 := by rw [List.getD_eq_getElem?_getD, List.getElem?_eq_getElem hi2]; rfl
    rw [hbi]
    unfold byteAt
    split
    · next h => rw [Nat.add_assoc, getD_at rfl, h3 i h, pad_get b h hi2]
    · next h =>
      rw [show A.length + 64 + i - 19 = A.length + (64 + (i - 19)) from by omega, getD_at rfl, getD_at (head_length D k b), rest_get b T (by omega) hi2]
  · rw [List.drop_left, List.take_left' (head_length D k b)]
theorem Good.next {L : List Nat} {R : List (List Nat)} (h : Good L R) {k : Nat} (hk : k < R.length) : next L (R.take k) = .more (R.getD k []) := by
  obtain ⟨T, hT⟩ := h.split hk
  have hb : (R.getD k []).length ≤ 100000 := by
    rw [List.getD_eq_getElem?_getD, List.getElem?_eq_getElem hk]
    exact h.small _ (List.getElem_mem hk)
  have hlk : (R.take k).length = k := by rw [List.length_take]; omega
  obtain ⟨h1, h2, h3, h4⟩ := rec_there (all R k) T (last R k) k (R.getD k []) hb
  rw [← hT, all_length] at h1 h2 h3 h4
  have hsz : size R (k + 1) ≤ L.length := Nat.le_trans (size_mono R hk) h.le
  have hn := need_pos (R.getD k []).length
  rw [size] at hsz
  unfold Wl.next
  rw [hlk, size_take R k k (Nat.le_refl _), last_take R k k (Nat.le_refl _), h2, h3, h4, if_pos ⟨by omega, h1⟩, if_neg (by omega), if_pos rfl]
theorem take_getD (R : List (List Nat)) {k : Nat} (h : k < R.length) : R.take (k + 1) = R.take k ++ [R.getD k []] := by
  rw [List.take_succ_eq_append_getElem h, List.getD_eq_getElem?_getD, List.getElem?_eq_getElem h]
  rfl
theorem Good.go {L : List Nat} {R : List (List Nat)} (h : Good L R) (f : Nat) : ∀ k, k ≤ R.length → go L (f + k) [] = go L f (R.take k)
  | 0, _ => rfl
  | k + 1, hk => by
    have ih := Good.go h (f + 1) k (by omega)
    rw [show f + (k + 1) = f + 1 + k from by omega, ih, Wl.go, h.next hk, take_getD R hk]
theorem len_size (R : List (List Nat)) : ∀ k, 64 * k ≤ size R k
  | 0 => Nat.zero_le _
  | k + 1 => by have := len_size R k; have := need_pos (R.getD k []).length; rw [size]; omega
theorem Good.reads {L : List Nat} {R : List (List Nat)} (h : Good L R) : reads L = some R := by
  have hl := len_size R R.length
  have hle := h.le
  have e := h.go (L.length / 64 + 1 - R.length) R.length (Nat.le_refl _)
  rw [show L.length / 64 + 1 - R.length + R.length = L.length / 64 + 1 from by omega, List.take_of_length_le (Nat.le_refl _)] at e
  rw [Wl.reads, e]
  refine go_stop ?_ _
  unfold Wl.next
  rw [if_neg fun hc => h.stop hc.1 hc.2]
end Go.Proofs.Ytlkeobohcfbgcaa.Wl

/- The contracts of the smallest functions of package sha: a word turned, the words that are given. -/
namespace Go.Proofs.Ytlkeobohcfbgcaa
open Go.RowKit

theorem ret_u32 {a b : Int} (h : a = b) : Ending.returned (.int .u32 a) = .returned (.int .u32 b) := by rw [h]
set_option maxHeartbeats 400000 in
theorem rot_any (x n : Nat) (k : Int) (w : World) (hx : x < 4294967296) (hn : 0 < n) (hn' : n < 32) (hk : bits .and .u64 (IntKind.u64.wrap k) 31 = ((32 - n : Nat) : Int)) :
    Calls Try.prog 83 #[.int .u32 x, .int .i64 k] w fun e w' => e = .returned (.int .u32 (Sm.rot n x)) ∧ w = w' := by
  obtain ⟨m, hm⟩ : ∃ m, m = 32 - n := ⟨_, rfl⟩
  rw [← hm] at hk
  have h1 : (0 : Int) ≤ m := by omega
  have h2 : (m : Int) ≤ 32 := by omega
  have h3 : (0 : Int) ≤ 32 - m := by omega
  have h4 : (32 - m : Int) ≤ 32 := by omega
  have HM := Lib.hid hm
  clear hm
  go_enter Try.func83, Try.ntmps83
  go_wp2
  go_ret
  refine ⟨ret_u32 ?_, rfl⟩
  have e := HM.out
  have e1 : (x : Int) * 2 ^ m % 4294967296 = ((x * 2 ^ (32 - n) % 4294967296 : Nat) : Int) := by
    rw [Int.natCast_emod, Int.natCast_mul, Int.natCast_pow, e]; rfl
  have e2 : (x : Int) / 2 ^ (32 - m) = ((x / 2 ^ n : Nat) : Int) := by
    have e3 : 32 - m = n := by omega
    rw [e3, Int.natCast_ediv, Int.natCast_pow]; rfl
  rw [e1, e2]
  exact u32_or_nat _ _ (Nat.mod_lt _ (by omega)) (Nat.lt_of_le_of_lt (Nat.div_le_self _ _) hx)
theorem rk2 : bits .and .u64 (IntKind.u64.wrap (-2)) 31 = ((32 - 2 : Nat) : Int) := by decide +kernel
theorem rk6 : bits .and .u64 (IntKind.u64.wrap (-6)) 31 = ((32 - 6 : Nat) : Int) := by decide +kernel
theorem rk7 : bits .and .u64 (IntKind.u64.wrap (-7)) 31 = ((32 - 7 : Nat) : Int) := by decide +kernel
theorem rk11 : bits .and .u64 (IntKind.u64.wrap (-11)) 31 = ((32 - 11 : Nat) : Int) := by decide +kernel
theorem rk13 : bits .and .u64 (IntKind.u64.wrap (-13)) 31 = ((32 - 13 : Nat) : Int) := by decide +kernel
theorem rk17 : bits .and .u64 (IntKind.u64.wrap (-17)) 31 = ((32 - 17 : Nat) : Int) := by decide +kernel
theorem rk18 : bits .and .u64 (IntKind.u64.wrap (-18)) 31 = ((32 - 18 : Nat) : Int) := by decide +kernel
theorem rk19 : bits .and .u64 (IntKind.u64.wrap (-19)) 31 = ((32 - 19 : Nat) : Int) := by decide +kernel
theorem rk22 : bits .and .u64 (IntKind.u64.wrap (-22)) 31 = ((32 - 22 : Nat) : Int) := by decide +kernel
theorem rk25 : bits .and .u64 (IntKind.u64.wrap (-25)) 31 = ((32 - 25 : Nat) : Int) := by decide +kernel
/-- A word turned by one of the ten numbers that SHA-256 names. -/
theorem rot_of (n x : Nat) (k : Int) (w : World) (hx : x < 4294967296) (hn : (k = -2 ∧ n = 2) ∨ (k = -6 ∧ n = 6) ∨ (k = -7 ∧ n = 7) ∨ (k = -11 ∧ n = 11) ∨ (k = -13 ∧ n = 13) ∨ (k = -17 ∧ n = 17) ∨ (k = -18 ∧ n = 18) ∨ (k = -19 ∧ n = 19) ∨ (k = -22 ∧ n = 22) ∨ (k = -25 ∧ n = 25)) :
    Calls Try.prog 83 #[.int .u32 x, .int .i64 k] w fun e w' => e = .returned (.int .u32 (Sm.rot n x)) ∧ w = w' := by
  rcases hn with ⟨rfl, rfl⟩ | ⟨rfl, rfl⟩ | ⟨rfl, rfl⟩ | ⟨rfl, rfl⟩ | ⟨rfl, rfl⟩ | ⟨rfl, rfl⟩ | ⟨rfl, rfl⟩ | ⟨rfl, rfl⟩ | ⟨rfl, rfl⟩ | ⟨rfl, rfl⟩
  · exact rot_any x 2 _ w hx (by omega) (by omega) rk2
  · exact rot_any x 6 _ w hx (by omega) (by omega) rk6
  · exact rot_any x 7 _ w hx (by omega) (by omega) rk7
  · exact rot_any x 11 _ w hx (by omega) (by omega) rk11
  · exact rot_any x 13 _ w hx (by omega) (by omega) rk13
  · exact rot_any x 17 _ w hx (by omega) (by omega) rk17
  · exact rot_any x 18 _ w hx (by omega) (by omega) rk18
  · exact rot_any x 19 _ w hx (by omega) (by omega) rk19
  · exact rot_any x 22 _ w hx (by omega) (by omega) rk22
  · exact rot_any x 25 _ w hx (by omega) (by omega) rk25
def u32s (l : List Nat) : Array Value := (l.map fun x => Value.int .u32 (x : Nat)).toArray
theorem A32 : Try.prog.underlying 101 = some (.array 8 100) := by kernel_rfl
theorem S32 : (Try.prog.info? 101).map (·.size) = some 8 := by kernel_rfl
theorem A62 : Try.prog.underlying 122 = some (.array 64 100) := by kernel_rfl
theorem S62 : (Try.prog.info? 122).map (·.size) = some 64 := by kernel_rfl
set_option maxHeartbeats 400000 in
theorem firstWords_any (w : World) :
    Calls Try.prog 72 #[] w fun e w' => e = .returned (.agg (u32s Sm.first.list)) ∧ Below w.heap.size w w' := by
  go_enter Try.func72, Try.ntmps72
  go_wp2
  exact ret_row 0 (by kernel_rfl) w.heap.size _ _ A32 S32 rfl (heap_alloc_new w _) rfl ⟨rfl, (Below.refl _ _).alloc (Nat.le_refl _) _⟩
end Go.Proofs.Ytlkeobohcfbgcaa

/- The contract of sha.turn: eight words turned by one block. -/
namespace Go.Proofs.Ytlkeobohcfbgcaa
open Go.RowKit

theorem rot2 (x : Nat) (w : World) (hx : x < 4294967296) : Calls Try.prog 83 #[.int .u32 x, .int .i64 (-2)] w fun e w' => e = .returned (.int .u32 (Sm.rot 2 x)) ∧ w = w' := rot_of 2 x _ w hx (by omega)
theorem rot6 (x : Nat) (w : World) (hx : x < 4294967296) : Calls Try.prog 83 #[.int .u32 x, .int .i64 (-6)] w fun e w' => e = .returned (.int .u32 (Sm.rot 6 x)) ∧ w = w' := rot_of 6 x _ w hx (by omega)
theorem rot11 (x : Nat) (w : World) (hx : x < 4294967296) : Calls Try.prog 83 #[.int .u32 x, .int .i64 (-11)] w fun e w' => e = .returned (.int .u32 (Sm.rot 11 x)) ∧ w = w' := rot_of 11 x _ w hx (by omega)
theorem rot13 (x : Nat) (w : World) (hx : x < 4294967296) : Calls Try.prog 83 #[.int .u32 x, .int .i64 (-13)] w fun e w' => e = .returned (.int .u32 (Sm.rot 13 x)) ∧ w = w' := rot_of 13 x _ w hx (by omega)
theorem rot22 (x : Nat) (w : World) (hx : x < 4294967296) : Calls Try.prog 83 #[.int .u32 x, .int .i64 (-22)] w fun e w' => e = .returned (.int .u32 (Sm.rot 22 x)) ∧ w = w' := rot_of 22 x _ w hx (by omega)
theorem rot25 (x : Nat) (w : World) (hx : x < 4294967296) : Calls Try.prog 83 #[.int .u32 x, .int .i64 (-25)] w fun e w' => e = .returned (.int .u32 (Sm.rot 25 x)) ∧ w = w' := rot_of 25 x _ w hx (by omega)
theorem rot7 (x : Nat) (w : World) (hx : x < 4294967296) : Calls Try.prog 83 #[.int .u32 x, .int .i64 (-7)] w fun e w' => e = .returned (.int .u32 (Sm.rot 7 x)) ∧ w = w' := rot_of 7 x _ w hx (by omega)
theorem rot18 (x : Nat) (w : World) (hx : x < 4294967296) : Calls Try.prog 83 #[.int .u32 x, .int .i64 (-18)] w fun e w' => e = .returned (.int .u32 (Sm.rot 18 x)) ∧ w = w' := rot_of 18 x _ w hx (by omega)
theorem rot17 (x : Nat) (w : World) (hx : x < 4294967296) : Calls Try.prog 83 #[.int .u32 x, .int .i64 (-17)] w fun e w' => e = .returned (.int .u32 (Sm.rot 17 x)) ∧ w = w' := rot_of 17 x _ w hx (by omega)
theorem rot19 (x : Nat) (w : World) (hx : x < 4294967296) : Calls Try.prog 83 #[.int .u32 x, .int .i64 (-19)] w fun e w' => e = .returned (.int .u32 (Sm.rot 19 x)) ∧ w = w' := rot_of 19 x _ w hx (by omega)

theorem u32s_get (l : List Nat) (i : Nat) (h : i < l.length) : (u32s l)[i]? = some (.int .u32 (l.getD i 0 : Nat)) := by
  simp [u32s, List.getD_eq_getElem?_getD, List.getElem?_eq_getElem h]
theorem u32s_cell {w : World} {g : Nat} {l : List Nat} {t : TypeId} {fr : Nat × Nat} (hg : w.heap[g]? = some (.cells (u32s l) t fr)) (i : Nat) (h : i < l.length) : w.cell? ⟨g, i, none⟩ = some (.int .u32 (l.getD i 0 : Nat)) := by
  rw [cell_of_row w g i _ t fr hg, u32s_get l i h]
theorem u32_eq {a b : Int} (h : a = b) : Value.int .u32 a = Value.int .u32 b := by rw [h]
structure Facts (w WB : World) (gw gk : Nat) (W K : List Nat) (A : Array Value) : Prop where
  below : Below w.heap.size w WB
  cw : ∀ i, i < 64 → WB.cell? ⟨gw, i, none⟩ = some (.int .u32 (W.getD i 0 : Nat))
  ck : ∀ i, i < 64 → WB.cell? ⟨gk, i, none⟩ = some (.int .u32 (K.getD i 0 : Nat))
  box : WB.heap[w.heap.size]? = some (.cells A 101 (0, 0))
  res : ∃ C, WB.heap[w.heap.size + 1]? = some (.cells C 101 (0, 0)) ∧ C.size = 8
theorem Facts.mk' (w : World) (nq gw gk : Nat) (W K : List Nat) (A C : Array Value)
    (cw : ∀ i, i < 64 → w.cell? ⟨gw, i, none⟩ = some (.int .u32 (W.getD i 0 : Nat)))
    (ck : ∀ i, i < 64 → w.cell? ⟨gk, i, none⟩ = some (.int .u32 (K.getD i 0 : Nat)))
    (bw : gw < w.heap.size) (bk : gk < w.heap.size) (hC : C.size = 8 := by rfl) :
    Facts w (World.drewN ((w.alloc (.cells A 101)).alloc (.cells C 101)) nq) gw gk W K A := by
  have hb : Below w.heap.size w ((w.alloc (.cells A 101)).alloc (.cells C 101)) := ((Below.refl _ _).alloc (Nat.le_refl _) _).alloc (by simp) _
  refine ⟨hb.trans ⟨rfl, rfl, rfl, Nat.le_refl _, fun _ _ => rfl⟩, fun i hi => ?_, fun i hi => ?_, ?_, C, ?_, hC⟩
  · exact (hb.cell (p := ⟨gw, i, none⟩) bw).trans (cw i hi)
  · exact (hb.cell (p := ⟨gk, i, none⟩) bk).trans (ck i hi)
  · exact heap_alloc2_old w _ _
  · exact heap_alloc2_new w _ _
def TurnRel (K W : List Nat) (v : Sm.V8) (W0 : World) (a b c d e f g h i : Value) (wr : World) : Prop :=
  ∃ k : Nat, k ≤ 64 ∧ i = .int .i64 k ∧ a = .int .u32 (Sm.rounds K W v k).a ∧ b = .int .u32 (Sm.rounds K W v k).b ∧ c = .int .u32 (Sm.rounds K W v k).c ∧ d = .int .u32 (Sm.rounds K W v k).d ∧ e = .int .u32 (Sm.rounds K W v k).e ∧ f = .int .u32 (Sm.rounds K W v k).f ∧ g = .int .u32 (Sm.rounds K W v k).g ∧ h = .int .u32 (Sm.rounds K W v k).h ∧ SameHeap W0 wr
set_option maxRecDepth 100000 in
set_option maxHeartbeats 1000000 in
theorem turn_any (v : Sm.V8) (hv : v.ok) (W K : List Nat) (hW : Sm.allW W) (hK : Sm.allW K) (lW : W.length = 64) (lK : K.length = 64) (gw gk : Nat) (w : World)
    (hw : w.heap[gw]? = some (.cells (u32s W) 122 (0, 0))) (hk : w.heap[gk]? = some (.cells (u32s K) 122 (0, 0))) :
    Calls Try.prog 81 #[.agg (u32s v.list), .pointer (some ⟨gw, 0, none⟩), .pointer (some ⟨gk, 0, none⟩)] w fun e w' => e = .returned (.agg (u32s (Sm.turn K W v).list)) ∧ Below w.heap.size w w' := by
  obtain ⟨a, b, c, d, e, f, g, h⟩ := v
  have cw : ∀ i, i < 64 → w.cell? ⟨gw, i, none⟩ = some (.int .u32 (W.getD i 0 : Nat)) := fun i hi => u32s_cell hw i (by omega)
  have ck : ∀ i, i < 64 → w.cell? ⟨gk, i, none⟩ = some (.int .u32 (K.getD i 0 : Nat)) := fun i hi => u32s_cell hk i (by omega)
  have bw : gw < w.heap.size := (Array.getElem?_eq_some_iff.1 hw).1
  have bk : gk < w.heap.size := (Array.getElem?_eq_some_iff.1 hk).1
  have CW := Lib.hid cw
  have CK := Lib.hid ck
  have LW := Lib.hid lW
  have LK := Lib.hid lK
  have HW := Lib.hid hW
  have HK := Lib.hid hK
  have HV := Lib.hid hv
  clear cw ck lW lK hW hK hv hw hk
  show Calls Try.prog 81 #[.agg #[.int .u32 a, .int .u32 b, .int .u32 c, .int .u32 d, .int .u32 e, .int .u32 f, .int .u32 g, .int .u32 h], .pointer (some ⟨gw, 0, none⟩), .pointer (some ⟨gk, 0, none⟩)] w _
  go_enter Try.func81, Try.ntmps81
  go_wp2_with fail
  go_quiet (fail)
  go_wp2_with fail
  generalize hWB : World.drewN ((w.alloc (.cells #[.int .u32 a, .int .u32 b, .int .u32 c, .int .u32 d, .int .u32 e, .int .u32 f, .int .u32 g, .int .u32 h] 101)).alloc (.cells #[.int .u32 0, .int .u32 0, .int .u32 0, .int .u32 0, .int .u32 0, .int .u32 0, .int .u32 0, .int .u32 0] 101)) nq = WB
  have FB : Facts w WB gw gk W K #[.int .u32 a, .int .u32 b, .int .u32 c, .int .u32 d, .int .u32 e, .int .u32 f, .int .u32 g, .int .u32 h] := by
    subst hWB
    exact Facts.mk' w nq gw gk W K _ _ CW.out CK.out bw bk
  have FF := Lib.hid FB
  clear FB hWB
  go_loopw [7, 8, 9, 10, 11, 12, 13, 14, 38] (fun a' b' c' d' e' f' g' h' i wr => TurnRel K W ⟨a, b, c, d, e, f, g, h⟩ WB a' b' c' d' e' f' g' h' i wr) (fun _ _ _ _ _ _ _ _ i _ => 64 - (intOf i).toNat)
  case atStart => exact ⟨0, by omega, rfl, rfl, rfl, rfl, rfl, rfl, rfl, rfl, rfl, SameHeap.refl _⟩
  case round =>
    obtain ⟨k, hk, rfl, rfl, rfl, rfl, rfl, rfl, rfl, rfl, rfl, hs⟩ := hrel
    have ho : (Sm.rounds K W ⟨a, b, c, d, e, f, g, h⟩ k).ok := Sm.rounds_ok HV.out k
    have HS := Lib.hid hs
    clear hs
    by_cases hlt : k < 64
    · obtain ⟨u, hu⟩ : ∃ u, u = Sm.rounds K W ⟨a, b, c, d, e, f, g, h⟩ k := ⟨_, rfl⟩
      rw [← hu] at ho ⊢
      have HU := Lib.hid hu
      clear hu
      have HO := Lib.hid ho
      obtain ⟨ha, hb, hc, hd, he, hf, hg, hh⟩ := ho
      have xw := (HS.out.cell ⟨gw, k, none⟩).trans (FF.out.cw k hlt)
      have xk := (HS.out.cell ⟨gk, k, none⟩).trans (FF.out.ck k hlt)
      go_wp2_with (go_at_call 83; first | ((with_reducible refine (rot6 _ _ he).mono ?_); rintro _ _ ⟨rfl, rfl⟩) | ((with_reducible refine (rot11 _ _ he).mono ?_); rintro _ _ ⟨rfl, rfl⟩) | ((with_reducible refine (rot25 _ _ he).mono ?_); rintro _ _ ⟨rfl, rfl⟩))
      go_quiet (fail)
      go_wp2_with (go_at_call 83; first | ((with_reducible refine (rot2 _ _ ha).mono ?_); rintro _ _ ⟨rfl, rfl⟩) | ((with_reducible refine (rot13 _ _ ha).mono ?_); rintro _ _ ⟨rfl, rfl⟩) | ((with_reducible refine (rot22 _ _ ha).mono ?_); rintro _ _ ⟨rfl, rfl⟩))
      go_roundw
      case rel =>
        show TurnRel _ _ _ _ _ _ _ _ _ _ _ _ _ _
        rw [← List.getD_eq_getElem?_getD, ← List.getD_eq_getElem?_getD, Sm.t1_int HO.out, Sm.t2_int HO.out]
        refine ⟨k + 1, by omega, by go_num, ?_, ?_, ?_, ?_, ?_, ?_, ?_, ?_, HS.out.drewN _⟩
        · rw [Sm.rounds, ← HU.out]; exact u32_eq (by simp only [Sm.step]; omega)
        · rw [Sm.rounds, ← HU.out]; rfl
        · rw [Sm.rounds, ← HU.out]; rfl
        · rw [Sm.rounds, ← HU.out]; rfl
        · rw [Sm.rounds, ← HU.out]; exact u32_eq (by simp only [Sm.step]; omega)
        · rw [Sm.rounds, ← HU.out]; rfl
        · rw [Sm.rounds, ← HU.out]; rfl
        · rw [Sm.rounds, ← HU.out]; rfl
      case measure => simp [intOf]; omega
    · obtain rfl : k = 64 := by omega
      obtain ⟨u, hu⟩ : ∃ u, u = Sm.rounds K W ⟨a, b, c, d, e, f, g, h⟩ 64 := ⟨_, rfl⟩
      rw [← hu] at ho ⊢
      have HU := Lib.hid hu
      clear hu ho
      have hbox : wr.heap[w.heap.size]? = some (.cells (u32s [a, b, c, d, e, f, g, h]) 101 (0, 0)) := by rw [HS.out.heap]; exact FF.out.box
      obtain ⟨C, hC, hC8⟩ := FF.out.res
      rw [← HS.out.heap] at hC
      have HC := Lib.hid hC
      have HC8 := Lib.hid hC8
      clear hC hC8
      have c0 := u32s_cell hbox 0 (by simp)
      have c1 := u32s_cell hbox 1 (by simp)
      have c2 := u32s_cell hbox 2 (by simp)
      have c3 := u32s_cell hbox 3 (by simp)
      have c4 := u32s_cell hbox 4 (by simp)
      have c5 := u32s_cell hbox 5 (by simp)
      have c6 := u32s_cell hbox 6 (by simp)
      have c7 := u32s_cell hbox 7 (by simp)
      clear hbox
      simp only [List.getD_cons_zero, List.getD_cons_succ] at c0 c1 c2 c3 c4 c5 c6 c7
      go_wp2_with (refine wpList_store_row (by rfl) 101 _ _ (by rfl) (w.heap.size + 1) _ (by rfl) (by rfl) _ _ HC.out (by exact S32) (by exact HC8.out) (by simp [Value.oneCell']) ?_)
      refine ret_row 6 (by kernel_rfl) (w.heap.size + 1) _ _ A32 S32 rfl (setRow_heap _ _ _ _ _ _ HC.out) (by rfl) ?_
      refine ⟨?_, ?_⟩
      · rw [Sm.turn, ← HU.out]
        simp only [u32s, Sm.add8, Sm.V8.list, List.map_cons, List.map_nil, Int.natCast_emod, Int.natCast_add]
        rfl
      · exact Below.setRow ((FF.out.below).trans (HS.out.below.mono FF.out.below.size)) (by omega) _
end Go.Proofs.Ytlkeobohcfbgcaa

/- The contract of sha.schedule: a block's 64 words. -/
namespace Go.Proofs.Ytlkeobohcfbgcaa
open Go.RowKit

structure SFacts (w WB : World) (gb ob : Nat) (B : List Nat) (L : List Nat) : Prop where
  below : Below w.heap.size w WB
  bytes : bytesAt WB gb ob B
  res : ∃ C, WB.heap[w.heap.size]? = some (.cells C 122 (0, 0)) ∧ C.size = 64
  lt : gb < w.heap.size
  row : WB.heap[w.heap.size + 1]? = some (.cells (u32s L) 122 (0, 0))
theorem SFacts.drewN {w WB : World} {gb ob : Nat} {B L : List Nat} (h : SFacts w WB gb ob B L) (n : Nat) : SFacts w (WB.drewN n) gb ob B L :=
  ⟨h.below.trans ⟨rfl, rfl, rfl, Nat.le_refl _, fun _ _ => rfl⟩, h.bytes, h.res, h.lt, h.row⟩
theorem SFacts.mk' (w : World) (gb ob : Nat) (B : List Nat) (hw : bytesAt w gb ob B) (hl : 0 < B.length) : SFacts w ((w.alloc (.cells (u32s (zeros 64)) 122)).alloc (.cells (u32s (zeros 64)) 122)) gb ob B (zeros 64) := by
  have hb : Below w.heap.size w ((w.alloc (.cells (u32s (zeros 64)) 122)).alloc (.cells (u32s (zeros 64)) 122)) := ((Below.refl _ _).alloc (Nat.le_refl _) _).alloc (by simp) _
  refine ⟨hb, fun i hi => ?_, ⟨_, heap_alloc2_old w _ _, by simp [u32s, zeros]⟩, block_lt_of_cell (hw 0 hl), heap_alloc2_new w _ _⟩
  have := hw i hi
  exact (hb.cell (p := ⟨gb, ob + i, none⟩) (block_lt_of_cell this)).trans this
theorem u32s_set (p r : List Nat) (y x k : Nat) (hk : p.length = k) : (u32s (p ++ y :: r)).setIfInBounds k (.int .u32 (x : Nat)) = u32s (p ++ x :: r) := by
  subst hk
  apply Array.ext'
  simp [u32s]
theorem SFacts.store {w WB : World} {gb ob : Nat} {B p r : List Nat} {y : Nat} (h : SFacts w WB gb ob B (p ++ y :: r)) (k : Nat) (hk : p.length = k) (x : Nat) :
    SFacts w (WB.setCell ⟨w.heap.size + 1, k, none⟩ (.int .u32 (x : Nat))) gb ob B (p ++ x :: r) := by
  obtain ⟨C, hC, hC6⟩ := h.res
  refine ⟨h.below.setCell (by show w.heap.size ≤ w.heap.size + 1; omega) _, fun i hi => ?_, ⟨C, ?_, hC6⟩, h.lt, ?_⟩
  · rw [World.cell?_setCell_other _ _ _ _ (by intro e; have e1 : w.heap.size + 1 = gb := congrArg Addr.block e; have := h.lt; omega)]
    exact h.bytes i hi
  · rw [heap_setCell_other _ _ _ _ (by show w.heap.size ≠ w.heap.size + 1; omega)]; exact hC
  · rw [heap_setCell_same _ _ _ _ _ _ h.row, u32s_set p r y x k hk]
def SRel2 (w : World) (gb ob : Nat) (B : List Nat) (i : Value) (wr : World) : Prop :=
  ∃ k : Nat, k ≤ 48 ∧ i = .int .i64 ((16 + k : Nat) : Int) ∧ SFacts w wr gb ob B (Sm.more (Sm.words B 16) k ++ zeros (48 - k))
theorem u32s_one (l : List Nat) : (u32s l).all (·.oneCell') = true := by simp [u32s, Value.oneCell']
theorem sched_size (B : List Nat) : (u32s (Sm.sched B)).size = 64 := by simp [u32s, Sm.length_sched]
def SRel1 (w : World) (gb ob : Nat) (B : List Nat) (i : Value) (wr : World) : Prop :=
  ∃ k : Nat, k ≤ 16 ∧ i = .int .i64 k ∧ SFacts w wr gb ob B (Sm.words B k ++ zeros (64 - k))
theorem Z62 : (Try.prog.info? 122).map (fun i => (i.zero, i.size)) = some (some (.agg (u32s (zeros 64))), 64) := by kernel_rfl
set_option maxRecDepth 100000 in
set_option maxHeartbeats 1000000 in
theorem sched_any (B : List Nat) (hB : Sm.allB B) (lB : 64 ≤ B.length) (gb ob cap : Nat) (hcap : 64 ≤ cap) (w : World) (hw : bytesAt w gb ob B) :
    Calls Try.prog 80 #[.slice (some ⟨gb, ob, none⟩) 64 cap] w fun e w' => e = .returned (.agg (u32s (Sm.sched B))) ∧ Below w.heap.size w w' := by
  have HB := Lib.hid hB
  have LB := Lib.hid lB
  have HW := Lib.hid hw
  clear hB lB hw
  have hz := (zero_of_info Z62).1
  go_enter Try.func80, Try.ntmps80
  go_wp2_with fail
  generalize hWB : (w.alloc (.cells (u32s (zeros 64)) 122)).alloc (.cells (u32s (zeros 64)) 122) = WB
  have FB : SFacts w WB gb ob B (zeros 64) := by
    subst hWB
    exact SFacts.mk' w gb ob B HW.out (by have := LB.out; omega)
  have FF := Lib.hid FB
  clear FB hWB hz
  go_loopw [11] (fun i wr => SRel1 w gb ob B i wr) (fun i _ => 16 - (intOf i).toNat)
  case atStart => exact ⟨0, by omega, rfl, FF.out⟩
  case round =>
    obtain ⟨k, hk, rfl, hs⟩ := hrel
    have HS := Lib.hid hs
    clear hs FF
    by_cases hlt : k < 16
    · have g0 : wr.cell? ⟨gb, ob + 4 * k, none⟩ = _ := HS.out.bytes (4 * k) (by have := LB.out; omega)
      have g1 : wr.cell? ⟨gb, ob + 4 * k + 1, none⟩ = _ := HS.out.bytes (4 * k + 1) (by have := LB.out; omega)
      have g2 : wr.cell? ⟨gb, ob + 4 * k + 2, none⟩ = _ := HS.out.bytes (4 * k + 2) (by have := LB.out; omega)
      have g3 : wr.cell? ⟨gb, ob + 4 * k + 3, none⟩ = _ := HS.out.bytes (4 * k + 3) (by have := LB.out; omega)
      obtain ⟨x0, hx0⟩ : ∃ x, x = B.getD (4 * k) 0 := ⟨_, rfl⟩
      obtain ⟨x1, hx1⟩ : ∃ x, x = B.getD (4 * k + 1) 0 := ⟨_, rfl⟩
      obtain ⟨x2, hx2⟩ : ∃ x, x = B.getD (4 * k + 2) 0 := ⟨_, rfl⟩
      obtain ⟨x3, hx3⟩ : ∃ x, x = B.getD (4 * k + 3) 0 := ⟨_, rfl⟩
      have b0 : x0 < 256 := by rw [hx0]; exact Sm.getD_lt HB.out (by omega) _
      have b1 : x1 < 256 := by rw [hx1]; exact Sm.getD_lt HB.out (by omega) _
      have b2 : x2 < 256 := by rw [hx2]; exact Sm.getD_lt HB.out (by omega) _
      have b3 : x3 < 256 := by rw [hx3]; exact Sm.getD_lt HB.out (by omega) _
      rw [← hx0] at g0
      rw [← hx1] at g1
      rw [← hx2] at g2
      rw [← hx3] at g3
      have X0 := Lib.hid hx0
      have X1 := Lib.hid hx1
      have X2 := Lib.hid hx2
      have X3 := Lib.hid hx3
      clear hx0 hx1 hx2 hx3
      have hst : wr.cell? ⟨w.heap.size + 1, k, none⟩ = _ := u32s_cell HS.out.row k (by simp [Sm.length_words, zeros]; omega)
      have hfr : wr.frozen? ⟨w.heap.size + 1, k, none⟩ = false := frozen_of_row wr _ k _ _ HS.out.row
      have HL : (0 : Int) ≤ k ∧ (k : Int) < 64 := by omega
      go_wp2_with fail
      rw [show 4 * k + 4 - 4 * k = 4 from by omega]
      go_still_tail 24, (by kernel_rfl)
      go_wp2_with fail
      go_roundw
      case rel =>
        show SRel1 _ _ _ _ _ _
        rw [Sm.word_int b0 b1 b2 b3]
        refine ⟨k + 1, by omega, by go_num, ?_⟩
        have e : Sm.words B (k + 1) ++ zeros (64 - (k + 1)) = Sm.words B k ++ (x0 * 16777216 + x1 * 65536 + x2 * 256 + x3) :: zeros (64 - (k + 1)) := by
          rw [Sm.words, X0.out, X1.out, X2.out, X3.out, List.append_assoc]; rfl
        rw [e]
        refine (SFacts.store (y := 0) ?_ k (Sm.length_words B k) _).drewN 1
        rw [show 64 - (k + 1) = 64 - k - 1 from by omega, ← zeros_succ (by omega)]
        exact HS.out
      case measure => simp [intOf]; omega
    · obtain rfl : k = 16 := by omega
      rw [show ((16 : Nat) : Int) = 16 from rfl]
      go_wp2_with fail
      go_loopw [6] (fun i wr => SRel2 w gb ob B i wr) (fun i _ => 64 - (intOf i).toNat)
      case atStart => exact ⟨0, by omega, rfl, HS.out⟩
      case round =>
        obtain ⟨k, hk2, rfl, hs⟩ := hrel
        have HS2 := Lib.hid hs
        clear hs HS hk hlt
        by_cases hlt : k < 48
        · obtain ⟨l, hl⟩ : ∃ l, l = Sm.more (Sm.words B 16) k := ⟨_, rfl⟩
          have HS3 := Lib.hid HS2.out
          rw [← hl] at HS3
          have ll : l.length = 16 + k := by rw [hl]; simp [Sm.length_more, Sm.length_words]
          have lw : Sm.allW l := by rw [hl]; exact Sm.more_ok (Sm.words_ok HB.out 16) k
          have HL := Lib.hid hl
          have LL := Lib.hid ll
          have LW := Lib.hid lw
          clear hl ll lw HS2
          have cells : ∀ i, i < 16 + k → wr.cell? ⟨w.heap.size + 1, i, none⟩ = some (.int .u32 (l.getD i 0 : Nat)) := fun i hi => by
            rw [u32s_cell HS3.out.row i (by simp [LL.out, zeros]; omega), getD_left _ _ (by rw [LL.out]; omega)]
          obtain ⟨j, hj⟩ : ∃ j, j = 16 + k := ⟨_, rfl⟩
          rw [← hj] at cells ⊢
          have hst : wr.cell? ⟨w.heap.size + 1, j, none⟩ = _ := u32s_cell HS3.out.row j (by simp [LL.out, zeros]; omega)
          have hfr : wr.frozen? ⟨w.heap.size + 1, j, none⟩ = false := frozen_of_row wr _ _ _ _ HS3.out.row
          have g0 := cells (j - 16) (by omega)
          have g1 := cells (j - 15) (by omega)
          have g9 := cells (j - 7) (by omega)
          have g14 := cells (j - 2) (by omega)
          clear cells
          have i0 : (0 : Int) ≤ (j : Int) - 16 ∧ (j : Int) - 16 < 64 := by omega
          have i1 : (0 : Int) ≤ (j : Int) - 15 ∧ (j : Int) - 15 < 64 := by omega
          have i9 : (0 : Int) ≤ (j : Int) - 7 ∧ (j : Int) - 7 < 64 := by omega
          have i14 : (0 : Int) ≤ (j : Int) - 2 ∧ (j : Int) - 2 < 64 := by omega
          have ij : (0 : Int) ≤ (j : Int) ∧ (j : Int) < 64 := by omega
          have HJ := Lib.hid hj
          clear hj
          obtain ⟨x0, hx0⟩ : ∃ x, x = l.getD (j - 16) 0 := ⟨_, rfl⟩
          obtain ⟨x1, hx1⟩ : ∃ x, x = l.getD (j - 15) 0 := ⟨_, rfl⟩
          obtain ⟨x9, hx9⟩ : ∃ x, x = l.getD (j - 7) 0 := ⟨_, rfl⟩
          obtain ⟨x14, hx14⟩ : ∃ x, x = l.getD (j - 2) 0 := ⟨_, rfl⟩
          have w0 : x0 < 4294967296 := by rw [hx0]; exact Sm.getD_lt LW.out (by omega) _
          have w1 : x1 < 4294967296 := by rw [hx1]; exact Sm.getD_lt LW.out (by omega) _
          have w9 : x9 < 4294967296 := by rw [hx9]; exact Sm.getD_lt LW.out (by omega) _
          have w14 : x14 < 4294967296 := by rw [hx14]; exact Sm.getD_lt LW.out (by omega) _
          rw [← hx0] at g0
          rw [← hx1] at g1
          rw [← hx9] at g9
          rw [← hx14] at g14
          have X0 := Lib.hid hx0
          have X1 := Lib.hid hx1
          have X9 := Lib.hid hx9
          have X14 := Lib.hid hx14
          clear hx0 hx1 hx9 hx14
          go_wp2_with fail
          go_quiet (fail)
          go_wp2_with (go_at_call 83; first | ((with_reducible refine (rot7 _ _ w1).mono ?_); rintro _ _ ⟨rfl, rfl⟩) | ((with_reducible refine (rot18 _ _ w1).mono ?_); rintro _ _ ⟨rfl, rfl⟩) | ((with_reducible refine (rot17 _ _ w14).mono ?_); rintro _ _ ⟨rfl, rfl⟩) | ((with_reducible refine (rot19 _ _ w14).mono ?_); rintro _ _ ⟨rfl, rfl⟩))
          generalize hW2 : wr.drewN nq = W2
          have f0 : W2.cell? ⟨w.heap.size + 1, j - 16, none⟩ = some (.int .u32 (x0 : Nat)) := by rw [← hW2]; exact g0
          have f9 : W2.cell? ⟨w.heap.size + 1, j - 7, none⟩ = some (.int .u32 (x9 : Nat)) := by rw [← hW2]; exact g9
          have fst : W2.cell? ⟨w.heap.size + 1, j, none⟩ = some (.int .u32 ((l ++ zeros (48 - k)).getD j 0 : Nat)) := by rw [← hW2]; exact hst
          have ffr : W2.frozen? ⟨w.heap.size + 1, j, none⟩ = false := by rw [← hW2]; exact hfr
          have HS4 : SFacts w W2 gb ob B (l ++ zeros (48 - k)) := by rw [← hW2]; exact HS3.out.drewN nq
          have HS5 := Lib.hid HS4
          clear hW2 g0 g1 g9 g14 hst hfr HS4 HS3
          have q16 : IntKind.i64.wrap ((j : Int) - 16) = (j : Int) - 16 := IntWalk.i64_in _ (by omega)
          have q7 : IntKind.i64.wrap ((j : Int) - 7) = (j : Int) - 7 := IntWalk.i64_in _ (by omega)
          have p16 : ((j : Int) - 16).toNat = j - 16 := by omega
          have p7 : ((j : Int) - 7).toNat = j - 7 := by omega
          have r16 : (16 : Int) ≤ j := by omega
          have r7 : (7 : Int) ≤ j := by omega
          go_still_tail 15, (by kernel_rfl)
          clear q16 q7 p16 p7
          go_wp2_with fail
          go_roundw
          case rel =>
            show SRel2 _ _ _ _ _ _
            rw [Sm.s0_int w1, Sm.s1_int w14]
            have ej := HJ.out
            have e0 : j - 16 = k := by omega
            have e1 : j - 15 = k + 1 := by omega
            have e9 : j - 7 = k + 9 := by omega
            have e14 : j - 2 = k + 14 := by omega
            have ev : (((x0 : Nat) : Int) + (Sm.s0 x1 : Nat) + (x9 : Nat) + (Sm.s1 x14 : Nat)) % 4294967296 = (((x0 + Sm.s0 x1 + x9 + Sm.s1 x14) % 4294967296 : Nat) : Int) := by omega
            rw [ev]
            refine ⟨k + 1, by omega, by rw [ej]; go_num, ?_⟩
            have e : Sm.more (Sm.words B 16) (k + 1) ++ zeros (48 - (k + 1)) = l ++ ((x0 + Sm.s0 x1 + x9 + Sm.s1 x14) % 4294967296) :: zeros (48 - (k + 1)) := by
              rw [Sm.more, ← HL.out, X0.out, X1.out, X9.out, X14.out, e0, e1, e9, e14, List.append_assoc]; rfl
            rw [e]
            refine (SFacts.store (y := 0) ?_ j (by rw [LL.out]; omega) _).drewN 1
            rw [show 48 - (k + 1) = 48 - k - 1 from by omega, ← zeros_succ (by omega)]
            exact HS5.out
          case measure => simp [intOf]; omega
        · obtain rfl : k = 48 := by omega
          obtain ⟨C, hC, hC6⟩ := HS2.out.res
          have hrow : wr.heap[w.heap.size + 1]? = some (.cells (u32s (Sm.sched B)) 122 (0, 0)) := by
            have := HS2.out.row
            rw [show zeros (48 - 48) = [] from rfl, List.append_nil] at this
            exact this
          have HC := Lib.hid hC
          have HC6 := Lib.hid hC6
          have HR := Lib.hid hrow
          clear hC hC6 hrow
          go_wp2_with (first | (refine wpList_load_row (by rfl) 122 _ (by rfl) (w.heap.size + 1) (by rfl) 122 _ (0, 0) _ HR.out A62 (by rfl) (by rw [sched_size]; exact S62) ?_) | (refine wpList_store_row (by rfl) 122 _ _ (by rfl) (w.heap.size) (u32s (Sm.sched B)) (by rfl) (by rfl) _ _ HC.out (by rw [sched_size]; exact S62) (by rw [sched_size]; exact HC6.out) (u32s_one _) ?_))
          refine ret_row 2 (by kernel_rfl) w.heap.size _ _ A62 S62 rfl (setRow_heap _ _ _ _ _ _ HC.out) (sched_size B) ⟨rfl, ?_⟩
          exact Below.setRow HS2.out.below (Nat.le_refl _) _
end Go.Proofs.Ytlkeobohcfbgcaa

/- The contract of sha.roundWords: the 64 words of the rounds. -/
namespace Go.Proofs.Ytlkeobohcfbgcaa
open Go.RowKit
theorem ks_one : (u32s Sm.ks).all (·.oneCell') = true := by kernel_rfl
set_option maxRecDepth 100000 in
set_option maxHeartbeats 1000000 in
theorem roundWords_any (w : World) :
    Calls Try.prog 79 #[] w fun e w' => e = .returned (.agg (u32s Sm.ks)) ∧ Below w.heap.size w w' := by
  go_enter Try.func79, Try.ntmps79
  go_wp2_with (refine wpList_store_row (by rfl) 122 _ _ (by rfl) w.heap.size (u32s Sm.ks) (by rfl) (by as_aux_lemma => kernel_rfl) _ _ (heap_alloc_new w _) S62 (by rfl) ks_one ?_; rw [setRow_alloc])
  exact ret_row 0 (by kernel_rfl) w.heap.size _ _ A62 S62 rfl (heap_alloc_new w _) rfl ⟨rfl, (Below.refl _ _).alloc (Nat.le_refl _) _⟩
end Go.Proofs.Ytlkeobohcfbgcaa

/- The contract of sha.turnAll: eight words turned by block after block. -/
namespace Go.Proofs.Ytlkeobohcfbgcaa
open Go.RowKit

theorem Bytes.drop64 {w : World} {g o ln cp : Nat} {B : List Nat} (h : Bytes w (some ⟨g, o, none⟩) ln cp B) (hl : 64 ≤ ln) : Bytes w (some ⟨g, o + 64, none⟩) (ln - 64) (cp - 64) (B.drop 64) := by
  have := h.size
  have := h.le
  refine ⟨by simp; omega, by omega, Sm.allB_drop h.ok 64, Or.inr ⟨g, o + 64, rfl, ?_⟩⟩
  have hB : B ≠ [] := by rintro rfl; have := h.size; simp at this; omega
  obtain ⟨g', o', hp, hx⟩ := h.ne hB
  obtain ⟨rfl, rfl⟩ : g = g' ∧ o = o' := by simpa using hp
  exact hx.drop 64
structure TA (w wr : World) (v : Sm.V8) (gk : Nat) : Prop where
  below : Below w.heap.size w wr
  box : wr.heap[w.heap.size]? = some (.cells (u32s v.list) 101 (0, 0))
  res : ∃ C, wr.heap[w.heap.size + 1]? = some (.cells C 101 (0, 0)) ∧ C.size = 8
  ks : wr.heap[gk]? = some (.cells (u32s Sm.ks) 122 (0, 0))
  gk : w.heap.size + 1 < gk
theorem TA.later {w wr w' : World} {v : Sm.V8} {gk : Nat} (h : TA w wr v gk) (hb : Below wr.heap.size wr w') : TA w w' v gk := by
  obtain ⟨C, hC, h8⟩ := h.res
  have l0 := (Array.getElem?_eq_some_iff.1 h.box).1
  have l1 := (Array.getElem?_eq_some_iff.1 hC).1
  have l2 := (Array.getElem?_eq_some_iff.1 h.ks).1
  exact ⟨h.below.trans (hb.mono h.below.size), (hb.block _ l0).trans h.box, ⟨C, (hb.block _ l1).trans hC, h8⟩, (hb.block _ l2).trans h.ks, h.gk⟩
theorem TA.set {w wr : World} {v : Sm.V8} {gk : Nat} (h : TA w wr v gk) (u : Sm.V8) : TA w (wr.setRow w.heap.size (u32s u.list)) u gk := by
  obtain ⟨C, hC, h8⟩ := h.res
  have := h.gk
  exact ⟨Below.setRow h.below (Nat.le_refl _) _, setRow_heap _ _ _ _ _ _ h.box, ⟨C, (setRow_other _ _ _ _ (by omega)).trans hC, h8⟩, (setRow_other _ _ _ _ (by omega)).trans h.ks, h.gk⟩
theorem TA.start (w w1 : World) (v : Sm.V8) (C : Array Value) (h8 : C.size = 8) (hb : Below ((w.alloc (.cells (u32s v.list) 101)).alloc (.cells C 101)).heap.size ((w.alloc (.cells (u32s v.list) 101)).alloc (.cells C 101)) w1) :
    TA w (w1.alloc (.cells (u32s Sm.ks) 122)) v w1.heap.size := by
  have hs : ((w.alloc (.cells (u32s v.list) 101)).alloc (.cells C 101)).heap.size = w.heap.size + 2 := by simp
  have hl := hb.size
  rw [hs] at hl hb
  have h0 : Below w.heap.size w w1 := (((Below.refl w.heap.size w).alloc (Nat.le_refl _) _).alloc (by simp) _).trans (hb.mono (by omega))
  refine ⟨h0.alloc h0.size _, ?_, ⟨C, ?_, h8⟩, heap_alloc_new _ _, by omega⟩
  · rw [Below.heap_alloc _ _ _ (by omega), hb.block _ (by omega)]; exact heap_alloc2_old w _ _
  · rw [Below.heap_alloc _ _ _ (by omega), hb.block _ (by omega)]; exact heap_alloc2_new w _ _
theorem size8 (v : Sm.V8) : (u32s v.list).size = 8 := rfl
def AllRel (w : World) (_p : Option Addr) (B : List Nat) (v : Sm.V8) (gk : Nat) (s : Value) (wr : World) : Prop :=
  ∃ n q len cap, 64 * n ≤ B.length ∧ s = .slice q len cap ∧ TA w wr (Sm.blocks B v n) gk ∧ Bytes w q len cap (B.drop (64 * n))
set_option maxRecDepth 100000 in
set_option maxHeartbeats 1000000 in
theorem all_any (v : Sm.V8) (hv : v.ok) (B : List Nat) (p : Option Addr) (len cap : Nat) (w : World) (hB : Bytes w p len cap B) (hm : B.length % 64 = 0) :
    Calls Try.prog 73 #[.agg (u32s v.list), .slice p len cap] w fun e w' => e = .returned (.agg (u32s (Sm.blocks B v (B.length / 64)).list)) ∧ Below w.heap.size w w' := by
  obtain ⟨a, b, c, d, e, f, g, h⟩ := v
  have HV := Lib.hid hv
  have HB := Lib.hid hB
  have HM := Lib.hid hm
  clear hv hB hm
  have hz := (zero_of_info Z62).1
  show Calls Try.prog 73 #[.agg #[.int .u32 a, .int .u32 b, .int .u32 c, .int .u32 d, .int .u32 e, .int .u32 f, .int .u32 g, .int .u32 h], .slice p len cap] w _
  go_enter Try.func73, Try.ntmps73
  go_wp2_with fail
  refine (roundWords_any _).mono ?_
  rintro _ w1 ⟨rfl, hb1⟩
  have HB1 := Lib.hid hb1
  clear hb1
  go_wp2_with (refine wpList_store_row (by rfl) 122 _ _ (by rfl) w1.heap.size (u32s Sm.ks) (by rfl) (by rfl) _ _ (heap_alloc_new _ _) S62 (by simp [u32s, zeros]; rfl) ks_one ?_; rw [setRow_alloc])
  generalize hWB : w1.alloc (.cells (u32s Sm.ks) 122) = WB
  have hTA : TA w WB ⟨a, b, c, d, e, f, g, h⟩ w1.heap.size := by
    subst hWB
    exact TA.start w w1 _ _ rfl HB1.out
  have HT := Lib.hid hTA
  clear hTA hWB HB1
  go_simp
  generalize w1.heap.size = gk at *
  go_loopw [1] (fun s wr => AllRel w p B ⟨a, b, c, d, e, f, g, h⟩ gk s wr) (fun s _ => lenOf s)
  case atStart => exact ⟨0, p, len, cap, by omega, rfl, HT.out, by simpa using HB.out⟩
  case round =>
    obtain ⟨n, q, ln, cp, hn, rfl, hT, hb⟩ := hrel
    obtain ⟨V, hV⟩ : ∃ V, V = Sm.blocks B ⟨a, b, c, d, e, f, g, h⟩ n := ⟨_, rfl⟩
    rw [← hV] at hT
    have hok : V.ok := by rw [hV]; exact Sm.blocks_ok HV.out n
    obtain ⟨X, hX⟩ : ∃ X, X = B.drop (64 * n) := ⟨_, rfl⟩
    rw [← hX] at hb
    have hXl : X.length = B.length - 64 * n := by rw [hX]; simp
    have hm := HM.out
    have hsz := hb.size
    have hle := hb.le
    have HVV := Lib.hid hV
    have HX := Lib.hid hX
    have HO := Lib.hid hok
    have HT1 := Lib.hid hT
    have HB1 := Lib.hid hb
    have HS := Lib.hid hsz
    have HXL := Lib.hid hXl
    by_cases h0 : ln = 0
    · have hX0 : X = [] := List.length_eq_zero_iff.1 (by omega)
      have hdiv : B.length / 64 = n := by omega
      have HD := Lib.hid hdiv
      obtain ⟨C, hC, hC8⟩ := hT.res
      have HC := Lib.hid hC
      have HC8 := Lib.hid hC8
      clear hV hX hok hT hb hXl hm hsz hle hX0 hdiv hC hC8
      subst h0
      go_wp2_with (first | (refine wpList_load_row (by rfl) 101 _ (by rfl) w.heap.size (by rfl) 101 _ (0, 0) _ HT1.out.box A32 (by rfl) (by exact S32) ?_) | (refine wpList_store_row (by rfl) 101 _ _ (by rfl) (w.heap.size + 1) (u32s V.list) (by rfl) (by rfl) _ _ HC.out (by exact S32) (by exact HC8.out) (u32s_one _) ?_))
      refine ret_row 4 (by kernel_rfl) (w.heap.size + 1) _ _ A32 S32 rfl (setRow_heap _ _ _ _ _ _ HC.out) rfl ⟨?_, ?_⟩
      · rw [HD.out, ← HVV.out]
      · exact Below.setRow HT1.out.below (by omega) _
    · have h64 : 64 ≤ ln := by omega
      have hX1 : X ≠ [] := by
        intro e
        have := congrArg List.length e
        simp only [List.length_nil] at this
        omega
      have hbw : Bytes wr q ln cp X := hb.later hT.below hb.lt
      obtain ⟨gb, ob, rfl, hx⟩ := hbw.ne hX1
      have HXX := Lib.hid hx
      have hlt : gb < w.heap.size := hb.lt gb ob rfl hX1
      have hcp : 64 ≤ cp := by omega
      clear hV hX hok hT hb hXl hm hsz hx hX1 hbw
      have hz := (zero_of_info Z62).1
      rcases Nat.lt_or_eq_of_le hcp with hcc | hcc
      · go_wp2_with fail
        refine (sched_any X HB1.out.ok (by have := HS.out; omega) gb ob cp (by omega) wr HXX.out).mono ?_
        rintro _ w2 ⟨rfl, hb2⟩
        have hTw : TA w (w2.alloc (.cells (u32s (Sm.sched X)) 122)) V gk := (HT1.out.later hb2).later ((Below.refl _ _).alloc (Nat.le_refl _) _)
        have HT2 := Lib.hid hTw
        have HB2 := Lib.hid hb2
        clear hTw hb2
        go_wp2_with (first | (refine wpList_store_row (by rfl) 122 _ _ (by rfl) w2.heap.size (u32s (Sm.sched X)) (by rfl) (by rfl) _ _ (heap_alloc_new _ _) (by rw [sched_size]; exact S62) (by rw [sched_size]; simp [u32s, zeros]) (u32s_one _) ?_; rw [setRow_alloc]) | (refine wpList_load_row (by rfl) 101 _ (by rfl) w.heap.size (by rfl) 101 _ (0, 0) _ HT2.out.box A32 (by rfl) (by exact S32) ?_))
        refine (turn_any V HO.out (Sm.sched X) Sm.ks (Sm.sched_ok HB1.out.ok) Sm.ks_ok (Sm.length_sched X) rfl w2.heap.size gk _ (heap_alloc_new _ _) HT2.out.ks).mono ?_
        rintro _ w4 ⟨rfl, hb4⟩
        have hT4 := HT2.out.later hb4
        have HT4 := Lib.hid hT4
        clear hT4 hb4
        go_wp2_with (refine wpList_store_row (by rfl) 101 _ _ (by rfl) w.heap.size (u32s (Sm.turn Sm.ks (Sm.sched X) V).list) (by rfl) (by rfl) _ _ HT4.out.box (by rw [size8]; exact S32) (by rw [size8, size8]) (u32s_one _) ?_)
        go_roundw
        case rel =>
          refine ⟨n + 1, _, _, _, by have := HXL.out; have := HS.out; omega, rfl, ?_, ?_⟩
          · rw [Sm.blocks, ← HVV.out, ← HX.out]; exact HT4.out.set _
          · have e : B.drop (64 * (n + 1)) = X.drop 64 := by rw [HX.out, List.drop_drop]; congr 1
            rw [e]
            exact HB1.out.drop64 (by omega)
        case measure => simp [lenOf]; omega
      · subst hcc
        obtain rfl : ln = 64 := by omega
        go_wp2_with fail
        refine (sched_any X HB1.out.ok (by have := HS.out; omega) gb ob 64 (by omega) wr HXX.out).mono ?_
        rintro _ w2 ⟨rfl, hb2⟩
        have hTw : TA w (w2.alloc (.cells (u32s (Sm.sched X)) 122)) V gk := (HT1.out.later hb2).later ((Below.refl _ _).alloc (Nat.le_refl _) _)
        have HT2 := Lib.hid hTw
        have HB2 := Lib.hid hb2
        clear hTw hb2
        go_wp2_with (first | (refine wpList_store_row (by rfl) 122 _ _ (by rfl) w2.heap.size (u32s (Sm.sched X)) (by rfl) (by rfl) _ _ (heap_alloc_new _ _) (by rw [sched_size]; exact S62) (by rw [sched_size]; simp [u32s, zeros]) (u32s_one _) ?_; rw [setRow_alloc]) | (refine wpList_load_row (by rfl) 101 _ (by rfl) w.heap.size (by rfl) 101 _ (0, 0) _ HT2.out.box A32 (by rfl) (by exact S32) ?_))
        refine (turn_any V HO.out (Sm.sched X) Sm.ks (Sm.sched_ok HB1.out.ok) Sm.ks_ok (Sm.length_sched X) rfl w2.heap.size gk _ (heap_alloc_new _ _) HT2.out.ks).mono ?_
        rintro _ w4 ⟨rfl, hb4⟩
        have hT4 := HT2.out.later hb4
        have HT4 := Lib.hid hT4
        clear hT4 hb4
        go_wp2_with (refine wpList_store_row (by rfl) 101 _ _ (by rfl) w.heap.size (u32s (Sm.turn Sm.ks (Sm.sched X) V).list) (by rfl) (by rfl) _ _ HT4.out.box (by rw [size8]; exact S32) (by rw [size8, size8]) (u32s_one _) ?_)
        go_roundw
        case rel =>
          refine ⟨n + 1, _, _, _, by have := HXL.out; have := HS.out; omega, rfl, ?_, ?_⟩
          · rw [Sm.blocks, ← HVV.out, ← HX.out]; exact HT4.out.set _
          · have e : B.drop (64 * (n + 1)) = X.drop 64 := by rw [HX.out, List.drop_drop]; congr 1
            rw [e]
            have e2 : X.drop 64 = [] := List.drop_eq_nil_of_le (by have := HS.out; omega)
            rw [e2]
            exact ⟨rfl, by omega, fun x hx => by simp at hx, Or.inr ⟨gb, ob, rfl, fun i hi => by simp at hi⟩⟩
        case measure => simp [lenOf]
end Go.Proofs.Ytlkeobohcfbgcaa

/- The contracts of sha.bigEnd and sha.bytesOf. -/
namespace Go.Proofs.Ytlkeobohcfbgcaa
open Go.RowKit

theorem A59 : Try.prog.underlying 105 = some (.array 8 5) := by kernel_rfl
theorem Z59 : (Try.prog.info? 105).map (fun i => (i.zero, i.size)) = some (some (.agg (u8s (zeros 8))), 8) := by kernel_rfl
theorem S59 : (Try.prog.info? 105).map (·.size) = some 8 := by kernel_rfl
/-- Two arrays of bytes that a call made: the one that it tells, and the one that it fills. -/
structure BF (T : TypeId) (N : Nat) (w wr : World) (r g : Nat) (L : List Nat) : Prop where
  below : Below w.heap.size w wr
  res : ∃ C, wr.heap[r]? = some (.cells C T (0, 0)) ∧ C.size = N
  row : wr.heap[g]? = some (.cells (u8s L) T (0, 0))
  lr : w.heap.size ≤ r
  lg : w.heap.size ≤ g
  ne : r ≠ g
theorem BF.store {T : TypeId} {N : Nat} {w wr : World} {r g : Nat} {p q : List Nat} {y : Nat} (h : BF T N w wr r g (p ++ y :: q)) (k : Nat) (hk : p.length = k) (x : Nat) :
    BF T N w (wr.setCell ⟨g, k, none⟩ (.int .u8 (x : Nat))) r g (p ++ x :: q) := by
  obtain ⟨C, hC, hC6⟩ := h.res
  refine ⟨h.below.setCell h.lg _, ⟨C, ?_, hC6⟩, ?_, h.lr, h.lg, h.ne⟩
  · rw [heap_setCell_other _ _ _ _ h.ne]; exact hC
  · rw [heap_setCell_same _ _ _ _ _ _ h.row, u8s_set p q y x k hk]
def bigsTo (n : Nat) : Nat → List Nat
  | 0 => []
  | k + 1 => bigsTo n k ++ [Sm.big n k]
theorem bigsTo_length (n k : Nat) : (bigsTo n k).length = k := by
  induction k with
  | zero => rfl
  | succ k ih => simp [bigsTo, ih]
def BigRel (w : World) (r g n : Nat) (i : Value) (wr : World) : Prop :=
  ∃ k : Nat, k ≤ 8 ∧ i = .int .i64 k ∧ BF 105 8 w wr r g (bigsTo n k ++ zeros (8 - k))
set_option maxRecDepth 100000 in
set_option maxHeartbeats 1000000 in
theorem bigEnd_any (n : Nat) (_hn : n < 18446744073709551616) (w : World) :
    Calls Try.prog 62 #[.int .u64 n] w fun e w' => e = .returned (.agg (u8s (Sm.bigs n))) ∧ Below w.heap.size w w' := by
  have hz := (zero_of_info Z59).1
  go_enter Try.func62, Try.ntmps62
  go_wp2_with fail
  generalize hWB : (w.alloc (.cells (u8s (zeros 8)) 105)).alloc (.cells (u8s (zeros 8)) 105) = WB
  have FB : BF 105 8 w WB w.heap.size (w.heap.size + 1) (zeros 8) := by
    subst hWB
    exact ⟨((Below.refl _ _).alloc (Nat.le_refl _) _).alloc (by simp) _, ⟨_, heap_alloc2_old w _ _, by simp [u8s, zeros]⟩, heap_alloc2_new w _ _, by omega, by omega, by omega⟩
  have FF := Lib.hid FB
  clear FB hWB hz
  go_loopw [5] (fun i wr => BigRel w w.heap.size (w.heap.size + 1) n i wr) (fun i _ => 8 - (intOf i).toNat)
  case atStart => exact ⟨0, by omega, rfl, FF.out⟩
  case round =>
    obtain ⟨k, hk, rfl, hs⟩ := hrel
    have HS := Lib.hid hs
    clear hs FF
    by_cases hlt : k < 8
    · have hst : wr.cell? ⟨w.heap.size + 1, k, none⟩ = some (.int .u8 ((bigsTo n k ++ zeros (8 - k)).getD k 0 : Nat)) := u8s_cell HS.out.row k (by simp [bigsTo_length, zeros]; omega)
      have hfr : wr.frozen? ⟨w.heap.size + 1, k, none⟩ = false := frozen_of_row wr _ k _ _ HS.out.row
      have HI : (0 : Int) ≤ 8 * (7 - k) ∧ 8 * (7 - (k : Int)) ≤ 64 := by omega
      go_wp2_with fail
      go_roundw
      case rel =>
        show BigRel _ _ _ _ _ _
        rw [show (n : Int) / 2 ^ (8 * (7 - k)) % 256 = ((Sm.big n k : Nat) : Int) from by
          unfold Sm.big; rw [Int.natCast_emod, Int.natCast_ediv, Int.natCast_pow]; rfl]
        refine ⟨k + 1, by omega, by go_num, ?_⟩
        have e : bigsTo n (k + 1) ++ zeros (8 - (k + 1)) = bigsTo n k ++ Sm.big n k :: zeros (8 - (k + 1)) := by
          rw [bigsTo, List.append_assoc]; rfl
        rw [e]
        refine BF.store (y := 0) ?_ k (bigsTo_length n k) _
        rw [show 8 - (k + 1) = 8 - k - 1 from by omega, ← zeros_succ (by omega)]
        exact HS.out
      case measure => simp [intOf]; omega
    · obtain rfl : k = 8 := by omega
      obtain ⟨C, hC, hC8⟩ := HS.out.res
      have HC := Lib.hid hC
      have HC8 := Lib.hid hC8
      clear hC hC8
      have hrow : wr.heap[w.heap.size + 1]? = some (.cells (u8s (Sm.bigs n)) 105 (0, 0)) := HS.out.row
      have HR := Lib.hid hrow
      clear hrow
      go_wp2_with (first | (refine wpList_load_row (by rfl) 105 _ (by rfl) (w.heap.size + 1) (by rfl) 105 _ (0, 0) _ HR.out A59 (by rfl) (by exact S59) ?_) | (refine wpList_store_row (by rfl) 105 _ _ (by rfl) w.heap.size (u8s (Sm.bigs n)) (by rfl) (by rfl) _ _ HC.out (by exact S59) (by exact HC8.out) (u8s_one _) ?_))
      refine ret_row 2 (by kernel_rfl) w.heap.size _ _ A59 S59 rfl (setRow_heap _ _ _ _ _ _ HC.out) rfl ⟨rfl, ?_⟩
      exact Below.setRow HS.out.below (Nat.le_refl _) _
theorem U31 : Try.prog.underlying 100 = some (.int .u32) := by kernel_rfl
theorem S31 : (Try.prog.info? 100).map (·.size) = some 1 := by kernel_rfl
def bytesTo (l : List Nat) : Nat → List Nat
  | 0 => []
  | k + 1 => bytesTo l k ++ Sm.bytes4 (l.getD k 0)
theorem bytesTo_length (l : List Nat) (k : Nat) : (bytesTo l k).length = 4 * k := by
  induction k with
  | zero => rfl
  | succ k ih => simp [bytesTo, ih, Sm.bytes4]; omega
def BOfRel (w : World) (r g : Nat) (l : List Nat) (i : Value) (wr : World) : Prop :=
  ∃ k : Nat, k ≤ 8 ∧ i = .int .i64 k ∧ BF 44 32 w wr r g (bytesTo l k ++ zeros (32 - 4 * k))
set_option maxRecDepth 100000 in
set_option maxHeartbeats 1000000 in
theorem bytesOf_any (v : Sm.V8) (hv : v.ok) (w : World) :
    Calls Try.prog 75 #[.agg (u32s v.list)] w fun e w' => e = .returned (.agg (u8s (Sm.bytesOf v))) ∧ Below w.heap.size w w' := by
  have hz := (zero_of_info Z25).1
  have HV := Lib.hid hv
  clear hv
  go_enter Try.func75, Try.ntmps75
  go_wp2_with (refine wpList_load_row (by rfl) 101 _ (by rfl) w.heap.size (by rfl) 101 _ (0, 0) _ ((Below.heap_alloc _ _ _ (by simp; omega)).trans (heap_alloc2_old w _ _)) A32 (by rfl) (by exact S32) ?_)
  generalize hWB : ((w.alloc (.cells (u32s v.list) 101)).alloc (.cells (u8s (zeros 32)) 44)).alloc (.cells (u8s (zeros 32)) 44) = WB
  have FB : BF 44 32 w WB (w.heap.size + 1) (w.heap.size + 2) (zeros 32) := by
    subst hWB
    refine ⟨(((Below.refl _ _).alloc (Nat.le_refl _) _).alloc (by simp) _).alloc (by simp; omega) _, ⟨_, (Below.heap_alloc _ _ _ (by simp)).trans (heap_alloc2_new w _ _), by simp [u8s, zeros]⟩, ?_, by omega, by omega, by omega⟩
    have := heap_alloc_new ((w.alloc (.cells (u32s v.list) 101)).alloc (.cells (u8s (zeros 32)) 44)) (.cells (u8s (zeros 32)) 44)
    rw [show ((w.alloc (.cells (u32s v.list) 101)).alloc (.cells (u8s (zeros 32)) 44)).heap.size = w.heap.size + 2 from by simp] at this
    exact this
  have FF := Lib.hid FB
  clear FB hWB hz
  go_simp
  go_loopw [7] (fun i wr => BOfRel w (w.heap.size + 1) (w.heap.size + 2) v.list i wr) (fun i _ => 8 - (intOf i).toNat)
  case atStart => exact ⟨0, by omega, rfl, FF.out⟩
  case round =>
    obtain ⟨k, hk, rfl, hs⟩ := hrel
    have HS := Lib.hid hs
    clear hs FF
    by_cases hlt : k < 8
    · have hix := fun w' => run_index_array A32 U31 rfl S31 (u32s v.list) k hlt _ (u32s_get v.list k (by simpa [Sm.V8.list] using hlt)) w'
      obtain ⟨x, hx⟩ : ∃ x, x = v.list.getD k 0 := ⟨_, rfl⟩
      rw [← hx] at hix
      have HX := Lib.hid hx
      clear hx
      have cl : ∀ i, i < 32 → wr.cell? ⟨w.heap.size + 2, i, none⟩ = some (.int .u8 ((bytesTo v.list k ++ zeros (32 - 4 * k)).getD i 0 : Nat)) := fun i hi => u8s_cell HS.out.row i (by simp [bytesTo_length, zeros]; omega)
      have fr : ∀ i, wr.frozen? ⟨w.heap.size + 2, i, none⟩ = false := fun i => frozen_of_row wr _ i _ _ HS.out.row
      have c0 := cl (4 * k) (by omega)
      have c1 := cl (4 * k + 1) (by omega)
      have c2 := cl (4 * k + 2) (by omega)
      have c3 := cl (4 * k + 3) (by omega)
      have f0 := fr (4 * k)
      have f1 := fr (4 * k + 1)
      have f2 := fr (4 * k + 2)
      have f3 := fr (4 * k + 3)
      clear cl fr
      go_wp2_with fail
      go_roundw
      case rel =>
        show BOfRel _ _ _ _ _ _
        have e0 : (x : Int) / 16777216 % 256 = ((x / 16777216 % 256 : Nat) : Int) := by omega
        have e1 : (x : Int) / 65536 % 256 = ((x / 65536 % 256 : Nat) : Int) := by omega
        have e2 : (x : Int) / 256 % 256 = ((x / 256 % 256 : Nat) : Int) := by omega
        have e3 : (x : Int) % 256 = ((x % 256 : Nat) : Int) := by omega
        rw [e0, e1, e2, e3]
        refine ⟨k + 1, by omega, by go_num, ?_⟩
        have e : bytesTo v.list (k + 1) ++ zeros (32 - 4 * (k + 1)) = (((bytesTo v.list k ++ [x / 16777216 % 256]) ++ [x / 65536 % 256]) ++ [x / 256 % 256]) ++ x % 256 :: zeros (32 - 4 * (k + 1)) := by
          rw [bytesTo, ← HX.out]; simp [Sm.bytes4]
        have hl := bytesTo_length v.list k
        rw [e]
        refine BF.store (y := 0) ?_ (4 * k + 3) (by simp [hl]) _
        rw [List.append_assoc]
        refine BF.store (y := 0) ?_ (4 * k + 2) (by simp [hl]) _
        rw [List.append_assoc]
        refine BF.store (y := 0) ?_ (4 * k + 1) (by simp [hl]) _
        rw [List.append_assoc]
        refine BF.store (y := 0) ?_ (4 * k) hl _
        have hz4 : (0 :: ([0] ++ (0 :: ([0] ++ zeros (32 - 4 * (k + 1)))))) = zeros (32 - 4 * k) := by
          rw [show 32 - 4 * k = (32 - 4 * (k + 1)) + 4 from by omega]; rfl
        first
          | (rw [show ∀ A : List Nat, A ++ 0 :: ([0] ++ 0 :: ([0] ++ zeros (32 - 4 * (k + 1)))) = A ++ zeros (32 - 4 * k) from fun A => by rw [← hz4]]; exact HS.out)
          | (have := HS.out; rw [← hz4] at this; simpa using this)
      case measure => simp [intOf]; omega
    · obtain rfl : k = 8 := by omega
      obtain ⟨C, hC, hC8⟩ := HS.out.res
      have HC := Lib.hid hC
      have HC8 := Lib.hid hC8
      clear hC hC8
      have hrow : wr.heap[w.heap.size + 2]? = some (.cells (u8s (Sm.bytesOf v)) 44 (0, 0)) := HS.out.row
      have HR := Lib.hid hrow
      clear hrow
      go_wp2_with (first | (refine wpList_load_row (by rfl) 44 _ (by rfl) (w.heap.size + 2) (by rfl) 44 _ (0, 0) _ HR.out A25 (by rfl) (by exact S25) ?_) | (refine wpList_store_row (by rfl) 44 _ _ (by rfl) (w.heap.size + 1) (u8s (Sm.bytesOf v)) (by rfl) (by rfl) _ _ HC.out (by exact S25) (by exact HC8.out) (u8s_one _) ?_))
      refine ret_row 2 (by kernel_rfl) (w.heap.size + 1) _ _ A25 S25 rfl (setRow_heap _ _ _ _ _ _ HC.out) rfl ⟨rfl, ?_⟩
      exact Below.setRow HS.out.below (by omega) _
end Go.Proofs.Ytlkeobohcfbgcaa

/- The contract of sha.filling. -/
namespace Go.Proofs.Ytlkeobohcfbgcaa
open Go.RowKit

theorem make_bytes (Z : Nat) (h : Z < 64) (w : World) : (Instr.makeSlice 36 (.int .u64 (1 + (Z : Nat))) (.int .u64 (1 + (Z : Nat) + 8))).run Try.prog w = .ok (.slice (some ⟨w.heap.size, 0, none⟩) (1 + Z) (1 + Z + 8)) (w.alloc (.cells (u8s (zeros (1 + Z + 8))) 5)) := by
  obtain ⟨i5, hi, hi0, hi1, hi2⟩ := info_parts I5
  have := run_make (P := Try.prog) w 36 5 i5 _ A22 hi hi0 .u64 .u64 (1 + (Z : Nat)) (1 + (Z : Nat) + 8) (by omega) (by omega) (by rw [hi2]; omega) (by omega)
  rw [this, hi1, made_zeros]
  have e1 : (1 + (Z : Int)).toNat = 1 + Z := by omega
  have e2 : (1 + (Z : Int) + 8).toNat = 1 + Z + 8 := by omega
  rw [e1, e2, Nat.mul_one]
theorem fill_ok (n : Nat) : Sm.allB (Sm.fill n) := by
  intro x hx
  simp only [Sm.fill, Sm.bigs, List.mem_cons, List.mem_append, List.mem_replicate, List.not_mem_nil, or_false] at hx
  rcases hx with rfl | ⟨_, rfl⟩ | rfl | rfl | rfl | rfl | rfl | rfl | rfl | rfl <;> first | omega | exact Sm.big_lt _ _
set_option maxRecDepth 100000 in
set_option maxHeartbeats 1000000 in
theorem filling_any (L : Nat) (hL : L < 1152921504606846976) (w : World) :
    Calls Try.prog 74 #[.int .u64 L] w fun e w' => ∃ len cap, e = .returned (.slice (some ⟨w.heap.size, 0, none⟩) len cap) ∧ Bytes w' (some ⟨w.heap.size, 0, none⟩) len cap (Sm.fill L) ∧ Below w.heap.size w w' := by
  obtain ⟨Z, hZ⟩ : ∃ Z, Z = (119 - L % 64) % 64 := ⟨_, rfl⟩
  have hZl : Z < 64 := by omega
  have hz1 : (119 - (L : Int) % 64) % 64 = (Z : Int) := by omega
  have hz2 : (119 - (L : Int)) % 64 = (Z : Int) := by omega
  have HZ := Lib.hid hZ
  clear hZ
  obtain ⟨i5, hi, hi0, hi1, hi2⟩ := info_parts I5
  have hmk := make_bytes Z hZl
  have HI := Lib.hid hi
  have HI0 := Lib.hid hi0
  have HI1 := Lib.hid hi1
  have HI2 := Lib.hid hi2
  clear hi hi0 hi1 hi2
  have hb0 : Below w.heap.size w (w.alloc (.cells (u8s (zeros (1 + Z + 8))) 5)) := (Below.refl _ _).alloc (Nat.le_refl _) _
  have hst : (w.alloc (.cells (u8s (zeros (1 + Z + 8))) 5)).cell? ⟨w.heap.size, 0, none⟩ = some (.int .u8 ((zeros (1 + Z + 8)).getD 0 0 : Nat)) := u8s_cell (heap_alloc_new _ _) 0 (by simp [zeros])
  have hfr : (w.alloc (.cells (u8s (zeros (1 + Z + 8))) 5)).frozen? ⟨w.heap.size, 0, none⟩ = false := frozen_of_row _ _ _ _ _ (heap_alloc_new _ _)
  go_enter Try.func74, Try.ntmps74
  go_wp2_with fail
  rw [show (8 * (L : Int)) = ((8 * L : Nat) : Int) from by omega]
  have e0 : (u8s (zeros (1 + Z + 8))).setIfInBounds 0 (.int .u8 128) = u8s (128 :: zeros (Z + 8)) := by
    have := u8s_set [] (zeros (Z + 8)) 0 128 0 rfl
    rw [show 1 + Z + 8 = (Z + 8) + 1 from by omega]
    exact this
  rw [e0]
  clear e0 hst hfr hb0 hmk hz1 hz2
  refine (bigEnd_any (8 * L) (by omega) _).mono ?_
  rintro _ w3 ⟨rfl, hb3⟩
  have hrow : w3.heap[w.heap.size]? = some (.cells (u8s (128 :: zeros (Z + 8))) 5 (0, 0)) := (hb3.block _ (by simp)).trans (heap_alloc_new _ _)
  have hbw : Below w.heap.size w w3 := ((Below.refl _ _).alloc (Nat.le_refl _) _).trans (hb3.mono (by simp))
  have hs3 : w.heap.size < w3.heap.size := (Array.getElem?_eq_some_iff.1 hrow).1
  have hown : (w3.alloc (.cells (u8s (Sm.bigs (8 * L))) 105)).ownsRow w.heap.size 5 1 (.slice (some ⟨w.heap.size, 0, none⟩) (1 + Z) (1 + Z + 8)) (1 + Z) (vals ((128 :: zeros (Z + 8)).take (1 + Z))) :=
    owns_mk ((Below.heap_alloc _ _ _ hs3).trans hrow) (by simp [zeros]; omega) (by omega) (by unfold maxLen; omega) (Nat.le_refl _)
  have HOWN := Lib.hid hown
  have HBW := Lib.hid hbw
  have HN := Lib.hid (heap_alloc_new w3 (.cells (u8s (Sm.bigs (8 * L))) 105))
  clear hown hbw hb3 hrow
  have hz := (zero_of_info Z59).1
  go_wp2_with (first | (refine wpList_store_row (by rfl) 105 _ _ (by rfl) w3.heap.size (u8s (Sm.bigs (8 * L))) (by rfl) (by rfl) _ _ (heap_alloc_new _ _) (by exact S59) (by simp [u8s, zeros]; rfl) (u8s_one _) ?_; rw [setRow_alloc]) | (at_builtin; refine wpList_append_fits _ (by rfl) (.tmp 21) (.tmp 22) 36 (by rfl) w.heap.size 5 i5 1 A22 HI.out HI1.out w.heap.size (1 + Z) (1 + Z + 8) _ (by rfl) HOWN.out ⟨w3.heap.size, 0, none⟩ 8 8 (vals (Sm.bigs (8 * L))) (by rfl) (by rfl) (cells_of_row HN.out) (vals_one _) (by omega) ?_; intro w5 hown5 hgrow5))
  have e : vals ((128 :: zeros (Z + 8)).take (1 + Z)) ++ vals (Sm.bigs (8 * L)) = vals (Sm.fill L) := by
    rw [Sm.fill, ← HZ.out]
    have : (128 :: zeros (Z + 8)).take (1 + Z) = 128 :: zeros Z := by
      rw [show 1 + Z = Z + 1 from by omega, List.take_succ_cons]
      simp [zeros]
    rw [this]
    simp [vals, zeros]
  rw [e] at hown5
  go_ret
  exact ⟨_, _, rfl, Bytes.of_owns hown5 (fill_ok L), (HBW.out.alloc HBW.out.size _).grown hgrow5 (by have := HBW.out.size; simp; omega) (fun k hk => by simp at hk; omega)⟩
end Go.Proofs.Ytlkeobohcfbgcaa

/- Rows of a struct's cells: parts of a row, a part put anew; and what a State holds. -/
namespace Go.Proofs.Ytlkeobohcfbgcaa
open Go.RowKit

def w32 (l : List Nat) : List Value := l.map fun x => Value.int .u32 (x : Nat)
theorem w32_toArray (l : List Nat) : (w32 l).toArray = u32s l := rfl
/-- The cells of a State. -/
def stL (v : Sm.V8) (bl : List Nat) (L : Nat) : List Value := w32 v.list ++ vals bl ++ [.int .u64 (L : Nat)]
/-- A state to which the bytes T were written. -/
structure Held (T : List Nat) (v : Sm.V8) (bl : List Nat) : Prop where
  ok : Sm.allB T
  vok : v.ok
  lt : T.length < 1152921504606846976
  words : T ≠ [] → v = Sm.blocks T Sm.first (T.length / 64)
  size : bl.length = 64
  bok : Sm.allB bl
  block : bl.take (T.length % 64) = T.drop (64 * (T.length / 64))
def StateAt (w : World) (g : Nat) (T : List Nat) : Prop :=
  ∃ v bl, Held T v bl ∧ w.heap[g]? = some (.cells (stL v bl T.length).toArray 103 (0, 0))
end Go.Proofs.Ytlkeobohcfbgcaa

/- More plain mathematics of SHA-256: blocks of a text that goes on. -/
namespace Go.Proofs.Ytlkeobohcfbgcaa.Sm
theorem word_congr {X Y : List Nat} (h : ∀ i, i < 64 → X.getD i 0 = Y.getD i 0) (i : Nat) (hi : i < 16) : word X i = word Y i := by
  unfold word
  rw [h _ (by omega), h _ (by omega), h _ (by omega), h _ (by omega)]
theorem words_congr {X Y : List Nat} (h : ∀ i, i < 64 → X.getD i 0 = Y.getD i 0) (n : Nat) (hn : n ≤ 16) : words X n = words Y n := by
  induction n with
  | zero => rfl
  | succ n ih => rw [words, words, ih (by omega), word_congr h n (by omega)]
theorem sched_congr {X Y : List Nat} (h : ∀ i, i < 64 → X.getD i 0 = Y.getD i 0) : sched X = sched Y := by
  unfold sched
  rw [words_congr h 16 (by omega)]
/-- Only the bytes of the full blocks count. -/
theorem blocks_congr {X Y : List Nat} (v : V8) (n : Nat) (h : ∀ i, i < 64 * n → X.getD i 0 = Y.getD i 0) : blocks X v n = blocks Y v n := by
  induction n with
  | zero => rfl
  | succ n ih =>
    rw [blocks, blocks, ih (fun i hi => h i (by omega))]
    rw [sched_congr (X := X.drop (64 * n)) (Y := Y.drop (64 * n)) (fun i hi => by rw [getD_drop, getD_drop]; exact h _ (by omega))]
theorem blocks_take (B : List Nat) (v : V8) (n F : Nat) (h : 64 * n ≤ F) : blocks (B.take F) v n = blocks B v n :=
  blocks_congr v n fun i hi => getD_take B F i (by omega)
theorem blocks_app (T B : List Nat) (v : V8) (n : Nat) (h : 64 * n ≤ T.length) : blocks (T ++ B) v n = blocks T v n :=
  blocks_congr v n fun i hi => getD_app_left T B i (by omega)
theorem blocks_add (T B : List Nat) (v : V8) (q n : Nat) (h : T.length = 64 * q) : blocks (T ++ B) v (q + n) = blocks B (blocks T v q) n := by
  induction n with
  | zero => exact blocks_app T B v q (by omega)
  | succ n ih =>
    rw [show q + (n + 1) = (q + n) + 1 from rfl, blocks, ih, blocks]
    rw [show (T ++ B).drop (64 * (q + n)) = B.drop (64 * n) from by
      rw [show 64 * (q + n) = T.length + 64 * n from by omega, List.drop_append, List.drop_eq_nil_of_le (by omega)]
      simp]
end Go.Proofs.Ytlkeobohcfbgcaa.Sm
