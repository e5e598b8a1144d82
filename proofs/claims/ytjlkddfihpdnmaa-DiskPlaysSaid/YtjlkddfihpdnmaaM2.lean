/- DkLandC, DkWrite, DkRefAny, DkAlive, GenTxRow, DkOps, DkMore, DkBoth, DkRound. -/
import Derived.Test.YtjlkddfihpdnmaaM1
import Derived.Deep.RegionHeld3
import Derived.OpenShut
import Derived.Deep.Slices
/- Package disk, as it landed: alive, spend, Read, Write. -/
namespace Go.Proofs.Ytjlkddfihpdnmaa.Dk
open Go.RowKit

/-- A disk whose fuse burnt by one write. -/
def D.spent (s : D) : D := { s with dead := decide (s.left = 0), left := if s.left = 0 then -1 else if s.left > 0 then s.left - 1 else s.left }
theorem D.spent_ok {s : D} (h : s.ok) : s.spent.ok := ⟨h.len, h.bytes, h.small, h.torn, by
  have := h.left
  simp only [D.spent]
  split
  · omega
  · split <;> omega⟩
def SpendPost (w : World) (g : Nat) (p : Option Addr) (c : Nat) (E : List Value) (s : D) (e : Ending) (w' : World) : Prop :=
  e = .returned (.int .i64 (s.many : Nat)) ∧ (∃ lit whole torn, DAt w' g p c E lit whole torn s.spent) ∧ Only (fun k => k = g) w w'
set_option maxRecDepth 100000 in
set_option maxHeartbeats 1000000 in
theorem spend_any {w : World} {g : Nat} {p : Option Addr} {c : Nat} {E : List Value} {lit : Bool} {whole torn : Int} {s : D} (h : DAt w g p c E lit whole torn s) (hd : s.dead = false) :
    Calls Try.prog 27 #[.pointer (some ⟨g, 0, none⟩)] w (SpendPost w g p c E s) := by
  obtain ⟨hlit, hwt⟩ := h.burn hd
  have hok := D.spent_ok h.ok
  have hleft := h.ok.left
  have c1 := h.c1
  have c2 := h.c2
  have c3 := h.c3
  have c4 := h.c4
  have f2 := h.fz 2
  have f4 := h.fz 4
  by_cases hneg : s.left < 0
  · have e1 : lit = false := by rw [hlit]; exact decide_eq_false (by omega)
    have hs : s.spent = s := by
      obtain ⟨L, n, dead, left, t, wr⟩ := s
      simp only at hneg hd
      simp only [D.spent, hd]
      rw [if_neg (by omega), if_neg (by omega), decide_eq_false (by omega)]
    have hm : s.many = 64 := by simp only [D.many]; rw [if_neg (by omega)]
    have H := Lib.hid (show SpendPost w g p c E s (.returned (.int .i64 64)) w from ⟨by rw [hm]; rfl, ⟨lit, whole, torn, by rw [hs]; exact h⟩, Only.refl _ _⟩)
    rw [e1] at c1
    clear h hlit hwt hok hleft hneg e1 hs hm hd c2 c3 c4 f2 f4
    go_enter Try.func27, Try.ntmps27
    go_wp2_with fail
    go_ret
    exact H.out
  · have e1 : lit = true := by rw [hlit]; exact decide_eq_true (by omega)
    obtain ⟨rfl, rfl⟩ := hwt (by omega)
    rw [e1] at c1
    by_cases h0 : s.left = 0
    · have hm : s.many = s.torn := by simp only [D.many]; rw [if_pos h0]
      have hs : s.spent = { s with dead := true, left := -1 } := by simp only [D.spent]; rw [if_pos h0, decide_eq_true h0]
      have r1 : (w.setCell ⟨g, 4, none⟩ (.bool true)).heap[g]? = some (.cells (rowOf p s.n c lit s.left s.torn true s.writes) 55 (0, 0)) := heap_setCell_same w g 4 _ _ (.bool true) h.row
      have o1 := Only.setCell (P := fun k => k = g) w (a := ⟨g, 4, none⟩) rfl (.bool true)
      have H := Lib.hid (show SpendPost w g p c E s (.returned (.int .i64 s.torn)) _ from ⟨by rw [hm], ⟨lit, s.left, s.torn, h.turn r1 o1 (by rw [hs]) (by rw [hs]) (by rw [hs]) (by rw [hs]) (fun e => by rw [hs] at e; cases e) hok⟩, o1⟩)
      have c3' : (w.setCell ⟨g, 4, none⟩ (.bool true)).cell? ⟨g, 3, none⟩ = some (.int .i64 s.torn) := (cell_of_row _ g 3 _ _ _ r1).trans rfl
      rw [h0] at c2
      clear h hlit hwt hok hleft hneg e1 hs hm hd r1 o1 h0
      go_enter Try.func27, Try.ntmps27
      go_wp2_with fail
      go_ret
      exact H.out
    · have hpos : s.left > 0 := by omega
      have hm : s.many = 64 := by simp only [D.many]; rw [if_neg h0]
      have hs : s.spent = { s with dead := s.dead, left := s.left - 1 } := by simp only [D.spent]; rw [if_neg h0, if_pos hpos, decide_eq_false h0, hd]
      have r1 : (w.setCell ⟨g, 2, none⟩ (.int .i64 (s.left - 1))).heap[g]? = some (.cells (rowOf p s.n c lit (s.left - 1) s.torn s.dead s.writes) 55 (0, 0)) := heap_setCell_same w g 2 _ _ (.int .i64 (s.left - 1)) h.row
      have o1 := Only.setCell (P := fun k => k = g) w (a := ⟨g, 2, none⟩) rfl (.int .i64 (s.left - 1))
      have H := Lib.hid (show SpendPost w g p c E s (.returned (.int .i64 64)) _ from ⟨by rw [hm]; rfl, ⟨lit, s.left - 1, s.torn, h.turn r1 o1 (by rw [hs]) (by rw [hs]) (by rw [hs]) (by rw [hs]) (fun _ => by rw [hs]; exact ⟨by rw [e1]; exact (decide_eq_true (show (0 : Int) ≤ s.left - 1 by omega)).symm, fun _ => ⟨rfl, rfl⟩⟩) hok⟩, o1⟩)
      have q1 : IntKind.i64.wrap (s.left - 1) = s.left - 1 := IntWalk.i64_in _ (by omega)
      clear h hlit hwt hok hleft hneg e1 hs hm hd r1 o1 h0
      go_enter Try.func27, Try.ntmps27
      go_wp2_with fail
      go_ret
      exact H.out
/-- What may not be done. -/
theorem no_cases {s : D} {i : Int} {m : Nat} : (s.dead = true ∧ s.no i m = 30) ∨ (s.dead = false ∧ i < 0 ∧ s.no i m = 9) ∨ (s.dead = false ∧ 0 ≤ i ∧ (s.n : Int) ≤ i ∧ s.no i m = 9) ∨ (s.dead = false ∧ 0 ≤ i ∧ i < s.n) := by
  cases hd : s.dead with
  | true => exact Or.inl ⟨rfl, by simp [D.no, hd]⟩
  | false =>
    by_cases h1 : i < 0
    · exact Or.inr (Or.inl ⟨rfl, h1, by simp [D.no, hd, h1]⟩)
    · by_cases h2 : (s.n : Int) ≤ i
      · exact Or.inr (Or.inr (Or.inl ⟨rfl, by omega, h2, by simp [D.no, hd, h2]⟩))
      · exact Or.inr (Or.inr (Or.inr ⟨rfl, by omega, by omega⟩))
set_option maxRecDepth 100000 in
set_option maxHeartbeats 1000000 in
theorem alive_no {w : World} {g : Nat} {p : Option Addr} {c : Nat} {E : List Value} {lit : Bool} {whole torn : Int} {s : D} (h : DAt w g p c E lit whole torn s) (i : Int) (m : Nat) (F : Nat) (cap : Array Value) (hno : s.dead = true ∨ i < 0 ∨ (s.n : Int) ≤ i) :
    Calls Try.prog 24 #[.pointer (some ⟨g, 0, none⟩), .int .i64 i, .func (.func F) #[] cap] w fun e w' => e = .returned (.int .i64 (s.no i m)) ∧ w' = w := by
  have c0 := h.c0
  have c4 := h.c4
  clear h
  rcases no_cases (s := s) (i := i) (m := m) with ⟨hd, hn⟩ | ⟨hd, h1, hn⟩ | ⟨hd, h1, h2, hn⟩ | ⟨hd, h1, h2⟩
  · rw [hd] at c4
    rw [hn]
    clear hno hn hd
    go_enter Try.func24, Try.ntmps24
    go_wp2_with fail
    go_ret
    exact ⟨rfl, rfl⟩
  · rw [hd] at c4
    rw [hn]
    clear hno hn hd
    go_enter Try.func24, Try.ntmps24
    go_wp2_with fail
    go_ret
    exact ⟨rfl, rfl⟩
  · rw [hd] at c4
    rw [hn]
    have h1' : ¬ i < 0 := by omega
    have h2' : i ≥ (s.n : Int) := h2
    clear hno hn hd
    go_enter Try.func24, Try.ntmps24
    go_wp2_with fail
    go_ret
    exact ⟨rfl, rfl⟩
  · exfalso
    rcases hno with e | e | e
    · rw [hd] at e; cases e
    · omega
    · omega
set_option maxRecDepth 100000 in
set_option maxHeartbeats 1000000 in
theorem alive_do {w : World} {g q : Nat} {c : Nat} {E : List Value} {lit : Bool} {whole torn : Int} {s : D} (h : DAt w g (some ⟨q, 0, none⟩) c E lit whole torn s) (j : Nat) (hd : s.dead = false) (hj : j < s.n) (F : Nat) (cap : Array Value) (v : Int) (R : World → Prop) (hF : ∀ args w, (callFunc F args).run Try.prog w = .ok (.enter F args) w)
    (hC : Calls Try.prog F (#[.pointer (some ⟨q, j * 64, none⟩)] ++ cap) w fun e w' => e = .returned (.int .i64 v) ∧ R w') :
    Calls Try.prog 24 #[.pointer (some ⟨g, 0, none⟩), .int .i64 j, .func (.func F) #[] cap] w fun e w' => e = .returned (.int .i64 v) ∧ R w' := by
  have c0 := h.c0
  have c4 := h.c4
  rw [hd] at c4
  have hn := h.ok.small
  have l1 : (j : Int) < s.n := by omega
  have l2 : ¬ (j : Int) < 0 := by omega
  have i1 : (0 : Int) ≤ j ∧ (j : Int) < s.n := by omega
  have HC := Lib.hid hC
  clear hC h hd
  go_enter Try.func24, Try.ntmps24
  go_wp2_with (refine HC.out.mono ?_; rintro e w' ⟨rfl, hr⟩)
  go_ret
  exact ⟨rfl, hr⟩
/-- Bytes that an append made are one's own. -/
theorem mine_of_owns {w : World} {base n : Nat} {v : Value} {B : List Nat} (h : w.ownsRow base 5 1 v n (vals B)) (hB : Sm.allB B) (hn : n ≠ 0) : ∃ g c, v = .slice (some ⟨g, 0, none⟩) n c ∧ base ≤ g ∧ g < w.heap.size ∧ Mine w base (some ⟨g, 0, none⟩) n c B := by
  have hl : n = B.length := by have := h.1; rw [vals_length, Nat.mul_one] at this; exact this.symm
  rcases h.2 with ⟨_, h0⟩ | ⟨g, c, cur, rfl, hb, hg, hc, _, _, ht⟩
  · exact absurd h0 hn
  · refine ⟨g, c, rfl, hb, (Array.getElem?_eq_some_iff.1 hg).1, hl, hc, hB, Or.inr ⟨g, 0, _, cur, rfl, hb, hg, fun i hi => ?_⟩⟩
    have e := congrArg (fun l => l[i]?) ht
    rw [vals_get B i (by omega), List.getElem?_take_of_lt (by omega)] at e
    rw [Nat.zero_add, ← Array.getElem?_toList]
    exact e
set_option maxRecDepth 100000 in
set_option maxHeartbeats 1000000 in
/-- The bytes of a sector are laid behind a list that holds none. -/
theorem read_do (q j b : Nat) (S : List Nat) (w : World) (hb : w.cell? ⟨b, 0, none⟩ = some (.slice none 0 0)) (hf : w.frozen? ⟨b, 0, none⟩ = false) (hr : w.rangeAt q (j * 64) (vals S)) (hS : S.length = 64) (hok : Sm.allB S) :
    Calls Try.prog 25 #[.pointer (some ⟨q, j * 64, none⟩), .pointer (some ⟨b, 0, none⟩)] w fun e w' => e = .returned (.int .i64 0) ∧ ∃ p c, w'.cell? ⟨b, 0, none⟩ = some (.slice p 64 c) ∧ Mine w' w.heap.size p 64 c S ∧ Only (fun k => k = b) w w' := by
  have hlt := block_lt_of_cell hb
  have HR := Lib.hid hr
  have HS := Lib.hid hS
  have HVS := Lib.hid (show (vals S).length = 64 from by rw [vals_length, hS])
  have HOK := Lib.hid hok
  clear hr hS hok
  obtain ⟨i5, hi, hi0, hi1, hi2⟩ := info_parts I5
  have HI := Lib.hid hi
  have HI0 := Lib.hid hi0
  have HI1 := Lib.hid hi1
  have HI2 := Lib.hid hi2
  clear hi hi0 hi1 hi2
  go_enter Try.func25, Try.ntmps25
  go_upto_region 1 with fail
  go_still_tail 4, (by kernel_rfl)
  rw [show (⟨w.heap, w.tape, w.drawn + 1, w.os, w.output⟩ : World) = w.drew from rfl]
  have HRD := Lib.hid (show ∀ jj u, (vals S)[jj]? = some u → w.drew.cell? ((⟨q, j * 64, none⟩ : Addr).add jj) = some u from fun jj u hu => by rw [Addr.add_mid]; exact HR.out jj u hu)
  have HBD := Lib.hid (show w.drew.cell? ⟨b, 0, none⟩ = some (.slice none 0 0) ∧ w.drew.frozen? ⟨b, 0, none⟩ = false ∧ b < w.drew.heap.size from ⟨hb, hf, hlt⟩)
  have HOO := Lib.hid (Only.of_below (fun k => k = b) (Below.refl w.heap.size w).drew)
  have HSZ := Lib.hid (show w.drew.heap.size = w.heap.size from rfl)
  generalize w.drew = wd at *
  clear hb hf hlt
  go_wp2_with (at_builtin; refine wpList_append_own_at _ (by rfl) (.tmp 4) (.tmp 7) 31 (by rfl) w.heap.size 5 i5 (.int .u8 0) 1 1 A22 HI.out HI0.out HI1.out HI2.out (by rfl) (by decide) _ 0 _ (by rfl) (World.ownsRow_nil wd w.heap.size 5 1) ⟨q, j * 64, none⟩ 64 64 (vals S) (by rfl) HVS.out HRD.out (vals_one _) (by unfold maxLen; omega) (by omega) (Nat.le_of_eq HSZ.out.symm) ?_; intro v7 w7 hown7 hgrow7 _ _; obtain ⟨g7, c7, rfl, hb7, hl7, hm7⟩ := mine_of_owns (n := 64) (by rw [Nat.zero_add, List.nil_append] at hown7; exact hown7) HOK.out (by omega); have M7 := Lib.hid hm7; have N7 := Lib.hid (show b ≠ g7 ∧ g7 < w7.heap.size from ⟨fun e => by have := HBD.out.2.2; have := HSZ.out; omega, hl7⟩); have O7 := Lib.hid (HOO.out.trans (show Only (fun k => k = b) wd w7 from ⟨hgrow7.os, hgrow7.tape, hgrow7.output, hgrow7.size, fun k hk _ => hgrow7.block k hk (by simp [Value.ownBlock])⟩)); have cb7 : w7.cell? ⟨b, 0, none⟩ = some (.slice none 0 0) := (World.cell?_of_block (w := wd) (hgrow7.block b HBD.out.2.2 (by simp [Value.ownBlock]))).trans HBD.out.1; have fb7 : w7.frozen? ⟨b, 0, none⟩ = false := (World.frozen?_of_block (w := wd) (hgrow7.block b HBD.out.2.2 (by simp [Value.ownBlock]))).trans HBD.out.2.1; clear hown7 hgrow7 hm7 hl7 hb7)
  go_ret
  refine ⟨rfl, _, c7, World.cell?_setCell_same _ _ _ cb7, ?_, O7.out.trans (Only.setCell (P := fun k => k = b) w7 (a := ⟨b, 0, none⟩) rfl _)⟩
  have m := M7.out
  exact ⟨m.size, m.le, m.ok, m.at'.imp id fun ⟨g, o, t, C, hp, hb, hh, hc⟩ => ⟨g, o, t, C, hp, hb, (heap_setCell_other _ _ _ _ (fun e => by cases hp; exact N7.out.1 e.symm)).trans hh, hc⟩⟩
theorem Mine.wider {w : World} {base base' : Nat} {p : Option Addr} {n c : Nat} {B : List Nat} (h : Mine w base p n c B) (hb : base' ≤ base) : Mine w base' p n c B :=
  ⟨h.size, h.le, h.ok, h.at'.imp id fun ⟨g, o, t, C, hp, hbase, r⟩ => ⟨g, o, t, C, hp, Nat.le_trans hb hbase, r⟩⟩
set_option maxRecDepth 100000 in
set_option maxHeartbeats 1000000 in
theorem read_any {w : World} {g : Nat} {P : Nat → Prop} {s : D} (i : Int) (h : PD w g P s) :
    Calls Try.prog 15 #[.pointer (some ⟨g, 0, none⟩), .int .i64 i] w fun e w' => ∃ p n c, e = .returned (.tuple #[.slice p n c, .int .i64 (s.no i 64)]) ∧ Mine w' w.heap.size p n c (s.gives i) ∧ Below w.heap.size w w' := by
  obtain ⟨p, c, E, lit, whole, torn, h, hP⟩ := h
  have hb := (Below.refl w.heap.size w).alloc (Nat.le_refl _) (.cells #[.slice none 0 0] 31)
  have h1 := h.keep (Q := fun _ => False) (Only.of_below _ hb) (fun e => e) (fun _ _ e => e)
  have r1 := heap_alloc_new w (.cells #[.slice none 0 0] 31)
  have HD := Lib.hid h1
  have HB := Lib.hid hb
  by_cases hno : s.dead = true ∨ i < 0 ∨ (s.n : Int) ≤ i
  · have hne : s.no i 64 ≠ 0 := by
      rcases no_cases (s := s) (i := i) (m := 64) with ⟨hd, hn⟩ | ⟨hd, h1, hn⟩ | ⟨hd, h1, h2, hn⟩ | ⟨hd, h1, h2⟩
      · omega
      · omega
      · omega
      · rcases hno with e | e | e
        · rw [hd] at e; cases e
        · omega
        · omega
    have HG := Lib.hid (show s.gives i = [] from by unfold D.gives; rw [if_neg hne])
    have HC := Lib.hid (alive_no h1 i 64 25 #[.pointer (some ⟨w.heap.size, 0, none⟩)] hno)
    have c1 := cell_of_row _ w.heap.size 0 _ _ _ r1
    clear h h1 hP hno hne hb r1
    go_enter Try.func15, Try.ntmps15
    go_wp2_with (refine HC.out.mono ?_; rintro e w' ⟨rfl, rfl⟩)
    go_ret2
    refine ⟨_, _, _, rfl, ?_, HB.out⟩
    rw [HG.out]
    exact ⟨rfl, Nat.le_refl _, (fun x hx => by cases hx), Or.inl ⟨rfl, rfl⟩⟩
  · obtain ⟨j, rfl⟩ : ∃ j : Nat, i = j := ⟨i.toNat, by omega⟩
    have hj : j < s.n := by omega
    have hd : s.dead = false := by cases hd : s.dead with
      | true => exact absurd (Or.inl hd) hno
      | false => rfl
    have HN := Lib.hid (show s.no j 64 = 0 from by simp [D.no, hd]; omega)
    have HG := Lib.hid (show s.gives j = sect s j from by unfold D.gives; rw [if_pos HN.out]; rfl)
    obtain ⟨q, rfl, hr⟩ := h1.range hj
    rw [Nat.mul_comm] at hr
    have c1 := cell_of_row _ w.heap.size 0 _ _ _ r1
    have HC := Lib.hid (alive_do h1 j hd hj 25 #[.pointer (some ⟨w.heap.size, 0, none⟩)] 0 _ (enter_side Try.func25 (by kernel_rfl) rfl) (read_do q j w.heap.size (sect s j) _ c1 (frozen_of_row _ _ _ _ _ r1) hr (h.ok.sect_length hj) (h.ok.sect_ok j)))
    clear h h1 hP hno hb r1 hr hd
    rw [HN.out, HG.out]
    go_enter Try.func15, Try.ntmps15
    go_wp2_with (refine HC.out.mono ?_; rintro e w' ⟨rfl, p', c', hc', hm', ho'⟩; have HM := Lib.hid hm'; have HO := Lib.hid ho'; clear hm' ho')
    go_ret2
    exact ⟨_, _, _, rfl, HM.out.wider HB.out.size, HB.out.trans (HO.out.below HB.out.size (fun k e => Nat.le_of_eq e.symm))⟩
section
variable {w : World} {g q : Nat} {c : Nat} {E : List Value} {lit : Bool} {whole torn : Int} {s : D}
theorem over_vals (L : List Nat) (o : Nat) (P : List Nat) (E : List Value) : vals (over L o P) ++ E = vals (L.take o) ++ vals P ++ (vals (L.drop (o + P.length)) ++ E) := by
  simp only [over, vals_append, List.append_assoc]
/-- The first bytes of a sector are written over. -/
theorem DAt.patch (h : DAt w g (some ⟨q, 0, none⟩) c E lit whole torn s) {j : Nat} (hj : j < s.n) {B : List Nat} (hl : B.length ≤ 64) (hB : Sm.allB B) :
    DAt (w.setCells q (64 * j) (vals B)) g (some ⟨q, 0, none⟩) c E lit whole torn { s with L := over s.L (64 * j) B } ∧ Only (fun k => k = g ∨ k = q) w (w.setCells q (64 * j) (vals B)) := by
  have hlen := h.ok.len
  rcases h.sec with ⟨e, _⟩ | ⟨q', hq, hne, hh⟩
  · cases e
  · cases hq
    have e1 : vals s.L ++ E = vals (s.L.take (64 * j)) ++ vals ((s.L.drop (64 * j)).take B.length) ++ (vals (s.L.drop (64 * j + B.length)) ++ E) := by
      rw [← List.append_assoc, ← vals_append, ← vals_append]
      congr 2
      rw [← List.drop_drop, List.append_assoc, List.take_append_drop, List.take_append_drop]
    rw [e1] at hh
    have h2 := heap_setCells_same q _ (vals B) _ _ _ w hh (by simp only [vals_length, List.length_take, List.length_drop]; omega)
    rw [vals_length, List.length_take, Nat.min_eq_left (by omega), ← over_vals] at h2
    exact ⟨⟨(heap_setCells_other q _ _ w g (fun e => hne e.symm)).trans h.row, Or.inr ⟨q, rfl, hne, h2⟩, h.burn, ⟨(over_length (by omega)).trans hlen, over_ok h.ok.bytes hB, h.ok.small, h.ok.torn, h.ok.left⟩⟩, only_setCells w (Or.inr rfl) _ _⟩
/-- One more write. -/
theorem DAt.count {p : Option Addr} (h : DAt w g p c E lit whole torn s) : DAt (w.setCell ⟨g, 5, none⟩ (.int .i64 ((s.writes + 1 : Nat) : Int))) g p c E lit whole torn { s with writes := s.writes + 1 } ∧ Only (fun k => k = g) w (w.setCell ⟨g, 5, none⟩ (.int .i64 ((s.writes + 1 : Nat) : Int))) :=
  have ho := Only.setCell (P := fun k => k = g) w (a := ⟨g, 5, none⟩) rfl (.int .i64 ((s.writes + 1 : Nat) : Int))
  ⟨h.turn (heap_setCell_same w g 5 _ _ (.int .i64 ((s.writes + 1 : Nat) : Int)) h.row) ho rfl rfl rfl rfl h.burn ⟨h.ok.len, h.ok.bytes, h.ok.small, h.ok.torn, h.ok.left⟩, ho⟩
end
/-- What a write leaves. -/
def WrPost (w : World) (g q c : Nat) (E : List Value) (s : D) (w' : World) : Prop := (∃ lit whole torn, DAt w' g (some ⟨q, 0, none⟩) c E lit whole torn s) ∧ Only (fun k => k = g ∨ k = q) w w'
theorem D.many_le {s : D} (h : s.ok) : s.many ≤ 64 := by
  have := h.torn
  unfold D.many
  split <;> omega
theorem slice_sect (q o m : Nat) (h : m ≤ 64) (w : World) : (Instr.sliceAt 60 (.pointer (some ⟨q, o, none⟩)) none (some (.int .i64 (m : Int))) none).run Try.prog w = .ok (.slice (some ⟨q, o, none⟩) m 64) w := by
  have hl : Try.prog.arrayLen 60 = 64 := by simp [Program.arrayLen]
  have he : Try.prog.elem 60 = 5 := by simp [Program.elem]
  have h1 := run_sliceAt_array_h (P := Try.prog) w 60 ⟨q, o, none⟩ (by rw [hl, he]; exact UA) .i64 m (by omega) (by rw [hl]; omega)
  obtain ⟨i5, hi, _, hi1, _⟩ := info_parts I5
  have hs : (sizeOf 5).run Try.prog w = .ok 1 w := by simp [sizeOf, typeInfo, hi, hi1]
  rw [h1, hl, he, hs]
  simp [slicedAt, Addr.add_mid]
theorem copy_sect {w : World} {g q c : Nat} {E : List Value} {lit : Bool} {whole torn : Int} {s : D} (h : DAt w g (some ⟨q, 0, none⟩) c E lit whole torn s) {j : Nat} (hj : j < s.n) {x : Addr} {cp : Nat} {B : List Nat} (hT : Tx w (some x) 64 cp B) (m : Nat) (hm : m ≤ 64) :
    (Builtin.copy_ #[31, 31] 3 #[.slice (some ⟨q, j * 64, none⟩) m 64, .slice (some x) 64 cp]).run Try.prog w = .ok (goInt (m : Nat)) (w.setCells q (64 * j) (vals (B.take m))) := by
  have hB := hT.size
  have hlen := h.ok.len
  have hl : (vals (B.take m)).length = m := by simp [vals]; omega
  obtain ⟨q', hq, _, hh⟩ := h.sector hj
  cases hq
  have ht := there_row hh (64 * j) 64 (by simp [vals_length, List.length_take, List.length_drop, sect]; omega)
  have := run_copy_cells (P := Try.prog) w 31 31 3 5 q (64 * j) m 64 x 64 cp (vals (B.take m)) A22 E5 (by rw [hl]; exact (Nat.min_eq_right hm).symm) (fun i v hv => hT.cells i v (by
      have hi : i < (vals (B.take m)).length := (List.getElem?_eq_some_iff.1 hv).1
      rw [hl] at hi
      rw [vals_get _ _ (by rw [List.length_take]; omega)] at hv
      rw [vals_get _ _ (by omega), ← hv]
      simp [List.getD_eq_getElem?_getD, hi])) (fun i hi => (ht i (by omega)).1) (fun i hi => (ht i (by omega)).2) (vals_one _)
  rw [hl] at this
  rw [Nat.mul_comm j 64]
  exact this
set_option maxRecDepth 100000 in
set_option maxHeartbeats 4000000 in
theorem write_do {w : World} {g q c : Nat} {E : List Value} {lit : Bool} {whole torn : Int} {s : D} (h : DAt w g (some ⟨q, 0, none⟩) c E lit whole torn s) (j bb db : Nat) (p : Option Addr) (n cp : Nat) (B : List Nat) (hd : s.dead = false) (hj : j < s.n) (hw : s.writes < 1000000)
    (hb : w.cell? ⟨bb, 0, none⟩ = some (.slice p n cp)) (hdb : w.cell? ⟨db, 0, none⟩ = some (.pointer (some ⟨g, 0, none⟩))) (hbb : bb ≠ g ∧ bb ≠ q) (hdd : db ≠ g ∧ db ≠ q) (hT : Tx w p n cp B) (hp : ∀ x, p = some x → x.block ≠ g ∧ x.block ≠ q) :
    Calls Try.prog 26 #[.pointer (some ⟨q, j * 64, none⟩), .pointer (some ⟨bb, 0, none⟩), .pointer (some ⟨db, 0, none⟩)] w fun e w' => e = .returned (.int .i64 (s.says j n)) ∧ WrPost w g q c E (s.write j B) w' := by
  have hn := hT.size
  by_cases h64 : n = 64
  · subst h64
    obtain ⟨x, rfl⟩ : ∃ x, p = some x := by
      rcases hT.at' with ⟨_, e⟩ | ⟨x, e, _⟩
      · have := hT.le; omega
      · exact ⟨x, e⟩
    obtain ⟨px1, px2⟩ := hp x rfl
    have hxl : x.block < w.drew.heap.size := by
      rcases hT.at' with ⟨e, _⟩ | ⟨y, e, hy⟩
      · cases e
      · cases e
        have h0 := block_lt_of_cell (hy 0 (.int .u8 (B.getD 0 0 : Nat)) (vals_get B 0 (by omega)))
        rwa [show (x.add 0).block = x.block from by cases x; simp [Addr.add]] at h0
    have hno : s.no j 64 = 0 := by simp [D.no, hd]; omega
    have HSY := Lib.hid (show s.says j 64 = if s.left = 0 then 30 else 0 from by simp only [D.says]; rw [if_pos hno])
    have HWB := Lib.hid (show s.write j B = s.put j B from by unfold D.write; rw [← hn, hno, if_pos rfl]; rfl)
    have HSP := Lib.hid (spend_any (h.keep (Q := fun _ => False) (Only.of_below _ (Below.refl _ _).drew) (fun e => e) (fun _ _ e => e)) hd)
    obtain ⟨m1, hm1⟩ : ∃ m1, m1 = s.many := ⟨_, rfl⟩
    have HMM := Lib.hid hm1.symm
    have HM64 := Lib.hid (show m1 ≤ 64 from by rw [hm1]; exact D.many_le h.ok)
    have HB := Lib.hid (show B.length = 64 ∧ Sm.allB B from ⟨hn.symm, hT.ok⟩)
    have HSS := Lib.hid (show ∀ w', Only (fun k => k = g) w.drew w' → w'.cell? ⟨bb, 0, none⟩ = some (.slice (some x) 64 cp) ∧ w'.cell? ⟨db, 0, none⟩ = some (.pointer (some ⟨g, 0, none⟩)) from fun w' ho => ⟨(World.cell?_of_block (w := w.drew) (ho.block bb (block_lt_of_cell hb) hbb.1)).trans hb, (World.cell?_of_block (w := w.drew) (ho.block db (block_lt_of_cell hdb) hdd.1)).trans hdb⟩)
    have HCP := Lib.hid (show ∀ w', (∃ lit whole torn, DAt w' g (some ⟨q, 0, none⟩) c E lit whole torn s.spent) → Only (fun k => k = g) w.drew w' → (Builtin.copy_ #[31, 31] 3 #[.slice (some ⟨q, j * 64, none⟩) m1 64, .slice (some x) 64 cp]).run Try.prog w' = .ok (goInt (m1 : Nat)) (w'.setCells q (64 * j) (vals (B.take m1))) from fun w' ⟨_, _, _, d⟩ ho =>
      copy_sect d hj (tx_keep (w := w.drew) (hT.heap rfl) (fun y hy _ => by cases hy; exact ho.block _ hxl px1)) m1 HM64.out)
    have HST := Lib.hid (show ∀ w1 w' : World, Only (fun k => k = g ∨ k = q) w1 w' → w1.cell? ⟨bb, 0, none⟩ = some (.slice (some x) 64 cp) ∧ w1.cell? ⟨db, 0, none⟩ = some (.pointer (some ⟨g, 0, none⟩)) → w'.cell? ⟨bb, 0, none⟩ = some (.slice (some x) 64 cp) ∧ w'.cell? ⟨db, 0, none⟩ = some (.pointer (some ⟨g, 0, none⟩)) from fun w1 w' ho ⟨h1, h2⟩ => ⟨(World.cell?_of_block (w := w1) (ho.block bb (block_lt_of_cell h1) (fun e => e.elim hbb.1 hbb.2))).trans h1, (World.cell?_of_block (w := w1) (ho.block db (block_lt_of_cell h2) (fun e => e.elim hdd.1 hdd.2))).trans h2⟩)
    have HEQ := Lib.hid (show s.put j B = { s.spent with L := over s.L (64 * j) (B.take m1), writes := s.writes + 1 } from by rw [hm1]; rfl)
    have HW := Lib.hid hw
    have HBB := Lib.hid hbb
    have HDD := Lib.hid hdd
    clear h hT hn hno hm1 hp px1 px2 hxl hw hbb hdd hd
    go_enter Try.func26, Try.ntmps26
    go_upto_region 3 with fail
    refine wp_region_held_drew (S := fun w' => w'.cell? ⟨bb, 0, none⟩ = some (.slice (some x) 64 cp) ∧ w'.cell? ⟨db, 0, none⟩ = some (.pointer (some ⟨g, 0, none⟩))) (by kernel_rfl) ⟨hb, hdb⟩ (fun hHeld => ?_)
    refine wpAnyH_take (i := 0) (oi := ⟨some 8, .move (.tmp 0), _, _, _, _⟩) (v := ?_) rfl (by kernel_rfl) (by kernel_rfl) (by kernel_rfl) (fun _ _ _ h => h) (Or.inl ⟨by rfl, ?_⟩) (by assumption) ?_
    rotate_left
    · intro w' hSw
      go_simp
      try with_reducible rfl
    try simp only [Act.put, List.setIfInBounds_toArray, List.set_cons_zero, List.set_cons_succ]
    refine wpAnyH_take (i := 1) (oi := ⟨some 9, .nilCheck (.tmp 8), _, _, _, _⟩) (v := ?_) rfl (by kernel_rfl) (by kernel_rfl) (by kernel_rfl) (fun _ _ _ h => h) (Or.inl ⟨by rfl, ?_⟩) (by assumption) ?_
    rotate_left
    · intro w' hSw
      go_simp
      try with_reducible rfl
    try simp only [Act.put, List.setIfInBounds_toArray, List.set_cons_zero, List.set_cons_succ]
    refine wpAnyH_take (i := 2) (oi := ⟨some 10, .load 24 (.tmp 2), _, _, _, _⟩) (v := ?_) rfl (by kernel_rfl) (by kernel_rfl) (by kernel_rfl) (fun _ _ _ h => h) (Or.inl ⟨by rfl, ?_⟩) (by assumption) ?_
    rotate_left
    · intro w' hSw
      obtain ⟨hx1, hx2⟩ := hSw
      go_simp
      try with_reducible rfl
    try simp only [Act.put, List.setIfInBounds_toArray, List.set_cons_zero, List.set_cons_succ]
    refine wpAnyH_take (i := 5) (oi := ⟨some 13, .load 31 (.tmp 1), _, _, _, _⟩) (v := ?_) rfl (by kernel_rfl) (by kernel_rfl) (by kernel_rfl) (fun _ _ _ h => h) (Or.inl ⟨by rfl, ?_⟩) (by assumption) ?_
    rotate_left
    · intro w' hSw
      obtain ⟨hx1, hx2⟩ := hSw
      go_simp
      try with_reducible rfl
    try simp only [Act.put, List.setIfInBounds_toArray, List.set_cons_zero, List.set_cons_succ]
    refine wpAnyH_ready (rs := [3]) (by kernel_rfl) (by simp) ?_
    refine AllReadyH.cons (o := ⟨some 11, .call ⟨.value (.func 27), #[.tmp 10], #[24]⟩, _, _, _, _⟩) rfl (fun K hK => ?_) AllReadyH.nil
    go_simp
    with_reducible refine HSP.out.mono ?_
    rintro _ w11 ⟨rfl, d11', o11'⟩
    rw [HMM.out]
    have d11 := Lib.hid d11'
    have o11 := Lib.hid o11'
    have hS11 := HSS.out w11 o11.out
    clear d11' o11'
    try go_wp2_with fail
    refine hK.out _ _ hS11 (fun hHeld => ?_)
    clear hK K
    try simp only [Act.put, List.setIfInBounds_toArray, List.set_cons_zero, List.set_cons_succ]
    refine wpAnyH_take (i := 4) (oi := ⟨some 12, .slice 60 (.tmp 9) none (some (.tmp 11)) none, _, _, _, _⟩) (v := ?_) rfl (by kernel_rfl) (by kernel_rfl) (by kernel_rfl) (fun _ _ _ h => h) (Or.inl ⟨by rfl, ?_⟩) (by assumption) ?_
    rotate_left
    · intro w' hSw
      have hsl := slice_sect q (j * 64) m1 HM64.out w'
      go_simp
      try with_reducible rfl
    try simp only [Act.put, List.setIfInBounds_toArray, List.set_cons_zero, List.set_cons_succ]
    refine wpAnyH_ready (rs := [6]) (by kernel_rfl) (by simp) ?_
    refine AllReadyH.cons (o := ⟨some 14, .call ⟨.builtin .copy, #[.tmp 12, .tmp 13], #[31, 31]⟩, _, _, _, _⟩) rfl (fun K hK => ?_) AllReadyH.nil
    go_simp
    obtain ⟨l11, wh11, to11, dd11⟩ := d11.out
    obtain ⟨d12, o12⟩ := dd11.patch (show j < s.spent.n from hj) (B := B.take m1) (by rw [List.length_take]; have := HM64.out; omega) (fun y hy => HB.out.2 y (List.mem_of_mem_take hy))
    have hS12 := HST.out _ _ o12 hHeld
    rw [HCP.out w11 d11.out o11.out]
    have D12 := Lib.hid d12
    have O12 := Lib.hid (o11.out.mono (fun k e => Or.inl e) |>.trans o12)
    clear d12 o12 dd11 d11 o11
    rw [show s.spent.L = s.L from rfl] at D12
    generalize w11.setCells q (64 * j) (vals (B.take m1)) = w12 at *
    try go_wp2_with fail
    refine hK.out _ _ hS12 (fun hHeld => ?_)
    clear hK K
    try simp only [Act.put, List.setIfInBounds_toArray, List.set_cons_zero, List.set_cons_succ]
    refine wpAnyH_done (by kernel_rfl) ?_ _
    clear hb hdb hHeld HSP HCP HSS
    obtain ⟨hb, hdb⟩ := hS12
    obtain ⟨d13, o13⟩ := D12.out.count
    rw [show (({ s.spent with L := over s.L (64 * j) (B.take m1) } : D).writes + 1 : Nat) = ((s.writes + 1 : Nat)) from rfl, show ((s.writes + 1 : Nat) : Int) = (s.writes : Int) + 1 from rfl] at d13 o13
    have c5 : w12.cell? ⟨g, 5, none⟩ = some (.int .i64 (s.writes : Int)) := D12.out.c5
    have f5 := D12.out.fz 5
    have hdb' := (HST.out _ _ (o13.mono (fun k e => Or.inl e)) ⟨hb, hdb⟩).2
    have hw := HW.out
    have q1 : IntKind.i64.wrap ((s.writes : Int) + 1) = (s.writes : Int) + 1 := IntWalk.i64_in _ (by omega)
    have H := Lib.hid (show WrPost w g q c E (s.write j B) _ from ⟨⟨_, _, _, by rw [HWB.out, HEQ.out]; exact d13⟩, (Only.of_below _ (Below.refl w.heap.size w).drew).trans (O12.out.trans (o13.mono (fun k e => Or.inl e)))⟩)
    have c4 := d13.c4
    clear d13 o13 hw D12 O12
    by_cases h0 : s.left = 0
    · have c4' := c4.trans (congrArg (fun b => some (Value.bool b)) (show s.spent.dead = true from decide_eq_true h0))
      have H0 := Lib.hid h0
      clear c4 h0
      go_wp2_with fail
      go_ret
      exact ⟨by rw [HSY.out, if_pos H0.out]; rfl, H.out⟩
    · have c4' := c4.trans (congrArg (fun b => some (Value.bool b)) (show s.spent.dead = false from decide_eq_false h0))
      have H0 := Lib.hid h0
      clear c4 h0
      go_wp2_with fail
      go_ret
      exact ⟨by rw [HSY.out, if_neg H0.out]; rfl, H.out⟩
  · have hno : s.no j n = 1 := by simp [D.no, hd, h64]; omega
    have HS := Lib.hid (show ((s.says j n : Nat) : Int) = 1 from by simp only [D.says, hno]; rfl)
    have HW := Lib.hid (show WrPost w g q c E (s.write j B) w from ⟨⟨lit, whole, torn, by unfold D.write; rw [← hn, hno]; exact h⟩, Only.refl _ _⟩)
    have h64' : ¬ (n : Int) = 64 := by omega
    rw [HS.out]
    clear h hT hn hno h64 hd
    go_enter Try.func26, Try.ntmps26
    go_wp2_with fail
    go_ret
    exact ⟨rfl, HW.out⟩
set_option maxRecDepth 100000 in
set_option maxHeartbeats 2000000 in
theorem write_any {w : World} {g : Nat} {P : Nat → Prop} {s : D} (i : Int) (B : List Nat) (p : Option Addr) (n c : Nat) (h : PD w g P s) (hT : Tx w p n c B) (hp : ∀ x, p = some x → ¬ P x.block) (hw : s.writes < 1000000) :
    Calls Try.prog 17 #[.pointer (some ⟨g, 0, none⟩), .int .i64 i, .slice p n c] w fun e w' => e = .returned (.int .i64 (s.says i n)) ∧ (∃ P', PD w' g P' (s.write i B) ∧ ∀ k, P' k → P k ∨ w.heap.size ≤ k) ∧ Only P w w' := by
  obtain ⟨p0, c0, E, lit, whole, torn, h, hP⟩ := h
  have hn := hT.size
  have b1 := (Below.refl w.heap.size w).alloc (Nat.le_refl _) (.cells #[.pointer (some ⟨g, 0, none⟩)] 24)
  have b2 := b1.alloc b1.size (.cells #[.slice p n c] 31)
  have s1 : (w.alloc (.cells #[.pointer (some ⟨g, 0, none⟩)] 24)).heap.size = w.heap.size + 1 := by simp
  have e1 := boxed w (.pointer (some ⟨g, 0, none⟩)) 24
  have e2 := boxed (w.alloc (.cells #[.pointer (some ⟨g, 0, none⟩)] 24)) (.slice p n c) 31
  rw [s1] at e2
  have e1' := (World.cell?_of_block (w := w.alloc (.cells #[.pointer (some ⟨g, 0, none⟩)] 24)) (a := ⟨w.heap.size, 0, none⟩) (heap_alloc_old _ (.cells #[.slice p n c] 31) (by rw [s1]; exact Nat.lt_succ_self _))).trans e1
  have h2 := h.keep (Q := fun _ => False) (Only.of_below _ b2) (fun e => e) (fun _ _ e => e)
  have hT2 := hT.later b2
  generalize hwb : (w.alloc (.cells #[.pointer (some ⟨g, 0, none⟩)] 24)).alloc (.cells #[.slice p n c] 31) = wb at *
  have HO := Lib.hid (Only.of_below P b2)
  have hlt := h.lt
  have hsm := h.small
  by_cases hno : s.dead = true ∨ i < 0 ∨ (s.n : Int) ≤ i
  · have hne : s.no i n ≠ 0 := by
      rcases no_cases (s := s) (i := i) (m := n) with ⟨hd, hn⟩ | ⟨hd, h1, hn⟩ | ⟨hd, h1, h2, hn⟩ | ⟨hd, h1, h2⟩
      · omega
      · omega
      · omega
      · rcases hno with e | e | e
        · rw [hd] at e; cases e
        · omega
        · omega
    have HS := Lib.hid (show s.says i n = s.no i n from by unfold D.says; rw [if_neg hne])
    have HW := Lib.hid (show ∃ P', PD wb g P' (s.write i B) ∧ ∀ k, P' k → P k ∨ w.heap.size ≤ k from by
      unfold D.write
      rw [← hn, if_neg hne]
      exact h2.pd hP)
    have HC := Lib.hid (alive_no h2 i n 26 #[.pointer (some ⟨w.heap.size + 1, 0, none⟩), .pointer (some ⟨w.heap.size, 0, none⟩)] hno)
    rw [HS.out]
    clear h h2 hP hno hne hT hT2 b1 b2 e2 hlt hsm hn
    go_enter Try.func17, Try.ntmps17
    go_wp2_with (first | (rw [hwb]; refine HC.out.mono ?_; rintro e w' ⟨rfl, rfl⟩) | (refine HC.out.mono ?_; rintro e w' ⟨rfl, rfl⟩))
    go_ret
    exact ⟨rfl, HW.out, HO.out⟩
  · obtain ⟨j, rfl⟩ : ∃ j : Nat, i = j := ⟨i.toNat, by omega⟩
    have hj : j < s.n := by omega
    have hd : s.dead = false := by cases hd : s.dead with
      | true => exact absurd (Or.inl hd) hno
      | false => rfl
    obtain ⟨q, rfl, _, _⟩ := h.sector hj
    have hq := hsm _ rfl
    have HC := Lib.hid (alive_do h2 j hd hj 26 #[.pointer (some ⟨w.heap.size + 1, 0, none⟩), .pointer (some ⟨w.heap.size, 0, none⟩)] (s.says j n : Nat) _ (enter_side Try.func26 (by kernel_rfl) rfl) (write_do h2 j (w.heap.size + 1) w.heap.size p n c B hd hj hw e2 e1' ⟨by omega, by simp only at hq; omega⟩ ⟨by omega, by simp only at hq; omega⟩ hT2 (fun x hx => ⟨fun e => hp x hx ((hP _).2 (Or.inl e)), fun e => hp x hx ((hP _).2 (Or.inr ⟨_, rfl, e⟩))⟩)))
    have HP := Lib.hid hP
    clear h h2 hP hno hT hT2 b1 b2 e2 hlt hsm hn hd hq
    go_enter Try.func17, Try.ntmps17
    go_wp2_with (first | (rw [hwb]; refine HC.out.mono ?_; rintro e w' ⟨rfl, hw'⟩; have HW := Lib.hid hw'; clear hw') | (refine HC.out.mono ?_; rintro e w' ⟨rfl, hw'⟩; have HW := Lib.hid hw'; clear hw'))
    go_ret
    obtain ⟨⟨l, a, b, d⟩, o⟩ := HW.out
    exact ⟨rfl, d.pd HP.out, HO.out.trans (o.mono (fun k e => (HP.out k).2 (e.imp id fun e => ⟨_, rfl, e⟩)))⟩
/-- Package disk keeps its contracts. -/
theorem api : Api PD where
  ok := PD.okay
  lt := PD.lt
  keep := PD.keep
  new := new_any
  newBad := new_bad
  len := len_any
  dead := dead_any
  writes := writes_any
  all := all_any
  read := read_any
  fuse := fuse_any
  wake := wake_any
  write := write_any
  copy := copy_any
end Go.Proofs.Ytjlkddfihpdnmaa.Dk

/- The reference's disk: Write. -/
namespace Go.Proofs.Ytjlkddfihpdnmaa.Dk
open Go.RowKit

theorem rwrite_dead (s : D) (i : Int) (v : Value) (g q : Nat) (w : World) (h : RD w g q s) (hd : s.dead = true) :
    Calls Try.prog 18 #[.pointer (some ⟨g, 0, none⟩), .int .i64 i, v] w fun e w' => e = .returned (.int .i64 30) ∧ w' = w := by
  have c2 := h.c2
  clear h
  rw [hd] at c2
  go_enter Try.func18, Try.ntmps18
  go_wp2_with fail
  go_ret
  exact ⟨rfl, rfl⟩
theorem rwrite_none (s : D) (i : Int) (v : Value) (g q : Nat) (w : World) (h : RD w g q s) (hd : s.dead = false) (hi : i < 0 ∨ (s.n : Int) ≤ i) :
    Calls Try.prog 18 #[.pointer (some ⟨g, 0, none⟩), .int .i64 i, v] w fun e w' => e = .returned (.int .i64 9) ∧ w' = w := by
  have c1 := h.c1
  have c2 := h.c2
  clear h
  rw [hd] at c2
  by_cases h0 : i < 0
  · clear hi
    go_enter Try.func18, Try.ntmps18
    go_wp2_with fail
    go_ret
    exact ⟨rfl, rfl⟩
  · have h1 : (s.n : Int) ≤ i := by omega
    clear hi
    go_enter Try.func18, Try.ntmps18
    go_wp2_with fail
    go_ret
    exact ⟨rfl, rfl⟩
theorem rwrite_arg (s : D) (i : Int) (p : Option Addr) (n c : Nat) (g q : Nat) (w : World) (h : RD w g q s) (hd : s.dead = false) (h0 : 0 ≤ i) (h1 : i < s.n) (hn : n ≠ 64) :
    Calls Try.prog 18 #[.pointer (some ⟨g, 0, none⟩), .int .i64 i, .slice p n c] w fun e w' => e = .returned (.int .i64 1) ∧ w' = w := by
  have c1 := h.c1
  have c2 := h.c2
  clear h
  rw [hd] at c2
  have n0 : ¬ i < 0 := by omega
  have n1 : ¬ (s.n : Int) ≤ i := by omega
  have n2 : ((n : Int) == 64) = false := by simp; omega
  go_enter Try.func18, Try.ntmps18
  go_wp2_with fail
  go_ret
  exact ⟨rfl, rfl⟩
/-- Behind k bytes of a write of B at sector j. -/
structure WRel (w : World) (g q : Nat) (s : D) (j : Nat) (B : List Nat) (k : Nat) (wr : World) : Prop where
  disk : RD wr g q { s with L := over s.L (64 * j) (B.take k) }
  only : Only (fun k => k = g ∨ k = q) w wr
theorem WRel.start {w : World} {g q : Nat} {s : D} (h : RD w g q s) (j : Nat) (B : List Nat) : WRel w g q s j B 0 w :=
  ⟨by rw [List.take_zero, over_nil]; exact h, Only.refl _ _⟩
theorem WRel.step {w wr : World} {g q : Nat} {s : D} {j : Nat} {B : List Nat} {k : Nat} (h : WRel w g q s j B k wr) (hk : k < B.length) (hB : Sm.allB B) (hl : 64 * j + B.length ≤ s.L.length) :
    WRel w g q s j B (k + 1) (wr.setCell ⟨q, 64 * j + k, none⟩ (.int .u8 (B.getD k 0 : Nat))) := by
  have r := heap_setCell_same wr q (64 * j + k) _ _ (.int .u8 (B.getD k 0 : Nat)) h.disk.bytes
  have hL : s.L.length = 64 * s.n := by
    have := h.disk.ok.len
    rwa [show ({ s with L := over s.L (64 * j) (B.take k) } : D).L = over s.L (64 * j) (B.take k) from rfl, over_length (by rw [List.length_take]; omega)] at this
  rw [show ({ s with L := over s.L (64 * j) (B.take k) } : D).L = over s.L (64 * j) (B.take k) from rfl, over_step hk hl] at r
  have hbok : Sm.allB (over s.L (64 * j) (B.take (k + 1))) := by
    have hb := h.disk.ok.bytes
    intro x hx
    simp only [over, List.mem_append] at hx
    have hin : ∀ y ∈ over s.L (64 * j) (B.take k), y < 256 := hb
    rcases hx with (hx | hx) | hx
    · exact hin x (by simp only [over, List.mem_append]; exact Or.inl (Or.inl hx))
    · exact hB x (List.mem_of_mem_take hx)
    · refine hin x ?_
      simp only [over, List.mem_append]
      refine Or.inr ?_
      rw [List.length_take, Nat.min_eq_left (by omega)] at hx ⊢
      rw [show 64 * j + (k + 1) = (64 * j + k) + 1 from by omega, ← List.drop_drop] at hx
      exact List.mem_of_mem_drop hx
  refine ⟨⟨(heap_setCell_other _ _ _ _ h.disk.ne).trans h.disk.row, r, h.disk.ne, ⟨?_, hbok, h.disk.ok.small, h.disk.ok.torn, h.disk.ok.left⟩⟩, h.only.trans (Only.setCell wr (Or.inr rfl) _)⟩
  show (over s.L (64 * j) (B.take (k + 1))).length = 64 * s.n
  rw [over_length (by rw [List.length_take]; omega), hL]
theorem WRel.drew {w wr : World} {g q : Nat} {s : D} {j : Nat} {B : List Nat} {k : Nat} (h : WRel w g q s j B k wr) : WRel w g q s j B k wr.drew :=
  have o : Only (fun _ => False) wr wr.drew := Only.of_below _ (Below.refl _ _).drew
  ⟨h.disk.keep o (fun e => e) (fun e => e), h.only.trans (o.mono (fun _ e => e.elim))⟩
def RLoop (w : World) (g q : Nat) (s : D) (j : Nat) (B : List Nat) (m : Nat) (i : Value) (wr : World) : Prop :=
  ∃ k : Nat, k ≤ m ∧ i = .int .i64 k ∧ WRel w g q s j B k wr
set_option maxRecDepth 100000 in
set_option maxHeartbeats 4000000 in
theorem rwrite_put (s : D) (j : Nat) (B : List Nat) (p : Option Addr) (c : Nat) (g q : Nat) (w : World) (h : RD w g q s) (hd : s.dead = false) (h1 : j < s.n) (hB : Tx w p 64 c B) (hp : ∀ x, p = some x → x.block ≠ g ∧ x.block ≠ q) (hw : s.writes < 1000000) :
    Calls Try.prog 18 #[.pointer (some ⟨g, 0, none⟩), .int .i64 j, .slice p 64 c] w (TurnPost w g q (.int .i64 (if s.left = 0 then 30 else 0)) (s.put j B)) := by
  have c1 := h.c1
  have c2 := h.c2
  have c5 := h.c5
  have f5 := h.fz 5
  rw [hd] at c2
  have n0 : ¬ (j : Int) < 0 := by omega
  have n1 : ¬ (s.n : Int) ≤ j := by omega
  have hsm := h.ok.small
  have q0 : IntKind.i64.wrap ((s.writes : Int) + 1) = (s.writes : Int) + 1 := IntWalk.i64_in _ (by omega)
  obtain ⟨h2, o2⟩ := h.writesTo (s.writes + 1)
  rw [show ((s.writes + 1 : Nat) : Int) = (s.writes : Int) + 1 from by omega] at h2 o2
  have hBl : 64 = B.length := hB.size
  have hle := hB.le
  obtain ⟨b, o, rfl⟩ : ∃ b o, p = some ⟨b, o, none⟩ := by
    rcases hB.at' with ⟨_, hc⟩ | ⟨⟨b, o, sp⟩, hx, _⟩
    · omega
    · have := hB.sp _ hx (by omega)
      simp only at this
      subst this
      exact ⟨b, o, hx⟩
  have hbg : b ≠ g := (hp _ rfl).1
  have hbq : b ≠ q := (hp _ rfl).2
  have HB2 : Tx (w.setCell ⟨g, 5, none⟩ (.int .i64 ((s.writes : Int) + 1))) (some ⟨b, o, none⟩) 64 c B := tx_keep hB (fun x hx _ => heap_setCell_other _ _ _ _ (hp x hx).1)
  have c3 := h2.c3
  have c4 := h2.c4
  have HO := Lib.hid o2
  have HT := Lib.hid HB2
  have HW := Lib.hid hw
  have ht := h2.ok.torn
  have hlb := h2.ok.left
  have hL := h2.ok.len
  simp only at ht hlb hL c3 c4
  have HS := Lib.hid (WRel.start h2 j B)
  have HBL := Lib.hid hBl
  clear h h2 o2 HB2 hB hp hBl
  go_enter Try.func18, Try.ntmps18
  go_upto_region 8 with fail
  clear c1 c2 c5 f5 q0
  generalize hw1 : w.setCell ⟨g, 5, none⟩ (.int .i64 ((s.writes : Int) + 1)) = w1 at *
  clear hw1
  by_cases hl : s.left = 0
  · rw [hl] at c3
    have HP : (s.put j B) = { ({ s with writes := s.writes + 1 } : D) with L := over s.L (64 * j) (B.take s.torn), dead := true, left := -1 } := by
      unfold D.put D.many
      simp [hl]
    have HPP := Lib.hid HP
    have HL := Lib.hid hl
    clear HP
    go_wp2_with fail
    go_loopw [8] (fun i wr => RLoop w1 g q { s with writes := s.writes + 1 } j B s.torn i wr) (fun i _ => s.torn - (intOf i).toNat)
    case atStart => exact ⟨0, by omega, rfl, HS.out⟩
    case round =>
      obtain ⟨k, hk, rfl, hrel⟩ := hrel
      have d0 := hrel.disk.c0
      by_cases hlt : k < s.torn
      · have hkb : k < B.length := by have := HBL.out; omega
        have hlen : 64 * j + B.length ≤ s.L.length := by have := HBL.out; omega
        have d1 := HT.out.cells k _ (vals_get B k hkb)
        rw [Addr.add_mid] at d1
        have dk : wr.cell? ⟨b, o + k, none⟩ = some (.int .u8 (B.getD k 0 : Nat)) := by
          rw [World.cell?_of_block (w := w1) (hrel.only.block b (block_lt_of_cell d1) (by omega))]
          exact d1
        have hrow := hrel.disk.bytes
        have hlx := hrel.disk.ok.len
        have dq := u8s_cell hrow (64 * j + k) (by simp only at hlx ⊢; omega)
        have fq : wr.frozen? ⟨q, 64 * j + k, none⟩ = false := frozen_of_row wr q _ _ _ hrow
        have hstep := Lib.hid (hrel.step hkb HT.out.ok (by exact hlen))
        have i1 : (0 : Int) ≤ 64 * (j : Int) + k ∧ 64 * (j : Int) + k < ((64 * s.n : Nat) : Int) := by omega
        have i1' : 64 * (j : Int) + k < 64 * (s.n : Int) := by omega
        have i2 : (0 : Int) ≤ k ∧ (k : Int) < 64 := by omega
        have i3 : (64 * (j : Int) + k).toNat = 64 * j + k := by omega
        have q1 : IntKind.i64.wrap (64 * (j : Int)) = 64 * (j : Int) := IntWalk.i64_in _ (by omega)
        have q2 : IntKind.i64.wrap (64 * (j : Int) + k) = 64 * (j : Int) + k := IntWalk.i64_in _ (by omega)
        clear hrel hrow hlx d1 hkb hlen
        generalize B.getD k 0 = x at *
        go_wp2_with fail
        go_still_tail 13, (by kernel_rfl)
        go_wp2_with fail
        go_roundw
        case rel => exact ⟨k + 1, by omega, by go_num, hstep.out.drew⟩
        case measure => simp [intOf]; omega
      · obtain rfl : k = s.torn := by omega
        have e3 := hrel.disk.c3
        have e2 := hrel.disk.c2
        simp only at e3 e2
        rw [HL.out] at e3
        obtain ⟨x1, y1⟩ := hrel.disk.dead true
        obtain ⟨x2, y2⟩ := x1.leftTo (-1) (by omega)
        have z2 := hrel.disk.fz 2
        have z3 := x1.fz 3
        have e4 := x1.c3
        have HX := Lib.hid x2
        have HY := Lib.hid ((HO.out.trans hrel.only).trans (y1.trans y2))
        clear hrel x1 x2 y1 y2
        go_wp2_with fail
        go_ret
        refine ⟨rfl, ?_, HY.out⟩
        rw [HPP.out]
        exact HX.out
  · have hl0 : (s.left == 0) = false := by simpa using hl
    by_cases hpos : s.left > 0
    · have lp : s.left > 0 := by omega
      have lq : IntKind.i64.wrap (s.left - 1) = s.left - 1 := IntWalk.i64_in _ (by omega)
      have HP : (s.put j B) = { ({ s with writes := s.writes + 1 } : D) with L := over s.L (64 * j) (B.take 64), left := s.left - 1 } := by
        unfold D.put D.many
        simp [hl, lp, hd]
      have HPP := Lib.hid HP
      have HL := Lib.hid hl
      clear HP
      go_wp2_with fail
      go_loopw [8] (fun i wr => RLoop w1 g q { s with writes := s.writes + 1 } j B 64 i wr) (fun i _ => 64 - (intOf i).toNat)
      case atStart => exact ⟨0, by omega, rfl, HS.out⟩
      case round =>
        obtain ⟨k, hk, rfl, hrel⟩ := hrel
        have d0 := hrel.disk.c0
        by_cases hlt : k < 64
        · have hkb : k < B.length := by have := HBL.out; omega
          have hlen : 64 * j + B.length ≤ s.L.length := by have := HBL.out; omega
          have d1 := HT.out.cells k _ (vals_get B k hkb)
          rw [Addr.add_mid] at d1
          have dk : wr.cell? ⟨b, o + k, none⟩ = some (.int .u8 (B.getD k 0 : Nat)) := by
            rw [World.cell?_of_block (w := w1) (hrel.only.block b (block_lt_of_cell d1) (by omega))]
            exact d1
          have hrow := hrel.disk.bytes
          have hlx := hrel.disk.ok.len
          have dq := u8s_cell hrow (64 * j + k) (by simp only at hlx ⊢; omega)
          have fq : wr.frozen? ⟨q, 64 * j + k, none⟩ = false := frozen_of_row wr q _ _ _ hrow
          have hstep := Lib.hid (hrel.step hkb HT.out.ok (by exact hlen))
          have i1 : (0 : Int) ≤ 64 * (j : Int) + k ∧ 64 * (j : Int) + k < ((64 * s.n : Nat) : Int) := by omega
          have i1' : 64 * (j : Int) + k < 64 * (s.n : Int) := by omega
          have i2 : (0 : Int) ≤ k ∧ (k : Int) < 64 := by omega
          have i3 : (64 * (j : Int) + k).toNat = 64 * j + k := by omega
          have q1 : IntKind.i64.wrap (64 * (j : Int)) = 64 * (j : Int) := IntWalk.i64_in _ (by omega)
          have q2 : IntKind.i64.wrap (64 * (j : Int) + k) = 64 * (j : Int) + k := IntWalk.i64_in _ (by omega)
          clear hrel hrow hlx d1 hkb hlen
          generalize B.getD k 0 = x at *
          go_wp2_with fail
          go_still_tail 13, (by kernel_rfl)
          go_wp2_with fail
          go_roundw
          case rel => exact ⟨k + 1, by omega, by go_num, hstep.out.drew⟩
          case measure => simp [intOf]; omega
        · obtain rfl : k = 64 := by omega
          have e3 := hrel.disk.c3
          simp only at e3
          obtain ⟨x1, y1⟩ := hrel.disk.leftTo (s.left - 1) (by omega)
          have z3 := hrel.disk.fz 3
          have HX := Lib.hid x1
          have HY := Lib.hid ((HO.out.trans hrel.only).trans y1)
          clear hrel x1 y1
          go_wp2_with fail
          go_ret
          refine ⟨rfl, ?_, HY.out⟩
          rw [HPP.out]
          exact HX.out
    · have lp : ¬ s.left > 0 := by omega
      have HP : (s.put j B) = { ({ s with writes := s.writes + 1 } : D) with L := over s.L (64 * j) (B.take 64), left := s.left } := by
        unfold D.put D.many
        simp [hl, lp, hd]
      have HPP := Lib.hid HP
      have HL := Lib.hid hl
      clear HP
      go_wp2_with fail
      go_loopw [8] (fun i wr => RLoop w1 g q { s with writes := s.writes + 1 } j B 64 i wr) (fun i _ => 64 - (intOf i).toNat)
      case atStart => exact ⟨0, by omega, rfl, HS.out⟩
      case round =>
        obtain ⟨k, hk, rfl, hrel⟩ := hrel
        have d0 := hrel.disk.c0
        by_cases hlt : k < 64
        · have hkb : k < B.length := by have := HBL.out; omega
          have hlen : 64 * j + B.length ≤ s.L.length := by have := HBL.out; omega
          have d1 := HT.out.cells k _ (vals_get B k hkb)
          rw [Addr.add_mid] at d1
          have dk : wr.cell? ⟨b, o + k, none⟩ = some (.int .u8 (B.getD k 0 : Nat)) := by
            rw [World.cell?_of_block (w := w1) (hrel.only.block b (block_lt_of_cell d1) (by omega))]
            exact d1
          have hrow := hrel.disk.bytes
          have hlx := hrel.disk.ok.len
          have dq := u8s_cell hrow (64 * j + k) (by simp only at hlx ⊢; omega)
          have fq : wr.frozen? ⟨q, 64 * j + k, none⟩ = false := frozen_of_row wr q _ _ _ hrow
          have hstep := Lib.hid (hrel.step hkb HT.out.ok (by exact hlen))
          have i1 : (0 : Int) ≤ 64 * (j : Int) + k ∧ 64 * (j : Int) + k < ((64 * s.n : Nat) : Int) := by omega
          have i1' : 64 * (j : Int) + k < 64 * (s.n : Int) := by omega
          have i2 : (0 : Int) ≤ k ∧ (k : Int) < 64 := by omega
          have i3 : (64 * (j : Int) + k).toNat = 64 * j + k := by omega
          have q1 : IntKind.i64.wrap (64 * (j : Int)) = 64 * (j : Int) := IntWalk.i64_in _ (by omega)
          have q2 : IntKind.i64.wrap (64 * (j : Int) + k) = 64 * (j : Int) + k := IntWalk.i64_in _ (by omega)
          clear hrel hrow hlx d1 hkb hlen
          generalize B.getD k 0 = x at *
          go_wp2_with fail
          go_still_tail 13, (by kernel_rfl)
          go_wp2_with fail
          go_roundw
          case rel => exact ⟨k + 1, by omega, by go_num, hstep.out.drew⟩
          case measure => simp [intOf]; omega
        · obtain rfl : k = 64 := by omega
          have e3 := hrel.disk.c3
          simp only at e3
          have HX := Lib.hid hrel.disk
          have HY := Lib.hid (HO.out.trans hrel.only)
          clear hrel
          go_wp2_with fail
          go_ret
          refine ⟨rfl, ?_, HY.out⟩
          rw [HPP.out]
          exact HX.out
end Go.Proofs.Ytjlkddfihpdnmaa.Dk

/- The reference's disk: Write, whatever comes; a sector of one byte. -/
namespace Go.Proofs.Ytjlkddfihpdnmaa.Dk
open Go.RowKit

theorem rwrite_any (s : D) (i : Int) (B : List Nat) (p : Option Addr) (n c : Nat) (g q : Nat) (w : World) (h : RD w g q s) (hB : Tx w p n c B) (hp : ∀ x, p = some x → x.block ≠ g ∧ x.block ≠ q) (hw : s.writes < 1000000) :
    Calls Try.prog 18 #[.pointer (some ⟨g, 0, none⟩), .int .i64 i, .slice p n c] w (TurnPost w g q (.int .i64 (s.says i n)) (s.write i B)) := by
  have hsz := hB.size
  by_cases hd : s.dead = true
  · have e1 : s.says i n = 30 := by simp [D.says, D.no, hd]
    have e2 : s.write i B = s := by simp [D.write, D.no, hd]
    rw [e1, e2]
    refine (rwrite_dead s i _ g q w h hd).mono ?_
    rintro e w' ⟨rfl, rfl⟩
    exact ⟨rfl, h, Only.refl _ _⟩
  · have hd0 : s.dead = false := by simpa using hd
    by_cases hi : i < 0 ∨ (s.n : Int) ≤ i
    · have e1 : s.says i n = 9 := by simp [D.says, D.no, hd, hi]
      have e2 : s.write i B = s := by simp [D.write, D.no, hd, hi]
      rw [e1, e2]
      refine (rwrite_none s i _ g q w h hd0 hi).mono ?_
      rintro e w' ⟨rfl, rfl⟩
      exact ⟨rfl, h, Only.refl _ _⟩
    · by_cases hn : n = 64
      · subst hn
        obtain ⟨j, rfl⟩ : ∃ j : Nat, i = j := ⟨i.toNat, by omega⟩
        have h3 : j < s.n := by omega
        have e0 : s.no j 64 = 0 := by simp [D.no, hd, h3]
        have e1 : s.says j 64 = if s.left = 0 then 30 else 0 := by simp [D.says, e0]
        have e2 : s.write j B = s.put j B := by simp [D.write, ← hsz, e0]
        have e3 : ((if s.left = 0 then 30 else 0 : Nat) : Int) = if s.left = 0 then 30 else 0 := by split <;> rfl
        rw [e1, e2, e3]
        exact rwrite_put s j B p c g q w h hd0 (by omega) hB hp hw
      · have e1 : s.says i n = 1 := by simp [D.says, D.no, hd, hi, hn]
        have e2 : s.write i B = s := by simp [D.write, D.no, hd, hi, ← hsz, hn]
        rw [e1, e2]
        refine (rwrite_arg s i p n c g q w h hd0 (by omega) (by omega) hn).mono ?_
        rintro e w' ⟨rfl, rfl⟩
        exact ⟨rfl, h, Only.refl _ _⟩
/-- k bytes x, and zeros up to a sector. -/
def fillTo (x k : Nat) : List Nat := over (zeros 64) 0 ((List.replicate 64 x).take k)
theorem fill_all (x : Nat) : fillTo x 64 = List.replicate 64 x := by simp [fillTo, over, zeros]
theorem fill_row (x k : Nat) (hk : k < 64) : (u8s (fillTo x k)).setIfInBounds k (.int .u8 (x : Nat)) = u8s (fillTo x (k + 1)) := by
  have := over_step (L := zeros 64) (B := List.replicate 64 x) (o := 0) (k := k) (by simpa using hk) (by simp [zeros])
  rw [Nat.zero_add, show (List.replicate 64 x).getD k 0 = x from by rw [List.getD_eq_getElem?_getD, List.getElem?_replicate, if_pos hk]; rfl] at this
  exact this
theorem fill_length (x k : Nat) : (fillTo x k).length = 64 := by
  unfold fillTo
  rw [over_length (by simp [zeros]; omega)]
  simp [zeros]
def SLoop (w _w1 : World) (g x : Nat) (i : Value) (wr : World) : Prop :=
  ∃ k : Nat, k ≤ 64 ∧ i = .int .i64 k ∧ wr.heap[g]? = some (.cells (u8s (fillTo x k)) 5 (0, 0)) ∧ Below w.heap.size w wr
set_option maxRecDepth 100000 in
set_option maxHeartbeats 2000000 in
theorem sector_any (x : Nat) (w : World) (_hx : x < 256) :
    Calls Try.prog 22 #[.int .u8 x] w fun e w' => e = .returned (.slice (some ⟨w.heap.size, 0, none⟩) 64 64) ∧ w'.heap[w.heap.size]? = some (.cells (u8s (List.replicate 64 x)) 5 (0, 0)) ∧ Below w.heap.size w w' := by
  have M1 : (Instr.makeSlice 31 (.int .i64 64) (.int .i64 64)).run Try.prog w = .ok (.slice (some ⟨w.heap.size, 0, none⟩) 64 64) (w.alloc (.cells (u8s (zeros 64)) 5)) := make_z 64 (by omega) w
  have r1 := heap_alloc_new w (.cells (u8s (zeros 64)) 5)
  have b1 := (Below.refl w.heap.size w).alloc (Nat.le_refl _) (.cells (u8s (zeros 64)) 5)
  go_enter Try.func22, Try.ntmps22
  go_upto_region 2 with fail
  generalize hw1 : w.alloc (.cells (u8s (zeros 64)) 5) = w1 at *
  obtain ⟨g, hg⟩ : ∃ g, g = w.heap.size := ⟨_, rfl⟩
  have HG := Lib.hid hg
  have HR := Lib.hid r1
  have HB := Lib.hid b1
  rw [← hg]
  clear hw1 r1 b1 M1 hg
  go_wp2_with fail
  go_loopw [4] (fun i wr => SLoop w w1 g x i wr) (fun i _ => 64 - (intOf i).toNat)
  case atStart => exact ⟨0, by omega, rfl, by rw [HG.out]; exact HR.out, HB.out⟩
  case round =>
    obtain ⟨k, hk, rfl, hrow, hbel⟩ := hrel
    by_cases hlt : k < 64
    · have i1 : (0 : Int) ≤ k ∧ (k : Int) < 64 := by omega
      have fq : wr.frozen? ⟨g, k, none⟩ = false := frozen_of_row wr g _ _ _ hrow
      have dq := u8s_cell hrow k (by rw [fill_length]; exact hlt)
      have r2 := heap_setCell_same wr g k _ _ (.int .u8 (x : Nat)) hrow
      rw [fill_row x k hlt] at r2
      have HX := Lib.hid r2
      have HY := Lib.hid (show Below w.heap.size w (wr.setCell ⟨g, k, none⟩ (.int .u8 (x : Nat))) from hbel.setCell (by rw [HG.out]; exact Nat.le_refl _) _)
      clear hrow hbel r2
      go_wp2_with fail
      go_roundw
      case rel => exact ⟨k + 1, by omega, by go_num, HX.out, HY.out⟩
      case measure => simp [intOf]; omega
    · obtain rfl : k = 64 := by omega
      have HX := Lib.hid hrow
      have HY := Lib.hid hbel
      clear hrow hbel
      go_wp2_with fail
      go_ret
      refine ⟨?_, ?_, HY.out⟩
      · rw [← HG.out]
        rfl
      · rw [← HG.out, ← fill_all x]
        exact HX.out
end Go.Proofs.Ytjlkddfihpdnmaa.Dk

/- The document's example (indenturelaw07.alive), over whatever disk keeps the contracts. -/
namespace Go.Proofs.Ytjlkddfihpdnmaa.Dk
open Go.RowKit

theorem ex1 : ((D.new 2).fuse 1 3).says 0 64 = 0 := by decide +kernel
theorem ex2 : (((D.new 2).fuse 1 3).write 0 (List.replicate 64 97)).says 1 64 = 30 := by decide +kernel
theorem ex3 : ((((D.new 2).fuse 1 3).write 0 (List.replicate 64 97)).write 1 (List.replicate 64 98)).dead = true := by decide +kernel
theorem ex4 : ((((D.new 2).fuse 1 3).write 0 (List.replicate 64 97)).write 1 (List.replicate 64 98)).wake.no 1 64 = 0 := by decide +kernel
theorem ex5 : ((((D.new 2).fuse 1 3).write 0 (List.replicate 64 97)).write 1 (List.replicate 64 98)).wake.gives 1 = [98, 98, 98, 0] ++ zeros 60 := by decide +kernel
theorem ex6 : ((((D.new 2).fuse 1 3).write 0 (List.replicate 64 97)).write 1 (List.replicate 64 98)).wake.writes = 2 := by decide +kernel
theorem ex7 : (((D.new 2).fuse 1 3).write 0 (List.replicate 64 97)).writes = 1 := by decide +kernel
theorem bbb : strOf [98, 98, 98] = { data := #[98, 98, 98] } := by rfl
theorem sector_tx {w : World} {g x : Nat} (h : w.heap[g]? = some (.cells (u8s (List.replicate 64 x)) 5 (0, 0))) (hx : x < 256) : Tx w (some ⟨g, 0, none⟩) 64 64 (List.replicate 64 x) :=
  ⟨by simp, Nat.le_refl _, fun y hy => by rw [(List.mem_replicate.1 hy).2]; exact hx, Or.inr ⟨_, rfl, cells_of_row h⟩, fun y hy _ => by cases hy; rfl⟩
variable {PD : World → Nat → (Nat → Prop) → D → Prop}
set_option maxRecDepth 100000 in
set_option maxHeartbeats 4000000 in
theorem alive_any (A : Api PD) (w : World) : Calls Try.prog 7 #[] w fun e w' => e = .returned (.bool true) ∧ Below w.heap.size w w' := by
  go_enter Try.func7, Try.ntmps7
  go_wp2_with fail
  refine (A.new 2 w (by omega) (by omega)).mono ?_
  rintro e w1 ⟨g, P1, rfl, d1, p1, b1⟩
  have O1 := Lib.hid (show Own PD w w1 g P1 (D.new 2) from ⟨d1, p1, b1⟩)
  clear d1 p1 b1
  go_wp2_with fail
  refine (A.fuse 1 3 O1.out.disk (by omega)).mono ?_
  rintro e w2 ⟨rfl, ⟨P2, d2, p2⟩, o2⟩
  have O2 := Lib.hid (O1.out.turned d2 p2 o2)
  clear d2 p2 o2
  have X1 := Lib.hid ex1
  have X2 := Lib.hid ex2
  have X3 := Lib.hid ex3
  have X4 := Lib.hid ex4
  have X5 := Lib.hid ex5
  have X6 := Lib.hid ex6
  have X7 := Lib.hid ex7
  have XW : ((D.new 2).fuse 1 3).writes < 1000000 := by decide +kernel
  generalize (D.new 2).fuse 1 3 = s1 at *
  go_wp2_with fail
  refine (sector_any 97 w2 (by omega)).mono ?_
  rintro e w3 ⟨rfl, r3, b3⟩
  have O3 := Lib.hid (O2.out.later A b3)
  have T3 := Lib.hid (sector_tx r3 (by omega))
  have N3 : ¬ P2 w2.heap.size := fun e => Nat.lt_irrefl _ (A.lt O2.out.disk _ e)
  clear r3 b3
  generalize w2.heap.size = b3 at *
  go_wp2_with fail
  refine (A.write 0 (List.replicate 64 97) _ 64 64 O3.out.disk T3.out (fun x hx => by cases hx; exact N3) XW).mono ?_
  rintro e w4 ⟨rfl, ⟨P4, d4, p4⟩, o4⟩
  rw [X1.out]
  have O4 := Lib.hid (O3.out.turned d4 p4 o4)
  clear d4 p4 o4 N3 T3 XW O2 O1
  have X7' := X7.out
  generalize s1.write 0 (List.replicate 64 97) = s2 at *
  go_wp2_with fail
  refine (sector_any 98 w4 (by omega)).mono ?_
  rintro e w5 ⟨rfl, r5, b5⟩
  have O5 := Lib.hid (O4.out.later A b5)
  have T5 := Lib.hid (sector_tx r5 (by omega))
  have N5 : ¬ P4 w4.heap.size := fun e => Nat.lt_irrefl _ (A.lt O4.out.disk _ e)
  clear r5 b5
  generalize w4.heap.size = b5 at *
  go_wp2_with fail
  refine (A.write 1 (List.replicate 64 98) _ 64 64 O5.out.disk T5.out (fun x hx => by cases hx; exact N5) (by omega)).mono ?_
  rintro e w6 ⟨rfl, ⟨P6, d6, p6⟩, o6⟩
  rw [X2.out]
  have O6 := Lib.hid (O5.out.turned d6 p6 o6)
  clear d6 p6 o6 N5 T5 X7'
  generalize s2.write 1 (List.replicate 64 98) = s3 at *
  go_wp2_with fail
  refine (A.dead O6.out.disk).mono ?_
  rintro e w7 ⟨rfl, b7⟩
  rw [X3.out]
  have O7 := Lib.hid (O6.out.later A b7)
  clear b7
  go_wp2_with fail
  refine (A.wake O7.out.disk).mono ?_
  rintro e w8 ⟨rfl, ⟨P8, d8, p8⟩, o8⟩
  have O8 := Lib.hid (O7.out.turned d8 p8 o8)
  clear d8 p8 o8
  generalize s3.wake = s4 at *
  go_wp2_with fail
  refine (A.read 1 O8.out.disk).mono ?_
  rintro e w9 ⟨p, n, c, rfl, m9, b9⟩
  rw [X4.out]
  rw [X5.out] at m9
  have hn : n = 64 := by simpa [zeros] using m9.size
  subst hn
  have O9 := Lib.hid (O8.out.later A b9)
  clear b9
  obtain ⟨gb, ob, rfl⟩ := m9.some (by omega)
  have t9 := m9.tx
  have ht3 : Tx w9 (some ⟨gb, ob, none⟩) 3 c [98, 98, 98] := by
    refine ⟨rfl, by have := t9.le; omega, fun x hx => t9.ok x (by simp at hx ⊢; omega), Or.inr ⟨_, rfl, fun j u hu => t9.cells j u ?_⟩, t9.sp⟩
    have hj : j < 3 := by simpa [vals] using (List.getElem?_eq_some_iff.1 hu).1
    rw [← hu]
    match j, hj with
    | 0, _ => rfl
    | 1, _ => rfl
    | 2, _ => rfl
  have hcv := convert_tx ht3
  rw [bbb] at hcv
  have hc3 := t9.cells 3 (.int .u8 0) rfl
  rw [Addr.add_mid] at hc3
  have hle := t9.le
  clear m9 t9 ht3
  go_wp2_with fail
  refine (A.writes O9.out.disk).mono ?_
  rintro e w10 ⟨rfl, b10⟩
  rw [X6.out]
  have HB := Lib.hid (O9.out.later A b10).low
  clear b10
  go_wp2_with fail
  go_ret
  exact ⟨rfl, HB.out⟩
end Go.Proofs.Ytjlkddfihpdnmaa.Dk

/- An argument that is bytes, opened. -/
namespace Go.Proofs.Ytjlkddfihpdnmaa
open Go.ChangeShapes Go.WideShapes Go.ChangeAt Go.RowKit Go.Deep

theorem C22 : Try.prog.cellsOf 31 = 1 := by kernel_rfl
/-- Bytes, as the reading has them. -/
theorem open_bytes {H : Type} {enc : TypeId × Value → H} {W : World} {base : Nat} {held : Bool} {fuel : Nat} {a0 : Option Addr} {len0 cap0 : Nat} {x : DataW H × List MemPlace}
    (h : DataW.trod enc Try.prog W base (fun _ => true) held fuel 31 (Value.slice a0 len0 cap0).cells.toList = some x) : (∃ B, Tx W a0 len0 cap0 B) ∧ len0 ≤ 9223372036854775807 := by
  rcases open_ints Try.underlying31 Try.underlying5 C5 h with ⟨hcs, _⟩ | ⟨a, len, cap, zs, hcs, _, hl, hm, hz, _, hx, hw⟩
  · simp [Value.cells] at hcs
    obtain ⟨rfl, rfl, rfl⟩ := hcs
    exact ⟨⟨[], rfl, Nat.le_refl _, fun x hx => by simp at hx, Or.inl ⟨rfl, rfl⟩, fun _ h _ => by cases h⟩, by omega⟩
  · simp [Value.cells] at hcs
    obtain ⟨rfl, rfl, rfl⟩ := hcs
    simp only [if_true] at hz
    refine ⟨⟨nats zs len0, by simp [nats]; omega, hl, nats_ok hw _, Or.inr ⟨a, rfl, fun j u hu => ?_⟩, fun y hy hc => ?_⟩, by unfold maxLen at hm; omega⟩
    · obtain ⟨hj, rfl⟩ := nats_get hw len0 j (by omega) u hu
      exact hx j (by omega)
    · cases hy
      have := World.cell?_spot (hx 0 (by omega))
      simpa [Addr.add] using this
end Go.Proofs.Ytjlkddfihpdnmaa

/- An argument that is a list of Ops, opened. -/
namespace Go.Proofs.Ytjlkddfihpdnmaa.Dk
open Go.ChangeShapes Go.WideShapes Go.ChangeAt Go.RowKit Go.Deep

/-- One Op, as it lies in memory: Kind, I, B, Whole, Torn. -/
structure Op where
  kind : Nat
  i : Int
  bp : Option Addr
  (bn bc : Nat)
  B : List Nat
  whole : Bool
  torn : Int
def Op.cells (t : Op) : List Value := [.int .u8 t.kind, .int .i64 t.i, .slice t.bp t.bn t.bc, .bool t.whole, .int .i64 t.torn]
structure Op.Ok (w : World) (t : Op) : Prop where
  kind : t.kind < 256
  i : -9223372036854775808 ≤ t.i ∧ t.i ≤ 9223372036854775807
  b : Tx w t.bp t.bn t.bc t.B
  bl : t.bn ≤ 9223372036854775807
  torn : -9223372036854775808 ≤ t.torn ∧ t.torn ≤ 9223372036854775807
theorem Op.Ok.later {w w' : World} {t : Op} (h : t.Ok w) (hb : Below w.heap.size w w') : t.Ok w' := ⟨h.kind, h.i, h.b.later hb, h.bl, h.torn⟩
def fieldsOf : Option TypeDesc → Option (List (Nat × TypeId))
  | some (.struct fs) => some (fs.toList.map fun f => (f.offset, f.type))
  | _ => none
theorem field_at {fs : Array Field} {l : List (Nat × TypeId)} (h : fs.toList.map (fun f => (f.offset, f.type)) = l) {i o : Nat} {t : TypeId} (hi : l[i]? = some (o, t)) : ∃ f, fs[i]? = some f ∧ f.offset = o ∧ f.type = t := by
  subst h
  rw [List.getElem?_map, Option.map_eq_some_iff] at hi
  obtain ⟨f, hf, he⟩ := hi
  simp only [Prod.mk.injEq] at he
  exact ⟨f, by rw [← Array.getElem?_toList]; exact hf, he.1, he.2⟩
theorem PF : fieldsOf (Try.prog.underlying 35) = some [(0, 5), (1, 3), (2, 31), (3, 4), (4, 3)] := by kernel_rfl
theorem CP : Try.prog.cellsOf 35 = 5 := by kernel_rfl
theorem CI : Try.prog.cellsOf 3 = 1 := by kernel_rfl
theorem CB : Try.prog.cellsOf 4 = 1 := by kernel_rfl
theorem UI : Try.prog.underlying 3 = some (.int .i64) := by kernel_rfl
theorem UB : Try.prog.underlying 4 = some .bool := by kernel_rfl
theorem UPS : Try.prog.underlying 22 = some (.slice 35) := by kernel_rfl
section
variable {H : Type} {enc : TypeId × Value → H} {W : World} {base : Nat} {held : Bool} {fuel : Nat} {cs : List Value} {x : DataW H × List MemPlace}
theorem cells_bytes (h : DataW.trod enc Try.prog W base (fun _ => true) held fuel 31 cs = some x) : ∃ p n c B, cs = [.slice p n c] ∧ Tx W p n c B ∧ n ≤ 9223372036854775807 := by
  have h0 := h
  rcases open_ints Try.underlying31 Try.underlying5 C5 h with ⟨hcs, _⟩ | ⟨a, len, cap, zs, hcs, _⟩
  · rw [hcs] at h0
    obtain ⟨⟨B, hB⟩, hl⟩ := open_bytes (a0 := none) (len0 := 0) (cap0 := 0) h0
    exact ⟨_, _, _, B, hcs, hB, hl⟩
  · rw [hcs] at h0
    obtain ⟨⟨B, hB⟩, hl⟩ := open_bytes (a0 := some a) (len0 := len) (cap0 := cap) h0
    exact ⟨_, _, _, B, hcs, hB, hl⟩
theorem cells_op (h : DataW.trod enc Try.prog W base (fun _ => true) held fuel 35 cs = some x) : ∃ t : Op, cs = t.cells ∧ t.Ok W := by
  have hp := PF
  unfold fieldsOf at hp
  split at hp
  case h_2 => cases hp
  case h_1 fs hu =>
  simp only [Option.some.injEq] at hp
  obtain ⟨xs, n, _, _, hlen, hxs, hf⟩ := DataW.trod_struct hu h
  rw [CP] at hlen
  have get : ∀ (i o : Nat) (t : TypeId), ([(0, 5), (1, 3), (2, 31), (3, 4), (4, 3)] : List (Nat × TypeId))[i]? = some (o, t) →
      ∃ y, DataW.trod enc Try.prog W base (fun _ => true) held n t ((cs.drop o).take (Try.prog.cellsOf t)) = some y := fun i o t hi => by
    obtain ⟨f, h1, h2, h3⟩ := field_at hp hi
    have h4 := hf i f h1
    rw [h2, h3] at h4
    have hlt : i < xs.length := by rw [hxs]; exact (Array.getElem?_eq_some_iff.1 h1).1
    exact ⟨xs[i], by rw [h4, List.getElem?_eq_getElem hlt]⟩
  obtain ⟨y0, h0⟩ := get 0 0 _ rfl
  obtain ⟨y1, h1⟩ := get 1 1 _ rfl
  obtain ⟨y2, h2⟩ := get 2 2 _ rfl
  obtain ⟨y3, h3⟩ := get 3 3 _ rfl
  obtain ⟨y4, h4⟩ := get 4 4 _ rfl
  rw [C5] at h0
  rw [CI] at h1 h4
  rw [C22] at h2
  rw [CB] at h3
  obtain ⟨a0, e0, _, w0⟩ := DataW.trod_int Try.underlying5 h0
  obtain ⟨a1, e1, _, w1⟩ := DataW.trod_int UI h1
  obtain ⟨bp, bn, bc, B, e2, hB, hBl⟩ := cells_bytes h2
  obtain ⟨a3, e3, _⟩ := DataW.trod_bool UB h3
  obtain ⟨a4, e4, _, w4⟩ := DataW.trod_int UI h4
  have b0 := bounds_u8 w0
  have cut : ∀ o n, cs.drop o = (cs.drop o).take n ++ cs.drop (o + n) := fun o n => by
    rw [← List.drop_drop]; exact (List.take_append_drop n _).symm
  have hall : cs = [.int .u8 a0] ++ ([.int .i64 a1] ++ ([.slice bp bn bc] ++ ([.bool a3] ++ ([.int .i64 a4] ++ [])))) := by
    have := cut 0 1
    rw [List.drop_zero] at this
    rw [List.drop_zero] at e0
    rw [this, e0, cut 1 1, e1, cut 2 1, e2, cut 3 1, e3, cut 4 1, e4, List.drop_eq_nil_of_le (by omega)]
  refine ⟨⟨a0.toNat, a1, bp, bn, bc, B, a3, a4⟩, ?_, ⟨by show a0.toNat < 256; omega, bounds_i64 w1, hB, hBl, bounds_i64 w4⟩⟩
  rw [hall]
  unfold Op.cells
  have c0 : ((a0.toNat : Nat) : Int) = a0 := by omega
  simp only [c0]
  rfl
end
instance : Inhabited Op := ⟨⟨0, 0, none, 0, 0, [], false, 0⟩⟩
/-- A list of Ops that lies in memory. -/
structure Ops (w : World) (p : Option Addr) (len cap : Nat) (L : List Op) : Prop where
  size : len = L.length
  le : len ≤ cap
  at' : len ≠ 0 → ∃ g o, p = some ⟨g, o, none⟩ ∧ ∀ i, i < len → w.rangeAt g (o + i * 5) (L.getD i default).cells ∧ (L.getD i default).Ok w
theorem open_ops {H : Type} {enc : TypeId × Value → H} {W : World} {base : Nat} {held : Bool} {fuel : Nat} {a0 : Option Addr} {len0 cap0 : Nat} {x : DataW H × List MemPlace}
    (h : DataW.trod enc Try.prog W base (fun _ => true) held fuel 22 (Value.slice a0 len0 cap0).cells.toList = some x) : (∃ L, Ops W a0 len0 cap0 L) ∧ len0 ≤ 9223372036854775807 := by
  rcases open_slice UPS h with ⟨hcs, _⟩ | ⟨a, len, cap, m, n, Dd, Pl, hcs, _, hl, hm, hmm, _, hx⟩
  · simp [Value.cells] at hcs
    obtain ⟨rfl, rfl, rfl⟩ := hcs
    exact ⟨⟨[], rfl, Nat.le_refl _, fun h => absurd rfl h⟩, by omega⟩
  · simp [Value.cells] at hcs
    obtain ⟨rfl, rfl, rfl⟩ := hcs
    simp only [if_true] at hmm
    rw [CP] at hx
    obtain ⟨V, hV⟩ := choose_lt (α := Op) (n := len0) (p := fun i t => W.cells? base (a.add (i * 5)) 5 = some t.cells ∧ t.Ok W) (fun i hi => by
      obtain ⟨cs', h1, h2⟩ := hx i (by omega)
      obtain ⟨t, rfl, ht⟩ := cells_op h2
      exact ⟨t, h1, ht⟩)
    refine ⟨⟨(List.range len0).map V, by simp, hl, fun hn => ?_⟩, by unfold maxLen at hm; omega⟩
    obtain ⟨g, o, spot⟩ := a
    have hspot : spot = none := by
      have h0 := (World.cells?_some (hV 0 (by omega)).1).2.2 0 (by omega)
      have := World.cell?_spot (h0.trans rfl)
      simpa [Addr.add] using this
    subst hspot
    refine ⟨g, o, rfl, fun i hi => ?_⟩
    have e : ((List.range len0).map V).getD i default = V i := by simp [List.getD_eq_getElem?_getD, hi]
    rw [e]
    refine ⟨fun j v hv => ?_, (hV i hi).2⟩
    obtain ⟨_, hlen, hc⟩ := World.cells?_some (hV i hi).1
    have hj : j < 5 := by rw [← hlen]; exact (List.getElem?_eq_some_iff.1 hv).1
    have := hc j hj
    have ap : ∀ b o n : Nat, (⟨b, o, none⟩ : Addr).add n = ⟨b, o + n, none⟩ := fun b o n => by unfold Addr.add; split <;> simp_all
    rw [hv, ap, ap] at this
    exact this
end Go.Proofs.Ytjlkddfihpdnmaa.Dk

/- What the laws with scripts want of a disk besides. -/
namespace Go.Proofs.Ytjlkddfihpdnmaa.Dk
open Go.RowKit

variable {PD : World → Nat → (Nat → Prop) → D → Prop}
theorem D.fuse_n (s : D) (k t : Int) : (s.fuse k t).n = s.n ∧ (s.fuse k t).writes = s.writes := ⟨rfl, rfl⟩
theorem D.wake_n (s : D) : s.wake.n = s.n ∧ s.wake.writes = s.writes := ⟨rfl, rfl⟩
theorem D.write_n (s : D) (i : Int) (B : List Nat) : (s.write i B).n = s.n ∧ (s.write i B).writes ≤ s.writes + 1 := by
  unfold D.write
  split
  · exact ⟨rfl, Nat.le_refl _⟩
  · exact ⟨rfl, Nat.le_succ _⟩
theorem wpAnyH_mono {P : Program} {md : Region.Mode} {ops : Array Oper} {Q : Exit → Act → World → Prop} {S S' : World → Prop} (h : ∀ w, S' w → S w) : ∀ (fuel : Nat) (listed : Array Bool) (a : Act) (w : World), wpAnyH P md ops Q S' fuel listed a w → wpAnyH P md ops Q S fuel listed a w
  | 0, _, _, _, k => k
  | fuel + 1, _, _, _, k => ⟨k.1, fun i hi => wpOp_mono (fun a' w' h' => ⟨h _ h'.1, wpAnyH_mono h fuel _ a' w' h'.2⟩) (k.2 i hi)⟩
/-- What the laws hear of a disk's bytes. -/
theorem all_tx (A : Api PD) {w0 w6 w' : World} {g : Nat} {P : Nat → Prop} {s : D} (h : Own PD w0 w6 g P s) (hb : Below w6.heap.size w6 w') : Calls Try.prog 21 #[.pointer (some ⟨g, 0, none⟩)] w' fun e w'' => ∃ p c, e = .returned (.slice p (64 * s.n) c) ∧ Tx w'' p (64 * s.n) c s.L ∧ Below w6.heap.size w6 w'' :=
  (A.all (h.later A hb).disk).mono fun _e _w'' ⟨p, c, h1, h2, h3⟩ => ⟨p, c, h1, h2.tx, hb.trans (h3.mono hb.size)⟩
theorem dead_at (A : Api PD) {w0 w6 w' : World} {g : Nat} {P : Nat → Prop} {s : D} (h : Own PD w0 w6 g P s) (hb : Below w6.heap.size w6 w') : Calls Try.prog 19 #[.pointer (some ⟨g, 0, none⟩)] w' fun e w'' => e = .returned (.bool s.dead) ∧ Below w'.heap.size w' w'' := A.dead (h.later A hb).disk
theorem writes_at (A : Api PD) {w0 w6 w' : World} {g : Nat} {P : Nat → Prop} {s : D} (h : Own PD w0 w6 g P s) (hb : Below w6.heap.size w6 w') : Calls Try.prog 20 #[.pointer (some ⟨g, 0, none⟩)] w' fun e w'' => e = .returned (.int .i64 s.writes) ∧ Below w'.heap.size w' w'' := A.writes (h.later A hb).disk
theorem len_at (A : Api PD) {w0 w6 w' : World} {g : Nat} {P : Nat → Prop} {s : D} (h : Own PD w0 w6 g P s) (hb : Below w6.heap.size w6 w') : Calls Try.prog 10 #[.pointer (some ⟨g, 0, none⟩)] w' fun e w'' => e = .returned (.int .i64 s.n) ∧ Below w'.heap.size w' w'' := A.len (h.later A hb).disk
end Go.Proofs.Ytjlkddfihpdnmaa.Dk

/- The program's disk and the reference's, side by side. -/
namespace Go.Proofs.Ytjlkddfihpdnmaa.Dk
open Go.RowKit

variable {PD : World → Nat → (Nat → Prop) → D → Prop}
/-- The program's disk s in the block g, the reference's disk r in gr and qr, each aside of the other, both of the law's own. -/
structure Both (PD : World → Nat → (Nat → Prop) → D → Prop) (w0 w : World) (g : Nat) (P : Nat → Prop) (s : D) (gr qr : Nat) (r : D) : Prop where
  own : Own PD w0 w g P s
  ref : RD w gr qr r
  base : w0.heap.size ≤ gr ∧ w0.heap.size ≤ qr
  aside : ¬ P gr ∧ ¬ P qr
theorem Both.later (A : Api PD) {w0 w w' : World} {g : Nat} {P : Nat → Prop} {s : D} {gr qr : Nat} {r : D} (h : Both PD w0 w g P s gr qr r) (hb : Below w.heap.size w w') : Both PD w0 w' g P s gr qr r :=
  ⟨h.own.later A hb, h.ref.keep (P := fun _ => False) (Only.of_below _ hb) (fun e => e) (fun e => e), h.base, h.aside⟩
/-- The program's disk turns. -/
theorem Both.prog {w0 w w' : World} {g : Nat} {P P' : Nat → Prop} {s s' : D} {gr qr : Nat} {r : D} (h : Both PD w0 w g P s gr qr r) (hd : PD w' g P' s') (hp : ∀ k, P' k → P k ∨ w.heap.size ≤ k) (ho : Only P w w') : Both PD w0 w' g P' s' gr qr r :=
  ⟨h.own.turned hd hp ho, h.ref.keep ho h.aside.1 h.aside.2, h.base, fun e => by
    rcases hp _ e with e | e
    · exact h.aside.1 e
    · exact absurd h.ref.lt.1 (Nat.not_lt.2 e), fun e => by
    rcases hp _ e with e | e
    · exact h.aside.2 e
    · exact absurd h.ref.lt.2 (Nat.not_lt.2 e)⟩
/-- The reference's disk turns. -/
theorem Both.refs (A : Api PD) {w0 w w' : World} {g : Nat} {P : Nat → Prop} {s : D} {gr qr : Nat} {r r' : D} (h : Both PD w0 w g P s gr qr r) (hd : RD w' gr qr r') (ho : Only (fun k => k = gr ∨ k = qr) w w') : Both PD w0 w' g P s gr qr r' := by
  have hq : ∀ k, P k → ¬ (k = gr ∨ k = qr) := fun k hk e => by
    rcases e with rfl | rfl
    · exact h.aside.1 hk
    · exact h.aside.2 hk
  exact ⟨⟨A.keep _ h.own.disk ho hq, h.own.own, h.own.low.trans (ho.below h.own.low.size (fun k e => by rcases e with rfl | rfl; exact h.base.1; exact h.base.2))⟩, hd, h.base, h.aside⟩
/-- Bytes of one's own, in whatever cells of one block, each of which may be written over by another byte. -/
structure Soft (w : World) (base : Nat) (p : Option Addr) (n : Nat) : Prop where
  at' : n = 0 ∨ ∃ g o t C, p = some ⟨g, o, none⟩ ∧ base ≤ g ∧ w.heap[g]? = some (.cells C t (0, 0)) ∧ ∀ i, i < n → ∃ z : Nat, z < 256 ∧ C[o + i]? = some (.int .u8 (z : Nat))
theorem Mine.soft {w : World} {base : Nat} {p : Option Addr} {n c : Nat} {B : List Nat} (h : Mine w base p n c B) : Soft w base p n := by
  rcases h.at' with ⟨_, h0⟩ | ⟨g, o, t, C, hp, hb, hh, hc⟩
  · exact ⟨Or.inl (by have := h.le; omega)⟩
  · refine ⟨Or.inr ⟨g, o, t, C, hp, hb, hh, fun i hi => ⟨B.getD i 0, ?_, hc i hi⟩⟩⟩
    exact Sm.getD_lt h.ok (by omega) i
theorem Soft.cell {w : World} {base : Nat} {p : Option Addr} {n : Nat} (h : Soft w base p n) {k : Nat} (hk : k < n) : ∃ g o, p = some ⟨g, o, none⟩ ∧ base ≤ g ∧ g < w.heap.size ∧ w.frozen? ⟨g, o + k, none⟩ = false ∧ ∃ z : Nat, z < 256 ∧ w.cell? ⟨g, o + k, none⟩ = some (.int .u8 (z : Nat)) := by
  rcases h.at' with h0 | ⟨g, o, t, C, hp, hb, hh, hc⟩
  · omega
  · obtain ⟨z, hz, hx⟩ := hc k hk
    exact ⟨g, o, hp, hb, (Array.getElem?_eq_some_iff.1 hh).1, frozen_of_row w g _ _ _ hh, z, hz, by rw [cell_of_row w g (o + k) _ _ _ hh, hx]⟩
theorem Soft.set {w : World} {base g o n : Nat} (h : Soft w base (some ⟨g, o, none⟩) n) (k : Nat) {z : Nat} (hz : z < 256) : Soft (w.setCell ⟨g, o + k, none⟩ (.int .u8 (z : Nat))) base (some ⟨g, o, none⟩) n := by
  rcases h.at' with h0 | ⟨g', o', t, C, hp, hb, hh, hc⟩
  · exact ⟨Or.inl h0⟩
  · cases hp
    refine ⟨Or.inr ⟨g, o, t, _, rfl, hb, heap_setCell_same w g (o + k) _ _ (.int .u8 (z : Nat)) hh, fun i hi => ?_⟩⟩
    obtain ⟨y, hy, hx⟩ := hc i hi
    by_cases e : o + k = o + i
    · refine ⟨z, hz, ?_⟩
      rw [e, Array.getElem?_setIfInBounds_self_of_lt (Array.getElem?_eq_some_iff.1 hx).1]
    · refine ⟨y, hy, ?_⟩
      rw [Array.getElem?_setIfInBounds_ne e]
      exact hx
end Go.Proofs.Ytjlkddfihpdnmaa.Dk

/- DiskPlays' round: both disks, the operation of the round in a block of its own, bytes that may be written over. -/
namespace Go.Proofs.Ytjlkddfihpdnmaa.Dk
open Go.RowKit

variable {PD : World → Nat → (Nat → Prop) → D → Prop}
/-- Both disks, and the operation t in the block gx, aside of both. -/
structure Rd (PD : World → Nat → (Nat → Prop) → D → Prop) (w0 w : World) (g : Nat) (P : Nat → Prop) (s : D) (gr qr : Nat) (r : D) (gx : Nat) (t : Op) : Prop where
  both : Both PD w0 w g P s gr qr r
  row : w.heap[gx]? = some (.cells t.cells.toArray 35 (0, 0))
  base : w0.heap.size ≤ gx
  off : ¬ P gx ∧ gx ≠ gr ∧ gx ≠ qr
section
variable {w0 w w' : World} {g : Nat} {P P' : Nat → Prop} {s s' : D} {gr qr : Nat} {r r' : D} {gx : Nat} {t : Op}
theorem Rd.lt (h : Rd PD w0 w g P s gr qr r gx t) : gx < w.heap.size := (Array.getElem?_eq_some_iff.1 h.row).1
theorem Rd.cell (h : Rd PD w0 w g P s gr qr r gx t) (j : Nat) : w.cell? ⟨gx, j, none⟩ = t.cells.toArray[j]? := cell_of_row w gx j _ _ _ h.row
theorem Rd.later (A : Api PD) (h : Rd PD w0 w g P s gr qr r gx t) (hb : Below w.heap.size w w') : Rd PD w0 w' g P s gr qr r gx t :=
  ⟨h.both.later A hb, (hb.block gx h.lt).trans h.row, h.base, h.off⟩
theorem Rd.prog (h : Rd PD w0 w g P s gr qr r gx t) (hd : PD w' g P' s') (hp : ∀ k, P' k → P k ∨ w.heap.size ≤ k) (ho : Only P w w') : Rd PD w0 w' g P' s' gr qr r gx t :=
  ⟨h.both.prog hd hp ho, (ho.block gx h.lt h.off.1).trans h.row, h.base, fun e => (hp gx e).elim h.off.1 (fun e => absurd h.lt (Nat.not_lt.2 e)), h.off.2⟩
theorem Rd.refs (A : Api PD) (h : Rd PD w0 w g P s gr qr r gx t) (hd : RD w' gr qr r') (ho : Only (fun k => k = gr ∨ k = qr) w w') : Rd PD w0 w' g P s gr qr r' gx t :=
  ⟨h.both.refs A hd ho, (ho.block gx h.lt (fun e => e.elim h.off.2.1 h.off.2.2)).trans h.row, h.base, h.off⟩
theorem Rd.low (h : Rd PD w0 w g P s gr qr r gx t) : Below w0.heap.size w0 w := h.both.own.low
/-- A block above all of these. -/
structure Above (w0 : World) (P : Nat → Prop) (gr qr gx base : Nat) : Prop where
  own : ∀ k, P k → k < base
  ref : gr < base ∧ qr < base
  row : gx < base
  low : w0.heap.size ≤ base
theorem Rd.above (A : Api PD) (h : Rd PD w0 w g P s gr qr r gx t) : Above w0 P gr qr gx w.heap.size :=
  ⟨A.lt h.both.own.disk, h.both.ref.lt, h.lt, h.low.size⟩
/-- A block aside of all of these. -/
structure Aside (w0 : World) (P : Nat → Prop) (gr qr gx k : Nat) : Prop where
  own : ¬ P k
  ref : k ≠ gr ∧ k ≠ qr
  row : k ≠ gx
  low : w0.heap.size ≤ k
theorem Above.aside {base k : Nat} (h : Above w0 P gr qr gx base) (hk : base ≤ k) : Aside w0 P gr qr gx k :=
  ⟨fun e => by have := h.own k e; omega, ⟨fun e => by have := h.ref; omega, fun e => by have := h.ref; omega⟩, fun e => by have := h.row; omega, Nat.le_trans h.low hk⟩
theorem Mine.lt {base : Nat} {p : Option Addr} {n c : Nat} {B : List Nat} (h : Mine w base p n c B) : ∀ x, p = Option.some x → x.block < w.heap.size := fun x hx => by
  rcases h.at' with ⟨h0, _⟩ | ⟨g, o, t, C, hp, hb, hh, _⟩
  · rw [h0] at hx; cases hx
  · rw [hp] at hx; cases hx; exact (Array.getElem?_eq_some_iff.1 hh).1
/-- The program's disk turned: what lay aside of it lies aside. -/
theorem Aside.turned {k n : Nat} (h : Aside w0 P gr qr gx k) (hp : ∀ j, P' j → P j ∨ n ≤ j) (hk : k < n) : Aside w0 P' gr qr gx k :=
  ⟨fun e => (hp k e).elim h.own (fun e => Nat.not_le.2 hk e), h.ref, h.row, h.low⟩
/-- A block aside of these is written. -/
theorem Rd.wrote (A : Api PD) (h : Rd PD w0 w g P s gr qr r gx t) {gb : Nat} (ha : Aside w0 P gr qr gx gb) (ho : Only (fun k => k = gb) w w') : Rd PD w0 w' g P s gr qr r gx t :=
  ⟨⟨⟨A.keep _ h.both.own.disk ho (fun k hk e => ha.own (by rw [← e]; exact hk)), h.both.own.own, h.low.trans (ho.below h.low.size (fun k e => by rw [e]; exact ha.low))⟩,
    h.both.ref.keep ho (fun e => ha.ref.1 e.symm) (fun e => ha.ref.2 e.symm), h.both.base, h.both.aside⟩,
    (ho.block gx h.lt (fun e => ha.row e.symm)).trans h.row, h.base, h.off⟩
/-- Both disks under way, bytes of one's own above them, the number j of the next one. -/
def Over (PD : World → Nat → (Nat → Prop) → D → Prop) (w0 : World) (g : Nat) (P : Nat → Prop) (s : D) (gr qr gx : Nat) (t : Op) (base : Nat) (p : Option Addr) (n : Nat) (i : Value) (wr : World) : Prop :=
  ∃ j : Nat, j ≤ n ∧ i = .int .i64 j ∧ Rd PD w0 wr g P s gr qr s gx t ∧ Soft wr base p n
end
/-- What the reference tells of a sector. -/
theorem RD.tx {w : World} {g q : Nat} {s : D} (h : RD w g q s) {i : Int} (h0 : s.no i 64 = 0) : Tx w (some ⟨q, 64 * i.toNat, none⟩) 64 (64 * s.n - 64 * i.toNat) (s.gives i) := by
  obtain ⟨_, h1, h2, _⟩ := D.no_zero h0
  have hl := h.ok.len
  have hg : s.gives i = (s.L.drop (64 * i.toNat)).take 64 := by unfold D.gives; rw [if_pos h0]
  have hb : Bytes w (some ⟨q, 0, none⟩) s.L.length s.L.length s.L := Bytes.row h.bytes h.ok.bytes
  have h3 := (hb.drop (64 * i.toNat) (by omega)).take 64 (by omega)
  rw [Nat.zero_add, hl] at h3
  rw [hg]
  exact h3.tx
theorem RD.all {w : World} {g q : Nat} {s : D} (h : RD w g q s) : Tx w (some ⟨q, 0, none⟩) (64 * s.n) (64 * s.n) s.L := by
  have hb : Bytes w (some ⟨q, 0, none⟩) s.L.length s.L.length s.L := Bytes.row h.bytes h.ok.bytes
  rw [h.ok.len] at hb
  exact hb.tx
theorem D.gives_length {s : D} (h : s.ok) (i : Int) (h0 : s.no i 64 = 0) : (s.gives i).length = 64 := by
  obtain ⟨_, h1, h2, _⟩ := D.no_zero h0
  have hl := h.len
  unfold D.gives
  rw [if_pos h0, List.length_take, List.length_drop]
  omega
theorem D.gives_none {s : D} {i : Int} (h0 : s.no i 64 ≠ 0) : s.gives i = [] := by unfold D.gives; rw [if_neg h0]
theorem tx_nil (w : World) : Tx w none 0 0 [] := ⟨rfl, Nat.le_refl _, (fun x hx => by cases hx), Or.inl ⟨rfl, rfl⟩, fun x hx => by cases hx⟩
theorem rread_tx (s : D) (i : Int) (g q : Nat) (w : World) (h : RD w g q s) :
    Calls Try.prog 16 #[.pointer (some ⟨g, 0, none⟩), .int .i64 i] w fun e w' => w' = w ∧ ∃ p n c, e = .returned (.tuple #[.slice p n c, .int .i64 (s.no i 64)]) ∧ Tx w p n c (s.gives i) := by
  refine (rread_any s i g q w h).mono ?_
  rintro e w' ⟨rfl, ⟨h0, rfl⟩ | ⟨h0, rfl⟩⟩
  · exact ⟨rfl, _, _, _, rfl, by rw [D.gives_none h0]; exact tx_nil _⟩
  · exact ⟨rfl, _, _, _, by rw [h0]; rfl, h.tx h0⟩
theorem D.gives_le {s : D} (h : s.ok) (i : Int) : (s.gives i).length ≤ 64 := by
  by_cases h0 : s.no i 64 = 0
  · exact Nat.le_of_eq (D.gives_length h i h0)
  · rw [D.gives_none h0]; exact Nat.zero_le _
/-- Bytes that lie above what a call turns. -/
theorem Mine.only {w w' : World} {base : Nat} {p : Option Addr} {n c : Nat} {B : List Nat} (h : Mine w base p n c B) {Q : Nat → Prop} (ho : Only Q w w') (hq : ∀ k, Q k → k < base) : Mine w' base p n c B :=
  ⟨h.size, h.le, h.ok, h.at'.imp id fun ⟨g, o, t, C, hp, hb, hh, hc⟩ => ⟨g, o, t, C, hp, hb, (ho.block g (Array.getElem?_eq_some_iff.1 hh).1 (fun e => by have := hq g e; omega)).trans hh, hc⟩⟩
theorem Mine.take {w : World} {base : Nat} {p : Option Addr} {n c : Nat} {B : List Nat} (h : Mine w base p n c B) {m : Nat} (hm : m ≤ n) : Mine w base p m c (B.take m) :=
  ⟨by have := h.size; rw [List.length_take]; omega, Nat.le_trans hm h.le, fun x hx => h.ok x (List.mem_of_mem_take hx), h.at'.imp id fun ⟨g, o, t, C, hp, hb, hh, hc⟩ => ⟨g, o, t, C, hp, hb, hh, fun i hi => by
    rw [hc i (by omega)]
    simp [List.getD_eq_getElem?_getD, hi]⟩⟩
/-- A row that an append made. -/
theorem own_mine {w : World} {base n c : Nat} {q : Option Addr} {B : List Nat} (h : w.ownsRow base 5 1 (.slice q n c) n (vals B)) (hB : Sm.allB B) : Mine w base q n c B := by
  have hl : n = B.length := by have := h.1; rw [vals_length, Nat.mul_one] at this; exact this.symm
  rcases h.2 with ⟨e, h0⟩ | ⟨g, c', cur, e, hb, hg, hc, _, _, ht⟩
  · cases e
    exact ⟨hl, Nat.le_refl _, hB, Or.inl ⟨rfl, rfl⟩⟩
  · cases e
    refine ⟨hl, hc, hB, Or.inr ⟨g, 0, _, cur, rfl, hb, hg, fun i hi => ?_⟩⟩
    have e := congrArg (fun l => l[i]?) ht
    rw [vals_get B i (by omega), List.getElem?_take_of_lt (by omega)] at e
    rw [Nat.zero_add, ← Array.getElem?_toList]
    exact e
/-- The bytes under way to a sector's length. -/
def Fill (PD : World → Nat → (Nat → Prop) → D → Prop) (w0 : World) (g : Nat) (P : Nat → Prop) (s : D) (gr qr gx : Nat) (t : Op) (base : Nat) (v : Value) (wr : World) : Prop :=
  ∃ (q : Option Addr) (c : Nat) (B : List Nat), v = .slice q B.length c ∧ wr.ownsRow base 5 1 (.slice q B.length c) B.length (vals B) ∧ Sm.allB B ∧ B.length ≤ 300 ∧ Rd PD w0 wr g P s gr qr s gx t ∧ base ≤ wr.heap.size
/-- An append to one's own row. -/
theorem own_only {w w' : World} {base n size : Nat} {e : TypeId} {v : Value} {xs : List Value} (h : w.ownsRow base e size v n xs) (hg : w.grownBy w' v.ownBlock) : Only (fun k => base ≤ k) w w' :=
  ⟨hg.os, hg.tape, hg.output, hg.size, fun k hk hn => hg.block k hk (fun e => hn (h.lt k e.symm).1)⟩
theorem Rd.grew (A : Api PD) {w0 w w' : World} {g : Nat} {P : Nat → Prop} {s r : D} {gr qr gx : Nat} {t : Op} (h : Rd PD w0 w g P s gr qr r gx t) {base : Nat} (ha : Above w0 P gr qr gx base) (ho : Only (fun k => base ≤ k) w w') : Rd PD w0 w' g P s gr qr r gx t :=
  ⟨⟨⟨A.keep _ h.both.own.disk ho (fun k hk e => by have := ha.own k hk; omega), h.both.own.own, h.low.trans (ho.below h.low.size (fun k e => by have := ha.low; omega))⟩,
    h.both.ref.keep ho (fun e => by have := ha.ref; omega) (fun e => by have := ha.ref; omega), h.both.base, h.both.aside⟩,
    (ho.block gx h.lt (fun e => by have := ha.row; omega)).trans h.row, h.base, h.off⟩
end Go.Proofs.Ytjlkddfihpdnmaa.Dk
