/- The contracts of codec.Writer's Row, and of indentureref02.Row, Truth; Count of what is no count. -/
import Derived.Test.YtlkclbhgbkcplaaCodW2
import Derived.Test.YtlkclbhgbkcplaaGenInts
import Derived.Test.YtlkclbhgbkcplaaCodRef
namespace Go.Proofs.Ytlkclbhgbkcplaa
open Go.RowKit

/-- The bytes of a row's numbers. -/
def nums (R : List Int) : List Nat := R.flatMap Cm.num
theorem nums_length (R : List Int) : (nums R).length = 8 * R.length := by
  induction R with
  | nil => rfl
  | cons x R ih =>
    show (Cm.num x ++ nums R).length = _
    rw [List.length_append, ih, Cm.num_length, List.length_cons]
    omega
theorem nums_ok (R : List Int) : Sm.allB (nums R) := fun x hx => by
  obtain ⟨y, _, hy⟩ := List.mem_flatMap.1 hx
  exact Cm.num_ok y x hy
theorem nums_step (R : List Int) (k : Nat) (hk : k < R.length) : nums (R.take (k + 1)) = nums (R.take k) ++ Cm.num (R.getD k 0) := by
  have e : R.getD k 0 = R[k] := by rw [List.getD_eq_getElem?_getD, List.getElem?_eq_getElem hk]; rfl
  rw [e, List.take_succ_eq_append_getElem hk]
  unfold nums
  rw [List.flatMap_append, List.flatMap_cons, List.flatMap_nil, List.append_nil]
def rowB (R : List Int) : List Nat := R.length :: nums R
theorem rowB_length (R : List Int) : (rowB R).length = 1 + 8 * R.length := by
  show (nums R).length + 1 = _
  rw [nums_length]; omega
def St.row' (s : St) (R : List Int) : St := if R.length ≤ 255 then s.put (rowB R) else .no
def WRowRel (w : World) (base g : Nat) (v : Value) (s : St) (R : List Int) (i : Value) (wr : World) : Prop :=
  ∃ (k : Nat) (v' : Value), k ≤ R.length ∧ i = .int .i64 k ∧ WS wr base g v' (s.put (R.length :: nums (R.take k))) ∧ WStep w wr g v v'
set_option maxRecDepth 100000 in
set_option maxHeartbeats 1000000 in
theorem roww_any (s : St) (R : List Int) (p : Option Addr) (n c : Nat) (base g : Nat) (v : Value) (w : World) (hs : WS w base g v s) (hR : Ints w p n c R) (hl : s.B.length + (1 + 8 * R.length) < 1099511627776) (hbw : base ≤ w.heap.size)
    (hg : ∀ x, p = some x → R ≠ [] → x.block ≠ g ∧ v.ownBlock ≠ some x.block) :
    Calls Try.prog 18 #[.pointer (some ⟨g, 0, none⟩), .slice p n c] w (WPost w base g v (s.row' R)) := by
  have HS := Lib.hid hs
  have HR := Lib.hid hR
  have HL := Lib.hid hl
  have HG := Lib.hid hg
  have HN := Lib.hid hR.size
  have HBW := Lib.hid hbw
  have hn : n < 1099511627776 := by have := hR.size; omega
  clear hs hR hl hg hbw
  go_enter Try.func18, Try.ntmps18
  by_cases h : 255 < n
  · have b1 : (255 : Int) < n := by omega
    go_wp2_with fail
    refine (refuse_any s base g v _ HS.out).mono ?_
    rintro e w1 hp
    obtain ⟨rfl, v2, h3, h4⟩ := hp
    have H3 := Lib.hid h3
    have H4 := Lib.hid h4
    clear h3 h4
    go_wp2_with fail
    go_end0
    refine ⟨rfl, v2, ?_, H4.out⟩
    unfold St.row'
    rw [if_neg (by have := HN.out; omega)]
    exact H3.out
  · have b1 : ¬ (255 : Int) < n := by omega
    go_wp2_with fail
    refine (byte_any s n (by omega) base g v _ HS.out (by have := HL.out; omega) HBW.out).mono ?_
    rintro e w1 hp
    obtain ⟨rfl, v2, h3, h4⟩ := hp
    have H3 := Lib.hid h3
    have H4 := Lib.hid h4
    clear h3 h4
    go_wp2_with fail
    go_loopw [18] (fun i wr => WRowRel w base g v s R i wr) (fun i _ => n - (intOf i).toNat)
    case atStart => exact ⟨0, v2, by omega, rfl, by rw [← HN.out]; exact H3.out, H4.out⟩
    case round =>
      obtain ⟨k, v1, hk, rfl, h1, h2⟩ := hrel
      rw [← HN.out] at hk
      have H1 := Lib.hid h1
      have H2 := Lib.hid h2
      clear h1 h2 H3 H4
      by_cases hlt : k < n
      · have hkR : k < R.length := by rw [← HN.out]; exact hlt
        have hx := HR.out.get k hlt
        rcases HR.out.at' with h0 | ⟨gx, o, hp, hc⟩
        · rw [h0] at hkR; exact absurd hkR (by simp)
        · have hne : R ≠ [] := by rintro rfl; exact absurd hkR (by simp)
          obtain ⟨e1, e2⟩ := HG.out _ hp hne
          subst hp
          have hc1 := hc k hkR
          have hcell : wr.cell? ⟨gx, o + k, none⟩ = some (.int .i64 (R.getD k 0)) := by
            rw [World.cell?_of_block (w := w) (w' := wr) (a := ⟨gx, o + k, none⟩) (H2.out.block gx (block_lt_of_cell hc1) e1 e2)]
            exact hc1
          obtain ⟨x, hxx⟩ : ∃ x, x = R.getD k 0 := ⟨_, rfl⟩
          rw [← hxx] at hcell hx
          have hlen := St.put_len s (R.length :: nums (R.take k))
          rw [List.length_cons, nums_length, List.length_take_of_le (Nat.le_of_lt hkR)] at hlen
          have HXX := Lib.hid hxx
          have HLN := Lib.hid hlen
          have HX := Lib.hid hx
          have HLE := Lib.hid HR.out.le
          clear hc hc1 hne e1 e2 hxx hlen hx
          have hle := HLE.out
          go_wp2_with fail
          refine (num_any _ x HX.out.1 HX.out.2 base g v1 _ H1.out (by have := HLN.out; have := HL.out; omega) (Nat.le_trans HBW.out H2.out.size)).mono ?_
          rintro e w3 hp
          obtain ⟨rfl, v3, h5, h6⟩ := hp
          have H5 := Lib.hid h5
          have H6 := Lib.hid (H2.out.trans h6)
          clear h5 h6
          go_wp2_with fail
          go_roundw
          case rel =>
            refine ⟨k + 1, v3, by omega, by go_num, ?_, H6.out⟩
            have := H5.out
            rw [St.put_put, HXX.out, List.cons_append, ← nums_step R k hkR] at this
            exact this
          case measure => simp [intOf]; omega
      · obtain rfl : k = n := by omega
        go_wp2_with fail
        go_end0
        refine ⟨rfl, v1, ?_, H2.out⟩
        have := H1.out
        rw [List.take_of_length_le (by have := HN.out; omega)] at this
        unfold St.row'
        rw [if_pos (by have := HN.out; omega)]
        exact this
theorem row_some {w : World} {base n : Nat} {q : Option Addr} {c : Nat} {xs : List Value} (h : w.ownsRow base 5 1 (.slice q n c) n xs) (h0 : 0 < n) : ∃ x, q = some x := by
  rcases h.2 with ⟨hv, _⟩ | ⟨g, cap, cur, hv, _⟩
  · cases hv; omega
  · simp only [Value.slice.injEq] at hv
    exact ⟨_, hv.1⟩
def RowRel (w : World) (R : List Int) (v i : Value) (wr : World) : Prop :=
  ∃ k : Nat, k ≤ R.length ∧ i = .int .i64 k ∧ wr.ownsRow w.heap.size 5 1 v (1 + 8 * k) (vals (R.length % 256 :: nums (R.take k))) ∧ Below w.heap.size w wr
set_option maxRecDepth 100000 in
set_option maxHeartbeats 1000000 in
theorem refrow_any (R : List Int) (p : Option Addr) (n c : Nat) (w : World) (hR : Ints w p n c R) (hn : n < 1000000) :
    Calls Try.prog 19 #[.slice p n c] w (RefPost w (R.length % 256 :: nums R)) := by
  have HR := Lib.hid hR
  have HN := Lib.hid hR.size
  have HLE := Lib.hid hR.le
  obtain ⟨i5, hi, hi0, hi1, hi2⟩ := info_parts I5
  have HI := Lib.hid hi
  have HI0 := Lib.hid hi0
  have HI1 := Lib.hid hi1
  have HI2 := Lib.hid hi2
  have hw : IntKind.u8.wrap (n : Int) = ((n % 256 : Nat) : Int) := by rw [IntKind.wrap_u8]; omega
  clear hi hi0 hi1 hi2 hR
  go_enter Try.func19, Try.ntmps19
  go_wp2_with fail
  have hst : RowRel w R (.slice (some ⟨w.heap.size, 0, none⟩) 1 1) (.int .i64 0) (w.alloc (.cells #[.int .u8 ((n : Int) % 256)] 5)) := by
    rw [show (n : Int) % 256 = ((n % 256 : Nat) : Int) from by omega]
    exact ⟨0, by omega, rfl, by rw [← HN.out]; exact owns_mk (L := [n % 256]) (heap_alloc_new w _) rfl (Nat.le_refl _) (by unfold maxLen; omega) (Nat.le_refl _), (Below.refl _ _).alloc (Nat.le_refl _) _⟩
  have HST := Lib.hid hst
  clear hst hw
  go_loopw [3, 4] (fun v i wr => RowRel w R v i wr) (fun _ i _ => n - (intOf i).toNat)
  case atStart => exact HST.out
  case round =>
    obtain ⟨k, hk, rfl, ho, hb⟩ := hrel
    rw [← HN.out] at hk
    have HO := Lib.hid ho
    have HB := Lib.hid hb
    clear ho hb HST
    by_cases hlt : k < n
    · have hkR : k < R.length := by rw [← HN.out]; exact hlt
      have hx := HR.out.get k hlt
      rcases HR.out.at' with h0 | ⟨gx, o, hp, hc⟩
      · rw [h0] at hkR; exact absurd hkR (by simp)
      · subst hp
        have hc1 := hc k hkR
        have hcell : wr.cell? ⟨gx, o + k, none⟩ = some (.int .i64 (R.getD k 0)) := (HB.out.cell (p := ⟨gx, o + k, none⟩) (block_lt_of_cell hc1)).trans hc1
        obtain ⟨x, hxx⟩ : ∃ x, x = R.getD k 0 := ⟨_, rfl⟩
        rw [← hxx] at hcell hx
        have HXX := Lib.hid hxx
        have HX := Lib.hid hx
        clear hc hc1 hxx hx
        have hle := HLE.out
        go_wp2_with fail
        refine (refnum_any x HX.out.1 HX.out.2 wr).mono ?_
        rintro e w3 hp
        obtain ⟨q3, c3, rfl, h3, h4⟩ := hp
        rw [Cm.num_length] at h3 ⊢
        obtain ⟨y3, hy3⟩ := row_some h3 (by omega)
        rw [hy3] at h3 ⊢
        have H3 := Lib.hid h3
        have T3 := Lib.hid (show Tx w3 (some y3) 8 c3 (Cm.num x) from tx_of_owns h3 (Cm.num_ok x))
        have HO3 := Lib.hid (owns_later HO.out h4)
        have HB3 := Lib.hid (HB.out.trans (h4.mono HB.out.size))
        clear h3 h4 hy3
        go_wp2_with (at_builtin; refine wpList_append_own _ (by rfl) (.tmp 15) (.tmp 20) 25 (by rfl) w.heap.size 5 i5 (.int .u8 0) 1 1 A22 HI.out HI0.out HI1.out HI2.out (by rfl) (by decide) _ (1 + 8 * k) _ (by rfl) HO3.out y3 8 c3 (vals (Cm.num x)) (by rfl) (by rw [vals_length, Nat.mul_one, Cm.num_length]) (T3.out.cells) (vals_one _) (by unfold maxLen; omega) (by omega) HB3.out.size ?_; intro v4 w4 hown4 hgrow4 _; have HO4 := Lib.hid hown4; have HB4 := Lib.hid (HB3.out.grown hgrow4 HB3.out.size (fun i hi => (HO3.out.lt i hi).1)); clear hown4 hgrow4)
        go_wp2_with fail
        go_roundw
        case rel =>
          refine ⟨k + 1, by omega, by go_num, ?_, HB4.out⟩
          have ho := HO4.out
          rw [← vals_append, HXX.out, List.cons_append, ← nums_step R k hkR, show 1 + 8 * k + 8 = 1 + 8 * (k + 1) from by omega] at ho
          exact ho
        case measure => simp [intOf]; omega
    · obtain rfl : k = n := by omega
      go_wp2_with fail
      go_ret
      have ho := HO.out
      rw [List.take_of_length_le (by have := HN.out; omega)] at ho
      obtain ⟨q, d, rfl⟩ := slice_of_owns ho
      have e : 1 + 8 * k = (R.length % 256 :: nums R).length := by rw [List.length_cons, nums_length, HN.out]; omega
      rw [e] at ho
      exact ⟨q, d, congrArg (fun m => Ending.returned (.slice q m d)) e, ho, HB.out⟩
set_option maxRecDepth 100000 in
set_option maxHeartbeats 1000000 in
theorem reftruth_any (x : Bool) (w : World) :
    Calls Try.prog 10 #[.bool x] w (RefPost w [if x then 1 else 0]) := by
  cases x
  · go_enter Try.func10, Try.ntmps10
    go_wp2_with fail
    go_ret
    exact ⟨_, 1, rfl, owns_mk (L := [0]) (heap_alloc_new w _) rfl (Nat.le_refl _) (by unfold maxLen; omega) (Nat.le_refl _), (Below.refl _ _).alloc (Nat.le_refl _) _⟩
  · go_enter Try.func10, Try.ntmps10
    go_wp2_with fail
    go_ret
    exact ⟨_, 1, rfl, owns_mk (L := [1]) (heap_alloc_new w _) rfl (Nat.le_refl _) (by unfold maxLen; omega) (Nat.le_refl _), (Below.refl _ _).alloc (Nat.le_refl _) _⟩
set_option maxRecDepth 100000 in
set_option maxHeartbeats 1000000 in
theorem refcount_neg (n : Int) (_h1 : -9223372036854775808 ≤ n) (_h2 : n < 0) (w : World) : Calls Try.prog 12 #[.int .i64 n] w (fun e w' => ∃ P : List Nat, Sm.allB P ∧ P.length = 3 ∧ RefPost w P e w') := by
  go_enter Try.func12, Try.ntmps12
  go_wp2_with fail
  have a0 : (n.tdiv 65536).tmod 256 % 256 = ((((n.tdiv 65536).tmod 256 % 256).toNat : Nat) : Int) := by omega
  have a1 : (n.tdiv 256).tmod 256 % 256 = ((((n.tdiv 256).tmod 256 % 256).toNat : Nat) : Int) := by omega
  have a2 : n.tmod 256 % 256 = (((n.tmod 256 % 256).toNat : Nat) : Int) := by omega
  have l0 : ((n.tdiv 65536).tmod 256 % 256).toNat < 256 := by omega
  have l1 : ((n.tdiv 256).tmod 256 % 256).toNat < 256 := by omega
  have l2 : (n.tmod 256 % 256).toNat < 256 := by omega
  generalize ((n.tdiv 65536).tmod 256 % 256).toNat = x0 at a0 l0
  generalize ((n.tdiv 256).tmod 256 % 256).toNat = x1 at a1 l1
  generalize (n.tmod 256 % 256).toNat = x2 at a2 l2
  rw [a0, a1, a2]
  clear a0 a1 a2
  go_ret
  refine ⟨[x0, x1, x2], fun x hx => by simp at hx; omega, rfl, ?_⟩
  exact ⟨some ⟨w.heap.size, 0, none⟩, 3, rfl, owns_mk (L := [x0, x1, x2]) (heap_alloc_new w _) rfl (Nat.le_refl _) (by unfold maxLen; decide) (Nat.le_refl _), (Below.refl _ _).alloc (Nat.le_refl _) _⟩
end Go.Proofs.Ytlkclbhgbkcplaa
