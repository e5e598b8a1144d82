/- The contracts of codec.Reader: value, atMost, Count, End, Err, Left; codec.New. -/
import Derived.Shelf.Bytes.SlSmallAll
import Derived.Test.YtlkclbhgbkcplaaCodR
namespace Go.Proofs.Ytlkclbhgbkcplaa
open Go.RowKit

theorem Rd.past_len (s : Rd) (n : Nat) : (s.past n).R.length ≤ s.R.length := by
  unfold Rd.past Rd.refuse
  split
  · simp
  · split <;> simp
theorem Rd.refuse_len (s : Rd) (n : Nat) : (s.refuse n).R.length ≤ s.R.length := by
  unfold Rd.refuse
  split <;> simp
theorem Rd.part_ok {s : Rd} (h : Sm.allB s.R) (n : Nat) : Sm.allB (s.part n) := by
  unfold Rd.part
  split
  · exact fun x hx => h x (List.mem_of_mem_take hx)
  · intro x hx; simp at hx
theorem Rd.part_len (s : Rd) (n : Nat) : (s.part n).length ≤ n := by
  unfold Rd.part
  split
  · rw [List.length_take]; omega
  · simp
theorem shl8_or {m b : Nat} (hm : m < 72057594037927936) (hb : b < 256) : bits .or .u64 ((m : Int) * 256) (b : Int) = ((m * 256 + b : Nat) : Int) := by
  rw [show (m : Int) * 256 = ((m * 256 : Nat) : Int) from by omega, u64_or_nat _ _ (by omega) (by omega)]
  have : m * 256 ||| b = m * 256 + b := by
    have h := Nat.shiftLeft_add_eq_or_of_lt (i := 8) (b := b) (by omega) m
    rw [Nat.shiftLeft_eq] at h
    exact h.symm
  rw [this]
theorem take_snoc (B : List Nat) (k : Nat) (h : k < B.length) : B.take (k + 1) = B.take k ++ [B.getD k 0] := by
  rw [List.take_succ_eq_append_getElem h, List.getD_eq_getElem?_getD, List.getElem?_eq_getElem h]; rfl
theorem pow256 (k : Nat) (h : k ≤ 7) : 256 ^ k ≤ 72057594037927936 := Nat.le_trans (Nat.pow_le_pow_right (by omega) h) (by decide)
def RVRel (w : World) (g : Nat) (s : Rd) (B : List Nat) (q : Option Addr) (c : Nat) (a i : Value) (wr : World) : Prop :=
  ∃ k : Nat, k ≤ B.length ∧ i = .int .i64 k ∧ a = .int .u64 (Cm.val (B.take k) : Nat) ∧ Tx wr q B.length c B ∧ RSx wr g s ∧ w.grownBy wr (some g)
set_option maxRecDepth 100000 in
set_option maxHeartbeats 1000000 in
theorem rvalue_any (s : Rd) (n : Nat) (g : Nat) (w : World) (hs : RSx w g s) (hn : n ≤ 8) (hl : s.R.length < 1099511627776) :
    Calls Try.prog 39 #[.pointer (some ⟨g, 0, none⟩), .int .i64 n] w (RPost w g (.int .u64 (Cm.val (s.part n) : Nat)) (s.past n)) := by
  have HS := Lib.hid hs
  have HL := Lib.hid hl
  clear hs hl
  go_enter Try.func39, Try.ntmps39
  go_wp2_with fail
  refine (take_any s n g _ HS.out (by omega) HL.out).mono ?_
  rintro e w1 hp
  obtain ⟨q, c, rfl, h1, h2, h3⟩ := hp
  have hpl := Rd.part_len s n
  generalize s.part n = B at *
  generalize s.past n = s1 at *
  have H1 := Lib.hid h1
  have H2 := Lib.hid h2
  have H3 := Lib.hid h3
  clear h1 h2 h3 HS
  go_wp2_with fail
  go_loopw [5, 12] (fun a i wr => RVRel w g s1 B q c a i wr) (fun _ i _ => B.length - (intOf i).toNat)
  case atStart => exact ⟨0, by omega, rfl, rfl, H1.out, H2.out, H3.out⟩
  case round =>
    obtain ⟨k, hk, rfl, rfl, h4, h5, h6⟩ := hrel
    have H4 := Lib.hid h4
    have H5 := Lib.hid h5
    have H6 := Lib.hid h6
    clear h4 h5 h6 H1 H2 H3
    by_cases hlt : k < B.length
    · obtain ⟨g1, o1, hp, hx⟩ := H4.out.bytes.ne (by rintro rfl; simp at hlt)
      subst hp
      have hc := hx k hlt
      have hle := H4.out.le
      have hb8 : B.getD k 0 < 256 := Sm.getD_lt H4.out.ok (by omega) k
      have hvl : Cm.val (B.take k) < 256 ^ (B.take k).length := Cm.val_lt (fun x hx => H4.out.ok x (List.mem_of_mem_take hx))
      have hv7 : Cm.val (B.take k) < 72057594037927936 := Nat.lt_of_lt_of_le hvl (pow256 _ (by rw [List.length_take]; omega))
      have hst : Cm.val (B.take (k + 1)) = Cm.val (B.take k) * 256 + B.getD k 0 := by rw [take_snoc B k hlt, Cm.val_snoc]
      have HST := Lib.hid hst
      clear hst hvl hx
      generalize Cm.val (B.take k) = m at *
      generalize B.getD k 0 = b at *
      have hor := shl8_or hv7 hb8
      have HOR := Lib.hid hor
      clear hor
      go_wp2_with fail
      rw [HOR.out]
      go_roundw
      case rel => exact ⟨k + 1, by omega, by go_num, by rw [HST.out], H4.out, H5.out, H6.out⟩
      case measure => simp [intOf]; omega
    · obtain rfl : k = B.length := by omega
      rw [List.take_length]
      go_wp2_with fail
      go_ret
      exact ⟨rfl, H5.out, H6.out⟩
set_option maxHeartbeats 1000000 in
theorem atmost_any (s : Rd) (most n : Int) (g : Nat) (w : World) (hs : RSx w g s) :
    Calls Try.prog 42 #[.pointer (some ⟨g, 0, none⟩), .int .i64 most, .int .i64 n] w (RPost w g (.int .i64 (if most < n then 0 else n)) (if most < n then s.refuse 10 else s)) := by
  have HS := Lib.hid hs
  clear hs
  by_cases h : most < n
  · rw [if_pos h, if_pos h]
    go_enter Try.func42, Try.ntmps42
    go_wp2_with fail
    refine (rrefuse_any s 10 g _ HS.out).mono ?_
    rintro e w1 hp
    obtain ⟨rfl, h2, h3⟩ := hp
    have H2 := Lib.hid h2
    have H3 := Lib.hid h3
    clear h2 h3
    go_wp2_with fail
    go_ret
    exact ⟨rfl, H2.out, H3.out⟩
  · rw [if_neg h, if_neg h]
    go_enter Try.func42, Try.ntmps42
    go_wp2_with fail
    go_ret
    exact ⟨rfl, HS.out, grown_same _ _⟩
set_option maxHeartbeats 1000000 in
theorem rerr_any (s : Rd) (g : Nat) (w : World) (hs : RSx w g s) :
    Calls Try.prog 34 #[.pointer (some ⟨g, 0, none⟩)] w fun e w' => e = .returned (.int .i64 s.e) ∧ w = w' := by
  obtain ⟨p, n, c, hs⟩ := hs
  have h1 := hs.err
  clear hs
  go_enter Try.func34, Try.ntmps34
  go_wp2_with fail
  go_ret
  exact ⟨rfl, rfl⟩
set_option maxHeartbeats 1000000 in
theorem rleft_any (s : Rd) (g : Nat) (w : World) (hs : RSx w g s) :
    Calls Try.prog 31 #[.pointer (some ⟨g, 0, none⟩)] w fun e w' => e = .returned (.int .i64 (s.R.length : Nat)) ∧ w = w' := by
  obtain ⟨p, n, c, hs⟩ := hs
  have h1 := hs.rest
  have h2 := hs.tx.size
  rw [h2] at h1
  clear hs h2
  go_enter Try.func31, Try.ntmps31
  go_wp2_with fail
  go_ret
  exact ⟨rfl, rfl⟩
def Rd.end (s : Rd) : Rd := if s.R = [] then s else s.refuse 22
set_option maxHeartbeats 1000000 in
theorem rend_any (s : Rd) (g : Nat) (w : World) (hs : RSx w g s) :
    Calls Try.prog 30 #[.pointer (some ⟨g, 0, none⟩)] w (RPost w g (.int .i64 s.end.e) s.end) := by
  obtain ⟨p, n, c, hs⟩ := hs
  have h0 := hs.rest
  have h1 := hs.err
  have hn := hs.tx.size
  have HS := Lib.hid hs
  have HN := Lib.hid hn
  clear hs hn
  unfold Rd.end
  by_cases h : s.R = []
  · rw [if_pos h]
    obtain rfl : n = 0 := by rw [HN.out, h]; rfl
    clear h
    go_enter Try.func30, Try.ntmps30
    go_wp2_with fail
    go_ret
    exact ⟨rfl, ⟨p, 0, c, HS.out⟩, grown_same _ _⟩
  · rw [if_neg h]
    have b1 : (0 : Int) < n := by have := List.length_pos_iff.2 h; have := HN.out; omega
    clear h h1
    go_enter Try.func30, Try.ntmps30
    go_wp2_with fail
    refine (rrefuse_any s 22 g _ ⟨p, n, c, HS.out⟩).mono ?_
    rintro e w1 hp
    obtain ⟨rfl, ⟨p1, n1, c1, h2⟩, h3⟩ := hp
    have h4 := h2.err
    have H2 := Lib.hid h2
    have H3 := Lib.hid h3
    clear h2 h3
    go_wp2_with fail
    go_ret
    exact ⟨rfl, ⟨p1, n1, c1, H2.out⟩, H3.out⟩
def Rd.count (s : Rd) (most : Int) : Rd := if min most 1048576 < (Cm.val (s.part 3) : Nat) then (s.past 3).refuse 10 else s.past 3
def Rd.countV (s : Rd) (most : Int) : Int := if min most 1048576 < (Cm.val (s.part 3) : Nat) then 0 else (Cm.val (s.part 3) : Nat)
theorem val3 {s : Rd} (h : Sm.allB s.R) : Cm.val (s.part 3) < 16777216 := by
  have h1 := Cm.val_lt (Rd.part_ok h 3)
  have h2 : 256 ^ (s.part 3).length ≤ 256 ^ 3 := Nat.pow_le_pow_right (by omega) (Rd.part_len s 3)
  exact Nat.lt_of_lt_of_le h1 (Nat.le_trans h2 (by decide))
set_option maxRecDepth 100000 in
set_option maxHeartbeats 1000000 in
theorem rcount_any (s : Rd) (most : Int) (g : Nat) (w : World) (hs : RSx w g s) (hl : s.R.length < 1099511627776) :
    Calls Try.prog 33 #[.pointer (some ⟨g, 0, none⟩), .int .i64 most] w (RPost w g (.int .i64 (s.countV most)) (s.count most)) := by
  have hok : Sm.allB s.R := by obtain ⟨p, n, c, h⟩ := hs; exact h.tx.ok
  have h3 := val3 hok
  have hva := rvalue_any s 3 g w hs (by omega) hl
  clear hs hok
  by_cases hc : min most 1048576 < ((Cm.val (s.part 3) : Nat) : Int)
  · have e1 : s.countV most = 0 := by unfold Rd.countV; rw [if_pos hc]
    have e2 : s.count most = (s.past 3).refuse 10 := by unfold Rd.count; rw [if_pos hc]
    rw [e1, e2]
    clear e1 e2
    generalize Cm.val (s.part 3) = m at *
    have HC := Lib.hid hc
    clear hc
    go_enter Try.func33, Try.ntmps33
    go_wp2_with fail
    refine hva.mono ?_
    rintro e w1 hp
    obtain ⟨rfl, h4, h5⟩ := hp
    have H4 := Lib.hid h4
    have H5 := Lib.hid h5
    clear h4 h5 hva
    go_wp2_with fail
    have hat := atmost_any (s.past 3) (min most 1048576) m g _ H4.out
    rw [if_pos HC.out, if_pos HC.out] at hat
    refine hat.mono ?_
    rintro e w2 hp
    obtain ⟨rfl, h6, h7⟩ := hp
    have H6 := Lib.hid h6
    have H7 := Lib.hid (grown_twice H5.out h7)
    clear h6 h7 hat
    go_wp2_with fail
    go_ret
    exact ⟨rfl, H6.out, H7.out⟩
  · have e1 : s.countV most = ((Cm.val (s.part 3) : Nat) : Int) := by unfold Rd.countV; rw [if_neg hc]
    have e2 : s.count most = s.past 3 := by unfold Rd.count; rw [if_neg hc]
    rw [e1, e2]
    clear e1 e2
    generalize Cm.val (s.part 3) = m at *
    have HC := Lib.hid hc
    clear hc
    go_enter Try.func33, Try.ntmps33
    go_wp2_with fail
    refine hva.mono ?_
    rintro e w1 hp
    obtain ⟨rfl, h4, h5⟩ := hp
    have H4 := Lib.hid h4
    have H5 := Lib.hid h5
    clear h4 h5 hva
    go_wp2_with fail
    have hat := atmost_any (s.past 3) (min most 1048576) m g _ H4.out
    rw [if_neg (Int.not_lt.mpr HC.out), if_neg (Int.not_lt.mpr HC.out)] at hat
    refine hat.mono ?_
    rintro e w2 hp
    obtain ⟨rfl, h6, h7⟩ := hp
    have H6 := Lib.hid h6
    have H7 := Lib.hid (grown_twice H5.out h7)
    clear h6 h7 hat
    go_wp2_with fail
    go_ret
    exact ⟨rfl, H6.out, H7.out⟩
theorem rd_built (q : Option Addr) (m c : Nat) : Try.prog.built 65 [(0, .slice q m c)] = some #[.slice q m c, .int .i64 0] := by kernel_rfl
def NewPost (w : World) (B : List Nat) (e : Ending) (w' : World) : Prop := ∃ g, e = .returned (.pointer (some ⟨g, 0, none⟩)) ∧ w.heap.size ≤ g ∧ RSx w' g ⟨B, 0⟩ ∧ Below w.heap.size w w'
set_option maxHeartbeats 1000000 in
theorem rnew_any (B : List Nat) (p : Option Addr) (n c : Nat) (w : World) (hB : Tx w p n c B) (hl : n < 1099511627776) :
    Calls Try.prog 22 #[.slice p n c] w (NewPost w B) := by
  have HB := Lib.hid hB
  clear hB
  go_enter Try.func22, Try.ntmps22
  go_wp2_with fail
  refine (clone_any B p n c _ HB.out hl).mono ?_
  rintro e w1 hp
  obtain ⟨q, m, rfl, h1, h2⟩ := hp
  have H1 := Lib.hid h1
  have H2 := Lib.hid h2
  clear h1 h2
  go_wp2_with fail
  go_ret
  exact ⟨w1.heap.size, rfl, H2.out.size, ⟨q, B.length, m, heap_alloc_new w1 _, (tx_of_owns H1.out HB.out.ok).later ((Below.refl _ _).alloc (Nat.le_refl _) _), fun x hx h => by
    subst hx
    exact (H1.out.lt x.block (by
      rcases H1.out.2 with ⟨h1, _⟩ | ⟨k, cap, cur, h1, _⟩
      · simp at h1
      · simp only [Value.slice.injEq, Option.some.injEq] at h1; rw [h1.1]; rfl)).2⟩, H2.out.alloc H2.out.size _⟩
end Go.Proofs.Ytlkclbhgbkcplaa
