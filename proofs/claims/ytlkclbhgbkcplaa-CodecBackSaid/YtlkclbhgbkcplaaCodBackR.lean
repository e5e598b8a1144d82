/- The reader's contracts where the part's bytes are there: Byte, Truth, Num, Text. -/
import Derived.Test.YtlkclbhgbkcplaaGenDg
import Derived.Test.YtlkclbhgbkcplaaCodParts
namespace Go.Proofs.Ytlkclbhgbkcplaa
open Go.RowKit

theorem good_part (P R : List Nat) (n : Nat) (h : P.length = n) : (Rd.mk (P ++ R) 0).part n = P ∧ (Rd.mk (P ++ R) 0).past n = ⟨R, 0⟩ := by
  have hf : (Rd.mk (P ++ R) 0).fits n := ⟨rfl, by simp; omega⟩
  unfold Rd.part Rd.past
  rw [if_pos hf, if_pos hf]
  subst h
  exact ⟨List.take_left' rfl, by rw [show (Rd.mk (P ++ R) 0).R = P ++ R from rfl, List.drop_left' rfl]⟩
theorem value_good (P R : List Nat) (n : Nat) (h : P.length = n) (g : Nat) (w : World) (hs : RSx w g ⟨P ++ R, 0⟩) (hn : n ≤ 8) (hl : (P ++ R).length < 1099511627776) :
    Calls Try.prog 39 #[.pointer (some ⟨g, 0, none⟩), .int .i64 n] w (RPost w g (.int .u64 (Cm.val P : Nat)) ⟨R, 0⟩) := by
  have := rvalue_any ⟨P ++ R, 0⟩ n g w hs hn hl
  rw [(good_part P R n h).1, (good_part P R n h).2] at this
  exact this
set_option maxHeartbeats 1000000 in
theorem byte_good (x : Nat) (hx : x < 256) (R : List Nat) (g : Nat) (w : World) (hs : RSx w g ⟨x :: R, 0⟩) (hl : (x :: R).length < 1099511627776) :
    Calls Try.prog 23 #[.pointer (some ⟨g, 0, none⟩)] w (RPost w g (.int .u8 x) ⟨R, 0⟩) := by
  have hv := value_good [x] R 1 rfl g w hs (by omega) hl
  rw [show Cm.val [x] = x from by simp [Cm.val]] at hv
  have HV := Lib.hid hv
  have e8 : IntKind.u8.wrap (x : Int) = (x : Nat) := by rw [IntKind.wrap_u8]; omega
  clear hs hv
  go_enter Try.func23, Try.ntmps23
  go_wp2_with fail
  refine HV.out.mono ?_
  rintro e w1 hp
  obtain ⟨rfl, h1, h2⟩ := hp
  have H1 := Lib.hid h1
  have H2 := Lib.hid h2
  clear h1 h2
  go_wp2_with fail
  go_ret
  exact ⟨rfl, H1.out, H2.out⟩
set_option maxHeartbeats 1000000 in
theorem truth_good (b : Bool) (R : List Nat) (g : Nat) (w : World) (hs : RSx w g ⟨(if b then 1 else 0) :: R, 0⟩) (hl : R.length + 1 < 1099511627776) :
    Calls Try.prog 24 #[.pointer (some ⟨g, 0, none⟩)] w (RPost w g (.bool b) ⟨R, 0⟩) := by
  cases b with
  | true =>
    have HV := Lib.hid (byte_good 1 (by omega) R g w hs hl)
    clear hs
    go_enter Try.func24, Try.ntmps24
    go_wp2_with fail
    refine HV.out.mono ?_
    rintro e w1 hp
    obtain ⟨rfl, h1, h2⟩ := hp
    have H1 := Lib.hid h1
    have H2 := Lib.hid h2
    clear h1 h2
    go_wp2_with fail
    go_ret
    exact ⟨rfl, H1.out, H2.out⟩
  | false =>
    have HV := Lib.hid (byte_good 0 (by omega) R g w hs hl)
    clear hs
    go_enter Try.func24, Try.ntmps24
    go_wp2_with fail
    refine HV.out.mono ?_
    rintro e w1 hp
    obtain ⟨rfl, h1, h2⟩ := hp
    have H1 := Lib.hid h1
    have H2 := Lib.hid h2
    clear h1 h2
    go_wp2_with fail
    go_ret
    exact ⟨rfl, H1.out, H2.out⟩
theorem val_num (n : Int) (h1 : -9223372036854775808 ≤ n) (h2 : n ≤ 9223372036854775807) : Cm.val (Cm.num n) = Cm.z64 n := by
  unfold Cm.num
  rw [Cm.val_be]
  exact Nat.mod_eq_of_lt (Cm.z64_lt h1 h2).1
theorem sign_back {n : Int} (h1 : -9223372036854775808 ≤ n) (h2 : n ≤ 9223372036854775807) : IntKind.i64.wrap (bits .xor .u64 ((Cm.z64 n : Nat) : Int) 9223372036854775808) = n := by
  have hz := (Cm.z64_lt h1 h2).2
  by_cases h : n < 0
  · have := Cm.sign_int (n := n + 9223372036854775808) (by omega) (by omega)
    rw [Cm.wrap_u64, show (n + 9223372036854775808) % 18446744073709551616 = ((Cm.z64 n : Nat) : Int) from by omega] at this
    rw [this, (Cm.z64_lt (n := n + 9223372036854775808) (by omega) (by omega)).2, IntKind.wrap_i64]
    omega
  · have := Cm.sign_int (n := n - 9223372036854775808) (by omega) (by omega)
    rw [Cm.wrap_u64, show (n - 9223372036854775808) % 18446744073709551616 = ((Cm.z64 n : Nat) : Int) from by omega] at this
    rw [this, (Cm.z64_lt (n := n - 9223372036854775808) (by omega) (by omega)).2, IntKind.wrap_i64]
    omega
set_option maxHeartbeats 1000000 in
theorem num_good (n : Int) (h1 : -9223372036854775808 ≤ n) (h2 : n ≤ 9223372036854775807) (R : List Nat) (g : Nat) (w : World) (hs : RSx w g ⟨Cm.num n ++ R, 0⟩) (hl : R.length + 8 < 1099511627776) :
    Calls Try.prog 25 #[.pointer (some ⟨g, 0, none⟩)] w (RPost w g (.int .i64 n) ⟨R, 0⟩) := by
  have hv := value_good (Cm.num n) R 8 (Cm.num_length n) g w hs (by omega) (by rw [List.length_append, Cm.num_length]; omega)
  rw [val_num n h1 h2] at hv
  have HV := Lib.hid hv
  have hsb := sign_back h1 h2
  have HSB := Lib.hid hsb
  clear hs hv hsb
  generalize Cm.z64 n = z at *
  go_enter Try.func25, Try.ntmps25
  go_wp2_with fail
  refine HV.out.mono ?_
  rintro e w1 hp
  obtain ⟨rfl, ⟨p3, n3, c3, h3⟩, h4⟩ := hp
  have he := h3.err
  have H3 := Lib.hid h3
  have H4 := Lib.hid h4
  have hsb := HSB.out
  clear h3 h4
  go_wp2_with fail
  go_ret
  exact ⟨rfl, ⟨p3, n3, c3, H3.out⟩, H4.out⟩
/-- A reader hangs on the blocks up to its own alone. -/
theorem RSx.low {w w' : World} {g : Nat} {s : Rd} (h : RSx w g s) (hb : Below (g + 1) w w') : RSx w' g s := by
  obtain ⟨p, n, c, h⟩ := h
  refine ⟨p, n, c, (hb.block g (Nat.lt_succ_self g)).trans h.row, ⟨h.tx.size, h.tx.le, h.tx.ok, h.tx.at'.imp id fun ⟨x, hp, hx⟩ => ⟨x, hp, fun j u hu => ?_⟩, h.tx.sp⟩, h.lo⟩
  have hB : s.R ≠ [] := by rintro e; rw [e] at hu; simp [vals] at hu
  have hb2 : (x.add j).block = x.block := by cases x; simp [Addr.add]; split <;> rfl
  exact (hb.cell (p := x.add j) (by rw [hb2]; exact Nat.lt_succ_of_lt (h.lo x hp hB))).trans (hx j u hu)
theorem grown_new {w w' : World} {r : Option Nat} (h : w.grownBy w' r) {B : Nat} (hB : w.heap.size ≤ B) {w'' : World} (hb : Below B w' w'') (hs : w'.heap.size ≤ w''.heap.size) : w.grownBy w'' r :=
  ⟨hb.os.trans h.os, hb.tape.trans h.tape, hb.output.trans h.output, Nat.le_trans h.size hs, fun k hk hne => (hb.block k (by omega)).trans (h.block k hk hne)⟩
theorem grown_of_below {w w' : World} (hb : Below w.heap.size w w') (r : Option Nat) : w.grownBy w' r := ⟨hb.os, hb.tape, hb.output, hb.size, fun k hk _ => hb.block k hk⟩
theorem below_setCells {w : World} (k o : Nat) (vs : List Value) (B : Nat) (hB : B ≤ k) : Below B w (w.setCells k o vs) := by
  obtain ⟨h1, h2, h3, h4⟩ := size_setCells k vs o w
  exact ⟨h2, h3, h4, by omega, fun j hj => heap_setCells_other k vs o w j (by omega)⟩
/-- A part that is read, in new memory. -/
def TPost (w : World) (g : Nat) (T : List Nat) (s : Rd) (e : Ending) (w' : World) : Prop := ∃ q c, e = .returned (.slice q T.length c) ∧ Tx w' q T.length c T ∧ RSx w' g s ∧ w.grownBy w' (some g)
set_option maxRecDepth 100000 in
set_option maxHeartbeats 1000000 in
theorem text_good (T : List Nat) (hT : T.length ≤ 500) (hTo : Sm.allB T) (R : List Nat) (g : Nat) (w : World) (hs : RSx w g ⟨Cm.be T.length 3 ++ (T ++ R), 0⟩) (hl : R.length + 1000 < 1099511627776) :
    Calls Try.prog 26 #[.pointer (some ⟨g, 0, none⟩), .int .i64 500] w (TPost w g T ⟨R, 0⟩) := by
  have h3 : Cm.val (Cm.be T.length 3) = T.length := by rw [Cm.val_be]; exact Nat.mod_eq_of_lt (by omega)
  have gp := good_part (Cm.be T.length 3) (T ++ R) 3 (Cm.be_length _ _)
  have hc := rcount_any ⟨Cm.be T.length 3 ++ (T ++ R), 0⟩ 500 g w hs (by rw [List.length_append, List.length_append, Cm.be_length]; omega)
  have e1 : (Rd.mk (Cm.be T.length 3 ++ (T ++ R)) 0).countV 500 = (T.length : Nat) := by unfold Rd.countV; rw [gp.1, h3, if_neg (by omega)]
  have e2 : (Rd.mk (Cm.be T.length 3 ++ (T ++ R)) 0).count 500 = ⟨T ++ R, 0⟩ := by unfold Rd.count; rw [gp.1, h3, if_neg (by omega), gp.2]
  rw [e1, e2] at hc
  have HC := Lib.hid hc
  have HTO := Lib.hid hTo
  obtain ⟨n, hn⟩ : ∃ n, n = T.length := ⟨_, rfl⟩
  rw [← hn] at HC hT
  have HN := Lib.hid hn
  clear h3 gp hc e1 e2 hs hn hTo
  go_enter Try.func26, Try.ntmps26
  go_wp2_with fail
  refine HC.out.mono ?_
  rintro e w1 hp
  obtain ⟨rfl, h1, h2⟩ := hp
  have hk := take_any ⟨T ++ R, 0⟩ n g w1 h1 (by omega) (by rw [show (Rd.mk (T ++ R) 0).R = T ++ R from rfl, List.length_append]; have := HN.out; omega)
  unfold TakePost at hk
  rw [(good_part T R n HN.out.symm).1, (good_part T R n HN.out.symm).2, ← HN.out] at hk
  have HK := Lib.hid hk
  have H2 := Lib.hid h2
  clear h1 h2 hk
  go_wp2_with fail
  refine HK.out.mono ?_
  rintro e w2 hp
  obtain ⟨q, c, rfl, h5, h6, h7⟩ := hp
  have hcl := clone_any T q n c w2 h5 (by omega)
  unfold ClonePost at hcl
  rw [← HN.out] at hcl
  have HCL := Lib.hid hcl
  have H6 := Lib.hid h6
  have H7 := Lib.hid (grown_twice H2.out h7)
  clear h5 h6 h7 hcl
  go_wp2_with fail
  refine HCL.out.mono ?_
  rintro e w3 hp
  obtain ⟨q2, c2, rfl, h8, h9⟩ := hp
  have H8 := Lib.hid h8
  have H9 := Lib.hid h9
  clear h8 h9
  go_wp2_with fail
  go_ret
  refine ⟨q2, c2, by rw [← HN.out]; rfl, ?_, H6.out.later H9.out, grown_later H7.out H9.out⟩
  rw [← HN.out]
  exact tx_of_owns H8.out HTO.out
end Go.Proofs.Ytlkclbhgbkcplaa
