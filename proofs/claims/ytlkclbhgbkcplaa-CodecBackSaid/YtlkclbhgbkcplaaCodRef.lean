/- The contracts of indentureref02: Count, Num, Text, Truth, Row. -/
import Derived.Test.YtlkclbhgbkcplaaCodAlive
namespace Go.Proofs.Ytlkclbhgbkcplaa
open Go.RowKit

/-- What a reference function tells: new bytes. -/
def RefPost (w : World) (B : List Nat) (e : Ending) (w' : World) : Prop := ∃ q c, e = .returned (.slice q B.length c) ∧ w'.ownsRow w.heap.size 5 1 (.slice q B.length c) B.length (vals B) ∧ Below w.heap.size w w'
theorem be3 (n : Nat) : Cm.be n 3 = [n / 65536 % 256, n / 256 % 256, n % 256] := by
  show [n / 2 ^ 16 % 256, n / 2 ^ 8 % 256, n / 2 ^ 0 % 256] = _
  simp
set_option maxHeartbeats 1000000 in
theorem refcount_any (n : Nat) (hn : n < 9223372036854775808) (w : World) :
    Calls Try.prog 12 #[.int .i64 n] w (RefPost w (Cm.be n 3)) := by
  have h0 : (0 : Int) ≤ n := by omega
  go_enter Try.func12, Try.ntmps12
  go_wp2_with fail
  go_ret
  rw [be3]
  have e0 : (n : Int) / 65536 % 256 = ((n / 65536 % 256 : Nat) : Int) := by omega
  have e1 : (n : Int) / 256 % 256 = ((n / 256 % 256 : Nat) : Int) := by omega
  have e2 : (n : Int) % 256 = ((n % 256 : Nat) : Int) := by omega
  rw [e0, e1, e2]
  exact ⟨some ⟨w.heap.size, 0, none⟩, 3, rfl, owns_mk (L := [n / 65536 % 256, n / 256 % 256, n % 256]) (heap_alloc_new w _) rfl (Nat.le_refl _) (by unfold maxLen; decide) (Nat.le_refl _), (Below.refl _ _).alloc (Nat.le_refl _) _⟩
theorem make8 (w : World) : (Instr.makeSlice 25 (.int .i64 8) (.int .i64 8)).run Try.prog w = .ok (.slice (some ⟨w.heap.size, 0, none⟩) 8 8) (w.alloc (.cells (u8s (zeros 8)) 5)) := by kernel_rfl
theorem num_int {n : Int} (h1 : -9223372036854775808 ≤ n) (h2 : n ≤ 9223372036854775807) : IntKind.u64.wrap (IntKind.u64.wrap n + 9223372036854775808) = ((Cm.z64 n : Nat) : Int) := by
  have := (Cm.z64_lt h1 h2).2
  rw [Cm.wrap_u64, Cm.wrap_u64]
  omega
def NumRel (w : World) (g z : Nat) (u i : Value) (wr : World) : Prop :=
  ∃ j : Nat, j ≤ 8 ∧ i = .int .i64 ((j : Int) - 1) ∧ u = .int .u64 (z / 256 ^ (8 - j) : Nat) ∧ wr.heap[g]? = some (.cells (u8s (zeros j ++ (Cm.be z 8).drop j)) 5 (0, 0)) ∧ Below w.heap.size w wr
set_option maxRecDepth 100000 in
set_option maxHeartbeats 1000000 in
theorem refnum_any (n : Int) (h1 : -9223372036854775808 ≤ n) (h2 : n ≤ 9223372036854775807) (w : World) :
    Calls Try.prog 14 #[.int .i64 n] w (RefPost w (Cm.num n)) := by
  have hz := num_int h1 h2
  have hzl := (Cm.z64_lt h1 h2).1
  have HZ := Lib.hid hz
  have mk := fun w => make8 w
  clear hz
  go_enter Try.func14, Try.ntmps14
  go_wp2_with fail
  rw [HZ.out]
  have hst : NumRel w w.heap.size (Cm.z64 n) (.int .u64 (Cm.z64 n : Nat)) (.int .i64 7) (w.alloc (.cells (u8s (zeros 8)) 5)) :=
    ⟨8, by omega, rfl, by simp, by rw [List.drop_eq_nil_of_le (by rw [Cm.be_length]; exact Nat.le_refl _), List.append_nil]; exact heap_alloc_new w _, (Below.refl _ _).alloc (Nat.le_refl _) _⟩
  have hnum : Cm.num n = Cm.be (Cm.z64 n) 8 := rfl
  have HNUM := Lib.hid hnum
  clear hnum
  generalize Cm.z64 n = z at *
  have HST := Lib.hid hst
  clear hst mk HZ
  go_loopw [3, 5] (fun u i wr => NumRel w w.heap.size z u i wr) (fun _ i _ => (intOf i + 1).toNat)
  case atStart => exact HST.out
  case round =>
    obtain ⟨j, hj, rfl, rfl, hr, hb⟩ := hrel
    have HR := Lib.hid hr
    have HB := Lib.hid hb
    clear hr hb HST
    by_cases h0 : j = 0
    · subst h0
      go_wp2_with fail
      go_ret
      have hr := HR.out
      rw [show zeros 0 ++ (Cm.be z 8).drop 0 = Cm.be z 8 from rfl] at hr
      have ho := owns_mk (base := w.heap.size) (n := 8) hr (Cm.be_length z 8) (Nat.le_refl _) (by unfold maxLen; decide) (Nat.le_refl _)
      rw [List.take_of_length_le (by rw [Cm.be_length]; exact Nat.le_refl _)] at ho
      rw [HNUM.out]
      refine ⟨some ⟨w.heap.size, 0, none⟩, 8, by rw [Cm.be_length]; rfl, ?_, HB.out⟩
      rw [Cm.be_length]
      exact ho
    · obtain ⟨m, rfl⟩ : ∃ m, j = m + 1 := ⟨j - 1, by omega⟩
      rw [show ((m + 1 : Nat) : Int) - 1 = (m : Int) from by omega]
      have hul : z / 256 ^ (8 - (m + 1)) < 18446744073709551616 := Nat.lt_of_le_of_lt (Nat.div_le_self _ _) hzl
      have hx : (Cm.be z 8).getD m 0 = z / 256 ^ (8 - (m + 1)) % 256 := by
        rw [Cm.be_get z 8 m (by omega), Cm.pow8]
        rw [show 8 - 1 - m = 8 - (m + 1) from by omega]
      have hd : (Cm.be z 8).drop m = z / 256 ^ (8 - (m + 1)) % 256 :: (Cm.be z 8).drop (m + 1) := by
        rw [← hx, List.drop_eq_getElem_cons (by rw [Cm.be_length]; omega), List.getD_eq_getElem?_getD, List.getElem?_eq_getElem (by rw [Cm.be_length]; omega)]
        rfl
      have hn : z / 256 ^ (8 - m) = z / 256 ^ (8 - (m + 1)) / 256 := by
        rw [Nat.div_div_eq_div_mul, ← Nat.pow_succ]
        congr 2
        omega
      generalize z / 256 ^ (8 - (m + 1)) = U at *
      have HD := Lib.hid hd
      have HN := Lib.hid hn
      clear hx hd hn h0
      have hm8 : (m : Int) < 8 := by omega
      have hst : wr.cell? ⟨w.heap.size, m, none⟩ = some (.int .u8 ((zeros (m + 1) ++ (Cm.be z 8).drop (m + 1)).getD m 0 : Nat)) := u8s_cell HR.out m (by simp [zeros]; omega)
      have hfr : wr.frozen? ⟨w.heap.size, m, none⟩ = false := frozen_of_row wr _ m _ _ HR.out
      go_wp2_with fail
      go_roundw
      case rel =>
        refine ⟨m, by omega, rfl, ?_, ?_, HB.out.setCell (Nat.le_refl _) _⟩
        · rw [HN.out]; exact congrArg (Value.int .u64) (by omega)
        · rw [show (U : Int) % 256 = ((U % 256 : Nat) : Int) from by omega, heap_setCell_same _ _ _ _ _ _ HR.out, HD.out]
          have e : zeros (m + 1) ++ (Cm.be z 8).drop (m + 1) = zeros m ++ 0 :: (Cm.be z 8).drop (m + 1) := by
            have : zeros (m + 1) = zeros m ++ [0] := by simp [zeros, List.replicate_succ']
            rw [this, List.append_assoc]
            rfl
          rw [e, u8s_set (zeros m) _ 0 _ m (by simp [zeros])]
      case measure => simp [intOf]
theorem own_tx {w : World} {base : Nat} {q : Option Addr} {c : Nat} {B : List Nat} (h : w.ownsRow base 5 1 (.slice q B.length c) B.length (vals B)) (hB : Sm.allB B) : Tx w q B.length c B := tx_of_owns h hB
set_option maxRecDepth 100000 in
set_option maxHeartbeats 1000000 in
theorem reftext_any (T : List Nat) (p : Option Addr) (n c : Nat) (w : World) (hT : Tx w p n c T) (hl : n < 1099511627776) :
    Calls Try.prog 16 #[.slice p n c] w (RefPost w (Cm.be T.length 3 ++ T)) := by
  have HT := Lib.hid hT
  have HN := Lib.hid hT.size
  obtain ⟨i5, hi, hi0, hi1, hi2⟩ := info_parts I5
  have HI := Lib.hid hi
  have HI0 := Lib.hid hi0
  have HI1 := Lib.hid hi1
  have HI2 := Lib.hid hi2
  clear hi hi0 hi1 hi2
  rcases hT.at' with ⟨hp, hc⟩ | ⟨x, hp, _⟩
  · subst hp
    subst hc
    obtain rfl : n = 0 := by have := hT.le; omega
    have hT0 : T = [] := List.length_eq_zero_iff.1 HN.out.symm
    clear hT
    subst hT0
    go_enter Try.func16, Try.ntmps16
    go_wp2_with fail
    refine (refcount_any 0 (by omega) w).mono ?_
    rintro e w1 hp
    obtain ⟨q, d, rfl, h1, h2⟩ := hp
    rw [Cm.be_length] at h1 ⊢
    have H1 := Lib.hid h1
    have H2 := Lib.hid h2
    clear h1 h2
    go_wp2_with (at_builtin; refine wpList_append_own_none (by rfl) (.tmp 5) (.tmp 6) 25 (by rfl) w.heap.size 5 i5 1 A22 HI.out _ 3 _ (by rfl) H1.out (by rfl) ?_)
    go_ret
    refine ⟨q, d, rfl, ?_, H2.out⟩
    rw [List.append_nil, Cm.be_length]
    exact H1.out
  · subst hp
    clear hT
    go_enter Try.func16, Try.ntmps16
    go_wp2_with fail
    refine (refcount_any n (by omega) w).mono ?_
    rintro e w1 hp
    obtain ⟨q, d, rfl, h1, h2⟩ := hp
    rw [Cm.be_length] at h1 ⊢
    have H1 := Lib.hid h1
    have H2 := Lib.hid h2
    clear h1 h2
    go_wp2_with (at_builtin; refine wpList_append_own _ (by rfl) (.tmp 5) (.tmp 6) 25 (by rfl) w.heap.size 5 i5 (.int .u8 0) 1 1 A22 HI.out HI0.out HI1.out HI2.out (by rfl) (by decide) _ 3 _ (by rfl) H1.out x n c (vals T) (by rfl) (by rw [vals_length, Nat.mul_one]; exact HN.out.symm) ((HT.out.later H2.out).cells) (vals_one _) (by unfold maxLen; omega) (by omega) H2.out.size ?_; intro v2 w2 hown2 hgrow2 _; obtain ⟨q2, c2, hv2⟩ := slice_of_owns hown2; have HO3 := Lib.hid hown2; have HG3 := Lib.hid hgrow2; have HV3 := Lib.hid hv2; rw [hv2]; clear hown2 hgrow2 hv2)
    go_ret
    have e : 3 + n = (Cm.be T.length 3 ++ T).length := by rw [List.length_append, Cm.be_length, HN.out]
    have ho := HO3.out
    rw [HV3.out, ← vals_append] at ho
    have hn : n = T.length := HN.out
    subst hn
    rw [e] at ho
    rw [e]
    exact ⟨q2, c2, rfl, ho, H2.out.grown HG3.out H2.out.size (fun k hk => (H1.out.lt k hk).1)⟩
end Go.Proofs.Ytlkclbhgbkcplaa
