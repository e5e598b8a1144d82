/- indentureref04: SameRow, Same, Has. -/
import Derived.Test.YthmloljnpjolmaaBoxRefA
import Derived.Test.YthmloljnpjolmaaDistMath
namespace Go.Proofs.Ythmloljnpjolmaa
open Go.RowKit

theorem eqs_eq {R S : List Int} (h : R.length = S.length) (he : eqs R S R.length = true) : R = S := by
  apply List.ext_getElem h
  intro i h1 h2
  have := (eqs_iff R S R.length).1 he i h1
  simpa [List.getD_eq_getElem?_getD, h1, h2] using this
def SamRel (w : World) (R S : List Int) (n : Nat) (i : Value) (wr : World) : Prop := ∃ k j : Nat, k ≤ n ∧ i = .int .i64 k ∧ eqs R S k = true ∧ wr = w.drewN j
theorem ret_dec {p : Prop} [Decidable p] (h : p) : Ending.returned (.bool true) = Ending.returned (.bool (decide p)) := by rw [decide_eq_true h]
theorem ret_ndec {p : Prop} [Decidable p] (h : ¬ p) : Ending.returned (.bool false) = Ending.returned (.bool (decide p)) := by rw [decide_eq_false h]
set_option maxRecDepth 100000 in
set_option maxHeartbeats 1000000 in
theorem samerow_any (p q : Option Addr) (n c m e : Nat) (R S : List Int) (w : World) (h : Ints w p n c R) (h2 : Ints w q m e S) (hn9 : n ≤ 9223372036854775807) :
    Calls Try.prog 47 #[.slice p n c, .slice q m e] w fun e w' => e = .returned (.bool (decide (R = S))) ∧ ∃ j, w' = w.drewN j := by
  have H1 := Lib.hid h
  have H2 := Lib.hid h2
  clear h h2
  by_cases hn : (n : Int) = m
  case neg =>
    have hne : ¬ R = S := fun h => hn (by rw [H1.out.size, H2.out.size, h])
    have HNE := Lib.hid hne
    clear hne
    go_enter Try.func47, Try.ntmps47
    go_wp2_with fail
    go_ret
    exact ⟨ret_ndec HNE.out, 0, rfl⟩
  obtain rfl : m = n := by omega
  go_enter Try.func47, Try.ntmps47
  go_wp2_with fail
  go_loopw [5] (fun i wr => SamRel w R S m i wr) (fun i _ => m - (intOf i).toNat)
  case atStart => exact ⟨0, 0, by omega, rfl, rfl, rfl⟩
  case round =>
    obtain ⟨k, j, hk, rfl, heq, rfl⟩ := hrel
    have HL := Lib.hid heq
    clear heq
    by_cases hlt : k < m
    · obtain ⟨gx, o, rfl, hcx⟩ := H1.out.cell k hlt
      obtain ⟨gy, o2, rfl, hcy⟩ := H2.out.cell k hlt
      have i1 : (0 : Int) ≤ k ∧ (k : Int) < m := by omega
      have hs : eqs R S (k + 1) = (eqs R S k && (R.getD k 0 == S.getD k 0)) := rfl
      have HS := Lib.hid hs
      have HF := Lib.hid (show ¬ R.getD k 0 = S.getD k 0 → ¬ R = S from fun h h3 => h (by rw [h3]))
      clear hs
      generalize R.getD k 0 = x at *
      generalize S.getD k 0 = y at *
      by_cases hxy : x = y
      · subst hxy
        go_upto_region 6 with fail
        go_quiet (fail)
        go_wp2_with fail
        go_roundw
        case rel => exact ⟨k + 1, j + nq, by omega, by go_num, by rw [HS.out, HL.out]; simp, rfl⟩
        case measure => simp [intOf]; omega
      · go_upto_region 6 with fail
        go_quiet (fail)
        go_wp2_with fail
        go_ret
        exact ⟨ret_ndec (HF.out hxy), j + nq, by first | rfl | (simp only [World.drewN]; done) | simp [World.drewN_drewN]⟩
    · obtain rfl : k = m := by omega
      have he := HL.out
      rw [H1.out.size] at he
      have HE := Lib.hid (eqs_eq (H1.out.size.symm.trans H2.out.size) he)
      clear he
      go_wp2_with fail
      go_ret
      exact ⟨ret_dec HE.out, _, rfl⟩
/-- Whether a point is in a box. -/
def hasB (R S P : List Int) (n m l : Nat) : Bool := rightB R S n m l && (les R P l && les P S l)
theorem hasB_not {R S P : List Int} {n m l : Nat} (h : rightB R S n m l = false) : hasB R S P n m l = false := by unfold hasB; rw [h, Bool.false_and]
theorem hasB_right {R S P : List Int} {n m l : Nat} (h : rightB R S n m l = true) : hasB R S P n m l = (les R P l && les P S l) := by unfold hasB; rw [h, Bool.true_and]
theorem rightB_dims {R S : List Int} {n m : Nat} {d : Int} (h : rightB R S n m d = true) : 1 ≤ d ∧ d ≤ 8 ∧ (n : Int) = d ∧ (m : Int) = d := by
  unfold rightB at h
  rw [Bool.and_eq_true, decide_eq_true_eq] at h
  exact h.1
def HasRel (w1 : World) (R S P : List Int) (n : Nat) (i : Value) (wr : World) : Prop := ∃ k j : Nat, k ≤ n ∧ i = .int .i64 k ∧ les R P k = true ∧ les P S k = true ∧ wr = w1.drewN j
set_option maxRecDepth 100000 in
set_option maxHeartbeats 1000000 in
theorem refhas_any (p q s : Option Addr) (n c m e l f : Nat) (R S P : List Int) (w : World) (h : Ints w p n c R) (h2 : Ints w q m e S) (h3 : Ints w s l f P) :
    Calls Try.prog 10 #[.agg #[.slice p n c, .slice q m e], .slice s l f] w fun e w' => e = .returned (.bool (hasB R S P n m l)) ∧ Below w.heap.size w w' := by
  have hb : Below w.heap.size w (w.alloc (.cells #[.slice p n c, .slice q m e] 25)) := (Below.refl _ _).alloc (Nat.le_refl _) _
  obtain ⟨e0, e1⟩ := pair_alloc w (.slice p n c) (.slice q m e) 25
  have H1 := Lib.hid (h.later hb)
  have H2 := Lib.hid (h2.later hb)
  have H3 := Lib.hid (h3.later hb)
  have HB := Lib.hid hb
  clear h h2 h3 hb
  go_enter Try.func10, Try.ntmps10
  go_upto_region 1 with fail
  have hs0 : w.heap.size < (w.alloc (.cells #[.slice p n c, .slice q m e] 25)).heap.size := by simp
  generalize w.alloc (.cells #[.slice p n c, .slice q m e] 25) = w0 at *
  have HS0 := Lib.hid hs0
  clear hs0
  go_wp2_with fail
  refine (refright_any p q n c m e R S l w0 H1.out H2.out).mono ?_
  rintro _ w1 ⟨rfl, hb1⟩
  have f0 := (hb1.cell (p := ⟨w.heap.size, 0, none⟩) HS0.out).trans e0
  have f1 := (hb1.cell (p := ⟨w.heap.size, 1, none⟩) HS0.out).trans e1
  have G1 := Lib.hid (H1.out.later hb1)
  have G2 := Lib.hid (H2.out.later hb1)
  have G3 := Lib.hid (H3.out.later hb1)
  have B1 := Lib.hid (HB.out.trans (hb1.mono HB.out.size))
  clear hb1 e0 e1 H1 H2 H3 HB HS0
  by_cases hr : rightB R S n m l = true
  case neg =>
    have hr0 : rightB R S n m l = false := by simpa using hr
    have HH := Lib.hid (hasB_not (P := P) hr0)
    rw [hr0]
    clear hr hr0
    go_wp2_with fail
    go_ret
    exact ⟨congrArg (fun b => Ending.returned (.bool b)) HH.out.symm, B1.out⟩
  obtain ⟨d1, d2, d3, d4⟩ := rightB_dims hr
  have HH := Lib.hid (hasB_right (P := P) hr)
  rw [hr]
  obtain rfl : n = l := by omega
  obtain rfl : m = n := by omega
  clear hr d3 d4
  go_wp2_with fail
  go_loopw [5] (fun i wr => HasRel w1 R S P m i wr) (fun i _ => m - (intOf i).toNat)
  case atStart => exact ⟨0, 0, by omega, rfl, rfl, rfl, rfl⟩
  case round =>
    obtain ⟨k, j, hk, rfl, hl1, hl2, rfl⟩ := hrel
    have HL1 := Lib.hid hl1
    have HL2 := Lib.hid hl2
    clear hl1 hl2
    by_cases hlt : k < m
    · obtain ⟨gx, o, rfl, hcx⟩ := G1.out.cell k hlt
      obtain ⟨gy, o2, rfl, hcy⟩ := G2.out.cell k hlt
      obtain ⟨gz, o3, rfl, hcz⟩ := G3.out.cell k hlt
      have i1 : (0 : Int) ≤ k ∧ (k : Int) < m := by omega
      have s1 : les R P (k + 1) = (les R P k && decide (R.getD k 0 ≤ P.getD k 0)) := rfl
      have s2 : les P S (k + 1) = (les P S k && decide (P.getD k 0 ≤ S.getD k 0)) := rfl
      have HS1 := Lib.hid s1
      have HS2 := Lib.hid s2
      have HF1 := Lib.hid (fun h => les_false (R := R) (S := P) hlt h)
      have HF2 := Lib.hid (fun h => les_false (R := P) (S := S) hlt h)
      clear s1 s2
      generalize R.getD k 0 = x at *
      generalize S.getD k 0 = y at *
      generalize P.getD k 0 = z at *
      by_cases hzx : z < x
      · have HZ := Lib.hid (HF1.out (by omega))
        go_upto_region 6 with fail
        go_quiet (fail)
        go_wp2_with fail
        go_ret
        exact ⟨congrArg (fun b => Ending.returned (.bool b)) (by rw [HH.out, HZ.out]; rfl), Below.drewN B1.out _⟩
      · by_cases hyz : y < z
        · have HZ := Lib.hid (HF2.out (by omega))
          go_upto_region 6 with fail
          go_quiet (fail)
          go_wp2_with fail
          go_ret
          exact ⟨congrArg (fun b => Ending.returned (.bool b)) (by rw [HH.out, HZ.out, Bool.and_false]), Below.drewN B1.out _⟩
        · go_upto_region 6 with fail
          go_quiet (fail)
          go_wp2_with fail
          go_roundw
          case rel => exact ⟨k + 1, j + nq, by omega, by go_num, by rw [HS1.out, HL1.out, decide_eq_true (by omega)]; rfl, by rw [HS2.out, HL2.out, decide_eq_true (by omega)]; rfl, rfl⟩
          case measure => simp [intOf]; omega
    · obtain rfl : k = m := by omega
      go_wp2_with fail
      go_ret
      exact ⟨congrArg (fun b => Ending.returned (.bool b)) (by rw [HH.out, HL1.out, HL2.out]; rfl), Below.drewN B1.out _⟩
end Go.Proofs.Ythmloljnpjolmaa
