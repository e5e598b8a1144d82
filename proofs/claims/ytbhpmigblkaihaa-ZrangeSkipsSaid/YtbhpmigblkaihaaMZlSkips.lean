/- Proved: whatever bytes and box it is handed, the Go function indenturelaw06.ZrangeSkips returns true (the first code from any one on that is in a box, and the last one up to it, are the document's), and each argument reads afterwards as it read before. Conditions: none beyond the given row's own. -/
import Derived.Test.YtbhpmigblkaihaaM7
/- The law ZrangeSkips. -/
namespace Go.Proofs.Ytbhpmigblkaihaa.Zr
open Go.RowKit Go.Proofs.Ytbhpmigblkaihaa.Mo Zm

section
variable {w2 : World} {g : Nat} {p q r : Option Addr} {n c m e l f : Nat} {R S : List Int} {B : List Nat}
theorem skip_pin (HI : BI w2 g p q n c m e R S) (HT : Bytes w2 r l f B) (hl : l ≤ 100) : ∃ X ok, (∀ w0, ∀ (_ : Below w0.heap.size w0 w0), Below w2.heap.size w2 w0 → Calls Try.prog 9 #[.slice r l f, .agg #[.slice p n c, .slice q m e]] w0 (FP w0 X ok)) ∧
    (∀ w0, ∀ (_ : Below w0.heap.size w0 w0), Below w2.heap.size w2 w0 → Calls Try.prog 10 #[.slice r l f, .agg #[.slice p n c, .slice q m e], .bool false] w0 (FP w0 X ok)) := by
  by_cases hg : rightB R S n m n = true ∧ l = 8 * n
  · obtain ⟨hr, rfl⟩ := hg
    obtain ⟨d1, d8, -, d4⟩ := rightB_dims hr
    obtain rfl : m = n := by omega
    have hcP := Mm.code_point HT.ok m HT.size.symm
    rw [← hcP] at HT
    obtain ⟨X, ok, h⟩ := find_pin false R S (Mm.point B m)
    exact ⟨X, ok, fun w' _ hb => (zskip_good (Mm.point B m) R S r p q m f c e w' (Mm.point_in B m) (Mm.point_length B m) (HT.later hb HT.lt) (HI.later hb).i1 (HI.later hb).i2 hr).mono fun _ _ hp => h _ _ _ _ (Below.refl _ _) hp,
      fun w' _ hb => (rfind_good false (Mm.point B m) R S r p q m f c e w' (Mm.point_in B m) (Mm.point_length B m) (HT.later hb HT.lt) (HI.later hb).i1 (HI.later hb).i2 hr).mono fun _ _ hp => h _ _ _ _ (Below.refl _ _) hp⟩
  · exact ⟨[], false, fun w' _ hb => (zskip_bad R S r p q l f n c m e w' (HI.later hb).i1 (HI.later hb).i2 (by omega) hg).mono fun _ _ hp => fp_bad (Below.refl _ _) hp,
      fun w' _ hb => (rfind_bad false R S r p q l f n c m e w' (HI.later hb).i1 (HI.later hb).i2 (by omega) hg).mono fun _ _ hp => fp_bad (Below.refl _ _) hp⟩
theorem back_pin (HI : BI w2 g p q n c m e R S) (HT : Bytes w2 r l f B) (hl : l ≤ 100) : ∃ X ok, (∀ w0, ∀ (_ : Below w0.heap.size w0 w0), Below w2.heap.size w2 w0 → Calls Try.prog 11 #[.slice r l f, .agg #[.slice p n c, .slice q m e]] w0 (FP w0 X ok)) ∧
    (∀ w0, ∀ (_ : Below w0.heap.size w0 w0), Below w2.heap.size w2 w0 → Calls Try.prog 10 #[.slice r l f, .agg #[.slice p n c, .slice q m e], .bool true] w0 (FP w0 X ok)) := by
  by_cases hg : rightB R S n m n = true ∧ l = 8 * n
  · obtain ⟨hr, rfl⟩ := hg
    obtain ⟨d1, d8, -, d4⟩ := rightB_dims hr
    obtain rfl : m = n := by omega
    have hcP := Mm.code_point HT.ok m HT.size.symm
    rw [← hcP] at HT
    obtain ⟨X, ok, h⟩ := find_pin true R S (Mm.point B m)
    exact ⟨X, ok, fun w' _ hb => (zback_good (Mm.point B m) R S r p q m f c e w' (Mm.point_in B m) (Mm.point_length B m) (HT.later hb HT.lt) (HI.later hb).i1 (HI.later hb).i2 hr).mono fun _ _ hp => h _ _ _ _ (Below.refl _ _) hp,
      fun w' _ hb => (rfind_good true (Mm.point B m) R S r p q m f c e w' (Mm.point_in B m) (Mm.point_length B m) (HT.later hb HT.lt) (HI.later hb).i1 (HI.later hb).i2 hr).mono fun _ _ hp => h _ _ _ _ (Below.refl _ _) hp⟩
  · exact ⟨[], false, fun w' _ hb => (zback_bad R S r p q l f n c m e w' (HI.later hb).i1 (HI.later hb).i2 (by omega) hg).mono fun _ _ hp => fp_bad (Below.refl _ _) hp,
      fun w' _ hb => (rfind_bad true R S r p q l f n c m e w' (HI.later hb).i1 (HI.later hb).i2 (by omega) hg).mono fun _ _ hp => fp_bad (Below.refl _ _) hp⟩
end
set_option maxRecDepth 100000 in
set_option maxHeartbeats 1000000 in
theorem zlskips_any (R S : List Int) (B : List Nat) (p q r : Option Addr) (n c m e l f : Nat) (w : World) (hR : Ints w p n c R) (hS : Ints w q m e S) (hB : Tx w r l f B) (hn : n ≤ 9223372036854775807) (hl : l ≤ 9223372036854775807) :
    Calls Try.prog 3 #[.slice r l f, .agg #[.slice p n c, .slice q m e]] w fun e w' => e = .returned (.bool true) ∧ Below w.heap.size w w' := by
  obtain ⟨w1, hw1⟩ : ∃ w1, w1 = w.alloc (.cells #[.slice p n c, .slice q m e] 26) := ⟨_, rfl⟩
  obtain ⟨hbi, hb1⟩ := lbox hR hS hw1
  have HTX := Lib.hid (hB.bytes.later hb1 hB.bytes.lt)
  go_enter Try.func3, Try.ntmps3
  go_upto_region 1 with fail
  rw [← hw1]
  have HBI := Lib.hid hbi
  have HB1 := Lib.hid hb1
  clear hw1 hbi hb1 hR hS hB
  go_wp2_with fail
  refine (zalive_any w1).mono ?_
  rintro _ w2 ⟨rfl, hb2⟩
  have HI2 := Lib.hid (HBI.out.later hb2)
  have HT2 := Lib.hid (HTX.out.later hb2 HTX.out.lt)
  have HB2 := Lib.hid (HB1.out.trans (hb2.mono HB1.out.size))
  clear hb2 HBI HTX HB1
  obtain ⟨a0, a1⟩ := HI2.out.cells
  by_cases h1 : 100 < l
  · have b1 : (100 : Int) < l := by omega
    go_wp2_with fail
    go_ret
    exact ⟨rfl, HB2.out⟩
  have b1 : ¬ (100 : Int) < l := by omega
  by_cases h2 : 8 < n
  · have b2 : (8 : Int) < n := by omega
    go_wp2_with fail
    go_ret
    exact ⟨rfl, HB2.out⟩
  have b2 : ¬ (8 : Int) < n := by omega
  obtain ⟨X, ok, hs1, hs2⟩ := skip_pin HI2.out HT2.out (by omega)
  obtain ⟨Y, ok2, hs3, hs4⟩ := back_pin HI2.out HT2.out (by omega)
  have K1 := Lib.hid hs1
  have K2 := Lib.hid hs2
  have K3 := Lib.hid hs3
  have K4 := Lib.hid hs4
  clear hs1 hs2 hs3 hs4 h1 h2
  have hcv := convert_tx HT2.out.tx
  obtain ⟨sB, hsB⟩ : ∃ s, s = strOf B := ⟨_, rfl⟩
  rw [← hsB] at hcv
  have HSB := Lib.hid hsB
  clear hsB
  go_wp2_with fail
  refine (K1.out w2 (Below.refl _ _) (Below.refl _ _)).mono ?_
  rintro _ w3 ⟨q3, n3, c3, rfl, ht3, hb3⟩
  have T3 := Lib.hid ht3
  have B3 := Lib.hid hb3
  clear ht3 hb3 hcv a0 a1
  obtain ⟨a0, a1⟩ := (HI2.out.later B3.out).cells
  go_wp2_with fail
  refine (K2.out w3 (Below.refl _ _) B3.out).mono ?_
  rintro _ w4 ⟨q4, n4, c4, rfl, ht4, hb4⟩
  have T4 := Lib.hid ht4
  have B4 := Lib.hid (B3.out.trans (hb4.mono B3.out.size))
  have U3 := Lib.hid (T3.out.later hb4)
  clear ht4 hb4 a0 a1 T3
  obtain ⟨a0, a1⟩ := (HI2.out.later B4.out).cells
  go_wp2_with fail
  refine (K3.out w4 (Below.refl _ _) B4.out).mono ?_
  rintro _ w5 ⟨q5, n5, c5, rfl, ht5, hb5⟩
  have T5 := Lib.hid ht5
  have B5 := Lib.hid (B4.out.trans (hb5.mono B4.out.size))
  have V3 := Lib.hid (U3.out.later hb5)
  have V4 := Lib.hid (T4.out.later hb5)
  clear ht5 hb5 a0 a1 U3 T4
  obtain ⟨a0, a1⟩ := (HI2.out.later B5.out).cells
  go_wp2_with fail
  refine (K4.out w5 (Below.refl _ _) B5.out).mono ?_
  rintro _ w6 ⟨q6, n6, c6, rfl, ht6, hb6⟩
  have B6 := Lib.hid (B5.out.trans (hb6.mono B5.out.size))
  have hc3 := convert_tx (V3.out.later hb6)
  have hc4 := convert_tx (V4.out.later hb6)
  have hc5 := convert_tx (T5.out.later hb6)
  have hc6 := convert_tx ht6
  have hcB := convert_tx (HT2.out.later B6.out HT2.out.lt).tx
  rw [← HSB.out] at hcB
  clear ht6 hb6 a0 a1 V3 V4 T5
  generalize strOf X = sX at *
  generalize strOf Y = sY at *
  cases ok <;> cases ok2
  all_goals
    go_wp2_with fail
    go_ret
    exact ⟨by first | rfl | simp, HB2.out.trans (B6.out.mono HB2.out.size)⟩
end Go.Proofs.Ytbhpmigblkaihaa.Zr

/- Proved: whatever bytes and box it is handed, the Go function indenturelaw06.ZrangeSkips returns true (the first code from any one on that is in a box, and the last one up to it, are the document's), and each argument reads afterwards as it read before. Conditions: none beyond the given row's own. -/
namespace Go.Proofs.Ytbhpmigblkaihaa
open Go.ChangeShapes Go.WideShapes Go.ChangeAt Go.RowKit Go.Deep

set_option maxRecDepth 100000 in
theorem zlskips_lifted (os : Os) (started : os.Started) (H : Type) (enc : TypeId × Value → H) :
    ReturnsInHanded {} Try.checked os 3 .any (Rows.zrangeSkipsSpec.pre6 enc Try.prog Try.f3 Rows.zrangeSkipsRow.domain false) (Rows.zrangeSkipsSpec.post enc Try.prog Try.f3 false true false false) := by
  refine returnsInHanded_of_change (C := Try.checked) gen_own started (by kernel_rfl) Try.func3
    (ChangeSpec.witness6 (enc := enc) (C := Try.checked) false ⟨#[], #[.slice none 0 0, .agg #[.slice none 0 0, .slice none 0 0]], []⟩ 8 (by kernel_rfl) (by kernel_rfl) (by kernel_rfl) (by kernel_rfl)) ?_
  intro W base args ds gs before hval0 hW _ _
  have hval : ∀ (j : Nat) t v, Try.f3.params[j]? = some t → args[j]? = some v → Value.okWide Try.prog W .any base t v := hval0
  have hW' := hW
  obtain ⟨p, q, hA0, hV, rfl, _, _⟩ := hW
  have hA : DataW.TrodAll enc Try.prog W 0 (fun _ => true) true Try.f3.params.toList args.toList ds p := hA0
  rw [Try.params3] at hA hval
  obtain ⟨v0, vs0, d0, ds0, p0, q0, hargs, rfl, rfl, h0, r0⟩ := trodAll_cons hA
  obtain ⟨v1, vs1, d1, ds1, p1, q1, rfl, rfl, rfl, h1, r1⟩ := trodAll_cons r0
  obtain ⟨rfl, rfl, rfl⟩ := trodAll_nil r1
  obtain rfl : args = #[v0, v1] := by cases args; simp_all
  obtain ⟨rfl, rfl⟩ := trodVars_none hV
  obtain ⟨a0, len0, cap0, rfl⟩ := okWide_slice Try.underlying22 (hval 0 22 v0 rfl rfl)
  obtain ⟨a1, len1, cap1, R1, b1, ben1, bap1, S1, rfl, hR1, hS1, hm1, hn1⟩ := open_box (hval 1 26 v1 rfl rfl) h1
  have k0 := h0
  have k1 := h1
  have lt0 : ∀ x ∈ p0, x.block < W.heap.size := by obtain ⟨m, hm⟩ := k0; exact DataW.trod_lt m _ _ _ hm
  have lt1 : ∀ x ∈ p1, x.block < W.heap.size := by obtain ⟨m, hm⟩ := k1; exact DataW.trod_lt m _ _ _ hm
  obtain ⟨⟨B0, hB0⟩, hl0⟩ : (∃ B, Tx W a0 len0 cap0 B) ∧ len0 ≤ 9223372036854775807 := by
    obtain ⟨fuel, hf⟩ := h0
    exact open_bytes hf
  clear hA0 hval0
  refine (Zr.zlskips_any R1 S1 B0 a1 b1 a0 len1 cap1 ben1 bap1 len0 cap0 W hR1 hS1 hB0 hm1 hl0).mono fun e W' ⟨he, bel⟩ => ?_
  subst he
  exact ⟨_, rfl, _, _, _, [], _, [], hW', trodAll_mk1 (shut_bool Try.underlying4 _),
    (trodAll_cons_mk (Below.trod gen_laidOut (by kernel_rfl) (of_decide_eq_true (by kernel_rfl)) k0 bel lt0) (trodAll_cons_mk (Below.trod gen_laidOut (by kernel_rfl) (of_decide_eq_true (by kernel_rfl)) k1 bel lt1) trodAll_mk0)), rfl, bel.frame _, fun h => by cases h⟩
theorem zlskips_holds : Rows.ZrangeSkipsSaid :=
  OpenClaim.holds_of_wide 3 Try.f3 rfl rfl rfl rfl rfl rfl rfl ⟨rfl, rfl, rfl, rfl, rfl⟩ rfl rfl rfl rfl rfl (by kernel_rfl) Try.func3 (by kernel_rfl)
    (of_decide_eq_true (by kernel_rfl)) (by unfold Func.isWrapper; first | (rw [if_pos (by decide +kernel)]; kernel_rfl) | (rw [if_neg (by decide +kernel)]; exact ⟨rfl, rfl⟩))
    (fun os started H enc _ => zlskips_lifted os started H enc)
end Go.Proofs.Ytbhpmigblkaihaa
