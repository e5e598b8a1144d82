/- Proved: whatever bytes and texts it is handed, the Go function indenturelaw09.PageGets returns true (what was put is got, whatever else is put, or two unlike texts clash: they have one sum, and the store tells them), and each argument reads afterwards as it read before. Conditions: none beyond the given row's own. -/
import Derived.Test.YtlmbicelngpgoaaM6
/- The law PageGets, over whatever store keeps the contracts. -/
namespace Go.Proofs.Ytlmbicelngpgoaa.Pg
open Go.RowKit

variable {PL : World → Nat → (Nat → Prop) → S → Prop}
def GetsR (PL : World → Nat → (Nat → Prop) → S → Prop) (w : World) (g n : Nat) (i : Value) (wr : World) : Prop :=
  ∃ (k : Nat) (Q : Nat → Prop) (s : S), k ≤ n ∧ i = .int .i64 k ∧ St PL w wr g Q s ∧ s.W.length ≤ k
theorem put_few (s : S) (b : List Nat) : (s.put b).W.length ≤ s.W.length + 1 := by
  show (putW s.W b).length ≤ _
  unfold putW
  split
  · omega
  · simp
/-- What was there ahead lies aside of a store of the law's own. -/
theorem aside {w0 : World} {Q : Nat → Prop} {p : Option Addr} {n c : Nat} {b : List Nat} (h : Tx w0 p n c b) (ho : ∀ k, Q k → w0.heap.size ≤ k) : ∀ x, p = some x → b ≠ [] → ¬ Q x.block := fun x hx hb e => by
  obtain ⟨g, o, hp, hc⟩ := h.bytes.ne hb
  rw [hx] at hp
  cases hp
  exact absurd (block_lt_of_cell (hc 0 (List.length_pos_iff.2 hb))) (Nat.not_lt.2 (ho _ e))
set_option maxRecDepth 100000 in
set_option maxHeartbeats 2000000 in
theorem pgets_any (A : Api PL) (a : List Nat) (p q : Option Addr) (n c m d : Nat) (L : List (List Nat)) (w : World) (hT : Tx w p n c a) (hL : Texts w q m d L) (hn : n ≤ 9223372036854775807) (hm : m ≤ 9223372036854775807) :
    Calls Try.prog 5 #[.slice p n c, .slice q m d] w fun e w' => e = .returned (.bool true) ∧ Below w.heap.size w w' := by
  have HT := Lib.hid hT
  have HSZ := Lib.hid hT.size
  have HL := Lib.hid hL
  have HLS := Lib.hid hL.size
  have hz := (zero_of_info Z25).1
  obtain ⟨D, hD⟩ : ∃ D, D = sumOf a := ⟨_, rfl⟩
  have HD := Lib.hid hD
  have HDL := Lib.hid (show D.length = 32 from by rw [hD]; rfl)
  have HDO := Lib.hid (show Sm.allB D from by rw [hD]; exact sumOf_ok _)
  clear hT hD hL
  go_enter Try.func5, Try.ntmps5
  go_wp2_with fail
  refine (palive_any A w).mono ?_
  rintro e w1 ⟨rfl, b1⟩
  have B1 := Lib.hid b1
  clear b1
  by_cases h2 : n > 200
  · have l2 : (n : Int) > 200 := by omega
    clear h2
    go_wp2_with fail
    go_ret
    exact ⟨rfl, B1.out⟩
  · have l2 : ¬ (n : Int) > 200 := by omega
    by_cases h3 : m > 30
    · have l3 : (m : Int) > 30 := by omega
      clear h2 h3
      go_wp2_with fail
      go_ret
      exact ⟨rfl, B1.out⟩
    · have l3 : ¬ (m : Int) > 30 := by omega
      have hn2 : n ≤ 200 := by omega
      have hm3 : m ≤ 30 := by omega
      clear h2 h3
      go_wp2_with fail
      refine (A.new w1).mono ?_
      rintro e w2 ⟨g, Q, rfl, p2, q2, b2⟩
      have S2 := Lib.hid (show St PL w w2 g Q ⟨[], none⟩ from ⟨p2, fun k hk => Nat.le_trans B1.out.size (q2 k hk), B1.out.trans (b2.mono B1.out.size)⟩)
      clear p2 q2 b2 l2 l3
      go_wp2_with fail
      go_loopw [6] (fun i wr => GetsR PL w g m i wr) (fun i _ => m - (intOf i).toNat)
      case atStart => exact ⟨0, Q, _, Nat.zero_le _, rfl, S2.out, Nat.le_refl _⟩
      case round =>
        obtain ⟨k, Q, s, hk, rfl, hs, hw⟩ := hrel
        have ST := Lib.hid hs
        clear hs S2
        by_cases hlt : k < m
        · have l1 : (k : Int) < m := by omega
          have i1 : (0 : Int) ≤ k ∧ (k : Int) < m := by omega
          obtain ⟨bg, bo, rfl, hx⟩ := HL.out.at' (by intro e; have := HLS.out; rw [e] at this; simp at this; omega)
          obtain ⟨q1, n1, c1, hc1, ht1⟩ := hx k (by have := HLS.out; omega)
          have c0 := (ST.out.low.cell (block_lt_of_cell hc1)).trans hc1
          obtain ⟨y, hy⟩ : ∃ y, y = L.getD k [] := ⟨_, rfl⟩
          rw [← hy] at ht1
          have T1 := Lib.hid ht1
          clear hx hc1 ht1 hy
          by_cases h4 : n1 > 200
          · have l4 : (n1 : Int) > 200 := by omega
            clear h4
            go_wp2_with fail
            go_ret
            exact ⟨rfl, ST.out.low⟩
          · have l4 : ¬ (n1 : Int) > 200 := by omega
            have hn1 : n1 ≤ 200 := by omega
            clear h4
            go_wp2_with fail
            refine (A.put y q1 n1 c1 ST.out.at' (T1.out.later ST.out.low) (aside T1.out ST.out.own) (by omega) (by omega)).mono ?_
            rintro e w3 ⟨rfl, Q3, p3, q3, o3⟩
            have S3 := Lib.hid (ST.out.turned p3 q3 o3)
            have HF := Lib.hid (put_few s y)
            clear p3 q3 o3
            generalize sumOf y = sy at *
            go_wp2_with fail
            go_roundw
            case rel => exact ⟨k + 1, Q3, s.put y, by omega, by go_num, S3.out, by have := HF.out; omega⟩
            case measure => simp [intOf]; omega
        · have l1 : ¬ (k : Int) < m := by omega
          have TA := Lib.hid (HT.out.later ST.out.low)
          go_wp2_with fail
          refine (A.put a p n c ST.out.at' TA.out (aside HT.out ST.out.own) (by omega) (by omega)).mono ?_
          rintro e w3 ⟨rfl, Q3, p3, q3, o3⟩
          rw [← HD.out]
          have S3 := Lib.hid (ST.out.turned p3 q3 o3)
          have hb4 := (Below.refl w3.heap.size w3).alloc (Nat.le_refl _) (.cells (u8s D) 32)
          have S4 := Lib.hid (S3.out.later A hb4)
          have R4 := Lib.hid (heap_alloc_new w3 (.cells (u8s D) 32))
          clear p3 q3 o3 hb4 S3 TA
          go_upto_region 13 with (refine wpList_store_row (by rfl) 32 (.tmp 7) (.tmp 44) (by rfl) w3.heap.size (u8s D) (by rfl) (by rfl) _ _ (heap_alloc_new w3 _) (by rw [u8s_size, HDL.out]; exact S25) (by rw [u8s_size, u8s_size, HDL.out]; rfl) (u8s_one _) ?_; rw [setRow_alloc])
          generalize w3.alloc (.cells (u8s D) 32) = w4 at *
          generalize w3.heap.size = dd at *
          obtain ⟨t, ht⟩ : ∃ t, textAt (s.put a).W D = some t := by
            have h1 := put_has s a
            rw [← HD.out] at h1
            exact ⟨_, textAt_some h1⟩
          have HTT := Lib.hid ht
          clear ht
          go_wp2_with (refine wpList_load_row (by rfl) 32 (.tmp 7) (by rfl) dd (by rfl) 32 (u8s D) (0, 0) _ R4.out A25 rfl (by rw [u8s_size, HDL.out]; exact S25) ?_)
          refine (A.get t D S4.out.at' HDL.out HDO.out HTT.out).mono ?_
          rintro e w5 ⟨q5, c5, rfl, o5, b5⟩
          have S5 := Lib.hid (S4.out.later A b5)
          have HTO := Lib.hid (show Sm.allB t from by
            have h1 := HTT.out
            unfold textAt at h1
            split at h1
            · next hi =>
              cases h1
              exact (A.ok S4.out.at').bytes _ (getD_mem hi)
            · cases h1)
          have T5 := Lib.hid (tx_of_owns o5 HTO.out)
          clear b5 o5 S4 R4
          go_wp2_with fail
          cases hcl : (s.put a).cl with
          | none =>
            have HE := Lib.hid (show t = a from by
              have h1 := put_got hcl
              rw [← HD.out, HTT.out] at h1
              exact Option.some.inj h1)
            have HCL := Lib.hid hcl
            clear hcl
            refine (A.clashNo S5.out.at' HCL.out).mono ?_
            rintro e w6 ⟨p6, c6, q6, d6, rfl, b6⟩
            have S6 := Lib.hid (S5.out.later A b6)
            have hc1 := convert_tx (T5.out.later b6)
            have hc2 := convert_tx (HT.out.later S6.out.low)
            rw [HE.out] at hc1
            rw [HE.out]
            clear b6 S5 T5
            go_wp2_with fail
            go_ret
            exact ⟨rfl, S6.out.low⟩
          | some xy =>
            obtain ⟨x, y⟩ := xy
            have HCL := Lib.hid hcl
            have HOK := Lib.hid ((A.ok S5.out.at').clash _ hcl)
            clear hcl
            refine (A.clash x y S5.out.at' HCL.out).mono ?_
            rintro e w6 ⟨p6, m6, c6, q6, n6, d6, rfl, tx, ty, hx6, hy6, b6⟩
            have S6 := Lib.hid (S5.out.later A b6)
            have TX := Lib.hid tx
            have TY := Lib.hid ty
            have hc1 := convert_tx tx
            have hc2 := convert_tx ty
            have hne := str_eq tx.ok ty.ok
            rw [decide_eq_false HOK.out.1] at hne
            have hm6 : m6 ≤ 100000 := by rw [tx.size]; exact hx6
            have hn6 : n6 ≤ 100000 := by rw [ty.size]; exact hy6
            clear b6 tx ty S5 T5 hx6 hy6
            generalize strOf x = sx at *
            generalize strOf y = sy at *
            go_wp2_with fail
            refine (A.sum x p6 m6 c6 w6 TX.out hm6).mono ?_
            rintro e w7 ⟨rfl, b7⟩
            have S7 := Lib.hid (S6.out.later A b7)
            have TY7 := Lib.hid (TY.out.later b7)
            clear b7
            obtain ⟨E, hE⟩ : ∃ E, E = sumOf x := ⟨_, rfl⟩
            rw [← hE]
            have HE := Lib.hid (show sumOf y = E from by rw [hE]; exact HOK.out.2.symm)
            have HEL := Lib.hid (show E.length = 32 from by rw [hE]; rfl)
            clear hE
            go_wp2_with fail
            refine (A.sum y q6 n6 d6 w7 TY7.out hn6).mono ?_
            rintro e w8 ⟨rfl, b8⟩
            have S8 := Lib.hid (S7.out.later A b8)
            rw [HE.out]
            clear b8
            have he := fun w' => digest_eql E E HEL.out HEL.out w'
            go_wp2_with fail
            go_ret
            exact ⟨rfl, S8.out.low⟩
end Go.Proofs.Ytlmbicelngpgoaa.Pg

/- Proved: whatever bytes and texts it is handed, the Go function indenturelaw09.PageGets returns true (what was put is got, whatever else is put, or two unlike texts clash: they have one sum, and the store tells them), and each argument reads afterwards as it read before. Conditions: none beyond the given row's own. -/
namespace Go.Proofs.Ytlmbicelngpgoaa
open Go.ChangeShapes Go.WideShapes Go.ChangeAt Go.RowKit Go.Deep

set_option maxRecDepth 100000 in
theorem pggets_lifted (os : Os) (started : os.Started) (H : Type) (enc : TypeId × Value → H) :
    ReturnsInHanded {} Try.checked os 5 .any (Rows.pageGetsSpec.pre6 enc Try.prog Try.f5 Rows.pageGetsRow.domain false) (Rows.pageGetsSpec.post enc Try.prog Try.f5 false true false false) := by
  refine returnsInHanded_of_change (C := Try.checked) gen_own started (by kernel_rfl) Try.func5
    (ChangeSpec.witness6 (enc := enc) (C := Try.checked) false ⟨#[], #[.slice none 0 0, .slice none 0 0], []⟩ 8 (by kernel_rfl) (by kernel_rfl) (by kernel_rfl) (by kernel_rfl)) ?_
  intro W base args ds gs before hval0 hW _ _
  have hval : ∀ (j : Nat) t v, Try.f5.params[j]? = some t → args[j]? = some v → Value.okWide Try.prog W .any base t v := hval0
  have hW' := hW
  obtain ⟨p, q, hA0, hV, rfl, _, _⟩ := hW
  have hA : DataW.TrodAll enc Try.prog W 0 (fun _ => true) true Try.f5.params.toList args.toList ds p := hA0
  rw [Try.params5] at hA hval
  obtain ⟨v0, vs0, d0, ds0, p0, q0, hargs, rfl, rfl, h0, r0⟩ := trodAll_cons hA
  obtain ⟨v1, vs1, d1, ds1, p1, q1, rfl, rfl, rfl, h1, r1⟩ := trodAll_cons r0
  obtain ⟨rfl, rfl, rfl⟩ := trodAll_nil r1
  obtain rfl : args = #[v0, v1] := by cases args; simp_all
  obtain ⟨rfl, rfl⟩ := trodVars_none hV
  obtain ⟨a0, len0, cap0, rfl⟩ := okWide_slice Try.underlying27 (hval 0 27 v0 rfl rfl)
  obtain ⟨a1, len1, cap1, rfl⟩ := okWide_slice Try.underlying28 (hval 1 28 v1 rfl rfl)
  have k0 := h0
  have k1 := h1
  have lt0 : ∀ x ∈ p0, x.block < W.heap.size := by obtain ⟨m, hm⟩ := k0; exact DataW.trod_lt m _ _ _ hm
  have lt1 : ∀ x ∈ p1, x.block < W.heap.size := by obtain ⟨m, hm⟩ := k1; exact DataW.trod_lt m _ _ _ hm
  obtain ⟨⟨B0, hB0⟩, hl0⟩ : (∃ B, Tx W a0 len0 cap0 B) ∧ len0 ≤ 9223372036854775807 := by
    obtain ⟨fuel, hf⟩ := h0
    exact open_bytes hf
  obtain ⟨⟨L1, hL1⟩, hl1⟩ : (∃ L, Texts W a1 len1 cap1 L) ∧ len1 ≤ 9223372036854775807 := by
    obtain ⟨fuel, hf⟩ := h1
    exact open_texts hf
  clear hA0 hval0
  refine (Pg.pgets_any Pg.papi B0 a0 a1 len0 cap0 len1 cap1 L1 W hB0 hL1 hl0 hl1).mono fun e W' ⟨he, bel⟩ => ?_
  subst he
  exact ⟨_, rfl, _, _, _, [], _, [], hW', trodAll_mk1 (shut_bool Try.underlying4 _),
    (trodAll_cons_mk (Below.trod gen_laidOut (by kernel_rfl) (of_decide_eq_true (by kernel_rfl)) k0 bel lt0) (trodAll_cons_mk (Below.trod gen_laidOut (by kernel_rfl) (of_decide_eq_true (by kernel_rfl)) k1 bel lt1) trodAll_mk0)), rfl, bel.frame _, fun h => by cases h⟩
theorem pggets_holds : Rows.PageGetsSaid :=
  OpenClaim.holds_of_wide 5 Try.f5 rfl rfl rfl rfl rfl rfl rfl ⟨rfl, rfl, rfl, rfl, rfl⟩ rfl rfl rfl rfl rfl (by kernel_rfl) Try.func5 (by kernel_rfl)
    (of_decide_eq_true (by kernel_rfl)) (by unfold Func.isWrapper; first | (rw [if_pos (by decide +kernel)]; kernel_rfl) | (rw [if_neg (by decide +kernel)]; exact ⟨rfl, rfl⟩))
    (fun os started H enc _ => pggets_lifted os started H enc)
end Go.Proofs.Ytlmbicelngpgoaa
