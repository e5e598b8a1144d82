/- The walk of CodecOwn. -/
import Derived.Test.YtbjidmocibjbnaaCodRef
namespace Go.Proofs.Ytbjidmocibjbnaa
open Go.RowKit

/-- What is asked of the worlds may grow on the way. -/
theorem wpAnyH_mono {P : Program} {md : Region.Mode} {ops : Array Oper} {Q : Exit → Act → World → Prop} {S S' : World → Prop} (h : ∀ w, S' w → S w) : ∀ (fuel : Nat) (listed : Array Bool) (a : Act) (w : World), wpAnyH P md ops Q S' fuel listed a w → wpAnyH P md ops Q S fuel listed a w
  | 0, _, _, _, k => k
  | fuel + 1, _, _, _, k => ⟨k.1, fun i hi => wpOp_mono (fun a' w' h' => ⟨h _ h'.1, wpAnyH_mono h fuel _ a' w' h'.2⟩) (k.2 i hi)⟩
theorem St.text_ok (B T : List Nat) (h : T.length ≤ 1048576) : (St.mk B 0).text T = ⟨B ++ Cm.be T.length 3 ++ T, 0⟩ := by
  unfold St.text St.count
  rw [if_pos ⟨by omega, by omega⟩, Int.toNat_natCast]
  rfl
theorem St.put_ok (B P : List Nat) : (St.mk B 0).put P = ⟨B ++ P, 0⟩ := rfl
theorem own_step {w w' : World} {base n g : Nat} {v v' u : Value} {xs : List Value} (h : w.ownsRow base 5 1 u n xs) (hs : WStep w w' g v v') (hg : u.ownBlock ≠ some g) (hv : ∀ k, u.ownBlock = some k → v.ownBlock ≠ some k) : w'.ownsRow base 5 1 u n xs := by
  obtain ⟨o1, o2⟩ := h
  refine ⟨o1, o2.imp id ?_⟩
  rintro ⟨gu, cap, cur, rfl, hg', hh, r⟩
  refine ⟨gu, cap, cur, rfl, hg', ?_, r⟩
  rw [hs.block gu (Array.getElem?_eq_some_iff.1 hh).1 (fun e => hg (by rw [e]; rfl)) (hv gu rfl)]
  exact hh
theorem WS.grown {w w' : World} {base g gx : Nat} {v : Value} {s : St} (h : WS w base g v s) (hg : w.grownBy w' (some gx)) (h1 : gx ≠ g) (h2 : v.ownBlock ≠ some gx) : WS w' base g v s :=
  ⟨(hg.block g h.lt (by simp; omega)).trans h.row, h.own.kept hg (Or.inr h2), h.ok, h.nil⟩
/-- A row that is written over, byte by byte. -/
def OwnRel (W4 : World) (gx n cx base : Nat) (i : Value) (W5 : World) : Prop :=
  ∃ (j : Nat) (B5 : List Nat), j ≤ n ∧ i = .int .i64 j ∧ W4.grownBy W5 (some gx) ∧ B5.length = n ∧ Sm.allB B5 ∧ W5.ownsRow base 5 1 (.slice (some ⟨gx, 0, none⟩) n cx) n (vals B5)
theorem owns_some {w : World} {base n c : Nat} {q : Option Addr} {B : List Nat} (h : w.ownsRow base 5 1 (.slice q n c) n (vals B)) (hq : Value.slice q n c ≠ .slice none 0 0) : ∃ g, q = some ⟨g, 0, none⟩ ∧ base ≤ g ∧ g < w.heap.size ∧ n = B.length ∧ n ≤ c := by
  have hl : n = B.length := by have := h.1; rw [vals_length, Nat.mul_one] at this; exact this.symm
  rcases h.2 with ⟨h1, _⟩ | ⟨g, cap, cur, h1, hg, hh, hle, _⟩
  · exact absurd h1 hq
  · simp at h1
    obtain ⟨rfl, rfl⟩ := h1
    exact ⟨g, rfl, hg, (Array.getElem?_eq_some_iff.1 hh).1, hl, hle⟩
set_option maxRecDepth 100000 in
set_option maxHeartbeats 4000000 in
theorem own_any (A B : List Nat) (p q : Option Addr) (n1 c1 n2 c2 : Nat) (n : Int) (w : World) (hA : Tx w p n1 c1 A) (hB : Tx w q n2 c2 B)
    (x1 : -9223372036854775808 ≤ n) (x2 : n ≤ 9223372036854775807) (hl1 : n1 ≤ 9223372036854775807) (hl2 : n2 ≤ 9223372036854775807) :
    Calls Try.prog 6 #[.slice p n1 c1, .slice q n2 c2, .int .i64 n] w fun e w' => e = .returned (.bool true) ∧ Below w.heap.size w w' := by
  have HA := Lib.hid hA
  have HB := Lib.hid hB
  have N1 := Lib.hid hA.size
  have N2 := Lib.hid hB.size
  obtain ⟨i5, hi, hi0, hi1, hi2⟩ := info_parts I5
  have HI := Lib.hid hi
  have HI0 := Lib.hid hi0
  have HI1 := Lib.hid hi1
  have HI2 := Lib.hid hi2
  clear hA hB hi hi0 hi1 hi2
  go_enter Try.func6, Try.ntmps6
  go_wp2_with fail
  refine (alive_any w).mono ?_
  rintro _ w1 ⟨rfl, hb1⟩
  have B1 := Lib.hid hb1
  clear hb1
  by_cases h1 : 300 < n1
  · have b1 : (300 : Int) < n1 := by omega
    go_wp2_with fail
    go_ret
    exact ⟨rfl, B1.out⟩
  by_cases h2 : 300 < n2
  · have b1 : ¬ (300 : Int) < n1 := by omega
    have b2 : (300 : Int) < n2 := by omega
    go_wp2_with fail
    go_ret
    exact ⟨rfl, B1.out⟩
  have b1 : ¬ (300 : Int) < n1 := by omega
  have b2 : ¬ (300 : Int) < n2 := by omega
  have HA1 := Lib.hid (HA.out.later B1.out)
  have hsz1 := B1.out.size
  have s2 := ws_new w1 w.heap.size
  have bb2 : Below w1.heap.size w1 (w1.alloc (.cells #[.slice none 0 0, .int .i64 0] 28)) := (Below.refl _ _).alloc (Nat.le_refl _) _
  have z2 : (w1.alloc (.cells #[.slice none 0 0, .int .i64 0] 28)).heap.size = w1.heap.size + 1 := by simp
  obtain ⟨w2, hw2⟩ : ∃ w2, w2 = w1.alloc (.cells #[.slice none 0 0, .int .i64 0] 28) := ⟨_, rfl⟩
  have HSZ := Lib.hid hsz1
  rw [← hw2] at s2 bb2 z2
  have S2 := Lib.hid s2
  have BB2 := Lib.hid bb2
  have Z2 := Lib.hid z2
  have HW2 := Lib.hid hw2
  clear s2 bb2 z2 hsz1 hw2
  go_upto_region 6 with (refine wpList_build (by rfl) 28 _ (by rfl) (by as_aux_lemma => kernel_rfl) ?_)
  rw [w_built, Option.getD_some, ← HW2.out]
  go_cut [8] (fun s8 wx => ∃ g c, s8 = .slice (some ⟨g, 0, none⟩) n1 c ∧ wx.ownsRow w2.heap.size 5 1 (.slice (some ⟨g, 0, none⟩) n1 c) n1 (vals A) ∧ Below w2.heap.size w2 wx)
  case first =>
    have hE : (w2.alloc (.cells #[] 5)).ownsRow w2.heap.size 5 1 (.slice (some ⟨w2.heap.size, 0, none⟩) 0 0) 0 (vals ([] : List Nat)) := owns_mk (L := []) (heap_alloc_new w2 _) rfl (Nat.le_refl _) (by unfold maxLen; omega) (Nat.le_refl _)
    have HE := Lib.hid hE
    have HA2 := Lib.hid (HA1.out.later BB2.out)
    clear hE
    rcases HA.out.at' with ⟨hp, hc⟩ | ⟨x, hp, _⟩
    · subst hp
      subst hc
      obtain rfl : n1 = 0 := by have := HA.out.le; omega
      have hA0 : A = [] := List.length_eq_zero_iff.1 N1.out.symm
      have HA0 := Lib.hid hA0
      clear hA0
      go_wp2_with (at_builtin; refine wpList_append_own_none (by rfl) (.tmp 25) (.tmp 26) 25 (by rfl) w2.heap.size 5 i5 1 A22 HI.out _ 0 _ (by rfl) HE.out (by rfl) ?_)
      go_meet
      refine ⟨w2.heap.size, 0, rfl, ?_, (Below.refl _ _).alloc (Nat.le_refl _) _⟩
      rw [HA0.out]
      exact HE.out
    · subst hp
      have hn1 : n1 < 1099511627776 := by omega
      go_wp2_with (at_builtin; refine wpList_append_own _ (by rfl) (.tmp 25) (.tmp 26) 25 (by rfl) w2.heap.size 5 i5 (.int .u8 0) 1 1 A22 HI.out HI0.out HI1.out HI2.out (by rfl) (by decide) _ 0 [] (by rfl) HE.out x n1 c1 (vals A) (by rfl) (by rw [vals_length, Nat.mul_one]; exact N1.out.symm) ((HA2.out.later ((Below.refl _ _).alloc (Nat.le_refl _) _)).cells) (vals_one _) (by unfold maxLen; omega) (by omega) (by simp) ?_; intro v3 w3 hown3 hgrow3 hnil3; obtain ⟨q3, d3, hv3⟩ := slice_of_owns hown3; have HO3 := Lib.hid hown3; have HG3 := Lib.hid hgrow3; have HV3 := Lib.hid hv3; have HNL3 := Lib.hid hnil3; rw [hv3]; clear hown3 hgrow3 hv3 hnil3)
      go_meet
      have ho := HO3.out
      rw [HV3.out, Nat.zero_add, List.nil_append] at ho
      obtain ⟨g, rfl, _, _, _, _⟩ := owns_some ho (fun e => by
        have := HNL3.out
        rw [HV3.out, Nat.zero_add] at this
        have := (this.1 e).1
        simp at this)
      exact ⟨g, d3, rfl, ho, ((Below.refl w2.heap.size w2).alloc (Nat.le_refl _) _).grown HG3.out (by simp) (fun k hk => by simp [Value.ownBlock] at hk; omega)⟩
  case rest =>
    obtain ⟨gx, cx, rfl, ho3, hb3⟩ := hcut
    obtain ⟨w3, hw3⟩ : ∃ w3, w3 = wc := ⟨_, rfl⟩
    rw [← hw3] at ho3 hb3 ⊢
    clear hw3
    obtain ⟨gx', hgx, hgx1, hgx2, -, hcx⟩ := owns_some ho3 (by simp)
    obtain rfl : gx = gx' := by simpa using hgx
    have hw13 : w2.heap.size = w1.heap.size + 1 := Z2.out
    have s3 := S2.out.later hb3
    have hB3 : Below w.heap.size w w3 := B1.out.trans ((BB2.out.trans (hb3.mono (by omega))).mono HSZ.out)
    have T3 := Lib.hid (tx_of_owns ho3 HA.out.ok)
    have O3 := Lib.hid ho3
    have S3 := Lib.hid s3
    have B3 := Lib.hid hB3
    have GX := Lib.hid hgx1
    have GX2 := Lib.hid hgx2
    have hcx' := hcx
    clear ho3 hb3 s3 hB3 hgx hgx1 hgx2 S2 BB2 HW2 hw13 hcx
    go_wp2_with fail
    refine (text_any ⟨[], 0⟩ A _ n1 cx w.heap.size w1.heap.size _ _ S3.out T3.out (by simp; have := N1.out; omega) B3.out.size (fun x hx _ => by
      cases hx
      exact ⟨by have := GX.out; have := Z2.out; show gx ≠ w1.heap.size; omega, by simp [Value.ownBlock]⟩)).mono ?_
    rintro e w4 hp
    obtain ⟨rfl, v4, h4, k4⟩ := hp
    rw [St.text_ok [] A (by have := N1.out; omega), List.nil_append] at h4
    have S4 := Lib.hid h4
    have V4 := Lib.hid (show ∀ k, v4.ownBlock = some k → w3.heap.size ≤ k from fun k hk => by
      rcases k4.own k hk with h | h
      · simp [Value.ownBlock] at h
      · exact h)
    have O4 := Lib.hid (own_step O3.out k4 (by have := GX.out; have := Z2.out; simp [Value.ownBlock]; omega) (by simp [Value.ownBlock]))
    have B4 := Lib.hid (B3.out.trans (k4.below HSZ.out (fun k hk => by simp [Value.ownBlock] at hk) B3.out.size))
    clear h4 k4
    go_wp2_with fail
    have hI0 : OwnRel w4 gx n1 cx w2.heap.size (.int .i64 0) w4 := ⟨0, A, by omega, rfl, World.grownBy.refl _ _, N1.out.symm, HA.out.ok, O4.out⟩
    have HI0' := Lib.hid hI0
    clear hI0
    go_loopw [9] (fun i W5 => OwnRel w4 gx n1 cx w2.heap.size i W5) (fun i _ => n1 - (intOf i).toNat)
    case atStart => exact HI0'.out
    case round =>
      obtain ⟨j, B5, hj, rfl, hg5, hl5, hbo5, ho5⟩ := hrel
      by_cases hjn : j < n1
      · have hby := Bytes.of_owns ho5 hbo5
        obtain ⟨g', o', hp', hx'⟩ := hby.ne (by intro e; rw [e] at hl5; simp at hl5; omega)
        obtain ⟨rfl, rfl⟩ : gx = g' ∧ 0 = o' := by simpa using hp'
        have hc5 := hx' j (by omega)
        rw [Nat.zero_add] at hc5
        have hf5 := ho5.frozenAt j
        obtain ⟨b5, hb5⟩ : ∃ b, b = B5.getD j 0 := ⟨_, rfl⟩
        rw [← hb5] at hc5
        have hst5 := ho5.stored j (.int .u8 (((b5 + 1) % 256 : Nat) : Int))
        rw [← vals_set] at hst5
        have HST5 := Lib.hid hst5
        have HG5 := Lib.hid hg5
        have HL5 := Lib.hid hl5
        have HBO5 := Lib.hid hbo5
        clear hby hp' hx' hb5 hst5 hg5 hl5 hbo5 ho5 HI0'
        go_wp2_with fail
        rw [show ((b5 : Int) + 1) % 256 = (((b5 + 1) % 256 : Nat) : Int) from by omega]
        go_roundw
        case rel => exact ⟨j + 1, _, by omega, by go_num, grown_twice HG5.out HST5.out.2, by rw [List.length_set]; exact HL5.out, set_ok HBO5.out _ _ (Nat.mod_lt _ (by omega)), HST5.out.1⟩
        case measure => simp [intOf]; omega
      · obtain ⟨w5, rfl⟩ : ∃ w5 : World, w5 = wr := ⟨_, rfl⟩
        have s5 := S4.out.grown hg5 (by have := GX.out; have := Z2.out; omega) (fun e => by have := V4.out _ e; have := GX2.out; omega)
        have S5 := Lib.hid s5
        have B5' := Lib.hid (B4.out.grown hg5 B4.out.size (fun k hk => by have := GX.out; have := Z2.out; have := HSZ.out; simp at hk; omega))
        have Z5 := Lib.hid hg5.size
        clear s5 hg5 hl5 hbo5 ho5 HI0' O4 O3 T3
        have hlen4 : (Cm.be A.length 3 ++ A).length = 3 + n1 := by rw [List.length_append, Cm.be_length, N1.out]
        have L4 := Lib.hid hlen4
        clear hlen4
        go_wp2_with fail
        refine (wbytes_any _ w.heap.size w1.heap.size v4 _ S5.out (by rw [L4.out]; omega)).mono ?_
        rintro e w6 hp
        obtain ⟨q6, c6, rfl, ho6, hb6⟩ := hp
        obtain ⟨gy, rfl, hgy1, hgy2, -, hcy⟩ := owns_some ho6 (by simp [Cm.be])
        have hok6 := S5.out.ok
        obtain ⟨N, hN⟩ : ∃ N, N = (Cm.be A.length 3 ++ A).length := ⟨_, rfl⟩
        simp only [← hN] at ho6 hcy ⊢
        have hNl : N < 1000 := by rw [hN, L4.out]; omega
        have HN6 := Lib.hid hN
        have O6 := Lib.hid ho6
        have S6 := Lib.hid (S5.out.later hb6)
        have B6 := Lib.hid (B5'.out.trans (hb6.mono B5'.out.size))
        have GY := Lib.hid hgy1
        have hcy' := hcy
        clear ho6 hb6 hgy1 hgy2 hcy hN
        go_wp2_with fail
        have hI1 : OwnRel w6 gy N c6 w5.heap.size (.int .i64 0) w6 := ⟨0, _, by omega, rfl, World.grownBy.refl _ _, HN6.out.symm, hok6, O6.out⟩
        have HI1' := Lib.hid hI1
        clear hI1 hok6
        go_loopw [11] (fun i W7 => OwnRel w6 gy N c6 w5.heap.size i W7) (fun i _ => N - (intOf i).toNat)
        case atStart => exact HI1'.out
        case round =>
          obtain ⟨j, B7, hj, rfl, hg7, hl7, hbo7, ho7⟩ := hrel
          by_cases hjn : j < N
          · have hby := Bytes.of_owns ho7 hbo7
            obtain ⟨g', o', hp', hx'⟩ := hby.ne (by intro e; rw [e] at hl7; simp at hl7; omega)
            obtain ⟨rfl, rfl⟩ : gy = g' ∧ 0 = o' := by simpa using hp'
            have hc7 := hx' j (by omega)
            rw [Nat.zero_add] at hc7
            have hf7 := ho7.frozenAt j
            have hb8 : B7.getD j 0 < 256 := Sm.getD_lt hbo7 (by omega) j
            obtain ⟨b7, hb7⟩ : ∃ b, b = B7.getD j 0 := ⟨_, rfl⟩
            rw [← hb7] at hc7 hb8
            have hst7 := ho7.stored j (.int .u8 (((b7 + 255) % 256 : Nat) : Int))
            rw [← vals_set] at hst7
            have HST7 := Lib.hid hst7
            have HG7 := Lib.hid hg7
            have HL7 := Lib.hid hl7
            have HBO7 := Lib.hid hbo7
            clear hby hp' hx' hb7 hst7 hg7 hl7 hbo7 ho7 HI1'
            go_wp2_with fail
            rw [show ((b7 : Int) - 1) % 256 = (((b7 + 255) % 256 : Nat) : Int) from by omega]
            go_roundw
            case rel => exact ⟨j + 1, _, by omega, by go_num, grown_twice HG7.out HST7.out.2, by rw [List.length_set]; exact HL7.out, set_ok HBO7.out _ _ (Nat.mod_lt _ (by omega)), HST7.out.1⟩
            case measure => simp [intOf]; omega
          · obtain ⟨w7, rfl⟩ : ∃ w7 : World, w7 = wr := ⟨_, rfl⟩
            have s7 := S6.out.grown hg7 (by have := GY.out; have := S5.out.lt; omega) (fun e => by have := (S5.out.own.lt _ e).2; have := GY.out; omega)
            have S7 := Lib.hid s7
            have B7' := Lib.hid (B6.out.grown hg7 B6.out.size (fun k hk => by have := GY.out; have := B5'.out.size; simp at hk; omega))
            clear s7 hg7 hl7 hbo7 ho7 HI1' O6
            go_wp2_with fail
            refine (num_any _ n x1 x2 w.heap.size w1.heap.size v4 _ S7.out (by rw [← HN6.out]; omega) B7'.out.size).mono ?_
            rintro e w8 hp
            obtain ⟨rfl, v8, h8, k8⟩ := hp
            rw [St.put_ok] at h8
            have S8 := Lib.hid h8
            have B8 := Lib.hid (B7'.out.trans (k8.below HSZ.out (fun k hk => (S7.out.own.lt k hk).1) B7'.out.size))
            clear h8 k8
            go_wp2_with fail
            refine (text_any _ B q n2 c2 w.heap.size w1.heap.size v8 _ S8.out (HB.out.later B8.out) (by rw [List.length_append, Cm.num_length, ← HN6.out]; have := N2.out; omega) B8.out.size (fun x hx hne => by
              have hlt : x.block < w.heap.size := by
                have h0 := HB.out
                rw [hx] at h0
                have h9 := h0.cells 0 _ (vals_get _ 0 (List.length_pos_iff.2 hne))
                have h10 := block_lt_of_cell h9
                simpa [Addr.add] using h10
              exact ⟨by have := HSZ.out; omega, fun e => by have := (S8.out.own.lt _ e).1; omega⟩)).mono ?_
            rintro e w9 hp
            obtain ⟨rfl, v9, h9, k9⟩ := hp
            rw [St.text_ok _ B (by have := N2.out; omega)] at h9
            have S9 := Lib.hid h9
            have B9 := Lib.hid (B8.out.trans (k9.below HSZ.out (fun k hk => (S8.out.own.lt k hk).1) B8.out.size))
            clear h9 k9
            go_wp2_with fail
            refine (reftext_any A p n1 c1 _ (HA.out.later B9.out) (by omega)).mono ?_
            rintro e w10 hp
            obtain ⟨q10, c10, rfl, ho10, hb10⟩ := hp
            obtain ⟨g10, rfl, hg10a, hg10b, -, -⟩ := owns_some ho10 (by simp [Cm.be])
            have G10 := Lib.hid hg10a
            clear hg10a hg10b
            simp only [← HN6.out] at ho10 ⊢
            have O10 := Lib.hid ho10
            have S10 := Lib.hid (S9.out.later hb10)
            have B10 := Lib.hid (B9.out.trans (hb10.mono B9.out.size))
            have LB10 := Lib.hid hb10.size
            clear ho10 hb10
            go_wp2_with fail
            refine (refnum_any n x1 x2 _).mono ?_
            rintro e w11 hp
            obtain ⟨q11, c11, rfl, ho11, hb11⟩ := hp
            obtain ⟨gn, rfl, hgn1, hgn2, -, hcn⟩ := owns_some ho11 (by simp [Cm.num, Cm.be])
            rw [Cm.num_length] at ho11 hcn ⊢
            have T11 := Lib.hid (tx_of_owns ho11 (Cm.num_ok n))
            have O11 := Lib.hid (owns_later O10.out hb11)
            have S11 := Lib.hid (S10.out.later hb11)
            have B11 := Lib.hid (B10.out.trans (hb11.mono B10.out.size))
            have LB11 := Lib.hid (Nat.le_trans LB10.out hb11.size)
            clear ho11 hb11 hgn1 hgn2 hcn
            go_wp2_with (at_builtin; refine wpList_append_own_at w11 (by rfl) (.tmp 64) (.tmp 66) 25 (by rfl) w9.heap.size 5 i5 (.int .u8 0) 1 1 A22 HI.out HI0.out HI1.out HI2.out (by rfl) (by decide) _ N _ (by rfl) O11.out ⟨gn, 0, none⟩ 8 c11 (vals (Cm.num n)) (by rfl) (by rw [vals_length, Nat.mul_one, Cm.num_length]) (T11.out.cells) (vals_one _) (by unfold maxLen; omega) (by omega) LB11.out ?_; intro v12 w12 hown12 hgrow12 _ hat12; obtain ⟨q12, c12, hv12⟩ := slice_of_owns hown12; have HO12 := Lib.hid hown12; have HG12 := Lib.hid hgrow12; have HV12 := Lib.hid hv12; have HAT12 := Lib.hid hat12; rw [hv12]; clear hown12 hgrow12 hv12 hat12)
            have hN12 : N + 8 < 1100 := by omega
            have ho12 := HO12.out
            rw [HV12.out, ← vals_append] at ho12
            have hb12 : Below w.heap.size w w12 := B11.out.grown HG12.out B11.out.size (fun k hk => by have := G10.out; have := B9.out.size; simp [Value.ownBlock] at hk; omega)
            have hg12' : w11.grownBy w12 (some g10) := HG12.out
            have hs12 : WS w12 w.heap.size w1.heap.size v9 _ := S11.out.grown hg12' (by have := G10.out; have := S9.out.lt; omega) (fun e => by have := (S9.out.own.lt _ e).2; have := G10.out; omega)
            have hlb12 : w9.heap.size ≤ w12.heap.size := Nat.le_trans LB11.out HG12.out.size
            have hneq : Value.slice q12 (N + 8) c12 ≠ .slice none 0 0 := fun e => by simp at e
            obtain ⟨g12, rfl, hg12a, hg12b, hW12, -⟩ := owns_some ho12 hneq
            obtain ⟨WL, hWL⟩ : ∃ WL, WL = (Cm.be A.length 3 ++ A) ++ Cm.num n := ⟨_, rfl⟩
            rw [← hWL] at ho12 hW12 hs12
            obtain ⟨TB, hTB⟩ : ∃ TB, TB = Cm.be B.length 3 ++ B := ⟨_, rfl⟩
            obtain ⟨SL, hSL⟩ : ∃ SL, SL = WL ++ Cm.be B.length 3 ++ B := ⟨_, rfl⟩
            rw [← hSL] at hs12
            have hSL2 : SL = WL ++ TB := by rw [hSL, hTB, List.append_assoc]
            have hSLl : SL.length < 1099511627776 := by
              rw [hSL, List.length_append, List.length_append, Cm.be_length, ← hW12]
              have := N2.out
              omega
            have hTBl : TB.length < 1000 := by
              rw [hTB, List.length_append, Cm.be_length]
              have := N2.out
              omega
            have HTB3 := Lib.hid (show 3 ≤ TB.length from by rw [hTB, List.length_append, Cm.be_length]; omega)
            have HTB := Lib.hid hTB
            have HSL := Lib.hid hSL2
            have hrt := fun w' => reftext_any B q n2 c2 w'
            simp only [← hTB] at hrt
            have HRT := Lib.hid hrt
            clear hTB hSL hSL2 hrt
            have hd12 : Below w.heap.size w w12.drew := ⟨hb12.os, hb12.tape, hb12.output, hb12.size, hb12.block⟩
            have hD : Below w12.heap.size w12 w12.drew := ⟨rfl, rfl, rfl, Nat.le_refl _, fun _ _ => rfl⟩
            have hs12d := hs12.later hD
            have ho12d := owns_later ho12 hD
            have hWLok : Sm.allB WL := by
              rw [hWL]
              intro x hx
              rcases List.mem_append.1 hx with h | h
              · exact S7.out.ok x h
              · exact Cm.num_ok n x h
            have HWL := Lib.hid hWL
            have HW12 := Lib.hid hW12
            have HS12 := Lib.hid hs12d
            have HO12d := Lib.hid ho12d
            have HLB12 := Lib.hid hlb12
            have HG12B := Lib.hid hg12b
            have HWLO := Lib.hid hWLok
            have HBok := Lib.hid HB.out.ok
            clear hW12 hs12 hs12d ho12 ho12d hlb12 hneq hWL hD hg12a hg12b hWLok hb12 HO12 HG12 HV12 HAT12 hg12' O11 T11 S11 S10 S9 O10
            refine wp_region_held_drew (S := fun w' => Below w.heap.size w w') (by kernel_rfl) hd12 (fun hHeld => ?_)
            refine wpAnyH_take (i := 0) (oi := ⟨some 68, .move (.tmp 7), _, _, _, _⟩) (v := ?_) rfl (by kernel_rfl) (by kernel_rfl) (by kernel_rfl) (fun _ _ _ h => h) (Or.inl ⟨by rfl, ?_⟩) (by assumption) ?_
            rotate_left
            · intro w' hSw
              go_simp
              try with_reducible rfl
            try simp only [Act.put, List.setIfInBounds_toArray, List.set_cons_zero, List.set_cons_succ]
            refine wpAnyH_take (i := 3) (oi := ⟨some 71, .move (.tmp 12), _, _, _, _⟩) (v := ?_) rfl (by kernel_rfl) (by kernel_rfl) (by kernel_rfl) (fun _ _ _ h => h) (Or.inl ⟨by rfl, ?_⟩) (by assumption) ?_
            rotate_left
            · intro w' hSw
              go_simp
              try with_reducible rfl
            try simp only [Act.put, List.setIfInBounds_toArray, List.set_cons_zero, List.set_cons_succ]
            refine wpAnyH_take (i := 4) (oi := ⟨some 72, .move (.tmp 1), _, _, _, _⟩) (v := ?_) rfl (by kernel_rfl) (by kernel_rfl) (by kernel_rfl) (fun _ _ _ h => h) (Or.inl ⟨by rfl, ?_⟩) (by assumption) ?_
            rotate_left
            · intro w' hSw
              go_simp
              try with_reducible rfl
            try simp only [Act.put, List.setIfInBounds_toArray, List.set_cons_zero, List.set_cons_succ]
            refine wpAnyH_ready (rs := [1]) (by kernel_rfl) (by simp) ?_
            refine AllReadyH.cons (o := ⟨some 69, .call ⟨.value (.func 21), #[.tmp 68], #[24]⟩, _, _, _, _⟩) rfl (fun K hK => ?_) AllReadyH.nil
            go_simp
            refine (wbytes_any ⟨SL, 0⟩ w.heap.size w1.heap.size v9 _ HS12.out hSLl).mono ?_
            rintro e w13 hp
            obtain ⟨q13, c13, rfl, ho13, hb13⟩ := hp
            have ht13 := tx_of_owns ho13 HS12.out.ok
            have hl13 := ho13.lt
            have hB13 := hHeld.trans (hb13.mono hHeld.size)
            have HO13 := Lib.hid (owns_later HO12d.out hb13)
            have HL13 := Lib.hid hl13
            have HO13S := Lib.hid ho13
            have HZ13 := Lib.hid hb13.size
            clear ho13 hl13
            try go_wp2_with fail
            refine hK.out _ _ hB13 (fun hHeld => ?_)
            clear hK K
            try simp only [Act.put, List.setIfInBounds_toArray, List.set_cons_zero, List.set_cons_succ]
            refine wpAnyH_mono (S' := fun w' => Below w.heap.size w w' ∧ Tx w' q13 SL.length c13 SL) (fun _ h => h.1) _ _ _ _ ?_
            have hHeld2 : Below w.heap.size w w13 ∧ Tx w13 q13 SL.length c13 SL := ⟨hB13, ht13⟩
            have hc13 : ∀ w', Tx w' q13 SL.length c13 SL → (convert 25 9 (.slice q13 SL.length c13)).run Try.prog w' = .ok (.string (strOf SL)) w' := fun w' h => convert_tx h
            refine wpAnyH_take (i := 2) (oi := ⟨some 70, .convert 25 9 (.tmp 69), _, _, _, _⟩) (v := ?_) rfl (by kernel_rfl) (by kernel_rfl) (by kernel_rfl) (fun _ _ _ h => h) (Or.inl ⟨by rfl, ?_⟩) (by assumption) ?_
            rotate_left
            · intro w' hSw
              obtain ⟨hS1, hS2⟩ := hSw
              go_simp
              try with_reducible rfl
            try simp only [Act.put, List.setIfInBounds_toArray, List.set_cons_zero, List.set_cons_succ]
            refine wpAnyH_ready (rs := [5]) (by kernel_rfl) (by simp) ?_
            refine AllReadyH.cons (o := ⟨some 73, .call ⟨.value (.func 16), #[.tmp 72], #[25]⟩, _, _, _, _⟩) rfl (fun K hK => ?_) AllReadyH.nil
            go_simp
            refine (HRT.out _ (HB.out.later hHeld2.1) (by omega)).mono ?_
            rintro e w14 hp
            obtain ⟨q14, c14, rfl, ho14, hb14⟩ := hp
            obtain ⟨g14, rfl, hg14a, hg14b, hl14, -⟩ := owns_some ho14 (fun e => by have h3 := HTB3.out; injection e with _ e2 _; omega)
            have HT14 := Lib.hid (tx_of_owns ho14 (fun x hx => by
              rw [HTB.out] at hx
              rcases List.mem_append.1 hx with h | h
              · exact Cm.be_ok _ _ x h
              · exact HBok.out x h))
            have HO14 := Lib.hid (owns_later HO13.out hb14)
            have hB14 := hHeld2.1.trans (hb14.mono hHeld2.1.size)
            have ht14 := hHeld2.2.later hb14
            have HZ14 := Lib.hid (Nat.le_trans HZ13.out hb14.size)
            clear ho14 hg14a hg14b hl14 hb14
            try go_wp2_with fail
            refine hK.out _ _ ⟨hB14, ht14⟩ (fun hHeld => ?_)
            clear hK K
            try simp only [Act.put, List.setIfInBounds_toArray, List.set_cons_zero, List.set_cons_succ]
            refine wpAnyH_ready (rs := [6]) (by kernel_rfl) (by simp) ?_
            refine AllReadyH.cons (o := ⟨some 74, .call ⟨.builtin .append, #[.tmp 71, .tmp 73], #[25, 25]⟩, _, _, _, _⟩) rfl (fun K hK => ?_) AllReadyH.nil
            rw [if_pos (by rfl)]
            refine wp_append_own w14 (.tmp 71) (.tmp 73) 25 (by rfl) w9.heap.size 5 i5 (.int .u8 0) 1 1 A22 HI.out HI0.out HI1.out HI2.out (by rfl) (by decide) _ (N + 8) (vals WL) (by rfl) HO14.out ⟨g14, 0, none⟩ TB.length c14 (vals TB) (by rfl) (by rw [vals_length, Nat.mul_one]) HT14.out.cells (vals_one _) (by unfold maxLen; omega) (by omega) (Nat.le_trans HLB12.out HZ14.out) ?_
            intro v15 w15 ho15 hg15 _
            obtain ⟨q15, c15, hv15⟩ := slice_of_owns ho15
            rw [← vals_append, ← HSL.out, hv15] at ho15
            rw [hv15]
            have hl15 : N + 8 + TB.length = SL.length := by rw [HSL.out, List.length_append, HW12.out]
            rw [hl15] at ho15 ⊢
            have ht15 := tx_of_owns ho15 HS12.out.ok
            have hg15' : w14.grownBy w15 (some g12) := hg15
            have hB15 : Below w.heap.size w w15 := hB14.grown hg15' hB14.size (fun k hk => by
              have h1 := (HO12d.out.lt g12 rfl).1
              have h2 := B9.out.size
              simp at hk
              omega)
            have ht13' : Tx w15 q13 SL.length c13 SL := ht14.grown hg15' (fun x hx _ => by
              obtain ⟨_, hq, hge, _, _, _⟩ := owns_some HO13S.out (fun e => by have h3 := HTB3.out; injection e with _ e2 _; have := HSL.out; rw [this, List.length_append] at e2; omega)
              rw [hq] at hx
              cases hx
              have h1 := HG12B.out
              show _ ≠ g12
              have h5 : w12.drew.heap.size = w12.heap.size := rfl
              simp only
              omega)
            refine hK.out _ _ ⟨hB15, ht13'⟩ (fun hHeld => ?_)
            clear hK K
            try simp only [Act.put, List.setIfInBounds_toArray, List.set_cons_zero, List.set_cons_succ]
            refine wpAnyH_mono (S' := fun w' => (Below w.heap.size w w' ∧ Tx w' q13 SL.length c13 SL) ∧ Tx w' q15 SL.length c15 SL) (fun _ h => h.1) _ _ _ _ ?_
            have hHeld3 : (Below w.heap.size w w15 ∧ Tx w15 q13 SL.length c13 SL) ∧ Tx w15 q15 SL.length c15 SL := ⟨⟨hB15, ht13'⟩, ht15⟩
            have hc15 : ∀ w', Tx w' q15 SL.length c15 SL → (convert 25 9 (.slice q15 SL.length c15)).run Try.prog w' = .ok (.string (strOf SL)) w' := fun w' h => convert_tx h
            refine wpAnyH_take (i := 7) (oi := ⟨some 75, .convert 25 9 (.tmp 74), _, _, _, _⟩) (v := ?_) rfl (by kernel_rfl) (by kernel_rfl) (by kernel_rfl) (fun _ _ _ h => h) (Or.inl ⟨by rfl, ?_⟩) (by assumption) ?_
            rotate_left
            · intro w' hSw
              obtain ⟨⟨hS1, hS2⟩, hS3⟩ := hSw
              go_simp
              try with_reducible rfl
            try simp only [Act.put, List.setIfInBounds_toArray, List.set_cons_zero, List.set_cons_succ]
            refine wpAnyH_take (i := 8) (oi := ⟨some 76, .binOp .eql 9 (.tmp 70) (.tmp 75) 9, _, _, _, _⟩) (v := ?_) rfl (by kernel_rfl) (by kernel_rfl) (by kernel_rfl) (fun _ _ _ h => h) (Or.inl ⟨by rfl, ?_⟩) (by assumption) ?_
            rotate_left
            · intro w' hSw
              obtain ⟨⟨hS1, hS2⟩, hS3⟩ := hSw
              go_simp
              try with_reducible rfl
            try simp only [Act.put, List.setIfInBounds_toArray, List.set_cons_zero, List.set_cons_succ]
            refine wpAnyH_take (i := 9) (oi := ⟨some 6, .assign (.tmp 76), _, _, _, _⟩) (v := ?_) rfl (by kernel_rfl) (by kernel_rfl) (by kernel_rfl) (fun _ _ _ h => h) (Or.inl ⟨by rfl, ?_⟩) (by assumption) ?_
            rotate_left
            · intro w' hSw
              obtain ⟨⟨hS1, hS2⟩, hS3⟩ := hSw
              go_simp
              try with_reducible rfl
            try simp only [Act.put, List.setIfInBounds_toArray, List.set_cons_zero, List.set_cons_succ]
            refine wpAnyH_done (by kernel_rfl) ?_ _
            go_wp2_with fail
            go_ret
            exact ⟨rfl, hB15⟩
end Go.Proofs.Ytbjidmocibjbnaa
