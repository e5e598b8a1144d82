/- box.Cut; box.Hull of boxes that are right. -/
import Derived.Test.YthmloljnpjolmaaBoxWhole
namespace Go.Proofs.Ythmloljnpjolmaa
open Go.RowKit

theorem max_ok {x y : Int} (hx : -9223372036854775808 ≤ x ∧ x ≤ 9223372036854775807) (hy : -9223372036854775808 ≤ y ∧ y ≤ 9223372036854775807) : -9223372036854775808 ≤ max x y ∧ max x y ≤ 9223372036854775807 := by omega
theorem min_ok {x y : Int} (hx : -9223372036854775808 ≤ x ∧ x ≤ 9223372036854775807) (hy : -9223372036854775808 ≤ y ∧ y ≤ 9223372036854775807) : -9223372036854775808 ≤ min x y ∧ min x y ≤ 9223372036854775807 := by omega
theorem meetsB_dims {R S T U : List Int} {n m k l : Nat} (h : meetsB R S T U n m k l = true) : 1 ≤ n ∧ n ≤ 8 ∧ m = n ∧ k = n ∧ l = n := by
  unfold meetsB at h
  rw [Bool.and_eq_true] at h
  exact pairB_dims h.1
/-- What Cut tells. -/
def CutPost (w : World) (R S T U : List Int) (n m k l : Nat) (e : Ending) (w' : World) : Prop :=
  if meetsB R S T U n m k l = true then ∃ v, e = .returned (.tuple #[v, .bool true]) ∧ MadeBox w (fun i => max (R.getD i 0) (T.getD i 0)) (fun i => min (S.getD i 0) (U.getD i 0)) n v w'
  else e = .returned (.tuple #[.agg #[.slice none 0 0, .slice none 0 0], .bool false]) ∧ Below w.heap.size w w'
theorem ret_box2 {fn : Func} {P : Ending → World → Prop} (p u : Tmp) (hr : fn.results = #[.cell p 25, .tmp u]) {tmps : Array Value} {w : World} (g : Nat) (a b x : Value)
    (hp : tmps.getD p undef = .pointer (some ⟨g, 0, none⟩)) (hu : tmps.getD u undef = x) (hg : Bx w g a b) (h : P (.returned (.tuple #[.agg #[a, b], x])) w) : bodyPost Try.prog fn P .ret ⟨tmps, []⟩ w := by
  obtain ⟨r0, r1, _, _⟩ := hg.facts
  refine bodyPost_ret (a := ⟨tmps, []⟩) (v := .tuple #[.agg #[a, b], x]) ?_ rfl h
  have hp' : tmps[p]?.getD undef = .pointer (some ⟨g, 0, none⟩) := by simpa using hp
  have hu' : tmps[u]?.getD undef = x := by simpa using hu
  simp [results, hr, hp', hu', go_sem, r0, r1]
theorem four_bx {w w2 : World} {p q r s : Option Addr} {n c m e k f l g : Nat} {R S T U : List Int} (h1 : Ints w p n c R) (h2 : Ints w q m e S) (h3 : Ints w r k f T) (h4 : Ints w s l g U)
    (h : w2 = (((w.alloc (.cells #[.slice p n c, .slice q m e] 25)).alloc (.cells #[.slice r k f, .slice s l g] 25)).alloc (.cells #[.slice none 0 0, .slice none 0 0] 25))) :
    Four w w2 w.heap.size (w.heap.size + 1) p q r s n c m e k f l g R S T U ∧ Bx w2 (w.heap.size + 2) (.slice none 0 0) (.slice none 0 0) := by
  subst h
  have hF := four_of h1 h2 h3 h4 rfl
  have hs : ((w.alloc (.cells #[.slice p n c, .slice q m e] 25)).alloc (.cells #[.slice r k f, .slice s l g] 25)).heap.size = w.heap.size + 2 := (box_two w _ _ _ _ _ rfl).2.2
  generalize (w.alloc (.cells #[.slice p n c, .slice q m e] 25)).alloc (.cells #[.slice r k f, .slice s l g] 25) = w1 at *
  have hx := Bx.fresh w1 (.slice none 0 0) (.slice none 0 0)
  rw [hs] at hx
  exact ⟨hF.later ((Below.refl _ _).alloc (Nat.le_refl _) _), hx⟩
set_option maxRecDepth 100000 in
set_option maxHeartbeats 1000000 in
theorem cut_any (p q r s : Option Addr) (n c m e k f l g : Nat) (R S T U : List Int) (w : World) (h1 : Ints w p n c R) (h2 : Ints w q m e S) (h3 : Ints w r k f T) (h4 : Ints w s l g U) :
    Calls Try.prog 27 #[.agg #[.slice p n c, .slice q m e], .agg #[.slice r k f, .slice s l g]] w (CutPost w R S T U n m k l) := by
  go_enter Try.func27, Try.ntmps27
  go_upto_region 1 with fail
  obtain ⟨w2, hw2⟩ : ∃ w2, w2 = (((w.alloc (.cells #[.slice p n c, .slice q m e] 25)).alloc (.cells #[.slice r k f, .slice s l g] 25)).alloc (.cells #[.slice none 0 0, .slice none 0 0] 25)) := ⟨_, rfl⟩
  have HF := Lib.hid (four_bx h1 h2 h3 h4 hw2).1
  have HX := Lib.hid (four_bx h1 h2 h3 h4 hw2).2
  rw [← hw2]
  clear hw2 h1 h2 h3 h4
  have b := HF.out.ba
  obtain ⟨b0, b1⟩ := b
  have b := HF.out.bb
  obtain ⟨b2, b3⟩ := b
  go_wp2_with fail
  refine (meets_any p q r s n c m e k f l g R S T U w2 HF.out.i1 HF.out.i2 HF.out.i3 HF.out.i4).mono ?_
  rintro _ w3 ⟨rfl, hb3⟩
  have HG := Lib.hid (HF.out.later hb3)
  have HY := Lib.hid (HX.out.later hb3)
  clear hb3 HF HX b0 b1 b2 b3
  have b := HG.out.ba
  obtain ⟨b0, b1⟩ := b
  obtain ⟨c0, c1, c2, c3⟩ := HY.out.facts
  cases hr : meetsB R S T U n m k l with
  | false =>
    have HR := Lib.hid (show ¬ meetsB R S T U n m k l = true by rw [hr]; simp)
    clear hr
    go_wp2_with fail
    exact ret_box2 4 5 rfl (w.heap.size + 2) _ _ (.bool false) rfl rfl (HY.out.set _ _) (by
      show CutPost _ _ _ _ _ _ _ _ _ _ _
      unfold CutPost
      rw [if_neg HR.out]
      exact ⟨rfl, (HG.out.below.setCell (p := ⟨w.heap.size + 2, 0, none⟩) (by show w.heap.size ≤ w.heap.size + 2; omega) _).setCell (p := ⟨w.heap.size + 2, 1, none⟩) (by show w.heap.size ≤ w.heap.size + 2; omega) _⟩)
  | true =>
    have HR := Lib.hid hr
    obtain ⟨hd1, hd2, rfl, rfl, rfl⟩ := meetsB_dims hr
    have HE := Lib.hid (build_any l hd1 hd2 (fun i => max (R.getD i 0) (T.getD i 0)) (fun i => min (S.getD i 0) (U.getD i 0)) 49 #[.pointer (some ⟨w.heap.size, 0, none⟩), .pointer (some ⟨w.heap.size + 1, 0, none⟩)] (enter_side Try.func49 (by kernel_rfl) rfl) w3 (fun k w' hk hb => cutside w.heap.size (w.heap.size + 1) p q r s l c e f g R S T U k hk w' (HG.out.later hb).ba (HG.out.later hb).bb (HG.out.later hb).i1 (HG.out.later hb).i2 (HG.out.later hb).i3 (HG.out.later hb).i4))
    clear hr hd1 hd2
    go_wp2_with fail
    refine HE.out.mono ?_
    rintro _ w4 ⟨g1, g2, rfl, h1, h2, l1, l2, ne, hb⟩
    obtain ⟨d0, d1, d2, d3⟩ := (HY.out.later hb).facts
    have HL := Lib.hid (box_laid HY.out (show w.heap.size ≤ w.heap.size + 2 by omega) HG.out.below hb h1 h2 l1 l2 (fun _ hk => max_ok (HG.out.i1.get _ hk) (HG.out.i3.get _ hk)) (fun _ hk => min_ok (HG.out.i2.get _ hk) (HG.out.i4.get _ hk)))
    clear h1 h2 l1 l2 ne hb b0 b1 c0 c1 c2 c3
    go_wp2_with fail
    generalize (w4.setCell ⟨w.heap.size + 2, 0, none⟩ (.slice (some ⟨g1, 0, none⟩) l l)).setCell ⟨w.heap.size + 2, 1, none⟩ (.slice (some ⟨g2, 0, none⟩) l l) = w9 at *
    exact ret_box2 4 5 rfl (w.heap.size + 2) _ _ (.bool true) rfl rfl HL.out.1 (by
      show CutPost _ _ _ _ _ _ _ _ _ _ _
      unfold CutPost
      rw [if_pos HR.out]
      exact ⟨_, rfl, HL.out.2⟩)
set_option maxRecDepth 100000 in
set_option maxHeartbeats 1000000 in
theorem hull_right (p q r s : Option Addr) (n c m e k f l g : Nat) (R S T U : List Int) (w : World) (h1 : Ints w p n c R) (h2 : Ints w q m e S) (h3 : Ints w r k f T) (h4 : Ints w s l g U) (hp : pairB R S T U n m k l = true) :
    Calls Try.prog 29 #[.agg #[.slice p n c, .slice q m e], .agg #[.slice r k f, .slice s l g]] w fun e w' => ∃ v, e = .returned v ∧ MadeBox w (fun i => min (R.getD i 0) (T.getD i 0)) (fun i => max (S.getD i 0) (U.getD i 0)) n v w' := by
  obtain ⟨hd1, hd2, rfl, rfl, rfl⟩ := pairB_dims hp
  have hp2 := hp
  unfold pairB at hp2
  rw [Bool.and_eq_true] at hp2
  have P1 := Lib.hid hp2.1
  have P2 := Lib.hid hp2.2
  have P3 := Lib.hid hp
  have D1 := Lib.hid (And.intro hd1 hd2)
  clear hp hp2 hd1 hd2
  go_enter Try.func29, Try.ntmps29
  go_upto_region 1 with fail
  obtain ⟨w2, hw2⟩ : ∃ w2, w2 = (((w.alloc (.cells #[.slice p l c, .slice q l e] 25)).alloc (.cells #[.slice r l f, .slice s l g] 25)).alloc (.cells #[.slice none 0 0, .slice none 0 0] 25)) := ⟨_, rfl⟩
  have HF := Lib.hid (four_bx h1 h2 h3 h4 hw2).1
  have HX := Lib.hid (four_bx h1 h2 h3 h4 hw2).2
  rw [← hw2]
  clear hw2 h1 h2 h3 h4
  obtain ⟨b0, b1, b2, b3⟩ : (w2.cell? ⟨w.heap.size, 0, none⟩ = some (.slice p l c) ∧ w2.cell? ⟨w.heap.size, 1, none⟩ = some (.slice q l e) ∧ w2.cell? ⟨w.heap.size + 1, 0, none⟩ = some (.slice r l f) ∧ w2.cell? ⟨w.heap.size + 1, 1, none⟩ = some (.slice s l g)) := ⟨HF.out.ba.1, HF.out.ba.2, HF.out.bb.1, HF.out.bb.2⟩
  go_cut [5, 6] (fun s5 s6 wx => s5 = .bool true ∧ s6 = .bool true ∧ Below w2.heap.size w2 wx)
  case first =>
    have HS := Lib.hid (show ∀ w', (Below w2.heap.size w2 w') → Calls Try.prog 37 #[.agg #[.slice p l c, .slice q l e], .int .i64 l] w' fun e w'' => e = .returned (.bool true) ∧ Below w2.heap.size w2 w'' from fun w' hb => (right_any p q l c l e R S l w' (HF.out.i1.later hb) (HF.out.i2.later hb)).mono (by rw [P1.out]; rintro e w'' ⟨h, hb2⟩; exact ⟨h, hb.trans (hb2.mono hb.size)⟩))
    have HT := Lib.hid (show ∀ w', (Below w2.heap.size w2 w') → Calls Try.prog 37 #[.agg #[.slice r l f, .slice s l g], .int .i64 l] w' fun e w'' => e = .returned (.bool true) ∧ Below w2.heap.size w2 w'' from fun w' hb => (right_any r s l f l g T U l w' (HF.out.i3.later hb) (HF.out.i4.later hb)).mono (by rw [P2.out]; rintro e w'' ⟨h, hb2⟩; exact ⟨h, hb.trans (hb2.mono hb.size)⟩))
    go_region_held3 (fun w' => Below w2.heap.size w2 w' ∧ w'.cell? ⟨w.heap.size, 0, none⟩ = some (.slice p l c) ∧ w'.cell? ⟨w.heap.size, 1, none⟩ = some (.slice q l e) ∧ w'.cell? ⟨w.heap.size + 1, 0, none⟩ = some (.slice r l f) ∧ w'.cell? ⟨w.heap.size + 1, 1, none⟩ = some (.slice s l g)) (first | assumption | exact ⟨(Below.refl _ _).drew, b0, b1, b2, b3⟩ | exact ⟨Below.refl _ _, b0, b1, b2, b3⟩) ((first
      | (go_at_call_of 37 (Value.agg #[.slice p l c, .slice q l e]); refine (HS.out _ (by first | assumption | exact (Below.refl _ _).drew | exact Below.refl _ _)).mono ?_; rintro _ w5 ⟨rfl, hb5⟩; have k5 : Below w2.heap.size w2 w5 ∧ w5.cell? ⟨w.heap.size, 0, none⟩ = some (.slice p l c) ∧ w5.cell? ⟨w.heap.size, 1, none⟩ = some (.slice q l e) ∧ w5.cell? ⟨w.heap.size + 1, 0, none⟩ = some (.slice r l f) ∧ w5.cell? ⟨w.heap.size + 1, 1, none⟩ = some (.slice s l g) := ⟨hb5, (HF.out.later hb5).ba.1, (HF.out.later hb5).ba.2, (HF.out.later hb5).bb.1, (HF.out.later hb5).bb.2⟩)
      | (go_at_call_of 37 (Value.agg #[.slice r l f, .slice s l g]); refine (HT.out _ (by first | assumption | exact (Below.refl _ _).drew | exact Below.refl _ _)).mono ?_; rintro _ w6 ⟨rfl, hb6⟩; have k6 : Below w2.heap.size w2 w6 ∧ w6.cell? ⟨w.heap.size, 0, none⟩ = some (.slice p l c) ∧ w6.cell? ⟨w.heap.size, 1, none⟩ = some (.slice q l e) ∧ w6.cell? ⟨w.heap.size + 1, 0, none⟩ = some (.slice r l f) ∧ w6.cell? ⟨w.heap.size + 1, 1, none⟩ = some (.slice s l g) := ⟨hb6, (HF.out.later hb6).ba.1, (HF.out.later hb6).ba.2, (HF.out.later hb6).bb.1, (HF.out.later hb6).bb.2⟩)))
    all_goals
      go_wp2_with fail
      go_meet
      exact ⟨rfl, rfl, by assumption⟩
  case rest =>
    obtain ⟨rfl, rfl, hbx⟩ := hcut
    obtain ⟨wx, hwx⟩ : ∃ w3, w3 = wc := ⟨_, rfl⟩
    rw [← hwx] at hbx ⊢
    clear hwx
    have HG := Lib.hid (HF.out.later hbx)
    have HY := Lib.hid (HX.out.later hbx)
    clear hbx HF HX b0 b1 b2 b3
    clear w2
    obtain ⟨b0, b1, b2, b3⟩ : (wx.cell? ⟨w.heap.size, 0, none⟩ = some (.slice p l c) ∧ wx.cell? ⟨w.heap.size, 1, none⟩ = some (.slice q l e) ∧ wx.cell? ⟨w.heap.size + 1, 0, none⟩ = some (.slice r l f) ∧ wx.cell? ⟨w.heap.size + 1, 1, none⟩ = some (.slice s l g)) := ⟨HG.out.ba.1, HG.out.ba.2, HG.out.bb.1, HG.out.bb.2⟩
    go_wp2_with fail
    refine (pair_any p q r s l c l e l f l g R S T U wx HG.out.i1 HG.out.i2 HG.out.i3 HG.out.i4).mono ?_
    rw [P3.out]
    rintro _ w3 ⟨rfl, hb3⟩
    have HF := Lib.hid (HG.out.later hb3)
    have HX := Lib.hid (HY.out.later hb3)
    clear hb3 HG HY b0 b1 b2 b3
    obtain ⟨b0, b1⟩ : (w3.cell? ⟨w.heap.size, 0, none⟩ = some (.slice p l c) ∧ w3.cell? ⟨w.heap.size, 1, none⟩ = some (.slice q l e)) := ⟨HF.out.ba.1, HF.out.ba.2⟩
    have HE := Lib.hid (build_any l D1.out.1 D1.out.2 (fun i => min (R.getD i 0) (T.getD i 0)) (fun i => max (S.getD i 0) (U.getD i 0)) 50 #[.pointer (some ⟨w.heap.size, 0, none⟩), .pointer (some ⟨w.heap.size + 1, 0, none⟩)] (enter_side Try.func50 (by kernel_rfl) rfl) w3 (fun k w' hk hb => hullside w.heap.size (w.heap.size + 1) p q r s l c e f g R S T U k hk w' (HF.out.later hb).ba (HF.out.later hb).bb (HF.out.later hb).i1 (HF.out.later hb).i2 (HF.out.later hb).i3 (HF.out.later hb).i4))
    go_wp2_with fail
    refine HE.out.mono ?_
    rintro _ w4 ⟨g1, g2, rfl, h1, h2, l1, l2, ne, hb⟩
    obtain ⟨d0, d1, d2, d3⟩ := (HX.out.later hb).facts
    have HL := Lib.hid (box_laid HX.out (show w.heap.size ≤ w.heap.size + 2 by omega) HF.out.below hb h1 h2 l1 l2 (fun _ hk => min_ok (HF.out.i1.get _ hk) (HF.out.i3.get _ hk)) (fun _ hk => max_ok (HF.out.i2.get _ hk) (HF.out.i4.get _ hk)))
    clear h1 h2 l1 l2 ne hb b0 b1
    go_wp2_with fail
    generalize (w4.setCell ⟨w.heap.size + 2, 0, none⟩ (.slice (some ⟨g1, 0, none⟩) l l)).setCell ⟨w.heap.size + 2, 1, none⟩ (.slice (some ⟨g2, 0, none⟩) l l) = w9 at *
    exact ret_box 4 rfl (w.heap.size + 2) _ _ rfl HL.out.1 ⟨_, rfl, HL.out.2⟩
end Go.Proofs.Ythmloljnpjolmaa
