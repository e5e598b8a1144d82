/- PgPutL, NlSayPut, NlPut, NdEx, NdSameNode, NlAlive, NdGreat. -/
import Derived.Test.YtfkpgildeddhaaaGreatM8
import Derived.BigQuiet
/- Package page, as it landed: Put. -/
namespace Go.Proofs.YtfkpgildeddhaaaGreat.Pg
open Go.RowKit

section
variable {Q QX : Nat → Prop} {w : World} {g : Nat} {mp : Option Nat} {cl : Option Addr} {s : S}
theorem SAt.f1 (h : SAt Q w g mp cl s) : w.frozen? ⟨g, 1, none⟩ = false := frozen_of_row w g 1 _ _ h.row
/-- A store's block is turned: another one's stays as it is. -/
theorem SAt.aside {k : Nat} {w' : World} (h : SAt Q w g mp cl s) (ho : Dk.Only (fun j => j = k) w w') (hk : ¬ Q k) : SAt Q w' g mp cl s := h.only ho (fun _ hj e => hk (e ▸ hj))
/-- The clash is laid. -/
theorem SAt.clashed {p q : Option Addr} {m c n d : Nat} {t b : List Nat} (h : SAt Q w g mp cl s) (h1 : TQ Q w p m c t) (h2 : TQ QX w q n d b) (hlt : ∀ k, QX k → k < w.heap.size) (hok : S.ok ⟨s.W, some (t, b)⟩) :
    SAt (fun k => Q k ∨ QX k ∨ k = w.heap.size) ((w.alloc (.cells #[.slice p m c, .slice q n d] 109)).setCell ⟨g, 1, none⟩ (.pointer (some ⟨w.heap.size, 0, none⟩))) g mp (some ⟨w.heap.size, 0, none⟩) ⟨s.W, some (t, b)⟩ ∧
    Dk.Only (fun j => j = g) w ((w.alloc (.cells #[.slice p m c, .slice q n d] 109)).setCell ⟨g, 1, none⟩ (.pointer (some ⟨w.heap.size, 0, none⟩))) := by
  have hg : g < w.heap.size := h.lt g h.mine
  have hb := (Below.refl w.heap.size w).alloc (Nat.le_refl _) (.cells #[.slice p m c, .slice q n d] 109)
  have hnew := heap_alloc_new w (.cells #[.slice p m c, .slice q n d] 109)
  have h3 := h.later hb
  have t1 := h1.keep (w' := w.alloc (.cells #[.slice p m c, .slice q n d] 109)) (fun k hk => hb.block k (h.lt k hk))
  have t2 := h2.keep (w' := w.alloc (.cells #[.slice p m c, .slice q n d] 109)) (fun k hk => hb.block k (hlt k hk))
  have hset := Dk.Only.setCell (P := fun j => j = g) (w.alloc (.cells #[.slice p m c, .slice q n d] 109)) (a := ⟨g, 1, none⟩) rfl (.pointer (some ⟨w.heap.size, 0, none⟩))
  have hsz := hset.size
  rw [World.size_alloc] at hsz
  have hrow := heap_setCell_same (w.alloc (.cells #[.slice p m c, .slice q n d] 109)) g 1 _ _ (.pointer (some ⟨w.heap.size, 0, none⟩)) h3.row
  refine ⟨⟨hrow, (h3.pages.turn_row h3.row hset).wide (fun _ k => Or.inl k), Or.inr ⟨_, _, _, rfl, rfl, ⟨Or.inr (Or.inr rfl), p, m, c, q, n, d, (hset.block _ (by simp) (by omega)).trans hnew, (t1.turn hset (fun z hz hz' => text_not_row t1.tx hz hz' h3.row)).wide (fun _ k => Or.inl k), (t2.turn hset (fun z hz hz' => text_not_row t2.tx hz hz' h3.row)).wide (fun _ k => Or.inr (Or.inl k))⟩⟩, Or.inl h.mine, ?_, hok⟩, (Dk.Only.of_below _ hb).trans hset⟩
  intro k hk
  rcases hk with hk | hk | rfl
  · have := h.lt k hk; omega
  · have := hlt k hk; omega
  · omega
end
theorem tq_of_own {w w' : World} {q : Option Addr} {n c : Nat} {B : List Nat} (ho : w'.ownsRow w.heap.size 5 1 (.slice q n c) n (vals B)) (hn : n = B.length) (hB : Sm.allB B) (hl : B.length ≤ 100000) : TQ (fun k => w.heap.size ≤ k ∧ k < w'.heap.size) w' q n c B :=
  ⟨by subst hn; exact tx_of_owns ho hB, fun x hx _ => ho.lt x.block (by rw [hx]; rfl), hl⟩
theorem only_setRow (w : World) (g : Nat) (cs : Array Value) : Dk.Only (fun j => j = g) w (w.setRow g cs) :=
  ⟨rfl, rfl, rfl, by simp [World.setRow], fun k _ hn => by simp only [World.setRow]; rw [Array.getElem?_modify, if_neg (fun e => hn e.symm)]⟩
/-- What Put leaves. -/
def PutPost (Q : Nat → Prop) (w : World) (g : Nat) (s' : S) (w' : World) : Prop := (∃ Q', PL w' g Q' s' ∧ ∀ k, Q' k → Q k ∨ w.heap.size ≤ k) ∧ Dk.Only Q w w'
theorem putPost_fin {w wX : World} {g r4 : Nat} {Q Q' : Nat → Prop} {mp : Option Nat} {cl : Option Addr} {s' : S} (h : SAt Q' wX g mp cl s') (ho : Dk.Only Q w wX) (hn : ¬ Q' r4) (hq : ∀ k, Q' k → Q k ∨ w.heap.size ≤ k) (hr : w.heap.size ≤ r4) (cs : Array Value) : PutPost Q w g s' (wX.setRow r4 cs) :=
  ⟨⟨Q', ⟨_, _, h.aside (only_setRow wX r4 cs) hn⟩, hq⟩, only_old ((ho.mono (Q := fun k => Q k ∨ k = r4) (fun k e => Or.inl e)).trans ((only_setRow wX r4 cs).mono (fun k e => Or.inr e))) (fun k e => e.imp id (fun e => by omega))⟩
set_option maxRecDepth 100000 in
set_option maxHeartbeats 2500000 in
theorem put_any {w : World} {g : Nat} {Q : Nat → Prop} {s : S} (b : List Nat) (p : Option Addr) (n c : Nat) (h : PL w g Q s) (hT : Tx w p n c b) (hn : n ≤ 100000) (hsm : s.W.length < 100000) :
    Calls Tryz.prog 47 #[.pointer (some ⟨g, 0, none⟩), .slice p n c] w fun e w' => e = .returned (.agg (u8s (sumOf b))) ∧ PutPost Q w g (s.put b) w' := by
  obtain ⟨mp, cl, h⟩ := h
  have hz := (zero_of_info Z25).1
  obtain ⟨D, hD⟩ : ∃ D, D = sumOf b := ⟨_, rfl⟩
  have HDL := Lib.hid (show D.length = 32 from by rw [hD]; rfl)
  have HDO := Lib.hid (show Sm.allB D from by rw [hD]; exact sumOf_ok b)
  have HNB := Lib.hid (show n = b.length from hT.size)
  have h0 := (Below.refl w.heap.size w).alloc (Nat.le_refl _) (.cells (u8s (zeros 32)) 37)
  have HB0 := Lib.hid h0
  have R0 := Lib.hid (heap_alloc_new w (.cells (u8s (zeros 32)) 37))
  have T0 := Lib.hid (hT.later h0)
  have H0 := Lib.hid (h.later h0)
  have HQL := Lib.hid h.lt
  have HTO := Lib.hid hT.ok
  have HD := Lib.hid hD
  have HOK := Lib.hid (S.put_ok h.ok hT.ok)
  clear h hT h0 hD
  go_enter Tryz.func47, Tryz.ntmps47
  go_wp2_with fail
  generalize w.alloc (.cells (u8s (zeros 32)) 37) = w1 at *
  generalize hr4 : w.heap.size = r4 at *
  refine (sum_any' b p n c w1 T0.out hn).mono ?_
  rintro _ w2 ⟨rfl, b2⟩
  rw [← HD.out]
  have HB2 := Lib.hid (HB0.out.trans (b2.mono (hr4 ▸ HB0.out.size)))
  have R2 := Lib.hid ((b2.block _ (Array.getElem?_eq_some_iff.1 R0.out).1).trans R0.out)
  have T2 := Lib.hid (T0.out.later b2)
  have H2 := Lib.hid (H0.out.later b2)
  have hba := (Below.refl w2.heap.size w2).alloc (Nat.le_refl _) (.cells (u8s D) 37)
  have HB3 := Lib.hid (HB2.out.trans (hba.mono (hr4 ▸ HB2.out.size)))
  have R3 := Lib.hid ((hba.block _ (Array.getElem?_eq_some_iff.1 R2.out).1).trans R2.out)
  have T3 := Lib.hid (T2.out.later hba)
  have H3 := Lib.hid (H2.out.later hba)
  have R5 := Lib.hid (heap_alloc_new w2 (.cells (u8s D) 37))
  have RZ := Lib.hid (heap_alloc_new w2 (.cells (u8s (zeros 32)) 37))
  have HSR := Lib.hid (setRow_alloc w2 (u8s (zeros 32)) (u8s D) 37)
  have HR45 := Lib.hid (show r4 < w2.heap.size from by have := (Array.getElem?_eq_some_iff.1 R2.out).1; exact this)
  clear hba b2 HB0 R0 T0 H0 HB2 R2 T2 H2
  go_upto_region 2 with (refine wpList_store_row (by rfl) 37 _ _ (by rfl) w2.heap.size (u8s D) (by rfl) (by rfl) _ _ RZ.out (by rw [u8s_size, HDL.out]; exact S25) (by rw [u8s_size, u8s_size, HDL.out]; rfl) (u8s_one _) ?_)
  rw [HSR.out]
  generalize w2.alloc (.cells (u8s D) 37) = w3 at *
  generalize w2.heap.size = r5 at *
  clear RZ HSR
  obtain ⟨pp, mm, cc, hl, hnone, hsome⟩ := look_any H3.out.pages HDL.out HDO.out
  have C03 := Lib.hid H3.out.c0
  have HNN := Lib.hid hnone
  have HSS := Lib.hid hsome
  clear hnone hsome
  simp only [Act.put]
  have hkeep : ∀ s' : S, s' = s → PutPost Q w g s' (w3.setRow r4 (u8s D)) := fun s' e => by
    rw [e]
    exact putPost_fin H3.out (Dk.Only.of_below _ (by rw [hr4]; exact HB3.out)) (fun e => by have := HQL.out _ e; omega) (fun k hk => Or.inl hk) (by omega) _
  have HKE := Lib.hid hkeep
  clear hkeep
  by_cases hi : idx D s.W < s.W.length
  · rw [decide_eq_true hi] at hl
    have HL := Lib.hid hl
    obtain ⟨t, ht⟩ : ∃ t, textAt s.W D = some t := ⟨_, textAt_some hi⟩
    have HT := Lib.hid (HSS.out t ht)
    have HPT := Lib.hid ht
    have hmt : mm ≤ 100000 := by have := HT.out.tx.size; have := HT.out.le; omega
    clear hl ht hi HSS HNN
    refine wp_region_held_drew (S := fun w' => w'.heap = w3.heap) (by kernel_rfl) rfl (fun hHeld => ?_)
    refine wpAnyH_take (i := 0) (oi := ⟨some 11, .move (.tmp 0), _, _, _, _⟩) (v := ?_) rfl (by kernel_rfl) (by kernel_rfl) (by kernel_rfl) (fun _ _ _ h => h) (Or.inl ⟨by rfl, ?_⟩) (by assumption) ?_
    rotate_left
    · intro w' hSw
      go_simp
      try with_reducible rfl
    try simp only [Act.put, List.setIfInBounds_toArray, List.set_cons_zero, List.set_cons_succ]
    refine wpAnyH_take (i := 1) (oi := ⟨some 12, .nilCheck (.tmp 11), _, _, _, _⟩) (v := ?_) rfl (by kernel_rfl) (by kernel_rfl) (by kernel_rfl) (fun _ _ _ h => h) (Or.inl ⟨by rfl, ?_⟩) (by assumption) ?_
    rotate_left
    · intro w' hSw
      go_simp
      try with_reducible rfl
    try simp only [Act.put, List.setIfInBounds_toArray, List.set_cons_zero, List.set_cons_succ]
    refine wpAnyH_take (i := 2) (oi := ⟨some 13, .fieldAddr 84 (.tmp 12) 0, _, _, _, _⟩) (v := ?_) rfl (by kernel_rfl) (by kernel_rfl) (by kernel_rfl) (fun _ _ _ h => h) (Or.inl ⟨by rfl, ?_⟩) (by assumption) ?_
    rotate_left
    · intro w' hSw
      go_simp
      try with_reducible rfl
    try simp only [Act.put, List.setIfInBounds_toArray, List.set_cons_zero, List.set_cons_succ]
    refine wpAnyH_take (i := 3) (oi := ⟨some 14, .load 81 (.tmp 13), _, _, _, _⟩) (v := ?_) rfl (by kernel_rfl) (by kernel_rfl) (by kernel_rfl) (fun _ _ _ h => h) (Or.inl ⟨by rfl, ?_⟩) (by assumption) ?_
    rotate_left
    · intro w' hSw
      have c0 := (World.cell?_of_block (w := w3) (a := ⟨g, 0, none⟩) (by rw [hSw])).trans C03.out
      go_simp
      try with_reducible rfl
    try simp only [Act.put, List.setIfInBounds_toArray, List.set_cons_zero, List.set_cons_succ]
    refine wpAnyH_take (i := 4) (oi := ⟨some 15, .load 37 (.tmp 5), _, _, _, _⟩) (v := ?_) rfl (by kernel_rfl) (by kernel_rfl) (by kernel_rfl) (fun _ _ _ h => h) (Or.inl ⟨by rfl, ?_⟩) (by assumption) ?_
    rotate_left
    · intro w' hSw
      refine Eq.trans (b := Result.ok (Next.value (.agg (u8s D))) w') ?_ ?_
      · exact op_load_dig (by rfl) (by rfl) HDL.out (range_of_row' ((congrArg (fun h => h[r5]?) hSw).trans R5.out))
      · with_reducible rfl
    try simp only [Act.put, List.setIfInBounds_toArray, List.set_cons_zero, List.set_cons_succ]
    refine wpAnyH_take (i := 5) (oi := ⟨some 16, .lookup 81 (.tmp 14) (.tmp 15) true, _, _, _, _⟩) (v := ?_) rfl (by kernel_rfl) (by kernel_rfl) (by kernel_rfl) (fun _ _ _ h => h) (Or.inl ⟨by rfl, ?_⟩) (by assumption) ?_
    rotate_left
    · intro w' hSw
      refine Eq.trans (b := Result.ok (Next.value (.tuple #[.slice pp mm cc, .bool true])) w') ?_ ?_
      · exact op_look (by rfl) (by rfl) (by rfl) (HL.out w' hSw)
      · with_reducible rfl
    try simp only [Act.put, List.setIfInBounds_toArray, List.set_cons_zero, List.set_cons_succ]
    refine wpAnyH_take (i := 6) (oi := ⟨some 10, .move (.tmp 16), _, _, _, _⟩) (v := ?_) rfl (by kernel_rfl) (by kernel_rfl) (by kernel_rfl) (fun _ _ _ h => h) (Or.inl ⟨by rfl, ?_⟩) (by assumption) ?_
    rotate_left
    · intro w' hSw
      go_simp
      try with_reducible rfl
    try simp only [Act.put, List.setIfInBounds_toArray, List.set_cons_zero, List.set_cons_succ]
    refine wpAnyH_take (i := 7) (oi := ⟨some 17, .extract (.tmp 10) 0, _, _, _, _⟩) (v := ?_) rfl (by kernel_rfl) (by kernel_rfl) (by kernel_rfl) (fun _ _ _ h => h) (Or.inl ⟨by rfl, ?_⟩) (by assumption) ?_
    rotate_left
    · intro w' hSw
      go_simp
      try with_reducible rfl
    try simp only [Act.put, List.setIfInBounds_toArray, List.set_cons_zero, List.set_cons_succ]
    refine wpAnyH_take (i := 8) (oi := ⟨some 18, .extract (.tmp 10) 1, _, _, _, _⟩) (v := ?_) rfl (by kernel_rfl) (by kernel_rfl) (by kernel_rfl) (fun _ _ _ h => h) (Or.inl ⟨by rfl, ?_⟩) (by assumption) ?_
    rotate_left
    · intro w' hSw
      go_simp
      try with_reducible rfl
    try simp only [Act.put, List.setIfInBounds_toArray, List.set_cons_zero, List.set_cons_succ]
    refine wpAnyH_take (i := 9) (oi := ⟨some 6, .assign (.tmp 17), _, _, _, _⟩) (v := ?_) rfl (by kernel_rfl) (by kernel_rfl) (by kernel_rfl) (fun _ _ _ h => h) (Or.inl ⟨by rfl, ?_⟩) (by assumption) ?_
    rotate_left
    · intro w' hSw
      go_simp
      try with_reducible rfl
    try simp only [Act.put, List.setIfInBounds_toArray, List.set_cons_zero, List.set_cons_succ]
    refine wpAnyH_take (i := 10) (oi := ⟨some 7, .assign (.tmp 18), _, _, _, _⟩) (v := ?_) rfl (by kernel_rfl) (by kernel_rfl) (by kernel_rfl) (fun _ _ _ h => h) (Or.inl ⟨by rfl, ?_⟩) (by assumption) ?_
    rotate_left
    · intro w' hSw
      go_simp
      try with_reducible rfl
    try simp only [Act.put, List.setIfInBounds_toArray, List.set_cons_zero, List.set_cons_succ]
    refine wpAnyH_done (by kernel_rfl) ?_ _
    have HB5 := Lib.hid (HB3.out.drew)
    have R55 := Lib.hid (show w3.drew.heap[r5]? = _ from R5.out)
    have R35 := Lib.hid (show w3.drew.heap[r4]? = _ from R3.out)
    have T5 := Lib.hid (T3.out.later (Below.refl _ _).drew)
    have H5 := Lib.hid (H3.out.later (Below.refl _ _).drew)
    have HKE5 := Lib.hid (show ∀ s' : S, s' = s → PutPost Q w g s' (w3.drew.setRow r4 (u8s D)) from fun s' e => by
      rw [e]
      exact putPost_fin H5.out (Dk.Only.of_below _ (by rw [hr4]; exact HB5.out)) (fun e => by have := HQL.out _ e; omega) (fun k hk => Or.inl hk) (by omega) _)
    have HT5 := Lib.hid (HT.out.keep (w' := w3.drew) (fun _ _ => rfl))
    have C1 := H5.out.c1
    clear hHeld HB3 R5 R3 T3 H3 HL HKE HT
    generalize w3.drew = w5 at *
    have HTT := Lib.hid HT5.out.tx
    have HCL := Lib.hid (show s.put b = ⟨s.W, match s.cl with | some x => some x | none => if t = b then none else some (t, b)⟩ from by
      have h1 : idx (sumOf b) s.W < s.W.length := by rw [← HD.out]; exact textAt_lt HPT.out
      have h2 : textAt s.W (sumOf b) = some t := by rw [← HD.out]; exact HPT.out
      unfold S.put putW
      rw [if_pos h1, h2]
      cases s.cl <;> rfl)
    cases cl with
    | some ca =>
      have HS := Lib.hid (show s.put b = s from by
        rw [HCL.out]
        rcases H5.out.clash with ⟨h1, _⟩ | ⟨_, a, b', _, h2, _⟩
        · cases h1
        · cases s with | mk W c => cases h2; rfl)
      go_wp2_with (first | (refine wpList_load_row (by rfl) 37 (.tmp 5) (by rfl) r5 (by rfl) 37 (u8s D) (0, 0) _ R55.out A25 rfl (by rw [u8s_size, HDL.out]; exact S25) ?_) | (refine wpList_store_row (by rfl) 37 _ _ (by rfl) r4 (u8s D) (by rfl) (by rfl) _ _ R35.out (by rw [u8s_size, HDL.out]; exact S25) (by rw [u8s_size, u8s_size, HDL.out]; rfl) (u8s_one _) ?_))
      exact ret_row 4 (by kernel_rfl) r4 _ _ A25 S25 rfl (setRow_heap _ _ _ _ _ _ R35.out) (by rw [u8s_size]; exact HDL.out) ⟨by rw [HD.out], HKE5.out _ HS.out⟩
    | none =>
      have hcn : s.cl = none := by
        rcases H5.out.clash with ⟨_, h1⟩ | ⟨_, _, _, h1, _⟩
        · exact h1
        · cases h1
      by_cases htb : t = b
      · have HS := Lib.hid (show s.put b = s from by
          rw [HCL.out, if_pos htb, hcn]
          cases s with | mk W c => cases hcn; rfl)
        have HEQ := Lib.hid (decide_eq_true htb)
        clear htb hcn
        go_wp2_with (first | (refine wpList_load_row (by rfl) 37 (.tmp 5) (by rfl) r5 (by rfl) 37 (u8s D) (0, 0) _ R55.out A25 rfl (by rw [u8s_size, HDL.out]; exact S25) ?_) | (refine wpList_store_row (by rfl) 37 _ _ (by rfl) r4 (u8s D) (by rfl) (by rfl) _ _ R35.out (by rw [u8s_size, HDL.out]; exact S25) (by rw [u8s_size, u8s_size, HDL.out]; rfl) (u8s_one _) ?_) | (go_at_call 73; refine (bequal_any HTT.out T5.out).mono ?_; rintro _ _ ⟨rfl, rfl⟩; rw [HEQ.out]))
        exact ret_row 4 (by kernel_rfl) r4 _ _ A25 S25 rfl (setRow_heap _ _ _ _ _ _ R35.out) (by rw [u8s_size]; exact HDL.out) ⟨by rw [HD.out], HKE5.out _ HS.out⟩
      · have HS := Lib.hid (show s.put b = ⟨s.W, some (t, b)⟩ from by rw [HCL.out, hcn]; simp only [if_neg htb])
        have HEQ := Lib.hid (decide_eq_false htb)
        clear htb hcn
        have OKC := Lib.hid (show S.ok ⟨s.W, some (t, b)⟩ from by rw [← HS.out]; exact HOK.out)
        go_upto_region 6 with (first | (go_at_call 73; refine (bequal_any HTT.out T5.out).mono ?_; rintro _ _ ⟨rfl, rfl⟩; rw [HEQ.out]))
        go_wp2_with fail
        refine (bclone_any T5.out hn).mono ?_
        rintro _ w42 ⟨q42, c42, rfl, o42, b42⟩
        have T42 := tq_of_own o42 HNB.out HTO.out (by rw [← HNB.out]; exact hn)
        have H42 := H5.out.later b42
        have HT42 := HT5.out.keep (w' := w42) (fun k hk => b42.block k (H5.out.lt k hk))
        obtain ⟨HCX, hoX⟩ := H42.clashed HT42 T42 (fun k hk => hk.2) OKC.out
        have hba := (Below.refl w42.heap.size w42).alloc (Nat.le_refl _) (.cells #[.slice pp mm cc, .slice q42 n c42] 109)
        have cA := (H42.later hba).c1
        have fA := (H42.later hba).f1
        have hg4 : g < r4 := HQL.out _ H5.out.mine
        have RR4 := Lib.hid ((hoX.block r4 (Nat.lt_of_lt_of_le (Array.getElem?_eq_some_iff.1 R35.out).1 b42.size) (by omega)).trans ((b42.block _ (Array.getElem?_eq_some_iff.1 R35.out).1).trans R35.out))
        have RR5 := Lib.hid ((hoX.block r5 (Nat.lt_of_lt_of_le (Array.getElem?_eq_some_iff.1 R55.out).1 b42.size) (by have := HR45.out; omega)).trans ((b42.block _ (Array.getElem?_eq_some_iff.1 R55.out).1).trans R55.out))
        have HFIN := Lib.hid (show PutPost Q w g (s.put b) (((w42.alloc (.cells #[.slice pp mm cc, .slice q42 n c42] 109)).setCell ⟨g, 1, none⟩ (.pointer (some ⟨w42.heap.size, 0, none⟩))).setRow r4 (u8s D)) from by
          rw [HS.out]
          have hs5 : r4 < w5.heap.size := (Array.getElem?_eq_some_iff.1 R35.out).1
          have hbw : w.heap.size ≤ w5.heap.size := by omega
          have hb4 := b42.size
          refine putPost_fin HCX ((Dk.Only.of_below _ (by rw [hr4]; exact HB5.out.trans (b42.mono (by omega)))).trans (hoX.mono (fun k e => by rw [e]; exact H5.out.mine))) (fun e => ?_) (fun k hk => ?_) (by omega) _
          · rcases e with e | ⟨e, _⟩ | e
            · have := HQL.out _ e; omega
            · omega
            · omega
          · rcases hk with e | ⟨e, _⟩ | e
            · exact Or.inl e
            · right; omega
            · right; omega)
        clear o42 b42 T42 H42 HT42 HCX hoX hba HT5 HTT C1
        go_wp2_with (first | (refine wpList_load_row (by rfl) 37 (.tmp 5) (by rfl) r5 (by rfl) 37 (u8s D) (0, 0) _ RR5.out A25 rfl (by rw [u8s_size, HDL.out]; exact S25) ?_) | (refine wpList_store_row (by rfl) 37 _ _ (by rfl) r4 (u8s D) (by rfl) (by rfl) _ _ RR4.out (by rw [u8s_size, HDL.out]; exact S25) (by rw [u8s_size, u8s_size, HDL.out]; rfl) (u8s_one _) ?_))
        exact ret_row 4 (by kernel_rfl) r4 _ _ A25 S25 rfl (setRow_heap _ _ _ _ _ _ RR4.out) (by rw [u8s_size]; exact HDL.out) ⟨by rw [HD.out], HFIN.out⟩
  · rw [decide_eq_false hi] at hl
    have HL := Lib.hid hl
    have HPN := Lib.hid (textAt_none hi)
    have HNI := Lib.hid hi
    clear hl hi HSS HNN
    refine wp_region_held_drew (S := fun w' => w'.heap = w3.heap) (by kernel_rfl) rfl (fun hHeld => ?_)
    refine wpAnyH_take (i := 0) (oi := ⟨some 11, .move (.tmp 0), _, _, _, _⟩) (v := ?_) rfl (by kernel_rfl) (by kernel_rfl) (by kernel_rfl) (fun _ _ _ h => h) (Or.inl ⟨by rfl, ?_⟩) (by assumption) ?_
    rotate_left
    · intro w' hSw
      go_simp
      try with_reducible rfl
    try simp only [Act.put, List.setIfInBounds_toArray, List.set_cons_zero, List.set_cons_succ]
    refine wpAnyH_take (i := 1) (oi := ⟨some 12, .nilCheck (.tmp 11), _, _, _, _⟩) (v := ?_) rfl (by kernel_rfl) (by kernel_rfl) (by kernel_rfl) (fun _ _ _ h => h) (Or.inl ⟨by rfl, ?_⟩) (by assumption) ?_
    rotate_left
    · intro w' hSw
      go_simp
      try with_reducible rfl
    try simp only [Act.put, List.setIfInBounds_toArray, List.set_cons_zero, List.set_cons_succ]
    refine wpAnyH_take (i := 2) (oi := ⟨some 13, .fieldAddr 84 (.tmp 12) 0, _, _, _, _⟩) (v := ?_) rfl (by kernel_rfl) (by kernel_rfl) (by kernel_rfl) (fun _ _ _ h => h) (Or.inl ⟨by rfl, ?_⟩) (by assumption) ?_
    rotate_left
    · intro w' hSw
      go_simp
      try with_reducible rfl
    try simp only [Act.put, List.setIfInBounds_toArray, List.set_cons_zero, List.set_cons_succ]
    refine wpAnyH_take (i := 3) (oi := ⟨some 14, .load 81 (.tmp 13), _, _, _, _⟩) (v := ?_) rfl (by kernel_rfl) (by kernel_rfl) (by kernel_rfl) (fun _ _ _ h => h) (Or.inl ⟨by rfl, ?_⟩) (by assumption) ?_
    rotate_left
    · intro w' hSw
      have c0 := (World.cell?_of_block (w := w3) (a := ⟨g, 0, none⟩) (by rw [hSw])).trans C03.out
      go_simp
      try with_reducible rfl
    try simp only [Act.put, List.setIfInBounds_toArray, List.set_cons_zero, List.set_cons_succ]
    refine wpAnyH_take (i := 4) (oi := ⟨some 15, .load 37 (.tmp 5), _, _, _, _⟩) (v := ?_) rfl (by kernel_rfl) (by kernel_rfl) (by kernel_rfl) (fun _ _ _ h => h) (Or.inl ⟨by rfl, ?_⟩) (by assumption) ?_
    rotate_left
    · intro w' hSw
      refine Eq.trans (b := Result.ok (Next.value (.agg (u8s D))) w') ?_ ?_
      · exact op_load_dig (by rfl) (by rfl) HDL.out (range_of_row' ((congrArg (fun h => h[r5]?) hSw).trans R5.out))
      · with_reducible rfl
    try simp only [Act.put, List.setIfInBounds_toArray, List.set_cons_zero, List.set_cons_succ]
    refine wpAnyH_take (i := 5) (oi := ⟨some 16, .lookup 81 (.tmp 14) (.tmp 15) true, _, _, _, _⟩) (v := ?_) rfl (by kernel_rfl) (by kernel_rfl) (by kernel_rfl) (fun _ _ _ h => h) (Or.inl ⟨by rfl, ?_⟩) (by assumption) ?_
    rotate_left
    · intro w' hSw
      refine Eq.trans (b := Result.ok (Next.value (.tuple #[.slice pp mm cc, .bool false])) w') ?_ ?_
      · exact op_look (by rfl) (by rfl) (by rfl) (HL.out w' hSw)
      · with_reducible rfl
    try simp only [Act.put, List.setIfInBounds_toArray, List.set_cons_zero, List.set_cons_succ]
    refine wpAnyH_take (i := 6) (oi := ⟨some 10, .move (.tmp 16), _, _, _, _⟩) (v := ?_) rfl (by kernel_rfl) (by kernel_rfl) (by kernel_rfl) (fun _ _ _ h => h) (Or.inl ⟨by rfl, ?_⟩) (by assumption) ?_
    rotate_left
    · intro w' hSw
      go_simp
      try with_reducible rfl
    try simp only [Act.put, List.setIfInBounds_toArray, List.set_cons_zero, List.set_cons_succ]
    refine wpAnyH_take (i := 7) (oi := ⟨some 17, .extract (.tmp 10) 0, _, _, _, _⟩) (v := ?_) rfl (by kernel_rfl) (by kernel_rfl) (by kernel_rfl) (fun _ _ _ h => h) (Or.inl ⟨by rfl, ?_⟩) (by assumption) ?_
    rotate_left
    · intro w' hSw
      go_simp
      try with_reducible rfl
    try simp only [Act.put, List.setIfInBounds_toArray, List.set_cons_zero, List.set_cons_succ]
    refine wpAnyH_take (i := 8) (oi := ⟨some 18, .extract (.tmp 10) 1, _, _, _, _⟩) (v := ?_) rfl (by kernel_rfl) (by kernel_rfl) (by kernel_rfl) (fun _ _ _ h => h) (Or.inl ⟨by rfl, ?_⟩) (by assumption) ?_
    rotate_left
    · intro w' hSw
      go_simp
      try with_reducible rfl
    try simp only [Act.put, List.setIfInBounds_toArray, List.set_cons_zero, List.set_cons_succ]
    refine wpAnyH_take (i := 9) (oi := ⟨some 6, .assign (.tmp 17), _, _, _, _⟩) (v := ?_) rfl (by kernel_rfl) (by kernel_rfl) (by kernel_rfl) (fun _ _ _ h => h) (Or.inl ⟨by rfl, ?_⟩) (by assumption) ?_
    rotate_left
    · intro w' hSw
      go_simp
      try with_reducible rfl
    try simp only [Act.put, List.setIfInBounds_toArray, List.set_cons_zero, List.set_cons_succ]
    refine wpAnyH_take (i := 10) (oi := ⟨some 7, .assign (.tmp 18), _, _, _, _⟩) (v := ?_) rfl (by kernel_rfl) (by kernel_rfl) (by kernel_rfl) (fun _ _ _ h => h) (Or.inl ⟨by rfl, ?_⟩) (by assumption) ?_
    rotate_left
    · intro w' hSw
      go_simp
      try with_reducible rfl
    try simp only [Act.put, List.setIfInBounds_toArray, List.set_cons_zero, List.set_cons_succ]
    refine wpAnyH_done (by kernel_rfl) ?_ _
    have HB5 := Lib.hid (HB3.out.drew)
    have R55 := Lib.hid (show w3.drew.heap[r5]? = _ from R5.out)
    have R35 := Lib.hid (show w3.drew.heap[r4]? = _ from R3.out)
    have T5 := Lib.hid (T3.out.later (Below.refl _ _).drew)
    have H5 := Lib.hid (H3.out.later (Below.refl _ _).drew)
    have HKE5 := Lib.hid (show ∀ s' : S, s' = s → PutPost Q w g s' (w3.drew.setRow r4 (u8s D)) from fun s' e => by
      rw [e]
      exact putPost_fin H5.out (Dk.Only.of_below _ (by rw [hr4]; exact HB5.out)) (fun e => by have := HQL.out _ e; omega) (fun k hk => Or.inl hk) (by omega) _)
    have HPUT := Lib.hid (show s.put b = ⟨s.W ++ [(D, b)], s.cl⟩ from by
      have h1 : ¬ idx (sumOf b) s.W < s.W.length := by rw [← HD.out]; exact HNI.out
      have h2 : textAt s.W (sumOf b) = none := textAt_none h1
      unfold S.put putW
      rw [if_neg h1, h2, ← HD.out]
      cases s.cl <;> rfl)
    clear hHeld HB3 R5 R3 T3 H3 HL HKE HKE5
    generalize w3.drew = w5 at *
    go_upto_region 4 with fail
    refine wp_region_held_drew (S := fun w' => w'.heap[r5]? = some (.cells (u8s D) 37 (0, 0))) (by kernel_rfl) R55.out (fun hHeld => ?_)
    refine wpAnyH_take (i := 0) (oi := ⟨some 22, .move (.tmp 0), _, _, _, _⟩) (v := ?_) rfl (by kernel_rfl) (by kernel_rfl) (by kernel_rfl) (fun _ _ _ h => h) (Or.inl ⟨by rfl, ?_⟩) (by assumption) ?_
    rotate_left
    · intro w' hSw
      go_simp
      try with_reducible rfl
    try simp only [Act.put, List.setIfInBounds_toArray, List.set_cons_zero, List.set_cons_succ]
    refine wpAnyH_take (i := 1) (oi := ⟨some 23, .load 37 (.tmp 5), _, _, _, _⟩) (v := ?_) rfl (by kernel_rfl) (by kernel_rfl) (by kernel_rfl) (fun _ _ _ h => h) (Or.inl ⟨by rfl, ?_⟩) (by assumption) ?_
    rotate_left
    · intro w' hSw
      refine Eq.trans (b := Result.ok (Next.value (.agg (u8s D))) w') ?_ ?_
      · exact op_load_dig (by rfl) (by rfl) HDL.out (range_of_row' hSw)
      · with_reducible rfl
    try simp only [Act.put, List.setIfInBounds_toArray, List.set_cons_zero, List.set_cons_succ]
    refine wpAnyH_take (i := 2) (oi := ⟨some 24, .move (.tmp 1), _, _, _, _⟩) (v := ?_) rfl (by kernel_rfl) (by kernel_rfl) (by kernel_rfl) (fun _ _ _ h => h) (Or.inl ⟨by rfl, ?_⟩) (by assumption) ?_
    rotate_left
    · intro w' hSw
      go_simp
      try with_reducible rfl
    try simp only [Act.put, List.setIfInBounds_toArray, List.set_cons_zero, List.set_cons_succ]
    refine wpAnyH_ready (rs := [3]) (by kernel_rfl) (by simp) ?_
    refine AllReadyH.cons (o := ⟨some 25, .call ⟨.value (.func 49), #[.tmp 24], #[22]⟩, _, _, _, _⟩) rfl (fun K hK => ?_) AllReadyH.nil
    go_simp
    refine (bclone_any (T5.out.later (Below.refl _ _).drew) hn).mono ?_
    rintro _ w25 ⟨q25, c25, rfl, o25, b25⟩
    have b25' := (Below.refl w5.heap.size w5).drew.trans b25
    have B25 := Lib.hid b25'
    have T25 := Lib.hid (tq_of_own (w := w5.drew) o25 HNB.out HTO.out (by rw [← HNB.out]; exact hn))
    have H25 := Lib.hid (H5.out.later b25')
    have R25 : w25.heap[r5]? = some (.cells (u8s D) 37 (0, 0)) := (b25'.block _ (Array.getElem?_eq_some_iff.1 R55.out).1).trans R55.out
    have HC := Lib.hid R25
    clear o25 b25 b25'
    try go_wp2_with fail
    refine hK.out _ _ R25 (fun hHeld => ?_)
    clear hK K
    try simp only [Act.put, List.setIfInBounds_toArray, List.set_cons_zero, List.set_cons_succ]
    refine wpAnyH_ready (rs := [4]) (by kernel_rfl) (by simp) ?_
    refine AllReadyH.cons (o := ⟨some 26, .call ⟨.value (.func 72), #[.tmp 22, .tmp 23, .tmp 25], #[56, 37, 22]⟩, _, _, _, _⟩) rfl (fun K hK => ?_) AllReadyH.nil
    go_simp
    refine (add_any H25.out HDL.out HDO.out HNI.out T25.out (fun k hk => hk.2) (by rw [← HPUT.out]; exact HOK.out) hsm).mono ?_
    rintro _ w26 ⟨rfl, p26⟩
    have R26 : w26.heap[r5]? = some (.cells (u8s D) 37 (0, 0)) := (p26.2.block _ (Array.getElem?_eq_some_iff.1 HC.out).1 (fun e => by have := HQL.out _ e; have := HR45.out; omega)).trans HC.out
    have P26 := Lib.hid p26
    clear p26
    try go_wp2_with fail
    refine hK.out _ _ R26 (fun hHeld => ?_)
    clear hK K
    try simp only [Act.put, List.setIfInBounds_toArray, List.set_cons_zero, List.set_cons_succ]
    refine wpAnyH_done (by kernel_rfl) ?_ _
    have RR5 := Lib.hid hHeld
    have RR4 := Lib.hid ((P26.out.2.block _ (Nat.lt_of_lt_of_le (Array.getElem?_eq_some_iff.1 R35.out).1 B25.out.size) (fun e => by have := HQL.out _ e; omega)).trans ((B25.out.block _ (Array.getElem?_eq_some_iff.1 R35.out).1).trans R35.out))
    have HFIN := Lib.hid (show PutPost Q w g (s.put b) (w26.setRow r4 (u8s D)) from by
      obtain ⟨⟨mp', h26⟩, ho⟩ := P26.out
      rw [HPUT.out]
      have hs5 : r4 < w5.heap.size := (Array.getElem?_eq_some_iff.1 R35.out).1
      have hbw : w.heap.size ≤ w5.heap.size := by omega
      have hsw : w5.drew.heap.size = w5.heap.size := rfl
      refine putPost_fin h26 ((Dk.Only.of_below _ (by rw [hr4]; exact HB5.out.trans (B25.out.mono (by omega)))).trans ho) (fun e => ?_) (fun k hk => ?_) (by omega) _
      · rcases e with e | ⟨e, _⟩ | ⟨e, _⟩
        · have := HQL.out _ e; omega
        · omega
        · have := B25.out.size; omega
      · rcases hk with e | ⟨e, _⟩ | ⟨e, _⟩
        · exact Or.inl e
        · right; omega
        · have := B25.out.size; right; omega)
    clear P26 B25 T25 H25 hHeld HC
    go_wp2_with (first | (refine wpList_load_row (by rfl) 37 (.tmp 5) (by rfl) r5 (by rfl) 37 (u8s D) (0, 0) _ RR5.out A25 rfl (by rw [u8s_size, HDL.out]; exact S25) ?_) | (refine wpList_store_row (by rfl) 37 _ _ (by rfl) r4 (u8s D) (by rfl) (by rfl) _ _ RR4.out (by rw [u8s_size, HDL.out]; exact S25) (by rw [u8s_size, u8s_size, HDL.out]; rfl) (u8s_one _) ?_))
    exact ret_row 4 (by kernel_rfl) r4 _ _ A25 S25 rfl (setRow_heap _ _ _ _ _ _ RR4.out) (by rw [u8s_size]; exact HDL.out) ⟨by rw [HD.out], HFIN.out⟩
end Go.Proofs.YtfkpgildeddhaaaGreat.Pg

/- node.say, where the page is put to a store. -/
namespace Go.Proofs.YtfkpgildeddhaaaGreat.Nd
open Go.RowKit Go.Proofs.YtfkpgildeddhaaaGreat.Dk Go.Proofs.YtfkpgildeddhaaaGreat.Pg

def SayPut (w : World) (g : Nat) (Q : Nat → Prop) (s : Pg.S) (N : PN) (d : Int) (e : Ending) (w' : World) : Prop :=
  ((N.right d = true ∧ N.size ≤ 1048576) ∧ ∃ kd : Kd, e = .returned (.tuple #[.agg kd.cells.toArray, .int .i64 0]) ∧ kd.pk = N.says ∧ kd.Ok w' ∧ Fsh w kd ∧ (∃ Q', PL w' g Q' (s.put N.bytes) ∧ ∀ k, Q' k → Q k ∨ w.heap.size ≤ k) ∧ Only Q w w') ∨
  (¬ (N.right d = true ∧ N.size ≤ 1048576) ∧ e = .returned (.tuple #[.agg kd0.cells.toArray, .int .i64 1]) ∧ Below w.heap.size w w')
theorem sayput_bad {w w' : World} {g : Nat} {Q : Nat → Prop} {s : Pg.S} {N : PN} {d : Int} (h : ¬ (N.right d = true ∧ N.size ≤ 1048576)) (hb : Below w.heap.size w w') : SayPut w g Q s N d (.returned (.tuple #[.agg kd0.cells.toArray, .int .i64 1])) w' := Or.inr ⟨h, rfl, hb⟩
set_option maxRecDepth 100000 in
set_option maxHeartbeats 4000000 in
theorem say_put (kind : Nat) (hkd : kind < 256) (p : Option Addr) (n c : Nat) (q : Option Addr) (m f : Nat) (E : List En) (K : List Kd) (d : Int) (w : World) (hE : EntsIn w p n c E) (hK : KidsIn w q m f K) {g : Nat} {Q : Nat → Prop} {s : Pg.S} (hp : PL w g Q s) (hsl : s.W.length < 100000) :
    Calls Tryz.prog 43 #[.agg #[.int .u8 kind, .slice p n c, .slice q m f], .int .i64 d, .func (.func 47) #[.pointer (some ⟨g, 0, none⟩)] #[]] w (SayPut w g Q s (pnOf kind E K) d) := by
  have HPL := Lib.hid hp
  have HQL := Lib.hid (show ∀ k, Q k → k < w.heap.size from hp.lt)
  have HSL := Lib.hid hsl
  clear hp hsl
  have hb1 : Below w.heap.size w (w.alloc (.cells #[.int .u8 kind, .slice p n c, .slice q m f] 27)) := (Below.refl _ _).alloc (Nat.le_refl _) _
  have hn1 := NodeAt.start w kind p n c q m f
  have z1 : (w.alloc (.cells #[.int .u8 kind, .slice p n c, .slice q m f] 27)).heap.size = w.heap.size + 1 := by simp
  have HKD := Lib.hid hkd
  have HE := Lib.hid hE
  have HK := Lib.hid hK
  obtain ⟨du, hdu, hdr⟩ := UKd
  have HDU := Lib.hid hdu
  have HDR := Lib.hid hdr
  have HZ := Lib.hid (zero_of_info kz)
  clear hkd hE hK hdu hdr
  have hz0 := HZ.out.1
  go_enter Tryz.func43, Tryz.ntmps43
  go_upto_region 1 with fail
  have hb2 : Below (w.heap.size + 1) (w.alloc (.cells #[.int .u8 kind, .slice p n c, .slice q m f] 27)) ((w.alloc (.cells #[.int .u8 kind, .slice p n c, .slice q m f] 27)).alloc (.cells kd0.cells.toArray 43)) := (Below.refl _ _).alloc (by omega) _
  have r2 := heap_alloc_new (w.alloc (.cells #[.int .u8 kind, .slice p n c, .slice q m f] 27)) (.cells kd0.cells.toArray 43)
  rw [z1] at r2
  have HN2 := Lib.hid (hn1.later (by rw [z1]; exact hb2))
  have HB2 := Lib.hid (hb1.trans (hb2.mono (by omega)))
  have HR2 := Lib.hid r2
  clear hb1 hn1 z1 hb2 r2
  generalize (w.alloc (.cells #[.int .u8 kind, .slice p n c, .slice q m f] 27)).alloc (.cells kd0.cells.toArray 43) = w2 at *
  have HENC := Lib.hid (encode_any kind HKD.out p n c q m f E K d w2 (HE.out.later HB2.out) (HK.out.later HB2.out))
  have HTAL := Lib.hid (fun w3 (h : Below w.heap.size w w3) (hr : (pnOf kind E K).right d = true) => tally_any kind p n c q m f E K d w3 (HE.out.later h) (HK.out.later h) hr)
  have HLN := Lib.hid (fun (hr : (pnOf kind E K).right d = true) => node_bytes_len (PN.fit hr) (fun k hk => by obtain ⟨y, hy, rfl⟩ := List.mem_map.1 hk; exact (HK.out.each y hy).len))
  generalize pnOf kind E K = N at *
  obtain ⟨t0, t1, t2⟩ := HN2.out.cells
  cases hr : N.right d with
  | false =>
    have HNR := Lib.hid (show ¬ (N.right d = true ∧ N.size ≤ 1048576) from fun h => by rw [hr] at h; exact absurd h.1 (by simp))
    have HRR := Lib.hid hr
    clear hr
    go_wp2_with (first
      | (go_at_call 67; refine HENC.out.mono ?_; rintro e w3 ⟨b3, h3⟩; obtain rfl : e = .returned (.tuple #[.slice Option.none 0 0, .int .i64 1]) := (h3.elim (fun h => by rw [HRR.out] at h; exact absurd h.1 (by simp)) (fun h => h.2)); have HR3 := Lib.hid ((b3.block _ (Array.getElem?_eq_some_iff.1 HR2.out).1).trans HR2.out); have HB3 := Lib.hid (HB2.out.trans (b3.mono HB2.out.size)); clear b3 h3)
      | (refine wpList_build (by rfl) (by rfl) kd0_built ?_)
      | (refine wpList_store_row (by rfl) 43 _ _ (by rfl) (w.heap.size + 1) kd0.cells.toArray (by rfl) (by rfl) _ _ HR3.out (by rw [List.size_toArray, kd0_size]; exact SKd) rfl (all_oneCell_toArray Kd.one) ?_))
    have r9 := setRow_heap _ (w.heap.size + 1) _ kd0.cells.toArray _ _ HR3.out
    have hb9 : Below (w.heap.size + 1) w3 (w3.setRow (w.heap.size + 1) kd0.cells.toArray) := Below.setRow (Below.refl _ _) (Nat.le_refl _) _
    refine ret_str2 6 7 (by kernel_rfl) (w.heap.size + 1) _ kd0.cells.toArray _ HDU.out HDR.out (by rw [List.size_toArray, kd0_size]; exact SKd) (by rfl) (by rfl) r9 ?_
    exact sayput_bad HNR.out (HB3.out.trans (hb9.mono (by omega)))
  | true =>
    have HRR := Lib.hid hr
    have HLB := Lib.hid (HLN.out hr)
    clear hr
    go_upto_region 5 with (first
      | (go_at_call 67; refine HENC.out.mono ?_; rintro e w3 ⟨b3, h3⟩; obtain ⟨q9, c9, rfl, o9, ok9⟩ := (h3.elim (fun h => h.2) (fun h => by rw [HRR.out] at h; exact absurd h.1 (by simp))); have HT3 := Lib.hid (tx_of_owns o9 ok9); have HN3 := Lib.hid (HN2.out.later b3); have HR3 := Lib.hid ((b3.block _ (Array.getElem?_eq_some_iff.1 HR2.out).1).trans HR2.out); have HB3 := Lib.hid (HB2.out.trans (b3.mono HB2.out.size)); obtain ⟨t0, t1, t2⟩ := HN3.out.cells; have HTL := Lib.hid (HTAL.out w3 HB3.out HRR.out); clear b3 h3 o9 ok9)
      | (go_at_call 68; refine HTL.out.mono ?_; rintro e w4 ⟨kd, rfl, hpk, hok4, hfs, b4⟩; have HPK := Lib.hid hpk; have HOK4 := Lib.hid hok4; have HFS := Lib.hid hfs; have HT4 := Lib.hid (HT3.out.later b4); have HR4 := Lib.hid ((b4.block _ (Array.getElem?_eq_some_iff.1 HR3.out).1).trans HR3.out); have HB4 := Lib.hid (HB3.out.trans (b4.mono HB3.out.size)); have HS34 := Lib.hid b4.size; clear hpk hok4 hfs b4)
      | (refine wpList_store_row (by rfl) 43 (.tmp 10) (.tmp 22) (by rfl) w4.heap.size kd.cells.toArray (by rfl) (by rfl) _ _ (heap_alloc_new w4 _) (by rw [List.size_toArray, Kd.cells_length HOK4.out.len]; exact SKd) (by simp only [List.size_toArray, Kd.cells_length HOK4.out.len, kd0_size]) (all_oneCell_toArray Kd.one) ?_; rw [setRow_alloc]))
    have hrx := heap_alloc_new w4 (.cells kd.cells.toArray 43)
    have hba : Below w4.heap.size w4 (w4.alloc (.cells kd.cells.toArray 43)) := (Below.refl _ _).alloc (Nat.le_refl _) _
    have HT5 := Lib.hid (HT4.out.later hba)
    have HR5 := Lib.hid ((hba.block _ (Array.getElem?_eq_some_iff.1 HR4.out).1).trans HR4.out)
    have HB5 := Lib.hid (HB4.out.trans (hba.mono HB4.out.size))
    have HOK5 := Lib.hid (HOK4.out.later hba)
    have HXR := Lib.hid hrx
    have HGX := Lib.hid (show w.heap.size + 1 < w3.heap.size ∧ w3.heap.size ≤ w4.heap.size from ⟨(Array.getElem?_eq_some_iff.1 HR3.out).1, HS34.out⟩)
    have HFX := Lib.hid (show ∀ r ∈ kd.rows, r.Ok w4 ∧ (∀ x, r.p = some x → r.R ≠ [] → w3.heap.size ≤ x.block ∧ x.block < w4.heap.size) from fun r hr => by
      have hro : r.Ok w4 := by
        simp only [Kd.rows, List.mem_cons, List.not_mem_nil, or_false] at hr
        rcases hr with rfl | rfl | rfl
        · exact HOK4.out.lo
        · exact HOK4.out.hi
        · exact HOK4.out.key
      exact ⟨hro, fun x hx hR => ⟨HFS.out r hr x hx hR, rintsLt hro.ints hx hR⟩⟩)
    have hsz : w4.heap.size < (w4.alloc (.cells kd.cells.toArray 43)).heap.size := by simp
    have HSZ := Lib.hid hsz
    generalize w4.alloc (.cells kd.cells.toArray 43) = w5 at *
    clear hrx hba hsz HT4 HR4 HT3 HR3 HN3 HTL HENC HTAL HR2 HN2 HB2 t0 t1 t2 HB3 HB4
    generalize w4.heap.size = gk at *
    have c35 := (kat_row HXR.out HOK5.out.len).size
    rw [Nat.zero_add] at c35
    have hks : kd.size = N.size := congrArg PK.size HPK.out
    by_cases hz : 1048576 < kd.size
    · have HNR := Lib.hid (show ¬ (N.right d = true ∧ N.size ≤ 1048576) from fun h => by have := h.2; omega)
      clear hks
      go_wp2_with (first
        | (refine wpList_build (by rfl) (by rfl) kd0_built ?_)
        | (refine wpList_store_row (by rfl) 43 _ _ (by rfl) (w.heap.size + 1) kd0.cells.toArray (by rfl) (by rfl) _ _ HR5.out (by rw [List.size_toArray, kd0_size]; exact SKd) rfl (all_oneCell_toArray Kd.one) ?_))
      have r9 := setRow_heap _ (w.heap.size + 1) _ kd0.cells.toArray _ _ HR5.out
      have hb9 : Below (w.heap.size + 1) w5 (w5.setRow (w.heap.size + 1) kd0.cells.toArray) := Below.setRow (Below.refl _ _) (Nat.le_refl _) _
      refine ret_str2 6 7 (by kernel_rfl) (w.heap.size + 1) _ kd0.cells.toArray _ HDU.out HDR.out (by rw [List.size_toArray, kd0_size]; exact SKd) (by rfl) (by rfl) r9 ?_
      exact sayput_bad HNR.out (HB5.out.trans (hb9.mono (by omega)))
    · have HGD := Lib.hid (show N.right d = true ∧ N.size ≤ 1048576 from ⟨HRR.out, by omega⟩)
      obtain ⟨D, hD⟩ : ∃ D, D = sumOf N.bytes := ⟨_, rfl⟩
      have HDE := Lib.hid hD
      have HDL := Lib.hid (show D.length = 32 from by rw [hD]; rfl)
      have HDO := Lib.hid (show Sm.allB D from by rw [hD]; exact sumOf_ok _)
      clear hks hD
      have HRO5 := Lib.hid (kd_rows_ok HOK5.out)
      have HPL5 := Lib.hid (HPL.out.keep (fun _ => False) (Only.of_below _ HB5.out) (fun _ _ e => e))
      have hsm := Pg.put_any N.bytes q9 N.bytes.length c9 HPL5.out HT5.out HLB.out HSL.out
      rw [← HDE.out] at hsm
      have HSM := Lib.hid hsm
      clear hsm
      go_upto_region 8 with (first
        | (go_at_call 47; refine HSM.out.mono ?_; rintro e w6 ⟨rfl, ⟨Q6, hp6, hq6⟩, ho6⟩; have HX6 := Lib.hid ((ho6.block _ (Array.getElem?_eq_some_iff.1 HXR.out).1 (fun h => by have := HQL.out _ h; have := HGX.out; omega)).trans HXR.out); have HR6 := Lib.hid ((ho6.block _ (Array.getElem?_eq_some_iff.1 HR5.out).1 (fun h => by have := HQL.out _ h; omega)).trans HR5.out); have HRW6 := Lib.hid (show ∀ r ∈ kd.rows, r.Ok w6 from fun r hr => rw_keep (HRO5.out r hr) (fun x hx hR => by have h9 := (HFX.out r hr).2 x hx hR; exact ho6.block _ (by have := HSZ.out; omega) (fun h => by have := HQL.out _ h; have := HGX.out; omega))); have HP6 := Lib.hid hp6; have HQ6 := Lib.hid hq6; have HOO6 := Lib.hid ho6; clear hp6 hq6 ho6)
        | (refine wpList_store_mid (by rfl) 37 _ _ (by rfl) gk 0 (u8s D) (by rfl) (by rfl) (by rw [u8s_size, HDL.out]; exact kd_there HX6.out HOK5.out.len) (by rw [u8s_size, HDL.out]; exact S25) (u8s_one _) ?_))
      have r7 := kd_sum (D := D) HX6.out HOK5.out.len HDL.out
      have o7 := only_cells w6 gk 0 (vals D)
      rw [show (u8s D).toList = vals D from rfl]
      have HO7 := Lib.hid o7
      have HX7 := Lib.hid r7
      have HR7 := Lib.hid ((o7.block _ (Array.getElem?_eq_some_iff.1 HR6.out).1 (by have := HGX.out; omega)).trans HR6.out)
      clear o7 r7
      generalize w6.setCells gk 0 (vals D) = w7 at *
      have HCL := Lib.hid (show ({ kd with sum := D } : Kd).cells.length = 37 from Kd.cells_length HDL.out)
      have HRG := Lib.hid (range_kd HX7.out)
      clear c35
      go_wp2_with (first
        | (refine wpList_load_mid (by rfl) 43 _ (by rfl) gk 0 (by rfl) ({ kd with sum := D } : Kd).cells du HRG.out HDU.out HDR.out (by rw [HCL.out]; exact SKd) ?_)
        | (refine wpList_store_row (by rfl) 43 _ _ (by rfl) (w.heap.size + 1) ({ kd with sum := D } : Kd).cells.toArray (by rfl) (by rfl) _ _ HR7.out (by rw [List.size_toArray, HCL.out]; exact SKd) (by simp only [List.size_toArray, HCL.out, kd0_size]) (all_oneCell_toArray Kd.one) ?_))
      have r9 := setRow_heap _ (w.heap.size + 1) _ ({ kd with sum := D } : Kd).cells.toArray _ _ HR7.out
      have hrow : ∀ r ∈ kd.rows, r.Ok (w7.setRow (w.heap.size + 1) ({ kd with sum := D } : Kd).cells.toArray) := fun r hr => rw_keep (HRW6.out r hr) (fun x hx hR => by
        have h9 := (HFX.out r hr).2 x hx hR
        have hs6 : x.block < w6.heap.size := rintsLt (HRW6.out r hr).ints hx hR
        rw [setRow_other _ _ _ _ (by have := HGX.out; omega)]
        exact HO7.out.block _ hs6 (by omega))
      refine ret_str2 6 7 (by kernel_rfl) (w.heap.size + 1) _ ({ kd with sum := D } : Kd).cells.toArray _ HDU.out HDR.out (by rw [List.size_toArray, HCL.out]; exact SKd) (by rfl) (by rfl) r9 ?_
      have hkok : ({ kd with sum := D } : Kd).Ok (w7.setRow (w.heap.size + 1) ({ kd with sum := D } : Kd).cells.toArray) := ⟨HDL.out, HDO.out, hrow _ (by simp [Kd.rows]), hrow _ (by simp [Kd.rows]), hrow _ (by simp [Kd.rows]), HOK5.out.live, HOK5.out.size⟩
      have hkpk : ({ kd with sum := D } : Kd).pk = N.says := by
        have e4 := HPK.out
        unfold PN.says
        rw [← e4, ← HDE.out]
        rfl
      have hkf : Fsh w ({ kd with sum := D } : Kd) := fun r hr x hx hR => by have := ((HFX.out r hr).2 x hx hR).1; have := HGX.out; omega
      have ho9 : Only (fun j => j = gk ∨ j = w.heap.size + 1) w6 (w7.setRow (w.heap.size + 1) ({ kd with sum := D } : Kd).cells.toArray) := (HO7.out.mono (fun j e => Or.inl e)).trans ((only_setRow w7 (w.heap.size + 1) _).mono (fun j e => Or.inr e))
      have hs5 := HB5.out.size
      refine Or.inl ⟨HGD.out, _, rfl, hkpk, hkok, hkf, ⟨Q6, HP6.out.keep _ ho9 (fun k hk e => ?_), fun k hk => (HQ6.out k hk).imp id (fun h => by omega)⟩, ?_⟩
      · rcases HQ6.out k hk with h | h
        · have := HQL.out k h; have := HGX.out; rcases e with e | e <;> omega
        · have := HSZ.out; have := HGX.out; rcases e with e | e <;> omega
      · refine ⟨ho9.os.trans (HOO6.out.os.trans HB5.out.os), ho9.tape.trans (HOO6.out.tape.trans HB5.out.tape), ho9.output.trans (HOO6.out.output.trans HB5.out.output), Nat.le_trans hs5 (Nat.le_trans HOO6.out.size ho9.size), fun k hk hn => ?_⟩
        have h6 := HOO6.out.size
        rw [ho9.block k (by omega) (by have := HGX.out; omega), HOO6.out.block k (by omega) hn]
        exact HB5.out.block k hk
end Go.Proofs.YtfkpgildeddhaaaGreat.Nd

/- node.Put. -/
namespace Go.Proofs.YtfkpgildeddhaaaGreat.Nd
open Go.RowKit Go.Proofs.YtfkpgildeddhaaaGreat.Dk Go.Proofs.YtfkpgildeddhaaaGreat.Pg

set_option maxRecDepth 100000 in
set_option maxHeartbeats 2000000 in
theorem Put_any (kind : Nat) (hkd : kind < 256) (p : Option Addr) (n c : Nat) (q : Option Addr) (m f : Nat) (E : List En) (K : List Kd) (d : Int) (w : World) (hE : EntsIn w p n c E) (hK : KidsIn w q m f K) {g : Nat} {Q : Nat → Prop} {s : Pg.S} (hp : PL w g Q s) (hsl : s.W.length < 100000) :
    Calls Tryz.prog 21 #[.pointer (some ⟨g, 0, none⟩), .agg #[.int .u8 kind, .slice p n c, .slice q m f], .int .i64 d] w (SayPut w g Q s (pnOf kind E K) d) := by
  have HPL := Lib.hid hp
  have HQL := Lib.hid (show ∀ k, Q k → k < w.heap.size from hp.lt)
  have HSL := Lib.hid hsl
  clear hp hsl
  have hb1 : Below w.heap.size w (w.alloc (.cells #[.int .u8 kind, .slice p n c, .slice q m f] 27)) := (Below.refl _ _).alloc (Nat.le_refl _) _
  have hn1 := NodeAt.start w kind p n c q m f
  have z1 : (w.alloc (.cells #[.int .u8 kind, .slice p n c, .slice q m f] 27)).heap.size = w.heap.size + 1 := by simp
  have HKD := Lib.hid hkd
  have HE := Lib.hid hE
  have HK := Lib.hid hK
  obtain ⟨du, hdu, hdr⟩ := UKd
  have HDU := Lib.hid hdu
  have HDR := Lib.hid hdr
  have HZ := Lib.hid (zero_of_info kz)
  clear hkd hE hK hdu hdr
  have hz0 := HZ.out.1
  go_enter Tryz.func21, Tryz.ntmps21
  go_upto_region 1 with fail
  have hb2 : Below (w.heap.size + 1) (w.alloc (.cells #[.int .u8 kind, .slice p n c, .slice q m f] 27)) ((w.alloc (.cells #[.int .u8 kind, .slice p n c, .slice q m f] 27)).alloc (.cells kd0.cells.toArray 43)) := (Below.refl _ _).alloc (by omega) _
  have r2 := heap_alloc_new (w.alloc (.cells #[.int .u8 kind, .slice p n c, .slice q m f] 27)) (.cells kd0.cells.toArray 43)
  rw [z1] at r2
  have HN2 := Lib.hid (hn1.later (by rw [z1]; exact hb2))
  have HB2 := Lib.hid (hb1.trans (hb2.mono (by omega)))
  have HR2 := Lib.hid r2
  clear hb1 hn1 z1 hb2 r2
  generalize (w.alloc (.cells #[.int .u8 kind, .slice p n c, .slice q m f] 27)).alloc (.cells kd0.cells.toArray 43) = w2 at *
  have HPL2 := Lib.hid (HPL.out.keep (fun _ => False) (Only.of_below _ HB2.out) (fun _ _ e => e))
  have HSAY := Lib.hid (say_put kind HKD.out p n c q m f E K d w2 (HE.out.later HB2.out) (HK.out.later HB2.out) HPL2.out HSL.out)
  generalize pnOf kind E K = N at *
  obtain ⟨t0, t1, t2⟩ := HN2.out.cells
  have HS2 := Lib.hid (show w.heap.size + 1 < w2.heap.size from (Array.getElem?_eq_some_iff.1 HR2.out).1)
  by_cases hg : N.right d = true ∧ N.size ≤ 1048576
  · have HG := Lib.hid hg
    clear hg
    go_wp2_with (first
      | (go_at_call 43; refine HSAY.out.mono ?_; rintro e w3 h3; obtain ⟨-, kd, rfl, hpk, hok, hfs, ⟨Q6, hp6, hq6⟩, ho6⟩ := (h3.resolve_right (fun h => absurd HG.out h.1)); have HR3 := Lib.hid ((ho6.block _ (Array.getElem?_eq_some_iff.1 HR2.out).1 (fun h => by have := HQL.out _ h; omega)).trans HR2.out); have HP6 := Lib.hid hp6; have HQ6 := Lib.hid hq6; have HO6 := Lib.hid ho6; clear hp6 hq6 ho6 h3; have HCL := Lib.hid (Kd.cells_length hok.len); have HPK := Lib.hid hpk; have HOK := Lib.hid hok; have HFS := Lib.hid hfs; clear hpk hok hfs)
      | (refine wpList_store_row (by rfl) 43 _ _ (by rfl) (w.heap.size + 1) kd.cells.toArray (by rfl) (by rfl) _ _ HR3.out (by rw [List.size_toArray, HCL.out]; exact SKd) (by simp only [List.size_toArray, HCL.out, kd0_size]) (all_oneCell_toArray Kd.one) ?_))
    have r9 := setRow_heap _ (w.heap.size + 1) _ kd.cells.toArray _ _ HR3.out
    have hrow : ∀ r ∈ kd.rows, r.Ok (w3.setRow (w.heap.size + 1) kd.cells.toArray) := fun r hr => rw_keep (kd_rows_ok HOK.out r hr) (fun x hx hR => setRow_other _ _ _ _ (by have := HFS.out r hr x hx hR; have := HS2.out; omega))
    refine ret_str2 6 7 (by kernel_rfl) (w.heap.size + 1) _ kd.cells.toArray _ HDU.out HDR.out (by rw [List.size_toArray, HCL.out]; exact SKd) (by rfl) (by rfl) r9 ?_
    have hkok : kd.Ok (w3.setRow (w.heap.size + 1) kd.cells.toArray) := ⟨HOK.out.len, HOK.out.ok, hrow _ (by simp [Kd.rows]), hrow _ (by simp [Kd.rows]), hrow _ (by simp [Kd.rows]), HOK.out.live, HOK.out.size⟩
    have hkf : Fsh w kd := fun r hr x hx hR => by have := HFS.out r hr x hx hR; have := HS2.out; omega
    have ho9 := only_setRow w3 (w.heap.size + 1) kd.cells.toArray
    refine Or.inl ⟨HG.out, kd, rfl, HPK.out, hkok, hkf, ⟨Q6, HP6.out.keep _ ho9 (fun k hk e => ?_), fun k hk => (HQ6.out k hk).imp id (fun h => by have := HB2.out.size; omega)⟩, ?_⟩
    · rcases HQ6.out k hk with h | h
      · have := HQL.out k h; omega
      · have := HS2.out; omega
    · refine ⟨ho9.os.trans (HO6.out.os.trans HB2.out.os), ho9.tape.trans (HO6.out.tape.trans HB2.out.tape), ho9.output.trans (HO6.out.output.trans HB2.out.output), Nat.le_trans HB2.out.size (Nat.le_trans HO6.out.size ho9.size), fun k hk hn => ?_⟩
      have h6 := HO6.out.size
      have h2 := HS2.out
      rw [ho9.block k (by omega) (by omega), HO6.out.block k (by omega) hn]
      exact HB2.out.block k hk
  · have HG := Lib.hid hg
    clear hg
    go_wp2_with (first
      | (go_at_call 43; refine HSAY.out.mono ?_; rintro e w3 h3; obtain ⟨-, rfl, b3⟩ := (h3.resolve_left (fun h => absurd h.1 HG.out)); have HR3 := Lib.hid ((b3.block _ (Array.getElem?_eq_some_iff.1 HR2.out).1).trans HR2.out); have HB3 := Lib.hid (HB2.out.trans (b3.mono HB2.out.size)); clear b3)
      | (refine wpList_store_row (by rfl) 43 _ _ (by rfl) (w.heap.size + 1) kd0.cells.toArray (by rfl) (by rfl) _ _ HR3.out (by rw [List.size_toArray, kd0_size]; exact SKd) rfl (all_oneCell_toArray Kd.one) ?_))
    have r9 := setRow_heap _ (w.heap.size + 1) _ kd0.cells.toArray _ _ HR3.out
    have hb9 : Below (w.heap.size + 1) w3 (w3.setRow (w.heap.size + 1) kd0.cells.toArray) := Below.setRow (Below.refl _ _) (Nat.le_refl _) _
    refine ret_str2 6 7 (by kernel_rfl) (w.heap.size + 1) _ kd0.cells.toArray _ HDU.out HDR.out (by rw [List.size_toArray, kd0_size]; exact SKd) (by rfl) (by rfl) r9 ?_
    exact sayput_bad HG.out (HB3.out.trans (hb9.mono (by omega)))
end Go.Proofs.YtfkpgildeddhaaaGreat.Nd

/- The chapter's example, plainly: the node, its bytes, what it says, and that the bytes are read as it. -/
namespace Go.Proofs.YtfkpgildeddhaaaGreat.Nd
open Go.RowKit Go.Proofs.YtfkpgildeddhaaaGreat.Pg

def exN : PN := ⟨2, [⟨[1, 5], true⟩, ⟨[2, 3], true⟩], []⟩
theorem ex_right : exN.right 2 = true := by decide +kernel
theorem ex_size : exN.size = 2 := by decide +kernel
theorem ex_live : exN.live = 2 := by decide +kernel
theorem ex_box : exN.box = ([1, 3], [2, 5]) := by decide +kernel
theorem ex_key : exN.keyOf = [1, 5] := by decide +kernel
def exB : List Nat := [2, 2, 1, 2, 128, 0, 0, 0, 0, 0, 0, 1, 128, 0, 0, 0, 0, 0, 0, 5, 1, 2, 128, 0, 0, 0, 0, 0, 0, 2, 128, 0, 0, 0, 0, 0, 0, 3, 0]
theorem ex_bytes : exN.bytes = exB := by decide +kernel
theorem ex_node : (rdN 8 exB).node = exN := by decide +kernel
theorem ex_end : (rdN 8 exB).T2.2.e = 0 ∧ (rdN 8 exB).T2.2.R = [] := by decide +kernel
theorem ex_good : (rdN 8 exB).good 2 := ⟨ex_end.1, ex_end.2, by rw [ex_node]; exact ex_right⟩
theorem ex_ok : Sm.allB exB := by unfold Sm.allB exB; decide
theorem put_new' (b : List Nat) : S.put ⟨[], none⟩ b = ⟨[(sumOf b, b)], none⟩ := rfl
theorem text_one' (b : List Nat) : textAt [(sumOf b, b)] (sumOf b) = some b := by
  have h : idx (sumOf b) [(sumOf b, b)] = 0 := if_pos rfl
  simp [textAt, h]
theorem ex_says : exN.says = ⟨sumOf exB, [1, 3], [2, 5], 2, 2, [1, 5]⟩ := by
  unfold PN.says PN.tally
  rw [ex_bytes, ex_box, ex_live, ex_size, ex_key]
end Go.Proofs.YtfkpgildeddhaaaGreat.Nd

/- indentureref10.SameNode. gen_nd.py writes it. -/
namespace Go.Proofs.YtfkpgildeddhaaaGreat.Nd
open Go.RowKit

theorem op_load_kd {ρ : Operand → Value} {o : Oper} {x : Operand} {w : World} {g off : Nat} {k : Kd} {d : TypeDesc} (hu : Tryz.prog.underlying 43 = some d) (hd : d.isRow = true) (ho : o.op = .load 43 x) (hx : ρ x = .pointer (some ⟨g, off, Option.none⟩)) (hk : k.cells.length = 37) (h : w.rangeAt g off k.cells) :
    (execOp ρ o).run Tryz.prog w = .ok (.value (.agg k.cells.toArray)) w := by
  unfold execOp
  simp only [ho, hx, Instr.loadAt, Instr.sureAddr, Sem.run_bind, Sem.run_pure, Result.andThen_ok, run_loadVar_mid w g off 43 k.cells _ h hu hd (by rw [hk]; exact SKd)]
theorem pe_eq (a b : En) : a.pe = b.pe ↔ a.live = b.live ∧ a.row.R = b.row.R := by
  simp only [En.pe, PE.mk.injEq]
  exact and_comm
theorem map_take_succ {α β : Type} [Inhabited α] (f : α → β) (L : List α) (k : Nat) (h : k < L.length) : (L.map f).take (k + 1) = (L.map f).take k ++ [f (L.getD k default)] := by
  rw [← List.map_take, ← List.map_take, List.take_succ_eq_append_getElem h, List.map_append, List.getD_eq_getElem?_getD, List.getElem?_eq_getElem h]
  rfl
theorem map_ne {α β : Type} [Inhabited α] (f : α → β) (L M : List α) (k : Nat) (h : k < L.length) (h2 : k < M.length) (hn : ¬ f (L.getD k default) = f (M.getD k default)) : ¬ L.map f = M.map f := fun e => hn (by
  have := congrArg (fun l => l[k]?) e
  simp only [List.getElem?_map, List.getElem?_eq_getElem h, List.getElem?_eq_getElem h2, Option.map_some, Option.some.injEq] at this
  rw [List.getD_eq_getElem?_getD, List.getD_eq_getElem?_getD, List.getElem?_eq_getElem h, List.getElem?_eq_getElem h2]
  exact this)
def Sn1 (w1 : World) (E F : List En) (n : Nat) (i : Value) (wr : World) : Prop := ∃ k : Nat, k ≤ n ∧ i = .int .i64 k ∧ (E.map En.pe).take k = (F.map En.pe).take k ∧ Below w1.heap.size w1 wr
def Sn2 (w1 : World) (K L : List Kd) (m : Nat) (i : Value) (wr : World) : Prop := ∃ k : Nat, k ≤ m ∧ i = .int .i64 k ∧ (K.map Kd.pk).take k = (L.map Kd.pk).take k ∧ Below w1.heap.size w1 wr
set_option maxRecDepth 100000 in
set_option maxHeartbeats 8000000 in
theorem samenode_any (x y : Nat) (p q r s : Option Addr) (n c m f n' c' m' f' : Nat) (E F : List En) (K L : List Kd) (w : World) (hE : EntsIn w p n c E) (hK : KidsIn w q m f K) (hF : EntsIn w r n' c' F) (hL : KidsIn w s m' f' L) :
    Calls Tryz.prog 8 #[.agg #[.int .u8 x, .slice p n c, .slice q m f], .agg #[.int .u8 y, .slice r n' c', .slice s m' f']] w fun e w' => e = .returned (.bool (decide (pnOf x E K = pnOf y F L))) ∧ Below w.heap.size w w' := by
  have hq : pnOf x E K = pnOf y F L ↔ x = y ∧ E.map En.pe = F.map En.pe ∧ K.map Kd.pk = L.map Kd.pk := by simp only [pnOf, PN.mk.injEq]
  have l1 : E.map En.pe = F.map En.pe → n = n' := fun h => by have := congrArg List.length h; rw [List.length_map, List.length_map, ← hE.size, ← hF.size] at this; exact this
  have l2 : K.map Kd.pk = L.map Kd.pk → m = m' := fun h => by have := congrArg List.length h; rw [List.length_map, List.length_map, ← hK.size, ← hL.size] at this; exact this
  have hb1 : Below w.heap.size w (w.alloc (.cells #[.int .u8 x, .slice p n c, .slice q m f] 27)) := (Below.refl _ _).alloc (Nat.le_refl _) _
  have z1 : (w.alloc (.cells #[.int .u8 x, .slice p n c, .slice q m f] 27)).heap.size = w.heap.size + 1 := by simp
  have hb2 : Below (w.heap.size + 1) (w.alloc (.cells #[.int .u8 x, .slice p n c, .slice q m f] 27)) ((w.alloc (.cells #[.int .u8 x, .slice p n c, .slice q m f] 27)).alloc (.cells #[.int .u8 y, .slice r n' c', .slice s m' f'] 27)) := (Below.refl _ _).alloc (by omega) _
  have r1 := (NodeAt.start w x p n c q m f).later (by rw [z1]; exact hb2)
  have r2 := NodeAt.start (w.alloc (.cells #[.int .u8 x, .slice p n c, .slice q m f] 27)) y r n' c' s m' f'
  rw [z1] at r2
  have hb12 := hb1.trans (hb2.mono (by omega))
  have htn := hE.top
  have htm := hK.top
  have HE := Lib.hid (hE.later hb12)
  have HF := Lib.hid (hF.later hb12)
  have HK := Lib.hid (hK.later hb12)
  have HL := Lib.hid (hL.later hb12)
  have HQ := Lib.hid hq
  have L1 := Lib.hid l1
  have L2 := Lib.hid l2
  have HB := Lib.hid hb12
  have HN1 := Lib.hid r1
  have HN2 := Lib.hid r2
  clear hE hF hK hL hq l1 l2 hb1 hb2 hb12 r1 r2 z1
  go_enter Tryz.func8, Tryz.ntmps8
  go_upto_region 1 with fail
  generalize (w.alloc (.cells #[.int .u8 x, .slice p n c, .slice q m f] 27)).alloc (.cells #[.int .u8 y, .slice r n' c', .slice s m' f'] 27) = w1 at *
  obtain ⟨t0, t1, t2⟩ := HN1.out.cells
  obtain ⟨u0, u1, u2⟩ := HN2.out.cells
  by_cases hxy : x = y
  case neg =>
    have b1 : ((x : Int) != y) = true := by simp; omega
    have HNE := Lib.hid (fun h => hxy (HQ.out.1 h).1)
    clear hxy
    go_wp2_with fail
    go_ret
    exact ⟨ret_ndec HNE.out, HB.out⟩
  have b1 : ((x : Int) != y) = false := by simp; omega
  have HXY := Lib.hid hxy
  clear hxy
  by_cases hn : n = n'
  case neg =>
    have b2 : ((n : Int) != n') = true := by simp; omega
    have HNE := Lib.hid (fun h => hn (L1.out (HQ.out.1 h).2.1))
    clear hn
    go_wp2_with fail
    go_ret
    exact ⟨ret_ndec HNE.out, HB.out⟩
  have b2 : ((n : Int) != n') = false := by simp; omega
  have HNN := Lib.hid hn
  clear hn
  by_cases hm : m = m'
  case neg =>
    have b3 : ((m : Int) != m') = true := by simp; omega
    have HNE := Lib.hid (fun h => hm (L2.out (HQ.out.1 h).2.2))
    clear hm
    go_wp2_with fail
    go_ret
    exact ⟨ret_ndec HNE.out, HB.out⟩
  have b3 : ((m : Int) != m') = false := by simp; omega
  have HMM := Lib.hid hm
  clear hm
  go_wp2_with fail
  go_loopw [5] (fun i wr => Sn1 w1 E F n i wr) (fun i _ => n - (intOf i).toNat)
  case atStart => exact ⟨0, by omega, rfl, rfl, Below.refl _ _⟩
  case round =>
    obtain ⟨k, hk, rfl, hsame, hwr⟩ := hrel
    have HSM := Lib.hid hsame
    have HWR := Lib.hid hwr
    have HE1 := Lib.hid (HE.out.later hwr)
    have HF1 := Lib.hid (HF.out.later hwr)
    have HB1 := Lib.hid (HB.out.trans (hwr.mono HB.out.size))
    have HN11 := Lib.hid (HN1.out.later hwr)
    have HN21 := Lib.hid (HN2.out.later hwr)
    clear hsame hwr t0 t1 t2 u0 u1 u2
    obtain ⟨t0, t1, t2⟩ := HN11.out.cells
    obtain ⟨u0, u1, u2⟩ := HN21.out.cells
    by_cases hlt : k < n
    · obtain ⟨g1, o1, rfl, c1, c2, hok1⟩ := HE1.out.get k hlt
      obtain ⟨g2, o2, rfl, d1, d2, hok2⟩ := HF1.out.get k (by rw [← HNN.out]; exact hlt)
      have i1 : (0 : Int) ≤ k ∧ (k : Int) < n := by omega
      have i2 : (0 : Int) ≤ k ∧ (k : Int) < n' := by have := HNN.out; omega
      have hl1 : k < E.length := by rw [← HE.out.size]; exact hlt
      have hl2 : k < F.length := by rw [← HF.out.size, ← HNN.out]; exact hlt
      have HS1 := Lib.hid (map_take_succ En.pe E k hl1)
      have HS2 := Lib.hid (map_take_succ En.pe F k hl2)
      have HNE := Lib.hid (map_ne En.pe E F k hl1 hl2)
      have OK1 := Lib.hid hok1
      have OK2 := Lib.hid hok2
      clear hok1 hok2 hl1 hl2
      generalize E.getD k default = e1 at *
      generalize F.getD k default = e2 at *
      simp only [Rw.val] at c1 d1
      by_cases hlv : e1.live = e2.live
      case neg =>
        have HNO := Lib.hid (fun h => HNE.out (fun e => hlv ((pe_eq e1 e2).1 e).1) (HQ.out.1 h).2.1)
        have b4 : (e1.live != e2.live) = true := by simpa using hlv
        have b5 : (!(e1.live == e2.live)) = true := by simpa using hlv
        clear hlv
        go_upto_region 6 with fail
        go_quiet (fail)
        go_wp2_with fail
        go_ret
        exact ⟨ret_ndec HNO.out, Below.drewN HB1.out _⟩
      have b5 : (!(e1.live == e2.live)) = false := by simpa using hlv
      have HLV := Lib.hid hlv
      clear hlv
      have hcall : ∀ i, Calls Tryz.prog 24 #[.slice e1.row.p e1.row.n e1.row.c, .slice e2.row.p e2.row.n e2.row.c] (wr.drewN i) fun e w' => e = .returned (.bool (decide (e1.row.R = e2.row.R))) ∧ ∃ m, w' = (wr.drewN i).drewN m := fun i =>
        samerow_any _ _ _ _ _ _ _ _ _ (OK1.out.ints.later (Below.drewN (Below.refl _ _) i)) (OK2.out.ints.later (Below.drewN (Below.refl _ _) i)) OK1.out.top
      by_cases hrow : e1.row.R = e2.row.R
      case neg =>
        have HNO := Lib.hid (fun h => HNE.out (fun e => hrow ((pe_eq e1 e2).1 e).2) (HQ.out.1 h).2.1)
        rw [decide_eq_false hrow] at hcall
        have HC := Lib.hid hcall
        clear hrow hcall
        go_upto_region 6 with fail
        go_quiet ((go_at_call 24; exact Calls.quiet_of (HC.out _)))
        go_wp2_with fail
        go_ret
        exact ⟨ret_ndec HNO.out, Below.drewN HB1.out _⟩
      rw [decide_eq_true hrow] at hcall
      have HC := Lib.hid hcall
      have HPE := Lib.hid ((pe_eq e1 e2).2 ⟨HLV.out, hrow⟩)
      clear hrow hcall
      go_upto_region 6 with fail
      go_quiet ((go_at_call 24; exact Calls.quiet_of (HC.out _)))
      go_wp2_with fail
      go_roundw
      case rel => exact ⟨k + 1, by omega, by go_num, by rw [HS1.out, HS2.out, HSM.out, HPE.out], Below.drewN HWR.out _⟩
      case measure => simp [intOf]; omega
    · obtain rfl : k = n := by omega
      have HROWS := Lib.hid (show E.map En.pe = F.map En.pe from by
        have h := HSM.out
        rw [List.take_of_length_le (by rw [List.length_map, ← HE.out.size]; exact Nat.le_refl _), List.take_of_length_le (by rw [List.length_map, ← HF.out.size, ← HNN.out]; exact Nat.le_refl _)] at h
        exact h)
      have hbn := HWR.out
      have HK2 := Lib.hid (HK.out.later hbn)
      have HL2 := Lib.hid (HL.out.later hbn)
      have HN12 := HN11
      have HN22 := HN21
      have HB2 := HB1
      clear hbn t0 t1 t2 u0 u1 u2 HSM HE HF HK HL HB HN1 HN2 hlt HWR HE1 HF1
      generalize wr = w2 at *
      obtain ⟨t0, t1, t2⟩ := HN12.out.cells
      obtain ⟨u0, u1, u2⟩ := HN22.out.cells
      obtain ⟨dk, hd, hdr⟩ := UKd
      have HD := Lib.hid hd
      have HDR := Lib.hid hdr
      clear hd hdr
      go_wp2_with fail
      go_loopw [6] (fun i wr => Sn2 w2 K L m i wr) (fun i _ => m - (intOf i).toNat)
      case atStart => exact ⟨0, by omega, rfl, rfl, Below.refl _ _⟩
      case round =>
        obtain ⟨z, hz, rfl, hsame, hwr⟩ := hrel
        have HSM := Lib.hid hsame
        have HWR := Lib.hid hwr
        have HN13 := Lib.hid (HN12.out.later hwr)
        have HN23 := Lib.hid (HN22.out.later hwr)
        have HK3 := Lib.hid (HK2.out.later hwr)
        have HL3 := Lib.hid (HL2.out.later hwr)
        have HB3 := Lib.hid (HB2.out.trans (hwr.mono HB2.out.size))
        clear hsame hwr t0 t1 t2 u0 u1 u2
        obtain ⟨t0, t1, t2⟩ := HN13.out.cells
        obtain ⟨u0, u1, u2⟩ := HN23.out.cells
        by_cases hlt : z < m
        · obtain ⟨g1, o1, rfl, rg1, hok1⟩ := HK3.out.get z hlt
          obtain ⟨g2, o2, rfl, rg2, hok2⟩ := HL3.out.get z (by rw [← HMM.out]; exact hlt)
          have i1 : (0 : Int) ≤ z ∧ (z : Int) < m := by omega
          have i2 : (0 : Int) ≤ z ∧ (z : Int) < m' := by have := HMM.out; omega
          have hl1 : z < K.length := by rw [← HK2.out.size]; exact hlt
          have hl2 : z < L.length := by rw [← HL2.out.size, ← HMM.out]; exact hlt
          have HS1 := Lib.hid (map_take_succ Kd.pk K z hl1)
          have HS2 := Lib.hid (map_take_succ Kd.pk L z hl2)
          have HNE := Lib.hid (map_ne Kd.pk K L z hl1 hl2)
          have OK1 := Lib.hid hok1
          have OK2 := Lib.hid hok2
          have RG1 := Lib.hid rg1
          have RG2 := Lib.hid rg2
          have CL1 := Lib.hid (Kd.cells_length hok1.len)
          have CL2 := Lib.hid (Kd.cells_length hok2.len)
          clear hok1 hok2 hl1 hl2 rg1 rg2
          generalize K.getD z default = k1 at *
          generalize L.getD z default = k2 at *
          go_upto_region 11 with fail
          refine wp_region_held_drew (S := fun w' => Below wr.heap.size wr w') (by kernel_rfl) (Below.refl _ _).drew (fun hHeld => ?_)
          refine wpAnyH_take (i := 0) (oi := ⟨some 73, .fieldAddr 27 (.tmp 2) 2, _, _, _, _⟩) (v := ?_) rfl (by kernel_rfl) (by kernel_rfl) (by kernel_rfl) (fun _ _ _ h => h) (Or.inl ⟨by rfl, ?_⟩) (by assumption) ?_
          rotate_left
          · intro w' hSw
            go_simp
            try with_reducible rfl
          try simp only [Act.put, List.setIfInBounds_toArray, List.set_cons_zero, List.set_cons_succ]
          refine wpAnyH_take (i := 1) (oi := ⟨some 74, .load 25 (.tmp 73), _, _, _, _⟩) (v := ?_) rfl (by kernel_rfl) (by kernel_rfl) (by kernel_rfl) (fun _ _ _ h => h) (Or.inl ⟨by rfl, ?_⟩) (by assumption) ?_
          rotate_left
          · intro w' hSw
            have t2 := ((HN13.out.later hSw)).cells.2.2
            go_simp
            try with_reducible rfl
          try simp only [Act.put, List.setIfInBounds_toArray, List.set_cons_zero, List.set_cons_succ]
          refine wpAnyH_take (i := 2) (oi := ⟨some 75, .move (.tmp 6), _, _, _, _⟩) (v := ?_) rfl (by kernel_rfl) (by kernel_rfl) (by kernel_rfl) (fun _ _ _ h => h) (Or.inl ⟨by rfl, ?_⟩) (by assumption) ?_
          rotate_left
          · intro w' hSw
            go_simp
            try with_reducible rfl
          try simp only [Act.put, List.setIfInBounds_toArray, List.set_cons_zero, List.set_cons_succ]
          refine wpAnyH_take (i := 3) (oi := ⟨some 76, .indexAddr 25 (.tmp 74) (.tmp 75), _, _, _, _⟩) (v := ?_) rfl (by kernel_rfl) (by kernel_rfl) (by kernel_rfl) (fun _ _ _ h => h) (Or.inl ⟨by rfl, ?_⟩) (by assumption) ?_
          rotate_left
          · intro w' hSw
            go_simp
            try with_reducible rfl
          try simp only [Act.put, List.setIfInBounds_toArray, List.set_cons_zero, List.set_cons_succ]
          refine wpAnyH_take (i := 4) (oi := ⟨some 77, .load 43 (.tmp 76), _, _, _, _⟩) (v := ?_) rfl (by kernel_rfl) (by kernel_rfl) (by kernel_rfl) (fun _ _ _ h => h) (Or.inl ⟨by rfl, ?_⟩) (by assumption) ?_
          rotate_left
          · intro w' hSw
            refine Eq.trans (b := Result.ok (Next.value (.agg k1.cells.toArray)) w') ?_ ?_
            · exact op_load_kd HD.out HDR.out (by rfl) (by rfl) CL1.out (range_later RG1.out hSw)
            · with_reducible rfl
          try simp only [Act.put, List.setIfInBounds_toArray, List.set_cons_zero, List.set_cons_succ]
          refine wpAnyH_take (i := 5) (oi := ⟨some 78, .fieldAddr 27 (.tmp 3) 2, _, _, _, _⟩) (v := ?_) rfl (by kernel_rfl) (by kernel_rfl) (by kernel_rfl) (fun _ _ _ h => h) (Or.inl ⟨by rfl, ?_⟩) (by assumption) ?_
          rotate_left
          · intro w' hSw
            go_simp
            try with_reducible rfl
          try simp only [Act.put, List.setIfInBounds_toArray, List.set_cons_zero, List.set_cons_succ]
          refine wpAnyH_take (i := 6) (oi := ⟨some 79, .load 25 (.tmp 78), _, _, _, _⟩) (v := ?_) rfl (by kernel_rfl) (by kernel_rfl) (by kernel_rfl) (fun _ _ _ h => h) (Or.inl ⟨by rfl, ?_⟩) (by assumption) ?_
          rotate_left
          · intro w' hSw
            have u2 := ((HN23.out.later hSw)).cells.2.2
            go_simp
            try with_reducible rfl
          try simp only [Act.put, List.setIfInBounds_toArray, List.set_cons_zero, List.set_cons_succ]
          refine wpAnyH_take (i := 7) (oi := ⟨some 80, .move (.tmp 6), _, _, _, _⟩) (v := ?_) rfl (by kernel_rfl) (by kernel_rfl) (by kernel_rfl) (fun _ _ _ h => h) (Or.inl ⟨by rfl, ?_⟩) (by assumption) ?_
          rotate_left
          · intro w' hSw
            go_simp
            try with_reducible rfl
          try simp only [Act.put, List.setIfInBounds_toArray, List.set_cons_zero, List.set_cons_succ]
          refine wpAnyH_take (i := 8) (oi := ⟨some 81, .indexAddr 25 (.tmp 79) (.tmp 80), _, _, _, _⟩) (v := ?_) rfl (by kernel_rfl) (by kernel_rfl) (by kernel_rfl) (fun _ _ _ h => h) (Or.inl ⟨by rfl, ?_⟩) (by assumption) ?_
          rotate_left
          · intro w' hSw
            go_simp
            try with_reducible rfl
          try simp only [Act.put, List.setIfInBounds_toArray, List.set_cons_zero, List.set_cons_succ]
          refine wpAnyH_take (i := 9) (oi := ⟨some 82, .load 43 (.tmp 81), _, _, _, _⟩) (v := ?_) rfl (by kernel_rfl) (by kernel_rfl) (by kernel_rfl) (fun _ _ _ h => h) (Or.inl ⟨by rfl, ?_⟩) (by assumption) ?_
          rotate_left
          · intro w' hSw
            refine Eq.trans (b := Result.ok (Next.value (.agg k2.cells.toArray)) w') ?_ ?_
            · exact op_load_kd HD.out HDR.out (by rfl) (by rfl) CL2.out (range_later RG2.out hSw)
            · with_reducible rfl
          try simp only [Act.put, List.setIfInBounds_toArray, List.set_cons_zero, List.set_cons_succ]
          refine wpAnyH_ready (rs := [10]) (by kernel_rfl) (by simp) ?_
          refine AllReadyH.cons (o := ⟨some 83, .call ⟨.value (.func 14), #[.tmp 77, .tmp 82], #[43, 43]⟩, _, _, _, _⟩) rfl (fun K hK => ?_) AllReadyH.nil
          go_simp
          refine (rsame_any k1 k2 _ (OK1.out.later hHeld) (OK2.out.later hHeld)).mono ?_
          rintro _ w5 ⟨rfl, b5⟩
          have hS5 : Below wr.heap.size wr w5 := hHeld.trans (b5.mono hHeld.size)
          try go_wp2_with fail
          refine hK.out _ _ hS5 (fun hHeld => ?_)
          clear hK K
          try simp only [Act.put, List.setIfInBounds_toArray, List.set_cons_zero, List.set_cons_succ]
          refine wpAnyH_take (i := 11) (oi := ⟨some 84, .unOp .not 4 (.tmp 83), _, _, _, _⟩) (v := ?_) rfl (by kernel_rfl) (by kernel_rfl) (by kernel_rfl) (fun _ _ _ h => h) (Or.inl ⟨by rfl, ?_⟩) (by assumption) ?_
          rotate_left
          · intro w' hSw
            go_simp
            try with_reducible rfl
          try simp only [Act.put, List.setIfInBounds_toArray, List.set_cons_zero, List.set_cons_succ]
          refine wpAnyH_done (by kernel_rfl) ?_ _
          have HW5 := Lib.hid (HWR.out.trans (hHeld.mono HWR.out.size))
          by_cases hkk : k1.pk = k2.pk
          · rw [decide_eq_true hkk]
            have HKK := Lib.hid hkk
            clear hkk
            go_wp2_with fail
            go_roundw
            case rel => exact ⟨z + 1, by omega, by go_num, by rw [HS1.out, HS2.out, HSM.out, HKK.out], HW5.out⟩
            case measure => simp [intOf]; omega
          · rw [decide_eq_false hkk]
            have HNO := Lib.hid (fun h => HNE.out hkk (HQ.out.1 h).2.2)
            clear hkk
            go_wp2_with fail
            go_ret
            exact ⟨ret_ndec HNO.out, HB2.out.trans (HW5.out.mono HB2.out.size)⟩
        · obtain rfl : z = m := by omega
          have HALL := Lib.hid (show pnOf x E K = pnOf y F L from HQ.out.2 ⟨HXY.out, HROWS.out, by
            have h := HSM.out
            rw [List.take_of_length_le (by rw [List.length_map, ← HK2.out.size]; exact Nat.le_refl _), List.take_of_length_le (by rw [List.length_map, ← HL2.out.size, ← HMM.out]; exact Nat.le_refl _)] at h
            exact h⟩)
          go_wp2_with fail
          go_ret
          exact ⟨ret_dec HALL.out, HB3.out⟩
end Go.Proofs.YtfkpgildeddhaaaGreat.Nd

/- indenturelaw10.alive: the chapter's example stands. -/
namespace Go.Proofs.YtfkpgildeddhaaaGreat.Nd
open Go.RowKit Go.Proofs.YtfkpgildeddhaaaGreat.Dk Go.Proofs.YtfkpgildeddhaaaGreat.Pg

theorem ints_two {w : World} {g : Nat} {a b : Int} (ha : In64 a) (hb : In64 b) (h : w.heap[g]? = some (.cells #[.int .i64 a, .int .i64 b] 2 (0, 0))) : Ints w (some ⟨g, 0, none⟩) 2 2 [a, b] := by
  refine ⟨rfl, Nat.le_refl _, fun x hx => ?_, Or.inr ⟨g, 0, rfl, fun i hi => ?_⟩⟩
  · simp only [List.mem_cons, List.not_mem_nil, or_false] at hx
    rcases hx with rfl | rfl
    · exact ha
    · exact hb
  · have hi : i < 2 := hi
    rw [Nat.zero_add, cell_of_row w g i _ _ _ h]
    match i, hi with
    | 0, _ => rfl
    | 1, _ => rfl
    | k + 2, h => omega
/-- The example's node in memory: two rows, their entries. -/
def exE (g : Nat) : List En := [⟨⟨some ⟨g, 0, none⟩, 2, 2, [1, 5]⟩, true⟩, ⟨⟨some ⟨g + 1, 0, none⟩, 2, 2, [2, 3]⟩, true⟩]
theorem ex_pn (g : Nat) : pnOf 2 (exE g) [] = exN := rfl
theorem ex_laid (w : World) :
    EntsIn (((w.alloc (.cells #[.int .i64 1, .int .i64 5] 2)).alloc (.cells #[.int .i64 2, .int .i64 3] 2)).alloc (.cells #[.slice (some ⟨w.heap.size, 0, none⟩) 2 2, .bool true, .slice (some ⟨w.heap.size + 1, 0, none⟩) 2 2, .bool true] 55)) (some ⟨w.heap.size + 1 + 1, 0, none⟩) 2 2 (exE w.heap.size) ∧
    Below w.heap.size w (((w.alloc (.cells #[.int .i64 1, .int .i64 5] 2)).alloc (.cells #[.int .i64 2, .int .i64 3] 2)).alloc (.cells #[.slice (some ⟨w.heap.size, 0, none⟩) 2 2, .bool true, .slice (some ⟨w.heap.size + 1, 0, none⟩) 2 2, .bool true] 55)) := by
  have r1 := heap_alloc_new w (.cells #[.int .i64 1, .int .i64 5] 2)
  have b1 : Below w.heap.size w (w.alloc (.cells #[.int .i64 1, .int .i64 5] 2)) := (Below.refl _ _).alloc (Nat.le_refl _) _
  have z1 : (w.alloc (.cells #[.int .i64 1, .int .i64 5] 2)).heap.size = w.heap.size + 1 := by simp
  generalize w.alloc (.cells #[.int .i64 1, .int .i64 5] 2) = w1 at *
  have r2 := heap_alloc_new w1 (.cells #[.int .i64 2, .int .i64 3] 2)
  have b2 : Below w1.heap.size w1 (w1.alloc (.cells #[.int .i64 2, .int .i64 3] 2)) := (Below.refl _ _).alloc (Nat.le_refl _) _
  have z2 : (w1.alloc (.cells #[.int .i64 2, .int .i64 3] 2)).heap.size = w1.heap.size + 1 := by simp
  generalize w1.alloc (.cells #[.int .i64 2, .int .i64 3] 2) = w2 at *
  have r3 := heap_alloc_new w2 (.cells #[.slice (some ⟨w.heap.size, 0, none⟩) 2 2, .bool true, .slice (some ⟨w.heap.size + 1, 0, none⟩) 2 2, .bool true] 55)
  have b3 : Below w2.heap.size w2 (w2.alloc (.cells #[.slice (some ⟨w.heap.size, 0, none⟩) 2 2, .bool true, .slice (some ⟨w.heap.size + 1, 0, none⟩) 2 2, .bool true] 55)) := (Below.refl _ _).alloc (Nat.le_refl _) _
  generalize w2.alloc (.cells #[.slice (some ⟨w.heap.size, 0, none⟩) 2 2, .bool true, .slice (some ⟨w.heap.size + 1, 0, none⟩) 2 2, .bool true] 55) = w3 at *
  rw [z1] at r2
  rw [z2, z1] at r3
  have s1 := (b3.block w.heap.size (by omega)).trans ((b2.block w.heap.size (by omega)).trans r1)
  have s2 := (b3.block (w.heap.size + 1) (by omega)).trans r2
  have i1 := ints_two (a := 1) (b := 5) ⟨by omega, by omega⟩ ⟨by omega, by omega⟩ s1
  have i2 := ints_two (a := 2) (b := 3) ⟨by omega, by omega⟩ ⟨by omega, by omega⟩ s2
  refine ⟨⟨rfl, Nat.le_refl _, by omega, fun e he => ?_, Or.inr ⟨w.heap.size + 2, 0, rfl, fun i hi => ?_⟩⟩, b1.trans ((b2.trans (b3.mono (by omega))).mono (by omega))⟩
  · simp only [exE, List.mem_cons, List.not_mem_nil, or_false] at he
    rcases he with rfl | rfl
    · exact ⟨i1, by show 2 ≤ _; omega⟩
    · exact ⟨i2, by show 2 ≤ _; omega⟩
  · have hi : i < 2 := hi
    rw [cell_of_row w3 (w.heap.size + 2) _ _ _ _ r3, cell_of_row w3 (w.heap.size + 2) _ _ _ _ r3]
    match i, hi with
    | 0, _ => exact ⟨rfl, rfl⟩
    | 1, _ => exact ⟨rfl, rfl⟩
    | k + 2, h => omega
theorem kids_nil (w : World) : KidsIn w none 0 0 [] := ⟨rfl, Nat.le_refl _, by omega, (fun k hk => by cases hk), Or.inl rfl⟩
theorem ex_kd {kd : Kd} (h : kd.pk = exN.says) : kd.sum = sumOf exB ∧ kd.lo.R = [1, 3] ∧ kd.hi.R = [2, 5] ∧ kd.live = 2 ∧ kd.size = 2 ∧ kd.key.R = [1, 5] := by
  rw [ex_says] at h
  exact ⟨congrArg PK.sum h, congrArg PK.lo h, congrArg PK.hi h, congrArg PK.live h, congrArg PK.size h, congrArg PK.key h⟩
theorem two_laid (w : World) {a b c d : Int} (ha : In64 a) (hb : In64 b) (hc : In64 c) (hd : In64 d) :
    Ints ((w.alloc (.cells #[.int .i64 a, .int .i64 b] 2)).alloc (.cells #[.int .i64 c, .int .i64 d] 2)) (some ⟨w.heap.size, 0, none⟩) 2 2 [a, b] ∧
    Ints ((w.alloc (.cells #[.int .i64 a, .int .i64 b] 2)).alloc (.cells #[.int .i64 c, .int .i64 d] 2)) (some ⟨w.heap.size + 1, 0, none⟩) 2 2 [c, d] ∧
    Below w.heap.size w ((w.alloc (.cells #[.int .i64 a, .int .i64 b] 2)).alloc (.cells #[.int .i64 c, .int .i64 d] 2)) := by
  have r1 := heap_alloc_new w (.cells #[.int .i64 a, .int .i64 b] 2)
  have b1 : Below w.heap.size w (w.alloc (.cells #[.int .i64 a, .int .i64 b] 2)) := (Below.refl _ _).alloc (Nat.le_refl _) _
  have z1 : (w.alloc (.cells #[.int .i64 a, .int .i64 b] 2)).heap.size = w.heap.size + 1 := by simp
  generalize w.alloc (.cells #[.int .i64 a, .int .i64 b] 2) = w1 at *
  have r2 := heap_alloc_new w1 (.cells #[.int .i64 c, .int .i64 d] 2)
  have b2 : Below w1.heap.size w1 (w1.alloc (.cells #[.int .i64 c, .int .i64 d] 2)) := (Below.refl _ _).alloc (Nat.le_refl _) _
  generalize w1.alloc (.cells #[.int .i64 c, .int .i64 d] 2) = w2 at *
  rw [z1] at r2
  exact ⟨ints_two ha hb ((b2.block w.heap.size (by omega)).trans r1), ints_two hc hd r2, b1.trans (b2.mono (by omega))⟩
theorem one_laid (w : World) {a b : Int} (ha : In64 a) (hb : In64 b) :
    Ints (w.alloc (.cells #[.int .i64 a, .int .i64 b] 2)) (some ⟨w.heap.size, 0, none⟩) 2 2 [a, b] ∧ Below w.heap.size w (w.alloc (.cells #[.int .i64 a, .int .i64 b] 2)) :=
  ⟨ints_two ha hb (heap_alloc_new w _), (Below.refl _ _).alloc (Nat.le_refl _) _⟩
/-- What lies in memory behind all calls. -/
structure AlSt (gn gk gp gm : Nat) (pe : Option Addr) (E : List En) (kd kp : Kd) (kind : Nat) (p : Option Addr) (n c : Nat) (q : Option Addr) (m f : Nat) (E2 : List En) (K2 : List Kd) (w : World) : Prop where
  nd : NodeAt w gn 2 pe 2 2 none 0 0
  en : EntsIn w pe 2 2 E
  rk : w.heap[gk]? = some (.cells kd.cells.toArray 43 (0, 0))
  ok : kd.Ok w
  rp : w.heap[gp]? = some (.cells kp.cells.toArray 43 (0, 0))
  op : kp.Ok w
  nm : NodeAt w gm kind p n c q m f
  e2 : EntsIn w p n c E2
  k2 : KidsIn w q m f K2
theorem AlSt.later {gn gk gp gm : Nat} {pe : Option Addr} {E : List En} {kd kp : Kd} {kind : Nat} {p : Option Addr} {n c : Nat} {q : Option Addr} {m f : Nat} {E2 : List En} {K2 : List Kd} {w w' : World} (h : AlSt gn gk gp gm pe E kd kp kind p n c q m f E2 K2 w) (b : Below w.heap.size w w') : AlSt gn gk gp gm pe E kd kp kind p n c q m f E2 K2 w' :=
  ⟨h.nd.later b, h.en.later b, (b.block _ (Array.getElem?_eq_some_iff.1 h.rk).1).trans h.rk, h.ok.later b, (b.block _ (Array.getElem?_eq_some_iff.1 h.rp).1).trans h.rp, h.op.later b, h.nm.later b, h.e2.later b, h.k2.later b⟩
set_option maxRecDepth 100000 in
set_option maxHeartbeats 4000000 in
theorem alive_any (w : World) :
    Calls Tryz.prog 5 #[] w fun e w' => e = .returned (.bool true) ∧ Below w.heap.size w w' := by
  obtain ⟨du, hdu, hdr⟩ := UKd
  have HDU := Lib.hid hdu
  have HDR := Lib.hid hdr
  have HZ := Lib.hid (zero_of_info kz)
  clear hdu hdr
  go_enter Tryz.func5, Tryz.ntmps5
  go_upto_region 2 with fail
  obtain ⟨hE, hB⟩ := ex_laid w
  have hz : (((w.alloc (.cells #[.int .i64 1, .int .i64 5] 2)).alloc (.cells #[.int .i64 2, .int .i64 3] 2)).alloc (.cells #[.slice (some ⟨w.heap.size, 0, none⟩) 2 2, .bool true, .slice (some ⟨w.heap.size + 1, 0, none⟩) 2 2, .bool true] 55)).heap.size = w.heap.size + 1 + 1 + 1 := by simp
  rw [← hz]
  clear hz
  generalize ((w.alloc (.cells #[.int .i64 1, .int .i64 5] 2)).alloc (.cells #[.int .i64 2, .int .i64 3] 2)).alloc (.cells #[.slice (some ⟨w.heap.size, 0, none⟩) 2 2, .bool true, .slice (some ⟨w.heap.size + 1, 0, none⟩) 2 2, .bool true] 55) = w3 at *
  obtain ⟨pe, hpe⟩ : ∃ pe : Option Addr, pe = some ⟨w.heap.size + 1 + 1, 0, none⟩ := ⟨_, rfl⟩
  rw [← hpe] at hE ⊢
  clear hpe
  obtain ⟨E, hEE⟩ : ∃ E, E = exE w.heap.size := ⟨_, rfl⟩
  have HPN := Lib.hid (show pnOf 2 E [] = exN from by rw [hEE]; rfl)
  rw [← hEE] at hE
  clear hEE
  have hba : Below w3.heap.size w3 (w3.alloc (.cells #[.int .u8 2, .slice pe 2 2, .slice none 0 0] 27)) := (Below.refl _ _).alloc (Nat.le_refl _) _
  have HN4 := Lib.hid (show NodeAt (w3.alloc (.cells #[.int .u8 2, .slice pe 2 2, .slice none 0 0] 27)) w3.heap.size 2 pe 2 2 none 0 0 from NodeAt.start w3 2 pe 2 2 none 0 0)
  have HE4 := Lib.hid (hE.later hba)
  have HB4 := Lib.hid (hB.trans (hba.mono hB.size))
  generalize w3.alloc (.cells #[.int .u8 2, .slice pe 2 2, .slice none 0 0] 27) = w4 at *
  generalize w3.heap.size = gn at *
  clear hba hE hB
  clear w3
  have HG := Lib.hid (show exN.right 2 = true ∧ exN.size ≤ 1048576 from ⟨ex_right, by rw [ex_size]; omega⟩)
  have hsay := Say_any 2 (by omega) pe 2 2 none 0 0 E [] 2 w4 HE4.out (kids_nil w4)
  rw [HPN.out] at hsay
  have HSAY := Lib.hid (show Calls Tryz.prog 17 #[.agg #[.int .u8 2, .slice pe 2 2, .slice none 0 0], .int .i64 2] w4 (SaySum w4 exN 2) from hsay)
  clear hsay
  have t0 : w4.cell? ⟨gn, 0, none⟩ = some (.int .u8 2) := HN4.out.cells.1
  have t1 := HN4.out.cells.2.1
  have t2 := HN4.out.cells.2.2
  have hz0 := HZ.out.1
  -- what it says
  go_upto_region 3 with (first
    | (go_at_call 17; refine HSAY.out.mono ?_; rintro e w5 ⟨b5, h5⟩; obtain ⟨kd, rfl, hpk, hok, -⟩ := (h5.elim (fun h => h.2) (fun h => absurd HG.out h.1)); have HPK := Lib.hid hpk; have HOK := Lib.hid hok; have HCL := Lib.hid (Kd.cells_length hok.len); have HB5 := Lib.hid (HB4.out.trans (b5.mono HB4.out.size)); have HN5 := Lib.hid (HN4.out.later b5); have HE5 := Lib.hid (HE4.out.later b5); clear b5 h5 hpk hok)
    | (refine wpList_store_row (by rfl) 43 (.tmp 2) (.tmp 18) (by rfl) w5.heap.size kd.cells.toArray (by rfl) (by rfl) _ _ (heap_alloc_new w5 _) (by rw [List.size_toArray, HCL.out]; exact SKd) (by simp only [List.size_toArray, HCL.out, kd0_size]) (all_oneCell_toArray Kd.one) ?_; rw [setRow_alloc]))
  have hba : Below w5.heap.size w5 (w5.alloc (.cells kd.cells.toArray 43)) := (Below.refl _ _).alloc (Nat.le_refl _) _
  have HK6 := Lib.hid (heap_alloc_new w5 (.cells kd.cells.toArray 43))
  have HB6 := Lib.hid (HB5.out.trans (hba.mono HB5.out.size))
  have HN6 := Lib.hid (HN5.out.later hba)
  have HE6 := Lib.hid (HE5.out.later hba)
  have HOK6 := Lib.hid (HOK.out.later hba)
  generalize w5.alloc (.cells kd.cells.toArray 43) = w6 at *
  generalize w5.heap.size = gk at *
  clear hba HSAY HN4 HE4 HN5 HE5 HOK HB5 HB4 t0 t1 t2
  clear w4 w5
  -- a store
  go_upto_region 4 with (go_at_call 20; refine (Pg.new_any w6).mono ?_; rintro e w7 ⟨g, Q, rfl, l7, q7, b7⟩; have HP7 := Lib.hid l7; have HQ7 := Lib.hid q7; have HB7 := Lib.hid (HB6.out.trans (b7.mono HB6.out.size)); have HN7 := Lib.hid (HN6.out.later b7); have HE7 := Lib.hid (HE6.out.later b7); have HOK7 := Lib.hid (HOK6.out.later b7); have HK7 := Lib.hid ((b7.block _ (Array.getElem?_eq_some_iff.1 HK6.out).1).trans HK6.out); have HS67 := Lib.hid b7.size; have HB67 := Lib.hid b7; clear l7 q7 b7)
  have HLT6 := Lib.hid (show gk < w6.heap.size ∧ gn < w6.heap.size from ⟨(Array.getElem?_eq_some_iff.1 HK6.out).1, (Array.getElem?_eq_some_iff.1 HN6.out.row).1⟩)
  have hput := Put_any 2 (by omega) pe 2 2 none 0 0 E [] 2 w7 HE7.out (kids_nil w7) HP7.out (show ([] : List (List Nat × List Nat)).length < 100000 by decide)
  rw [HPN.out] at hput
  have HPUT := Lib.hid (show Calls Tryz.prog 21 #[.pointer (some ⟨g, 0, none⟩), .agg #[.int .u8 2, .slice pe 2 2, .slice none 0 0], .int .i64 2] w7 (SayPut w7 g Q ⟨[], none⟩ exN 2) from hput)
  clear hput
  have t0 : w7.cell? ⟨gn, 0, none⟩ = some (.int .u8 2) := HN7.out.cells.1
  have t1 := HN7.out.cells.2.1
  have t2 := HN7.out.cells.2.2
  -- put
  go_upto_region 5 with (first
    | (go_at_call 21; refine HPUT.out.mono ?_; rintro e w8 h8; obtain ⟨-, kp, rfl, hpk, hok, -, ⟨Q8, hp8, -⟩, ho8⟩ := (h8.resolve_right (fun h => absurd HG.out h.1)); have HB78 := Lib.hid (ho8.below HS67.out HQ7.out); have HPK8 := Lib.hid hpk; have HOK8 := Lib.hid hok; have HCP := Lib.hid (Kd.cells_length hok.len); have HP8 := Lib.hid hp8; clear hpk hok hp8 ho8 h8)
    | (refine wpList_store_row (by rfl) 43 (.tmp 5) (.tmp 25) (by rfl) w8.heap.size kp.cells.toArray (by rfl) (by rfl) _ _ (heap_alloc_new w8 _) (by rw [List.size_toArray, HCP.out]; exact SKd) (by simp only [List.size_toArray, HCP.out, kd0_size]) (all_oneCell_toArray Kd.one) ?_; rw [setRow_alloc]))
  have hba : Below w8.heap.size w8 (w8.alloc (.cells kp.cells.toArray 43)) := (Below.refl _ _).alloc (Nat.le_refl _) _
  have hb69 := HB67.out.trans (HB78.out.trans (hba.mono (Nat.le_trans HS67.out HB78.out.size)))
  have HP9 := Lib.hid (show PL (w8.alloc (.cells kp.cells.toArray 43)) g Q8 ⟨[(sumOf exB, exB)], none⟩ from by
    have := HP8.out.keep (fun _ => False) (Only.of_below _ hba) (fun _ _ e => e)
    rw [ex_bytes, put_new'] at this
    exact this)
  have HN9 := Lib.hid (HN6.out.later hb69)
  have HE9 := Lib.hid (HE6.out.later hb69)
  have HOK9 := Lib.hid (HOK6.out.later hb69)
  have HK9 := Lib.hid ((hb69.block _ HLT6.out.1).trans HK6.out)
  have HKP9 := Lib.hid (heap_alloc_new w8 (.cells kp.cells.toArray 43))
  have HOP9 := Lib.hid (HOK8.out.later hba)
  have HB9 := Lib.hid (HB6.out.trans (hb69.mono HB6.out.size))
  have HSUM := Lib.hid (ex_kd HPK8.out).1
  generalize w8.alloc (.cells kp.cells.toArray 43) = w9 at *
  generalize w8.heap.size = gp at *
  clear hba hb69 HPUT HP8 HOK8 HB78 HN7 HE7 HOK7 HK7 HB7 HP7 HB67 HN6 HE6 HOK6 HK6 HB6 HQ7 HS67 HLT6 t0 t1 t2
  clear w6 w7 w8
  have hget := Get_good kp 2 exB w9 HP9.out HOP9.out (by rw [HSUM.out]; exact text_one' exB) ex_ok (show exB.length ≤ 100000 from by unfold exB; decide) ex_good (by rw [ex_node, ex_size]; omega) (by rw [ex_node]; exact HPK8.out.symm)
  rw [ex_node] at hget
  have HGET := Lib.hid hget
  have HRP := Lib.hid (range_kd HKP9.out)
  clear hget
  -- get
  go_upto_region 6 with (first
    | (refine wpList_load_mid (by rfl) 43 _ (by rfl) gp 0 (by rfl) kp.cells du HRP.out HDU.out HDR.out (by rw [HCP.out]; exact SKd) ?_)
    | (go_at_call 22; refine HGET.out.mono ?_; rintro e w10 ⟨b10, kind, p, n, c, q, m, f, E2, K2, rfl, hE2, hK2, hpn2⟩; have HB10 := Lib.hid b10; have HE2 := Lib.hid hE2; have HK2 := Lib.hid hK2; have HPN2 := Lib.hid hpn2; clear b10 hE2 hK2 hpn2))
  have hba : Below w10.heap.size w10 (w10.alloc (.cells #[.int .u8 kind, .slice p n c, .slice q m f] 27)) := (Below.refl _ _).alloc (Nat.le_refl _) _
  have hb911 := HB10.out.trans (hba.mono HB10.out.size)
  have HA := Lib.hid (show AlSt gn gk gp w10.heap.size pe E kd kp kind p n c q m f E2 K2 (w10.alloc (.cells #[.int .u8 kind, .slice p n c, .slice q m f] 27)) from
    ⟨HN9.out.later hb911, HE9.out.later hb911, (hb911.block _ (Array.getElem?_eq_some_iff.1 HK9.out).1).trans HK9.out, HOK9.out.later hb911, (hb911.block _ (Array.getElem?_eq_some_iff.1 HKP9.out).1).trans HKP9.out, HOP9.out.later hb911, NodeAt.start w10 kind p n c q m f, HE2.out.later hba, HK2.out.later hba⟩)
  have HB11 := Lib.hid (HB9.out.trans (hb911.mono HB9.out.size))
  generalize w10.alloc (.cells #[.int .u8 kind, .slice p n c, .slice q m f] 27) = w11 at *
  generalize w10.heap.size = gm at *
  clear hba hb911 HGET HRP HN9 HE9 HOK9 HK9 HKP9 HOP9 HB9 HP9 HB10 HE2 HK2
  clear w9 w10
  have hka := kat_row HA.out.rk HA.out.ok.len
  obtain ⟨-, elo, ehi, eli, esz, eky⟩ := ex_kd HPK.out
  have hc32 : w11.cell? ⟨gk, 32, none⟩ = some (.slice kd.lo.p kd.lo.n kd.lo.c) := by simpa [Rw.val] using hka.lo
  have hc33 : w11.cell? ⟨gk, 33, none⟩ = some (.slice kd.hi.p kd.hi.n kd.hi.c) := by simpa [Rw.val] using hka.hi
  have hc34 : w11.cell? ⟨gk, 34, none⟩ = some (.int .i64 2) := by simpa [eli] using hka.live
  have hc35 : w11.cell? ⟨gk, 35, none⟩ = some (.int .i64 2) := by simpa [esz] using hka.size
  have HLO := Lib.hid elo
  have HHI := Lib.hid ehi
  have HKY := Lib.hid eky
  clear hka elo ehi eli esz eky
  have HPQ := Lib.hid (show kd.pk = kp.pk from HPK.out.trans HPK8.out.symm)
  have HNQ := Lib.hid (show pnOf kind E2 K2 = pnOf 2 E [] from HPN2.out.trans HPN.out.symm)
  -- all at once
  go_wp2_with (first
    | (go_at_call 23; obtain ⟨i1, i2, b12⟩ := two_laid w11 (a := 1) (b := 3) (c := 2) (d := 5) ⟨by omega, by omega⟩ ⟨by omega, by omega⟩ ⟨by omega, by omega⟩ ⟨by omega, by omega⟩; refine (refsame_any kd.lo.p kd.hi.p _ _ kd.lo.n kd.lo.c kd.hi.n kd.hi.c 2 2 2 2 kd.lo.R kd.hi.R [1, 3] [2, 5] _ (HA.out.ok.lo.ints.later b12) (HA.out.ok.hi.ints.later b12) i1 i2 HA.out.ok.lo.top HA.out.ok.hi.top).mono ?_; rintro _ w13 ⟨rfl, b13⟩; rw [decide_eq_true (show kd.lo.R = [1, 3] ∧ kd.hi.R = [2, 5] from ⟨HLO.out, HHI.out⟩)]; have b113 := b12.trans (b13.mono b12.size); have HA13 := Lib.hid (HA.out.later b113); have HB13 := Lib.hid (HB11.out.trans (b113.mono HB11.out.size)); clear b12 b13 b113 i1 i2; have hc36 : w13.cell? ⟨gk, 36, none⟩ = some (.slice kd.key.p kd.key.n kd.key.c) := (by simpa [Rw.val] using (kat_row HA13.out.rk HA13.out.ok.len).key))
    | (go_at_call 24; go_loud (obtain ⟨i1, b14⟩ := one_laid w13 (a := 1) (b := 5) ⟨by omega, by omega⟩ ⟨by omega, by omega⟩; refine (samerow_any kd.key.p _ kd.key.n kd.key.c 2 2 kd.key.R [1, 5] _ (HA13.out.ok.key.ints.later b14) i1 HA13.out.ok.key.top).mono ?_; rintro _ w15 ⟨rfl, j, hj⟩; rw [decide_eq_true HKY.out]; have b15 := Below.drewN b14 j; rw [← hj] at b15; have HA15 := Lib.hid (HA13.out.later b15); have HB15 := Lib.hid (HB13.out.trans (b15.mono HB13.out.size)); have HRK := Lib.hid (range_kd HA15.out.rk); have HRP := Lib.hid (range_kd HA15.out.rp); clear hj b14 b15 i1))
    | (refine wpList_load_midG (by rfl) 43 (.tmp 2) (by rfl) gk 0 (by rfl) kd.cells du HRK.out HDU.out HDR.out (by rw [HCL.out]; exact SKd) ?_)
    | (refine wpList_load_midG (by rfl) 43 (.tmp 5) (by rfl) gp 0 (by rfl) kp.cells du HRP.out HDU.out HDR.out (by rw [HCP.out]; exact SKd) ?_)
    | (go_at_call 13; refine (nsame_any kd kp w15 HA15.out.ok HA15.out.op).mono ?_; rintro _ w16 ⟨rfl, b16⟩; rw [decide_eq_true HPQ.out]; have HA16 := Lib.hid (HA15.out.later b16); have HB16 := Lib.hid (HB15.out.trans (b16.mono HB15.out.size)); clear b16; obtain ⟨n0, n1, n2⟩ := HA16.out.nd.cells; obtain ⟨m0, m1, m2⟩ := HA16.out.nm.cells)
    | (go_at_call 8; go_loud (refine (samenode_any kind 2 p q pe none n c m f 2 2 0 0 E2 E K2 [] w16 HA16.out.e2 HA16.out.k2 HA16.out.en (kids_nil w16)).mono ?_; rintro _ w17 ⟨rfl, b17⟩; rw [decide_eq_true HNQ.out]; have HB17 := Lib.hid (HB16.out.trans (b17.mono HB16.out.size)); clear b17)))
  go_ret
  exact ⟨rfl, HB17.out⟩
end Go.Proofs.YtfkpgildeddhaaaGreat.Nd

/- indenturelaw10.great: whether a node has more than is looked at. -/
namespace Go.Proofs.YtfkpgildeddhaaaGreat.Nd
open Go.RowKit

/-- What is known of a node that is not great. -/
structure Few (E : List En) (K : List Kd) : Prop where
  rows : E.length ≤ 50
  kids : K.length ≤ 50
  row : ∀ e ∈ E, e.row.n ≤ 50
  lo : ∀ k ∈ K, k.lo.n ≤ 50
  hi : ∀ k ∈ K, k.hi.n ≤ 50
  key : ∀ k ∈ K, k.key.n ≤ 50
theorem all_getD {α : Type} [Inhabited α] {P : α → Prop} {L : List α} (h : ∀ j, j < L.length → P (L.getD j default)) : ∀ x ∈ L, P x := by
  intro x hx
  obtain ⟨j, hj, rfl⟩ := List.getElem_of_mem hx
  have := h j hj
  rwa [List.getD_eq_getElem?_getD, List.getElem?_eq_getElem hj] at this
def Gr1 (w1 : World) (E : List En) (n : Nat) (i : Value) (wr : World) : Prop := ∃ k : Nat, k ≤ n ∧ i = .int .i64 k ∧ (∀ j, j < k → (E.getD j default).row.n ≤ 50) ∧ wr = w1
def Gr2 (w1 : World) (K : List Kd) (m : Nat) (i : Value) (wr : World) : Prop := ∃ k : Nat, k ≤ m ∧ i = .int .i64 k ∧ (∀ j, j < k → (K.getD j default).lo.n ≤ 50 ∧ (K.getD j default).hi.n ≤ 50 ∧ (K.getD j default).key.n ≤ 50) ∧ wr = w1
def GPost (w : World) (E : List En) (K : List Kd) (e : Ending) (w' : World) : Prop := ∃ b, e = .returned (.bool b) ∧ Below w.heap.size w w' ∧ (b = false → Few E K)
set_option maxRecDepth 100000 in
set_option maxHeartbeats 8000000 in
theorem great_any (x : Nat) (p : Option Addr) (n c : Nat) (q : Option Addr) (m f : Nat) (E : List En) (K : List Kd) (w : World) (hE : EntsIn w p n c E) (hK : KidsIn w q m f K) :
    Calls Tryz.prog 10 #[.agg #[.int .u8 x, .slice p n c, .slice q m f]] w (GPost w E K) := by
  have hb1 : Below w.heap.size w (w.alloc (.cells #[.int .u8 x, .slice p n c, .slice q m f] 27)) := (Below.refl _ _).alloc (Nat.le_refl _) _
  have hn := NodeAt.start w x p n c q m f
  have HE := Lib.hid (hE.later hb1)
  have HK := Lib.hid (hK.later hb1)
  have HB := Lib.hid hb1
  have HN := Lib.hid hn
  clear hE hK hb1 hn
  by_cases hg1 : 50 < n
  · have b1 : (50 : Int) < n := by omega
    go_enter Tryz.func10, Tryz.ntmps10
    go_upto_region 1 with fail
    generalize w.alloc (.cells #[.int .u8 x, .slice p n c, .slice q m f] 27) = w1 at *
    obtain ⟨t0, t1, t2⟩ := HN.out.cells
    go_wp2_with fail
    go_ret
    exact ⟨true, rfl, HB.out, fun h => by simp at h⟩
  have b1 : ¬ (50 : Int) < n := by omega
  by_cases hg2 : 50 < m
  · have b2 : (50 : Int) < m := by omega
    go_enter Tryz.func10, Tryz.ntmps10
    go_upto_region 1 with fail
    generalize w.alloc (.cells #[.int .u8 x, .slice p n c, .slice q m f] 27) = w1 at *
    obtain ⟨t0, t1, t2⟩ := HN.out.cells
    go_wp2_with fail
    go_ret
    exact ⟨true, rfl, HB.out, fun h => by simp at h⟩
  have b2 : ¬ (50 : Int) < m := by omega
  go_enter Tryz.func10, Tryz.ntmps10
  go_upto_region 1 with fail
  generalize w.alloc (.cells #[.int .u8 x, .slice p n c, .slice q m f] 27) = w1 at *
  obtain ⟨t0, t1, t2⟩ := HN.out.cells
  go_wp2_with fail
  go_loopw [3] (fun i wr => Gr1 w1 E n i wr) (fun i _ => n - (intOf i).toNat)
  case atStart => exact ⟨0, by omega, rfl, fun j hj => by omega, rfl⟩
  case round =>
    obtain ⟨k, hk, rfl, hall, rfl⟩ := hrel
    have HALL := Lib.hid hall
    clear hall
    by_cases hlt : k < n
    · obtain ⟨g, o, rfl, c1, -, -⟩ := HE.out.get k hlt
      have i1 : (0 : Int) ≤ k ∧ (k : Int) < n := by omega
      have HS := Lib.hid (show (E.getD k default).row.n ≤ 50 → ∀ j, j < k + 1 → (E.getD j default).row.n ≤ 50 from fun h j hj => by
        by_cases e : j = k
        · rw [e]; exact h
        · exact HALL.out j (by omega))
      generalize E.getD k default = e at *
      simp only [Rw.val] at c1
      by_cases hl : 50 < e.row.n
      · have b3 : (50 : Int) < e.row.n := by omega
        clear HS
        go_wp2_with fail
        go_ret
        exact ⟨true, rfl, HB.out, fun h => by simp at h⟩
      · have b3 : ¬ (50 : Int) < e.row.n := by omega
        have HS2 := Lib.hid (HS.out (by omega))
        clear HS
        go_wp2_with fail
        go_roundw
        case rel => exact ⟨k + 1, by omega, by go_num, HS2.out, rfl⟩
        case measure => simp [intOf]; omega
    · obtain rfl : k = n := by omega
      have HROW := Lib.hid (show ∀ e ∈ E, e.row.n ≤ 50 from all_getD (P := fun e : En => e.row.n ≤ 50) fun j hj => HALL.out j (by rw [HE.out.size]; exact hj))
      clear HALL hlt
      generalize wr = w1 at *
      go_wp2_with fail
      go_loopw [4] (fun i wr => Gr2 w1 K m i wr) (fun i _ => m - (intOf i).toNat)
      case atStart => exact ⟨0, by omega, rfl, fun j hj => by omega, rfl⟩
      case round =>
        obtain ⟨z, hz, rfl, hall, rfl⟩ := hrel
        have HALL := Lib.hid hall
        clear hall
        by_cases hlt : z < m
        · obtain ⟨g, o, rfl, hrg, hok⟩ := HK.out.get z hlt
          have i1 : (0 : Int) ≤ z ∧ (z : Int) < m := by omega
          have HS := Lib.hid (show (K.getD z default).lo.n ≤ 50 ∧ (K.getD z default).hi.n ≤ 50 ∧ (K.getD z default).key.n ≤ 50 → ∀ j, j < z + 1 → (K.getD j default).lo.n ≤ 50 ∧ (K.getD j default).hi.n ≤ 50 ∧ (K.getD j default).key.n ≤ 50 from fun h j hj => by
            by_cases e : j = z
            · rw [e]; exact h
            · exact HALL.out j (by omega))
          have hkt := kat_of hrg hok.len
          clear hrg hok
          generalize K.getD z default = kd at *
          have a4 := hkt.lo
          have a5 := hkt.hi
          have a6 := hkt.key
          simp only [Rw.val] at a4 a5 a6
          clear hkt
          by_cases h1 : 50 < kd.lo.n
          · have b3 : (50 : Int) < kd.lo.n := by omega
            clear HS
            go_wp2_with fail
            go_ret
            exact ⟨true, rfl, HB.out, fun h => by simp at h⟩
          have b3 : ¬ (50 : Int) < kd.lo.n := by omega
          by_cases h2 : 50 < kd.hi.n
          · have b4 : (50 : Int) < kd.hi.n := by omega
            clear HS
            go_wp2_with fail
            go_ret
            exact ⟨true, rfl, HB.out, fun h => by simp at h⟩
          have b4 : ¬ (50 : Int) < kd.hi.n := by omega
          by_cases h3 : 50 < kd.key.n
          · have b5 : (50 : Int) < kd.key.n := by omega
            clear HS
            go_wp2_with fail
            go_ret
            exact ⟨true, rfl, HB.out, fun h => by simp at h⟩
          have b5 : ¬ (50 : Int) < kd.key.n := by omega
          have HS2 := Lib.hid (HS.out ⟨by omega, by omega, by omega⟩)
          clear HS
          go_wp2_with fail
          go_roundw
          case rel => exact ⟨z + 1, by omega, by go_num, HS2.out, rfl⟩
          case measure => simp [intOf]; omega
        · obtain rfl : z = m := by omega
          go_wp2_with fail
          go_ret
          have hkk := fun j (hj : j < K.length) => HALL.out j (by rw [HK.out.size]; exact hj)
          exact ⟨false, rfl, HB.out, fun _ => ⟨by rw [← HE.out.size]; omega, by rw [← HK.out.size]; omega, HROW.out, all_getD (P := fun k : Kd => k.lo.n ≤ 50) fun j hj => (hkk j hj).1, all_getD (P := fun k : Kd => k.hi.n ≤ 50) fun j hj => (hkk j hj).2.1, all_getD (P := fun k : Kd => k.key.n ≤ 50) fun j hj => (hkk j hj).2.2⟩⟩
end Go.Proofs.YtfkpgildeddhaaaGreat.Nd
