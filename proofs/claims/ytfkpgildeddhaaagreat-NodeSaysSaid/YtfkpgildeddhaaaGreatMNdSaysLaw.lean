/- Proved: whatever node, number and two kids it is handed, the Go function indenturelaw10.NodeSays returns true (what any node says, and which kids may be, are the empty tree, and the same, is the document's), and each argument reads afterwards as it read before. Conditions: none beyond the given row's own. -/
import Derived.Test.YtfkpgildeddhaaaGreatM13
import Derived.BigRegion
/- The law NodeSays. gen_says.py writes it out of nd_says.txt. -/
namespace Go.Proofs.YtfkpgildeddhaaaGreat.Nd
open Go.RowKit Go.Proofs.YtfkpgildeddhaaaGreat.Dk

/-- The law's arguments in their blocks. -/
structure SySt (gn kind : Nat) (p : Option Addr) (n c : Nat) (q : Option Addr) (m f : Nat) (E : List En) (K : List Kd) (a b : Kd) (w : World) : Prop where
  nd : NodeAt w gn kind p n c q m f
  en : EntsIn w p n c E
  ki : KidsIn w q m f K
  ra : w.heap[gn + 1]? = some (.cells a.cells.toArray 43 (0, 0))
  rb : w.heap[gn + 2]? = some (.cells b.cells.toArray 43 (0, 0))
  oa : a.Ok w
  ob : b.Ok w
theorem SySt.later {gn kind : Nat} {p : Option Addr} {n c : Nat} {q : Option Addr} {m f : Nat} {E : List En} {K : List Kd} {a b : Kd} {w w' : World} (h : SySt gn kind p n c q m f E K a b w) (hb : Below w.heap.size w w') : SySt gn kind p n c q m f E K a b w' :=
  ⟨h.nd.later hb, h.en.later hb, h.ki.later hb, (hb.block _ (Array.getElem?_eq_some_iff.1 h.ra).1).trans h.ra, (hb.block _ (Array.getElem?_eq_some_iff.1 h.rb).1).trans h.rb, h.oa.later hb, h.ob.later hb⟩
theorem sy_start {kind : Nat} {p : Option Addr} {n c : Nat} {q : Option Addr} {m f : Nat} {E : List En} {K : List Kd} {a b : Kd} {w : World} (hE : EntsIn w p n c E) (hK : KidsIn w q m f K) (ha : a.Ok w) (hb : b.Ok w) :
    SySt w.heap.size kind p n c q m f E K a b (((w.alloc (.cells #[.int .u8 kind, .slice p n c, .slice q m f] 27)).alloc (.cells a.cells.toArray 43)).alloc (.cells b.cells.toArray 43)) ∧
    Up w.heap.size w (((w.alloc (.cells #[.int .u8 kind, .slice p n c, .slice q m f] 27)).alloc (.cells a.cells.toArray 43)).alloc (.cells b.cells.toArray 43)) := by
  have hb1 : Below w.heap.size w (w.alloc (.cells #[.int .u8 kind, .slice p n c, .slice q m f] 27)) := (Below.refl _ _).alloc (Nat.le_refl _) _
  have hn1 := NodeAt.start w kind p n c q m f
  have z1 : (w.alloc (.cells #[.int .u8 kind, .slice p n c, .slice q m f] 27)).heap.size = w.heap.size + 1 := by simp
  generalize w.alloc (.cells #[.int .u8 kind, .slice p n c, .slice q m f] 27) = w1 at *
  have hb2 : Below w1.heap.size w1 (w1.alloc (.cells a.cells.toArray 43)) := (Below.refl _ _).alloc (Nat.le_refl _) _
  have r2 := heap_alloc_new w1 (.cells a.cells.toArray 43)
  have z2 : (w1.alloc (.cells a.cells.toArray 43)).heap.size = w1.heap.size + 1 := by simp
  generalize w1.alloc (.cells a.cells.toArray 43) = w2 at *
  have hb3 : Below w2.heap.size w2 (w2.alloc (.cells b.cells.toArray 43)) := (Below.refl _ _).alloc (Nat.le_refl _) _
  have r3 := heap_alloc_new w2 (.cells b.cells.toArray 43)
  generalize w2.alloc (.cells b.cells.toArray 43) = w3 at *
  have h13 := hb2.trans (hb3.mono hb2.size)
  have h03 := hb1.trans (h13.mono hb1.size)
  rw [z1] at r2 z2
  rw [z2] at r3
  exact ⟨⟨hn1.later h13, hE.later h03, hK.later h03, (hb3.block _ (Array.getElem?_eq_some_iff.1 r2).1).trans r2, r3, ha.later h03, hb.later h03⟩, h03, h03.size⟩
theorem node_built (q : Option Addr) (m f : Nat) : Tryz.prog.built 27 [(2, .slice q m f)] = some #[.int .u8 0, .slice none 0 0, .slice q m f] := by kernel_rfl
set_option maxRecDepth 100000 in
set_option maxHeartbeats 16000000 in
theorem says_any (kind : Nat) (hkd : kind < 256) (p : Option Addr) (n c : Nat) (q : Option Addr) (m f : Nat) (E : List En) (K : List Kd) (d : Int) (_hd : In64 d) (a b : Kd) (w : World) (hE : EntsIn w p n c E) (hK : KidsIn w q m f K) (ha : a.Ok w) (hb : b.Ok w) :
    Calls Tryz.prog 4 #[.agg #[.int .u8 kind, .slice p n c, .slice q m f], .int .i64 d, .agg a.cells.toArray, .agg b.cells.toArray] w fun e w' => e = .returned (.bool true) ∧ Below w.heap.size w w' := by
  obtain ⟨hs, hu⟩ := sy_start (kind := kind) hE hK ha hb
  have HS := Lib.hid hs
  have HU := Lib.hid hu
  have HKN := Lib.hid hkd
  have HCA := Lib.hid (Kd.cells_length ha.len)
  have HCB := Lib.hid (Kd.cells_length hb.len)
  have HLA := Lib.hid ha.len
  have HLB := Lib.hid hb.len
  have HZ := Lib.hid (zero_of_info kz)
  obtain ⟨du, hdu, hdr⟩ := UKd
  have HDU := Lib.hid hdu
  have HDR := Lib.hid hdr
  clear hs hu hE hK hkd ha hb hdu hdr
  have hz0 := HZ.out.1
  go_enter Tryz.func4, Tryz.ntmps4
  go_upto_region 1 with fail
  generalize ((w.alloc (.cells #[.int .u8 kind, .slice p n c, .slice q m f] 27)).alloc (.cells a.cells.toArray 43)).alloc (.cells b.cells.toArray 43) = w1 at *
  generalize hgn : w.heap.size = gn at *
  have HGN := Lib.hid hgn
  clear hgn
  go_upto_region 3 with (go_at_call 5; refine (alive_any w1).mono ?_; rintro _ w2 ⟨rfl, b2⟩; have HS2 := Lib.hid (HS.out.later b2); have HU2 := Lib.hid (HU.out.on b2); clear b2)
  clear HS HU
  clear w1
  obtain ⟨t0, t1, t2⟩ := HS2.out.nd.cells
  have HRA := Lib.hid (range_kd HS2.out.ra)
  have HRB := Lib.hid (range_kd HS2.out.rb)
  go_wp2_with fail
  refine (great_any kind p n c q m f E K w2 HS2.out.en HS2.out.ki).mono ?_
  rintro _ w3 ⟨gb, rfl, b3, hfew⟩
  have HS3 := Lib.hid (HS2.out.later b3)
  have HU3 := Lib.hid (HU2.out.on b3)
  have HFEW := Lib.hid hfew
  clear b3 t0 t1 t2 HS2 HU2 hfew HRA HRB
  clear w2
  cases gb with
  | true =>
    go_wp2_with fail
    go_ret
    rw [HGN.out]
    first | exact ⟨rfl, HU3.out.1⟩ | exact ⟨rfl, HU3.out.1.drew⟩
  | false =>
  have HF := Lib.hid (HFEW.out rfl)
  clear HFEW
  have HRA := Lib.hid (range_kd HS3.out.ra)
  have HRB := Lib.hid (range_kd HS3.out.rb)
  go_wp2_with (first
    | (refine wpList_load_midG (by rfl) 43 (.tmp 6) (by rfl) (gn + 1) 0 (by rfl) a.cells du HRA.out HDU.out HDR.out (by rw [HCA.out]; exact SKd) ?_)
    | (refine wpList_load_midG (by rfl) 43 (.tmp 7) (by rfl) (gn + 2) 0 (by rfl) b.cells du HRB.out HDU.out HDR.out (by rw [HCB.out]; exact SKd) ?_)
    | (refine wpList_kid_twoG (by rfl) (.tmp 18) (.tmp 19) (by rfl) (k := a) (l := b) HLA.out HLB.out (by rfl) (by rfl) ?_))
  have hba : Below w3.heap.size w3 (w3.alloc (.cells (a.cells ++ b.cells).toArray 43)) := (Below.refl _ _).alloc (Nat.le_refl _) _
  refine (great_any 0 none 0 0 (some ⟨w3.heap.size, 0, none⟩) 2 2 [] [a, b] _ (ents_none _) (kids_two (heap_alloc_new w3 _) (HS3.out.later hba).oa (HS3.out.later hba).ob)).mono ?_
  rintro _ w4 ⟨gb, rfl, b4, -⟩
  have HS4 := Lib.hid (HS3.out.later (hba.trans (b4.mono hba.size)))
  have HU4 := Lib.hid ((HU3.out.on hba).on b4)
  clear hba b4 HS3 HU3 HRA HRB
  generalize w3.heap.size = gs at *
  clear w3
  cases gb with
  | true =>
    go_wp2_with fail
    go_ret
    rw [HGN.out]
    first | exact ⟨rfl, HU4.out.1⟩ | exact ⟨rfl, HU4.out.1.drew⟩
  | false =>
  go_upto_region 5 with fail
  go_cut [46] from 24 to 46 (fun v wx => v = .bool false ∧ Below w4.heap.size w4 wx)
  case first =>
    refine wp_region_held_drew (S := fun w' => Below w4.heap.size w4 w') (by kernel_rfl) (Below.refl _ _).drew (fun hHeld => ?_)
    refine wpAnyH_take (i := 0) (oi := ⟨some 24, .load 43 (.tmp 6), _, _, _, _⟩) (v := ?_) rfl (by kernel_rfl) (by kernel_rfl) (by kernel_rfl) (fun _ _ _ h => h) (Or.inl ⟨by rfl, ?_⟩) (by assumption) ?_
    rotate_left
    · intro w' hSw
      refine Eq.trans (b := Result.ok (Next.value (.agg a.cells.toArray)) w') ?_ ?_
      · exact op_load_kd HDU.out HDR.out (by rfl) (by rfl) HCA.out (range_later (range_kd HS4.out.ra) hSw)
      · with_reducible rfl
    try simp only [Act.put, List.setIfInBounds_toArray, List.set_cons_zero, List.set_cons_succ]
    refine wpAnyH_take (i := 1) (oi := ⟨some 25, .move (.tmp 1), _, _, _, _⟩) (v := ?_) rfl (by kernel_rfl) (by kernel_rfl) (by kernel_rfl) (fun _ _ _ h => h) (Or.inl ⟨by rfl, ?_⟩) (by assumption) ?_
    rotate_left
    · intro w' hSw
      go_simp
      try with_reducible rfl
    try simp only [Act.put, List.setIfInBounds_toArray, List.set_cons_zero, List.set_cons_succ]
    refine wpAnyH_take (i := 3) (oi := ⟨some 27, .load 43 (.tmp 6), _, _, _, _⟩) (v := ?_) rfl (by kernel_rfl) (by kernel_rfl) (by kernel_rfl) (fun _ _ _ h => h) (Or.inl ⟨by rfl, ?_⟩) (by assumption) ?_
    rotate_left
    · intro w' hSw
      refine Eq.trans (b := Result.ok (Next.value (.agg a.cells.toArray)) w') ?_ ?_
      · exact op_load_kd HDU.out HDR.out (by rfl) (by rfl) HCA.out (range_later (range_kd HS4.out.ra) hSw)
      · with_reducible rfl
    try simp only [Act.put, List.setIfInBounds_toArray, List.set_cons_zero, List.set_cons_succ]
    refine wpAnyH_take (i := 4) (oi := ⟨some 28, .move (.tmp 1), _, _, _, _⟩) (v := ?_) rfl (by kernel_rfl) (by kernel_rfl) (by kernel_rfl) (fun _ _ _ h => h) (Or.inl ⟨by rfl, ?_⟩) (by assumption) ?_
    rotate_left
    · intro w' hSw
      go_simp
      try with_reducible rfl
    try simp only [Act.put, List.setIfInBounds_toArray, List.set_cons_zero, List.set_cons_succ]
    refine wpAnyH_ready (rs := [2]) (by kernel_rfl) (by simp) ?_
    refine AllReadyH.cons (o := ⟨some 26, .call ⟨.value (.func 11), #[.tmp 24, .tmp 25], #[43, 3]⟩, _, _, _, _⟩) rfl (fun K hK => ?_) AllReadyH.nil
    go_simp
    refine (nkid_any a d _ (HS4.out.later hHeld).oa).mono ?_
    rintro _ w9 ⟨rfl, b9⟩
    have hH := hHeld.trans (b9.mono hHeld.size)
    try go_wp2_with fail
    refine hK.out _ _ hH (fun hHeld => ?_)
    clear hK K
    try simp only [Act.put, List.setIfInBounds_toArray, List.set_cons_zero, List.set_cons_succ]
    clear b9
    refine wpAnyH_ready (rs := [5]) (by kernel_rfl) (by simp) ?_
    refine AllReadyH.cons (o := ⟨some 29, .call ⟨.value (.func 12), #[.tmp 27, .tmp 28], #[43, 3]⟩, _, _, _, _⟩) rfl (fun K hK => ?_) AllReadyH.nil
    go_simp
    refine (rkid_any a d _ (HS4.out.later hHeld).oa).mono ?_
    rintro _ w9 ⟨rfl, b9⟩
    have hH := hHeld.trans (b9.mono hHeld.size)
    try go_wp2_with fail
    refine hK.out _ _ hH (fun hHeld => ?_)
    clear hK K
    try simp only [Act.put, List.setIfInBounds_toArray, List.set_cons_zero, List.set_cons_succ]
    clear b9
    refine wpAnyH_take (i := 6) (oi := ⟨some 30, .binOp .neq 4 (.tmp 26) (.tmp 29) 4, _, _, _, _⟩) (v := ?_) rfl (by kernel_rfl) (by kernel_rfl) (by kernel_rfl) (fun _ _ _ h => h) (Or.inl ⟨by rfl, ?_⟩) (by assumption) ?_
    rotate_left
    · intro w' hSw
      refine Eq.trans (b := Result.ok (Next.value (.bool false)) w') ?_ ?_
      · go_simp
        try simp
      · with_reducible rfl
    try simp only [Act.put, List.setIfInBounds_toArray, List.set_cons_zero, List.set_cons_succ]
    refine wpAnyH_take (i := 7) (oi := ⟨some 31, .move (.tmp 30), _, _, _, _⟩) (v := ?_) rfl (by kernel_rfl) (by kernel_rfl) (by kernel_rfl) (fun _ _ _ h => h) (Or.inl ⟨by rfl, ?_⟩) (by assumption) ?_
    rotate_left
    · intro w' hSw
      go_simp
      try with_reducible rfl
    try simp only [Act.put, List.setIfInBounds_toArray, List.set_cons_zero, List.set_cons_succ]
    refine wpAnyH_take (i := 8) (oi := ⟨some 32, .load 43 (.tmp 6), _, _, _, _⟩) (v := ?_) rfl (by kernel_rfl) (by kernel_rfl) (by kernel_rfl) (fun _ _ _ h => h) (Or.inl ⟨by rfl, ?_⟩) (by assumption) ?_
    rotate_left
    · intro w' hSw
      refine Eq.trans (b := Result.ok (Next.value (.agg a.cells.toArray)) w') ?_ ?_
      · exact op_load_kd HDU.out HDR.out (by rfl) (by rfl) HCA.out (range_later (range_kd HS4.out.ra) hSw)
      · with_reducible rfl
    try simp only [Act.put, List.setIfInBounds_toArray, List.set_cons_zero, List.set_cons_succ]
    refine wpAnyH_take (i := 9) (oi := ⟨some 33, .load 43 (.tmp 7), _, _, _, _⟩) (v := ?_) rfl (by kernel_rfl) (by kernel_rfl) (by kernel_rfl) (fun _ _ _ h => h) (Or.inl ⟨by rfl, ?_⟩) (by assumption) ?_
    rotate_left
    · intro w' hSw
      refine Eq.trans (b := Result.ok (Next.value (.agg b.cells.toArray)) w') ?_ ?_
      · exact op_load_kd HDU.out HDR.out (by rfl) (by rfl) HCB.out (range_later (range_kd HS4.out.rb) hSw)
      · with_reducible rfl
    try simp only [Act.put, List.setIfInBounds_toArray, List.set_cons_zero, List.set_cons_succ]
    refine wpAnyH_take (i := 11) (oi := ⟨some 35, .load 43 (.tmp 6), _, _, _, _⟩) (v := ?_) rfl (by kernel_rfl) (by kernel_rfl) (by kernel_rfl) (fun _ _ _ h => h) (Or.inl ⟨by rfl, ?_⟩) (by assumption) ?_
    rotate_left
    · intro w' hSw
      refine Eq.trans (b := Result.ok (Next.value (.agg a.cells.toArray)) w') ?_ ?_
      · exact op_load_kd HDU.out HDR.out (by rfl) (by rfl) HCA.out (range_later (range_kd HS4.out.ra) hSw)
      · with_reducible rfl
    try simp only [Act.put, List.setIfInBounds_toArray, List.set_cons_zero, List.set_cons_succ]
    refine wpAnyH_take (i := 12) (oi := ⟨some 36, .load 43 (.tmp 7), _, _, _, _⟩) (v := ?_) rfl (by kernel_rfl) (by kernel_rfl) (by kernel_rfl) (fun _ _ _ h => h) (Or.inl ⟨by rfl, ?_⟩) (by assumption) ?_
    rotate_left
    · intro w' hSw
      refine Eq.trans (b := Result.ok (Next.value (.agg b.cells.toArray)) w') ?_ ?_
      · exact op_load_kd HDU.out HDR.out (by rfl) (by rfl) HCB.out (range_later (range_kd HS4.out.rb) hSw)
      · with_reducible rfl
    try simp only [Act.put, List.setIfInBounds_toArray, List.set_cons_zero, List.set_cons_succ]
    refine wpAnyH_ready (rs := [10]) (by kernel_rfl) (by simp) ?_
    refine AllReadyH.cons (o := ⟨some 34, .call ⟨.value (.func 13), #[.tmp 32, .tmp 33], #[43, 43]⟩, _, _, _, _⟩) rfl (fun K hK => ?_) AllReadyH.nil
    go_simp
    refine (nsame_any a b _ (HS4.out.later hHeld).oa (HS4.out.later hHeld).ob).mono ?_
    rintro _ w9 ⟨rfl, b9⟩
    have hH := hHeld.trans (b9.mono hHeld.size)
    try go_wp2_with fail
    refine hK.out _ _ hH (fun hHeld => ?_)
    clear hK K
    try simp only [Act.put, List.setIfInBounds_toArray, List.set_cons_zero, List.set_cons_succ]
    clear b9
    refine wpAnyH_ready (rs := [13]) (by kernel_rfl) (by simp) ?_
    refine AllReadyH.cons (o := ⟨some 37, .call ⟨.value (.func 14), #[.tmp 35, .tmp 36], #[43, 43]⟩, _, _, _, _⟩) rfl (fun K hK => ?_) AllReadyH.nil
    go_simp
    refine (rsame_any a b _ (HS4.out.later hHeld).oa (HS4.out.later hHeld).ob).mono ?_
    rintro _ w9 ⟨rfl, b9⟩
    have hH := hHeld.trans (b9.mono hHeld.size)
    try go_wp2_with fail
    refine hK.out _ _ hH (fun hHeld => ?_)
    clear hK K
    try simp only [Act.put, List.setIfInBounds_toArray, List.set_cons_zero, List.set_cons_succ]
    clear b9
    refine wpAnyH_take (i := 14) (oi := ⟨some 38, .binOp .neq 4 (.tmp 34) (.tmp 37) 4, _, _, _, _⟩) (v := ?_) rfl (by kernel_rfl) (by kernel_rfl) (by kernel_rfl) (fun _ _ _ h => h) (Or.inl ⟨by rfl, ?_⟩) (by assumption) ?_
    rotate_left
    · intro w' hSw
      refine Eq.trans (b := Result.ok (Next.value (.bool false)) w') ?_ ?_
      · go_simp
        try simp
      · with_reducible rfl
    try simp only [Act.put, List.setIfInBounds_toArray, List.set_cons_zero, List.set_cons_succ]
    refine wpAnyH_take (i := 15) (oi := ⟨some 39, .pick (.tmp 31) (.const (.bool true)) (.tmp 38), _, _, _, _⟩) (v := ?_) rfl (by kernel_rfl) (by kernel_rfl) (by kernel_rfl) (fun _ _ _ h => h) (Or.inl ⟨by rfl, ?_⟩) (by assumption) ?_
    rotate_left
    · intro w' hSw
      go_simp
      try with_reducible rfl
    try simp only [Act.put, List.setIfInBounds_toArray, List.set_cons_zero, List.set_cons_succ]
    refine wpAnyH_take (i := 16) (oi := ⟨some 40, .move (.tmp 39), _, _, _, _⟩) (v := ?_) rfl (by kernel_rfl) (by kernel_rfl) (by kernel_rfl) (fun _ _ _ h => h) (Or.inl ⟨by rfl, ?_⟩) (by assumption) ?_
    rotate_left
    · intro w' hSw
      go_simp
      try with_reducible rfl
    try simp only [Act.put, List.setIfInBounds_toArray, List.set_cons_zero, List.set_cons_succ]
    refine wpAnyH_take (i := 17) (oi := ⟨some 41, .load 43 (.tmp 6), _, _, _, _⟩) (v := ?_) rfl (by kernel_rfl) (by kernel_rfl) (by kernel_rfl) (fun _ _ _ h => h) (Or.inl ⟨by rfl, ?_⟩) (by assumption) ?_
    rotate_left
    · intro w' hSw
      refine Eq.trans (b := Result.ok (Next.value (.agg a.cells.toArray)) w') ?_ ?_
      · exact op_load_kd HDU.out HDR.out (by rfl) (by rfl) HCA.out (range_later (range_kd HS4.out.ra) hSw)
      · with_reducible rfl
    try simp only [Act.put, List.setIfInBounds_toArray, List.set_cons_zero, List.set_cons_succ]
    refine wpAnyH_take (i := 19) (oi := ⟨some 43, .load 43 (.tmp 6), _, _, _, _⟩) (v := ?_) rfl (by kernel_rfl) (by kernel_rfl) (by kernel_rfl) (fun _ _ _ h => h) (Or.inl ⟨by rfl, ?_⟩) (by assumption) ?_
    rotate_left
    · intro w' hSw
      refine Eq.trans (b := Result.ok (Next.value (.agg a.cells.toArray)) w') ?_ ?_
      · exact op_load_kd HDU.out HDR.out (by rfl) (by rfl) HCA.out (range_later (range_kd HS4.out.ra) hSw)
      · with_reducible rfl
    try simp only [Act.put, List.setIfInBounds_toArray, List.set_cons_zero, List.set_cons_succ]
    refine wpAnyH_ready (rs := [18]) (by kernel_rfl) (by simp) ?_
    refine AllReadyH.cons (o := ⟨some 42, .call ⟨.value (.func 15), #[.tmp 41], #[43]⟩, _, _, _, _⟩) rfl (fun K hK => ?_) AllReadyH.nil
    go_simp
    refine (nempty_any a _ (HS4.out.later hHeld).oa).mono ?_
    rintro _ w9 ⟨rfl, b9⟩
    have hH := hHeld.trans (b9.mono hHeld.size)
    try go_wp2_with fail
    refine hK.out _ _ hH (fun hHeld => ?_)
    clear hK K
    try simp only [Act.put, List.setIfInBounds_toArray, List.set_cons_zero, List.set_cons_succ]
    clear b9
    refine wpAnyH_ready (rs := [20]) (by kernel_rfl) (by simp) ?_
    refine AllReadyH.cons (o := ⟨some 44, .call ⟨.value (.func 16), #[.tmp 43], #[43]⟩, _, _, _, _⟩) rfl (fun K hK => ?_) AllReadyH.nil
    go_simp
    refine (rempty_any a _ (HS4.out.later hHeld).oa).mono ?_
    rintro _ w9 ⟨rfl, b9⟩
    have hH := hHeld.trans (b9.mono hHeld.size)
    try go_wp2_with fail
    refine hK.out _ _ hH (fun hHeld => ?_)
    clear hK K
    try simp only [Act.put, List.setIfInBounds_toArray, List.set_cons_zero, List.set_cons_succ]
    clear b9
    refine wpAnyH_take (i := 21) (oi := ⟨some 45, .binOp .neq 4 (.tmp 42) (.tmp 44) 4, _, _, _, _⟩) (v := ?_) rfl (by kernel_rfl) (by kernel_rfl) (by kernel_rfl) (fun _ _ _ h => h) (Or.inl ⟨by rfl, ?_⟩) (by assumption) ?_
    rotate_left
    · intro w' hSw
      refine Eq.trans (b := Result.ok (Next.value (.bool false)) w') ?_ ?_
      · go_simp
        try simp
      · with_reducible rfl
    try simp only [Act.put, List.setIfInBounds_toArray, List.set_cons_zero, List.set_cons_succ]
    refine wpAnyH_take (i := 22) (oi := ⟨some 46, .pick (.tmp 40) (.const (.bool true)) (.tmp 45), _, _, _, _⟩) (v := ?_) rfl (by kernel_rfl) (by kernel_rfl) (by kernel_rfl) (fun _ _ _ h => h) (Or.inl ⟨by rfl, ?_⟩) (by assumption) ?_
    rotate_left
    · intro w' hSw
      go_simp
      try with_reducible rfl
    try simp only [Act.put, List.setIfInBounds_toArray, List.set_cons_zero, List.set_cons_succ]
    refine wpAnyH_done (by kernel_rfl) ?_ _
    go_wp2_with fail
    go_meet
    exact ⟨rfl, hHeld⟩
  case rest =>
  obtain ⟨rfl, hbx⟩ := hcut
  have HS5 := Lib.hid (HS4.out.later hbx)
  have HU5 := Lib.hid (HU4.out.on hbx)
  clear hbx HS4 HU4
  clear w4
  generalize wc = w5 at *
  obtain ⟨t0, t1, t2⟩ := HS5.out.nd.cells
  have HSAY := Lib.hid (Say_any kind HKN.out p n c q m f E K d w5 HS5.out.en HS5.out.ki)
  have HRG := Lib.hid (fun w' (h : Below w5.heap.size w5 w') => rright_any kind p n c q m f E K d w' (HS5.out.en.later h) (HS5.out.ki.later h))
  have HRS := Lib.hid (fun w' (h : Below w5.heap.size w5 w') (hr : (pnOf kind E K).right d = true) => rsay_any kind HKN.out p n c q m f E K d w' (HS5.out.en.later h) (HS5.out.ki.later h) hr HF.out)
  generalize hN : pnOf kind E K = N at *
  clear hN
  by_cases hr : N.right d = true
  case neg =>
    have hrf : N.right d = false := by simpa using hr
    have HR := Lib.hid hrf
    clear hr hrf
    go_upto_region 8 with (first
      | (go_at_call 17; refine HSAY.out.mono ?_; rintro e w6 ⟨b6, h6⟩; obtain rfl := ((h6.resolve_left (fun h => by have := h.1.1; rw [HR.out] at this; cases this)).2); have HB6 := Lib.hid b6; clear b6 h6)
      | (refine wpList_store_row (by rfl) 43 (.tmp 9) (.tmp 51) (by rfl) w6.heap.size kd0.cells.toArray (by rfl) (by rfl) _ _ (heap_alloc_new w6 _) (by rw [List.size_toArray, kd0_size]; exact SKd) rfl (all_oneCell_toArray Kd.one) ?_; rw [setRow_alloc]))
    have hba : Below w6.heap.size w6 (w6.alloc (.cells kd0.cells.toArray 43)) := (Below.refl _ _).alloc (Nat.le_refl _) _
    have rk := heap_alloc_new w6 (.cells kd0.cells.toArray 43)
    have HB7 := Lib.hid (HB6.out.trans (hba.mono HB6.out.size))
    generalize w6.alloc (.cells kd0.cells.toArray 43) = w7 at *
    generalize w6.heap.size = gk at *
    clear hba HB6 t0 t1 t2
    have RK := Lib.hid rk
    have HS7 := Lib.hid (HS5.out.later HB7.out)
    clear rk
    obtain ⟨t0, t1, t2⟩ := HS7.out.nd.cells
    go_wp2_with fail
    refine (HRG.out w7 HB7.out).mono ?_
    rintro _ w8 ⟨rfl, b8⟩
    rw [HR.out]
    have RK8 := Lib.hid ((b8.block _ (Array.getElem?_eq_some_iff.1 RK.out).1).trans RK.out)
    have HB8 := Lib.hid (HB7.out.trans (b8.mono HB7.out.size))
    clear b8 RK HB7 t0 t1 t2 HS7
    have HRK := Lib.hid (range_kd RK8.out)
    go_wp2_with (first
      | (refine wpList_load_midG (by rfl) 43 (.tmp 9) (by rfl) gk 0 (by rfl) kd0.cells du HRK.out HDU.out HDR.out (by rw [kd0_size]; exact SKd) ?_)
      | (go_at_call 15; refine (nempty_any kd0 w8 (kd0_ok w8)).mono ?_; rintro _ w9 ⟨rfl, b9⟩; rw [show decide (kd0.pk = PK.none) = true from decide_eq_true kd0_pk]; have HB9 := Lib.hid (HB8.out.trans (b9.mono HB8.out.size)); clear b9))
    go_ret
    rw [HGN.out]
    first | exact ⟨rfl, (HU5.out.on HB9.out).1⟩ | exact ⟨rfl, (HU5.out.on HB9.out).1.drew⟩
  have HR := Lib.hid hr
  clear hr
  by_cases hsz : N.size ≤ 1048576
  · have HSZ := Lib.hid hsz
    clear hsz
    go_upto_region 8 with (first
      | (go_at_call 17; refine HSAY.out.mono ?_; rintro e w6 ⟨b6, h6⟩; obtain ⟨kd, rfl, hpk, hok, -⟩ := ((h6.resolve_right (fun h => absurd ⟨HR.out, HSZ.out⟩ h.1)).2); have HPK := Lib.hid hpk; have HOK6 := Lib.hid hok; have HCL := Lib.hid (Kd.cells_length hok.len); clear hpk hok; have HB6 := Lib.hid b6; clear b6 h6)
      | (refine wpList_store_row (by rfl) 43 (.tmp 9) (.tmp 51) (by rfl) w6.heap.size kd.cells.toArray (by rfl) (by rfl) _ _ (heap_alloc_new w6 _) (by rw [List.size_toArray, HCL.out]; exact SKd) (by simp only [List.size_toArray, HCL.out, kd0_size]) (all_oneCell_toArray Kd.one) ?_; rw [setRow_alloc]))
    have hba : Below w6.heap.size w6 (w6.alloc (.cells kd.cells.toArray 43)) := (Below.refl _ _).alloc (Nat.le_refl _) _
    have rk := heap_alloc_new w6 (.cells kd.cells.toArray 43)
    have HOK7 := Lib.hid (HOK6.out.later hba)
    have HB7 := Lib.hid (HB6.out.trans (hba.mono HB6.out.size))
    generalize w6.alloc (.cells kd.cells.toArray 43) = w7 at *
    generalize w6.heap.size = gk at *
    clear hba HB6 HOK6 t0 t1 t2
    clear w6
    have RK := Lib.hid rk
    have HS7 := Lib.hid (HS5.out.later HB7.out)
    clear rk
    obtain ⟨t0, t1, t2⟩ := HS7.out.nd.cells
    go_wp2_with fail
    refine (HRG.out w7 HB7.out).mono ?_
    rintro _ w8 ⟨rfl, b8⟩
    rw [HR.out]
    have RK8 := Lib.hid ((b8.block _ (Array.getElem?_eq_some_iff.1 RK.out).1).trans RK.out)
    have HB8 := Lib.hid (HB7.out.trans (b8.mono HB7.out.size))
    have HOK8 := Lib.hid (HOK7.out.later b8)
    clear b8 RK HB7 HOK7 t0 t1 t2 HS7
    clear w7
    have HS8 := Lib.hid (HS5.out.later HB8.out)
    obtain ⟨t0, t1, t2⟩ := HS8.out.nd.cells
    have HRY := Lib.hid (HRS.out w8 HB8.out HR.out)
    go_upto_region 11 with (first
      | (go_at_call 19; refine HRY.out.mono ?_; rintro e w9 ⟨b9, h9⟩; obtain ⟨ke, rfl, hpe, hoe⟩ := ((h9.resolve_right (fun h => absurd HSZ.out h.1)).2); have HEQ := Lib.hid (HPK.out.trans hpe.symm); have HOE9 := Lib.hid hoe; have HCE := Lib.hid (Kd.cells_length hoe.len); clear hpe hoe; have RK9 := Lib.hid ((b9.block _ (Array.getElem?_eq_some_iff.1 RK8.out).1).trans RK8.out); have HOK9 := Lib.hid (HOK8.out.later b9); have HB9 := Lib.hid (HB8.out.trans (b9.mono HB8.out.size)); clear b9 h9)
      | (refine wpList_store_row (by rfl) 43 (.tmp 11) (.tmp 66) (by rfl) w9.heap.size ke.cells.toArray (by rfl) (by rfl) _ _ (heap_alloc_new w9 _) (by rw [List.size_toArray, HCE.out]; exact SKd) (by simp only [List.size_toArray, HCE.out, kd0_size]) (all_oneCell_toArray Kd.one) ?_; rw [setRow_alloc]))
    have hba : Below w9.heap.size w9 (w9.alloc (.cells ke.cells.toArray 43)) := (Below.refl _ _).alloc (Nat.le_refl _) _
    have HRE := Lib.hid (range_kd (heap_alloc_new w9 (.cells ke.cells.toArray 43)))
    have HRK := Lib.hid (range_kd ((hba.block _ (Array.getElem?_eq_some_iff.1 RK9.out).1).trans RK9.out))
    have HOKX := Lib.hid (HOK9.out.later hba)
    have HOEX := Lib.hid (HOE9.out.later hba)
    have HBX := Lib.hid (HB9.out.trans (hba.mono HB9.out.size))
    clear hba HB9 HOK9 HOE9 RK9 HB8 HOK8 RK8 HS8 HRY t0 t1 t2
    generalize w9.alloc (.cells ke.cells.toArray 43) = wx at *
    generalize w9.heap.size = ge at *
    clear w9
    go_wp2_with (first
      | (refine wpList_load_mid (by rfl) 43 (.tmp 9) (by rfl) gk 0 (by rfl) kd.cells du HRK.out HDU.out HDR.out (by rw [HCL.out]; exact SKd) ?_)
      | (refine wpList_load_mid (by rfl) 43 (.tmp 11) (by rfl) ge 0 (by rfl) ke.cells du HRE.out HDU.out HDR.out (by rw [HCE.out]; exact SKd) ?_)
      | (go_at_call 14; refine (rsame_any kd ke wx HOKX.out HOEX.out).mono ?_; rintro _ wz ⟨rfl, bz⟩; rw [show decide (kd.pk = ke.pk) = true from decide_eq_true HEQ.out]; have HBZ := Lib.hid (HBX.out.trans (bz.mono HBX.out.size)); clear bz))
    go_ret
    rw [HGN.out]
    first | exact ⟨rfl, (HU5.out.on HBZ.out).1⟩ | exact ⟨rfl, (HU5.out.on HBZ.out).1.drew⟩
  · have HSZ := Lib.hid hsz
    clear hsz
    go_upto_region 8 with (first
      | (go_at_call 17; refine HSAY.out.mono ?_; rintro e w6 ⟨b6, h6⟩; obtain rfl := ((h6.resolve_left (fun h => by have h1 := h.1.2; have h2 := HSZ.out; omega)).2); have HOK6 := Lib.hid (kd0_ok w6); have HCL := Lib.hid kd0_size; have HB6 := Lib.hid b6; clear b6 h6)
      | (refine wpList_store_row (by rfl) 43 (.tmp 9) (.tmp 51) (by rfl) w6.heap.size kd0.cells.toArray (by rfl) (by rfl) _ _ (heap_alloc_new w6 _) (by rw [List.size_toArray, HCL.out]; exact SKd) (by simp only [List.size_toArray, HCL.out]) (all_oneCell_toArray Kd.one) ?_; rw [setRow_alloc]))
    have hba : Below w6.heap.size w6 (w6.alloc (.cells kd0.cells.toArray 43)) := (Below.refl _ _).alloc (Nat.le_refl _) _
    have rk := heap_alloc_new w6 (.cells kd0.cells.toArray 43)
    have HOK7 := Lib.hid (HOK6.out.later hba)
    have HB7 := Lib.hid (HB6.out.trans (hba.mono HB6.out.size))
    generalize w6.alloc (.cells kd0.cells.toArray 43) = w7 at *
    generalize w6.heap.size = gk at *
    clear hba HB6 HOK6 t0 t1 t2
    clear w6
    have RK := Lib.hid rk
    have HS7 := Lib.hid (HS5.out.later HB7.out)
    clear rk
    obtain ⟨t0, t1, t2⟩ := HS7.out.nd.cells
    go_wp2_with fail
    refine (HRG.out w7 HB7.out).mono ?_
    rintro _ w8 ⟨rfl, b8⟩
    rw [HR.out]
    have RK8 := Lib.hid ((b8.block _ (Array.getElem?_eq_some_iff.1 RK.out).1).trans RK.out)
    have HB8 := Lib.hid (HB7.out.trans (b8.mono HB7.out.size))
    have HOK8 := Lib.hid (HOK7.out.later b8)
    clear b8 RK HB7 HOK7 t0 t1 t2 HS7
    clear w7
    have HS8 := Lib.hid (HS5.out.later HB8.out)
    obtain ⟨t0, t1, t2⟩ := HS8.out.nd.cells
    have HRY := Lib.hid (HRS.out w8 HB8.out HR.out)
    go_upto_region 11 with (first
      | (go_at_call 19; refine HRY.out.mono ?_; rintro e w9 ⟨b9, h9⟩; obtain rfl := ((h9.resolve_left (fun h => by have h1 := h.1; have h2 := HSZ.out; omega)).2); have HOE9 := Lib.hid (kd0_ok w9); have HCE := Lib.hid kd0_size; have RK9 := Lib.hid ((b9.block _ (Array.getElem?_eq_some_iff.1 RK8.out).1).trans RK8.out); have HOK9 := Lib.hid (HOK8.out.later b9); have HB9 := Lib.hid (HB8.out.trans (b9.mono HB8.out.size)); clear b9 h9)
      | (refine wpList_store_row (by rfl) 43 (.tmp 11) (.tmp 66) (by rfl) w9.heap.size kd0.cells.toArray (by rfl) (by rfl) _ _ (heap_alloc_new w9 _) (by rw [List.size_toArray, HCE.out]; exact SKd) (by simp only [List.size_toArray, HCE.out]) (all_oneCell_toArray Kd.one) ?_; rw [setRow_alloc]))
    have hba : Below w9.heap.size w9 (w9.alloc (.cells kd0.cells.toArray 43)) := (Below.refl _ _).alloc (Nat.le_refl _) _
    have HRE := Lib.hid (range_kd (heap_alloc_new w9 (.cells kd0.cells.toArray 43)))
    have HRK := Lib.hid (range_kd ((hba.block _ (Array.getElem?_eq_some_iff.1 RK9.out).1).trans RK9.out))
    have HOKX := Lib.hid (HOK9.out.later hba)
    have HOEX := Lib.hid (HOE9.out.later hba)
    have HBX := Lib.hid (HB9.out.trans (hba.mono HB9.out.size))
    clear hba HB9 HOK9 HOE9 RK9 HB8 HOK8 RK8 HS8 HRY t0 t1 t2
    generalize w9.alloc (.cells kd0.cells.toArray 43) = wx at *
    generalize w9.heap.size = ge at *
    clear w9
    go_wp2_with (first
      | (refine wpList_load_mid (by rfl) 43 (.tmp 9) (by rfl) gk 0 (by rfl) kd0.cells du HRK.out HDU.out HDR.out (by rw [HCL.out]; exact SKd) ?_)
      | (refine wpList_load_mid (by rfl) 43 (.tmp 11) (by rfl) ge 0 (by rfl) kd0.cells du HRE.out HDU.out HDR.out (by rw [HCE.out]; exact SKd) ?_)
      | (go_at_call 14; refine (rsame_any kd0 kd0 wx HOKX.out HOEX.out).mono ?_; rintro _ wz ⟨rfl, bz⟩; rw [show decide (kd0.pk = kd0.pk) = true from decide_eq_true rfl]; have HBZ := Lib.hid (HBX.out.trans (bz.mono HBX.out.size)); clear bz))
    go_ret
    rw [HGN.out]
    first | exact ⟨rfl, (HU5.out.on HBZ.out).1⟩ | exact ⟨rfl, (HU5.out.on HBZ.out).1.drew⟩
end Go.Proofs.YtfkpgildeddhaaaGreat.Nd

/- Proved: whatever node, number and two kids it is handed, the Go function indenturelaw10.NodeSays returns true (what any node says, and which kids may be, are the empty tree, and the same, is the document's), and each argument reads afterwards as it read before. Conditions: none beyond the given row's own. -/
namespace Go.Proofs.YtfkpgildeddhaaaGreat
open Go.ChangeShapes Go.WideShapes Go.ChangeAt Go.RowKit Go.Deep

set_option maxRecDepth 100000 in
theorem ndsays_lifted (os : Os) (started : os.Started) (H : Type) (enc : TypeId × Value → H) :
    ReturnsInHanded {} Tryz.checked os 4 .any (Rows.nodeSaysSpec.pre6 enc Tryz.prog Tryz.f4 Rows.nodeSaysRow.domain false) (Rows.nodeSaysSpec.post enc Tryz.prog Tryz.f4 false true false false) := by
  refine returnsInHanded_of_change (C := Tryz.checked) gen_own started (by kernel_rfl) Tryz.func4
    (ChangeSpec.witness6 (enc := enc) (C := Tryz.checked) false ⟨#[], #[.agg #[.int .u8 0, .slice none 0 0, .slice none 0 0], .int .i64 0, .agg (u8s (zeros 32) ++ #[.slice none 0 0, .slice none 0 0, .int .i64 0, .int .i64 0, .slice none 0 0]), .agg (u8s (zeros 32) ++ #[.slice none 0 0, .slice none 0 0, .int .i64 0, .int .i64 0, .slice none 0 0])], []⟩ 8 (by kernel_rfl) (by kernel_rfl) (by kernel_rfl) (by kernel_rfl)) ?_
  intro W base args ds gs before hval0 hW _ _
  have hval : ∀ (j : Nat) t v, Tryz.f4.params[j]? = some t → args[j]? = some v → Value.okWide Tryz.prog W .any base t v := hval0
  have hW' := hW
  obtain ⟨p, q, hA0, hV, rfl, _, _⟩ := hW
  have hA : DataW.TrodAll enc Tryz.prog W 0 (fun _ => true) true Tryz.f4.params.toList args.toList ds p := hA0
  rw [Tryz.params4] at hA hval
  obtain ⟨v0, vs0, d0, ds0, p0, q0, hargs, rfl, rfl, h0, r0⟩ := trodAll_cons hA
  obtain ⟨v1, vs1, d1, ds1, p1, q1, rfl, rfl, rfl, h1, r1⟩ := trodAll_cons r0
  obtain ⟨v2, vs2, d2, ds2, p2, q2, rfl, rfl, rfl, h2, r2⟩ := trodAll_cons r1
  obtain ⟨v3, vs3, d3, ds3, p3, q3, rfl, rfl, rfl, h3, r3⟩ := trodAll_cons r2
  obtain ⟨rfl, rfl, rfl⟩ := trodAll_nil r3
  obtain rfl : args = #[v0, v1, v2, v3] := by cases args; simp_all
  obtain ⟨rfl, rfl⟩ := trodVars_none hV
  obtain ⟨kd0, a0, len0, cap0, b0, ben0, bap0, E0, K0, rfl, hkd0, hE0, hK0⟩ := Nd.open_node (hval 0 27 v0 rfl rfl) h0
  obtain ⟨n1, rfl, rfl, rfl, hn1⟩ := open_int Tryz.underlying3 (hval 1 3 v1 rfl rfl) h1
  obtain ⟨x2, rfl, hX2⟩ := Nd.open_kid (hval 2 43 v2 rfl rfl) h2
  obtain ⟨x3, rfl, hX3⟩ := Nd.open_kid (hval 3 43 v3 rfl rfl) h3
  have k0 := h0
  have k1 := h1
  have k2 := h2
  have k3 := h3
  have lt0 : ∀ x ∈ p0, x.block < W.heap.size := by obtain ⟨m, hm⟩ := k0; exact DataW.trod_lt m _ _ _ hm
  have lt2 : ∀ x ∈ p2, x.block < W.heap.size := by obtain ⟨m, hm⟩ := k2; exact DataW.trod_lt m _ _ _ hm
  have lt3 : ∀ x ∈ p3, x.block < W.heap.size := by obtain ⟨m, hm⟩ := k3; exact DataW.trod_lt m _ _ _ hm
  have bn1 := bounds_i64 hn1
  clear hA0 hval0
  refine (Nd.says_any kd0 hkd0 a0 len0 cap0 b0 ben0 bap0 E0 K0 n1 bn1 x2 x3 W hE0 hK0 hX2 hX3).mono fun e W' ⟨he, bel⟩ => ?_
  subst he
  exact ⟨_, rfl, _, _, _, [], _, [], hW', trodAll_mk1 (shut_bool Tryz.underlying4 _),
    (trodAll_cons_mk (Below.trod gen_laidOut (by kernel_rfl) (of_decide_eq_true (by kernel_rfl)) k0 bel lt0) (trodAll_cons_mk (Below.trod gen_laidOut (by kernel_rfl) (of_decide_eq_true (by kernel_rfl)) k1 bel (fun x hx => by cases hx)) (trodAll_cons_mk (Below.trod gen_laidOut (by kernel_rfl) (of_decide_eq_true (by kernel_rfl)) k2 bel lt2) (trodAll_cons_mk (Below.trod gen_laidOut (by kernel_rfl) (of_decide_eq_true (by kernel_rfl)) k3 bel lt3) trodAll_mk0)))), rfl, bel.frame _, fun h => by cases h⟩
theorem ndsays_holds : Rows.NodeSaysSaid :=
  OpenClaim.holds_of_wide 4 Tryz.f4 rfl rfl rfl rfl rfl rfl rfl ⟨rfl, rfl, rfl, rfl, rfl⟩ rfl rfl rfl rfl rfl (by kernel_rfl) Tryz.func4 (by kernel_rfl)
    (of_decide_eq_true (by kernel_rfl)) (by unfold Func.isWrapper; first | (rw [if_pos (by decide +kernel)]; kernel_rfl) | (rw [if_neg (by decide +kernel)]; exact ⟨rfl, rfl⟩))
    (fun os started H enc _ => ndsays_lifted os started H enc)
end Go.Proofs.YtfkpgildeddhaaaGreat
