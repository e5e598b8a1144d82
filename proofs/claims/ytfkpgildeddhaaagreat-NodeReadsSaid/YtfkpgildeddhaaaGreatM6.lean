/- NlTally, ShaMath, ShaPreMath, ShaSumOk, PgMath, NdSays, PgPre, ShaRot, ShaTurn, ShaSched, ShaKs. -/
import Derived.Test.YtfkpgildeddhaaaGreatM5
import Derived.BigRegion
import Derived.Deep.AppendLies
import Derived.Laws.AppendOwnNone
import Derived.Test.YtfkpgildeddhaaaGreatProg
import Derived.WalkKit
import Derived.WalkSpells
import Derived.WalkLawsBesides
import Derived.BigQuiet
import Derived.Deep.QuietTactic
import Derived.Lib.Hide
import Derived.StillTailTactics
import Derived.Deep.WholeRow
import Derived.Deep.MidRow
/- node.tally. -/
namespace Go.Proofs.YtfkpgildeddhaaaGreat.Nd
open Go.RowKit Go.Proofs.YtfkpgildeddhaaaGreat.Dk

/-- The rows are the call's own. -/
def Fsh (w : World) (kd : Kd) : Prop := ∀ r ∈ kd.rows, ∀ x, r.p = some x → r.R ≠ [] → w.heap.size ≤ x.block
theorem Fsh.start {w : World} {x : Int} {r : Rw} {B : Nat} {w' : World} (h : FrRw w' B r) (hB : w.heap.size ≤ B) : Fsh w ⟨zeros 32, ⟨none, 0, 0, []⟩, ⟨none, 0, 0, []⟩, 0, x, r⟩ := fun r' hr' y hy hR => by
  simp only [Kd.rows, List.mem_cons, List.not_mem_nil, or_false] at hr'
  rcases hr' with rfl | rfl | rfl
  · exact absurd rfl hR
  · exact absurd rfl hR
  · exact Nat.le_trans hB (h.lo y hy hR)
theorem Fsh.box {w w' : World} {kd : Kd} {l z : Int} {r1 r2 : Rw} {B : Nat} (h : Fsh w kd) (h1 : FrRw w' B r1) (h2 : FrRw w' B r2) (hB : w.heap.size ≤ B) : Fsh w { kd with live := l, size := z, lo := r1, hi := r2 } := fun r' hr' y hy hR => by
  simp only [Kd.rows, List.mem_cons, List.not_mem_nil, or_false] at hr'
  rcases hr' with rfl | rfl | rfl
  · exact Nat.le_trans hB (h1.lo y hy hR)
  · exact Nat.le_trans hB (h2.lo y hy hR)
  · exact h _ (by simp [Kd.rows]) y hy hR
def Ta1 (w : World) (gn kind : Nat) (p : Option Addr) (n c : Nat) (q : Option Addr) (m f gr gx : Nat) (L : List PE) (KR : List Int) (i : Value) (wr : World) : Prop :=
  ∃ (k : Nat) (kd : Kd), k ≤ n ∧ i = .int .i64 k ∧ TaSt w wr gn kind p n c q m f gr gx kd ∧ kd.pk = ⟨zeros 32, (boxR (L.take k)).1, (boxR (L.take k)).2, liveR (L.take k), n, KR⟩ ∧ Fsh w kd
def Ta2 (w : World) (gn kind : Nat) (p : Option Addr) (n c : Nat) (q : Option Addr) (m f gr gx : Nat) (b : List Int × List Int) (lv : Int) (L : List PK) (KR : List Int) (i : Value) (wr : World) : Prop :=
  ∃ (k : Nat) (kd : Kd), k ≤ m ∧ i = .int .i64 k ∧ TaSt w wr gn kind p n c q m f gr gx kd ∧ kd.pk = ⟨zeros 32, ((L.take k).foldl boxK b).1, ((L.take k).foldl boxK b).2, lv + ((L.take k).map PK.live).sum, n + ((L.take k).map PK.size).sum, KR⟩ ∧ Fsh w kd
def TallyPost (w : World) (T : PK) (e : Ending) (w' : World) : Prop := ∃ kd : Kd, e = .returned (.agg kd.cells.toArray) ∧ kd.pk = T ∧ kd.Ok w' ∧ Fsh w kd ∧ Below w.heap.size w w'
theorem part_self {R : List Int} {n : Nat} (h : n = R.length) : part (fun k => R.getD k 0) n n = R := by
  subst h
  apply List.ext_getElem
  · simp [part]
  · intro i h1 h2
    simp [part, List.getD_eq_getElem?_getD, h2]
theorem In64.nat {x : Nat} (h : x ≤ 9223372036854775807) : In64 (x : Int) := ⟨by omega, by omega⟩
set_option maxRecDepth 100000 in
set_option maxHeartbeats 4000000 in
theorem tally_any (kind : Nat) (p : Option Addr) (n c : Nat) (q : Option Addr) (m f : Nat) (E : List En) (K : List Kd) (d : Int) (w : World) (hE : EntsIn w p n c E) (hK : KidsIn w q m f K) (hr : (pnOf kind E K).right d = true) :
    Calls Tryz.prog 68 #[.agg #[.int .u8 kind, .slice p n c, .slice q m f]] w (TallyPost w (pnOf kind E K).tally) := by
  have hb1 : Below w.heap.size w (w.alloc (.cells #[.int .u8 kind, .slice p n c, .slice q m f] 27)) := (Below.refl _ _).alloc (Nat.le_refl _) _
  have hn1 := NodeAt.start w kind p n c q m f
  have z1 : (w.alloc (.cells #[.int .u8 kind, .slice p n c, .slice q m f] 27)).heap.size = w.heap.size + 1 := by simp
  have hft := PN.fit hr
  obtain ⟨hd, hrow, hkid, -⟩ := PN.kinds hr
  have hn4 : n ≤ 4 := by have := hft.rows; simp only [pnOf, List.length_map] at this; rw [hE.size]; exact this
  have hm4 : m ≤ 4 := by have := hft.kids; simp only [pnOf, List.length_map] at this; rw [hK.size]; exact this
  have HROW := Lib.hid (show ∀ e ∈ E, (e.row.R.length : Int) = d from fun e he => hrow _ (List.mem_map.2 ⟨e, he, rfl⟩))
  have HKID := Lib.hid (show ∀ k ∈ K, (0 ≤ k.live ∧ k.live ≤ 1048576) ∧ (0 ≤ k.size ∧ k.size ≤ 1048576) from fun k hk => by
    have h := right_kid (hkid _ (List.mem_map.2 ⟨k, hk, rfl⟩))
    exact ⟨h.1, h.2.1⟩)
  have HKEY := Lib.hid (fun w1 (h : Below w.heap.size w w1) => key_any kind p n c q m f E K d w1 (hE.later h) (hK.later h) hr)
  have htl : (pnOf kind E K).tally = ⟨zeros 32, ((K.map Kd.pk).foldl boxK (boxR (E.map En.pe))).1, ((K.map Kd.pk).foldl boxK (boxR (E.map En.pe))).2, liveR (E.map En.pe) + ((K.map Kd.pk).map PK.live).sum, n + ((K.map Kd.pk).map PK.size).sum, (pnOf kind E K).keyOf⟩ := by
    unfold PN.tally PN.box PN.live PN.size pnOf
    simp only [List.length_map]
    rw [← hE.size]
  obtain ⟨T, hT⟩ : ∃ T, (pnOf kind E K).tally = T := ⟨_, rfl⟩
  rw [hT] at htl ⊢
  generalize (pnOf kind E K).keyOf = KR at *
  have HTL := Lib.hid htl
  have HD := Lib.hid hd
  have HN4 := Lib.hid hn4
  have HM4 := Lib.hid hm4
  have HE := Lib.hid hE
  have HK := Lib.hid hK
  have HES := Lib.hid hE.size
  have HKS := Lib.hid hK.size
  obtain ⟨du, hdu, hdr⟩ := UKd
  have HDU := Lib.hid hdu
  have HDR := Lib.hid hdr
  have HZ := Lib.hid (zero_of_info kz)
  clear hE hK hr hft hrow hkid htl hT hd hn4 hm4 hdu hdr
  have hz0 := HZ.out.1
  go_enter Tryz.func68, Tryz.ntmps68
  go_upto_region 1 with fail
  have hb2 : Below (w.heap.size + 1) (w.alloc (.cells #[.int .u8 kind, .slice p n c, .slice q m f] 27)) ((w.alloc (.cells #[.int .u8 kind, .slice p n c, .slice q m f] 27)).alloc (.cells kd0.cells.toArray 43)) := (Below.refl _ _).alloc (by omega) _
  have r2 := heap_alloc_new (w.alloc (.cells #[.int .u8 kind, .slice p n c, .slice q m f] 27)) (.cells kd0.cells.toArray 43)
  rw [z1] at r2
  have z2 : ((w.alloc (.cells #[.int .u8 kind, .slice p n c, .slice q m f] 27)).alloc (.cells kd0.cells.toArray 43)).heap.size = w.heap.size + 2 := by simp
  have HN2 := Lib.hid (hn1.later (by rw [z1]; exact hb2))
  have HB2 := Lib.hid (hb1.trans (hb2.mono (by omega)))
  have HR2 := Lib.hid r2
  have HZ2 := Lib.hid z2
  clear hb1 hn1 z1 hb2 r2 z2
  generalize (w.alloc (.cells #[.int .u8 kind, .slice p n c, .slice q m f] 27)).alloc (.cells kd0.cells.toArray 43) = w2 at *
  go_cut [3] (fun v3 wx => ∃ (gx : Nat) (r5 : Rw), v3 = .pointer (some ⟨gx, 0, none⟩) ∧ r5.R = KR ∧ TaSt w wx w.heap.size kind p n c q m f (w.heap.size + 1) gx ⟨zeros 32, ⟨none, 0, 0, []⟩, ⟨none, 0, 0, []⟩, 0, n, r5⟩ ∧ Fsh w ⟨zeros 32, ⟨none, 0, 0, []⟩, ⟨none, 0, 0, []⟩, 0, n, r5⟩)
  case first =>
    refine wp_region_held_drew (S := fun w' => NodeAt w' w.heap.size kind p n c q m f) (by kernel_rfl) (HN2.out.later (Below.refl _ _).drew) (fun hHeld => ?_)
    refine wpAnyH_take (i := 0) (oi := ⟨some 8, .fieldAddr 27 (.tmp 1) 1, _, _, _, _⟩) (v := ?_) rfl (by kernel_rfl) (by kernel_rfl) (by kernel_rfl) (fun _ _ _ h => h) (Or.inl ⟨by rfl, ?_⟩) (by assumption) ?_
    rotate_left
    · intro w' hSw
      go_simp
      try with_reducible rfl
    try simp only [Act.put, List.setIfInBounds_toArray, List.set_cons_zero, List.set_cons_succ]
    refine wpAnyH_take (i := 1) (oi := ⟨some 9, .load 24 (.tmp 8), _, _, _, _⟩) (v := ?_) rfl (by kernel_rfl) (by kernel_rfl) (by kernel_rfl) (fun _ _ _ h => h) (Or.inl ⟨by rfl, ?_⟩) (by assumption) ?_
    rotate_left
    · intro w' hSw
      obtain ⟨t0, t1, t2⟩ := hSw.cells
      go_simp
      try with_reducible rfl
    try simp only [Act.put, List.setIfInBounds_toArray, List.set_cons_zero, List.set_cons_succ]
    refine wpAnyH_take (i := 2) (oi := ⟨some 10, .call ⟨.builtin .len, #[.tmp 9], #[24]⟩, _, _, _, _⟩) (v := ?_) rfl (by kernel_rfl) (by kernel_rfl) (by kernel_rfl) (fun _ _ _ h => h) (Or.inl ⟨by rfl, ?_⟩) (by assumption) ?_
    rotate_left
    · intro w' hSw
      go_simp
      try with_reducible rfl
    try simp only [Act.put, List.setIfInBounds_toArray, List.set_cons_zero, List.set_cons_succ]
    refine wpAnyH_take (i := 3) (oi := ⟨some 11, .load 27 (.tmp 1), _, _, _, _⟩) (v := ?_) rfl (by kernel_rfl) (by kernel_rfl) (by kernel_rfl) (fun _ _ _ h => h) (Or.inl ⟨by rfl, ?_⟩) (by assumption) ?_
    rotate_left
    · intro w' hSw
      obtain ⟨t0, t1, t2⟩ := hSw.cells
      go_simp
      try with_reducible rfl
    try simp only [Act.put, List.setIfInBounds_toArray, List.set_cons_zero, List.set_cons_succ]
    refine wpAnyH_ready (rs := [4, 6]) (by kernel_rfl) (by simp) ?_
    refine AllReadyH.cons (o := ⟨some 12, .call ⟨.value (.func 84), #[.tmp 11], #[27]⟩, _, _, _, _⟩) rfl (fun K hK => ?_) (AllReadyH.cons (o := ⟨some 3, .alloc 43, _, _, _, _⟩) rfl (fun K hK => ?_) AllReadyH.nil)
    ·
      go_simp
      have hbw : Below w2.heap.size w2 w2.drew := (Below.refl _ _).drew
      refine (HKEY.out w2.drew (HB2.out.trans (hbw.mono HB2.out.size))).mono ?_
      rintro _ w5 ⟨r5, rfl, hr5, hf5, b5⟩
      have HR5 := Lib.hid hr5
      have HF5 := Lib.hid hf5
      have hb25 : Below w2.heap.size w2 w5 := hbw.trans (b5.mono hbw.size)
      have HB5 := Lib.hid hb25
      have HN5 := Lib.hid (HN2.out.later hb25)
      have HRS5 := Lib.hid ((hb25.block _ (Array.getElem?_eq_some_iff.1 HR2.out).1).trans HR2.out)
      clear hr5 hf5 b5 hb25 hbw
      unfold Rw.val
      try go_wp2_with fail
      refine hK.out _ _ HN5.out (fun hHeld => ?_)
      clear hK K
      try simp only [Act.put, List.setIfInBounds_toArray, List.set_cons_zero, List.set_cons_succ]
      refine wpAnyH_take (i := 5) (oi := ⟨some 13, .build 43 #[(3, (.tmp 10)), (4, (.tmp 12))], _, _, _, _⟩) (v := ?_) rfl (by kernel_rfl) (by kernel_rfl) (by kernel_rfl) (fun _ _ _ h => h) (Or.inl ⟨by rfl, ?_⟩) (by assumption) ?_
      rotate_left
      · intro w' hSw
        refine Eq.trans (b := Result.ok (Next.value (.agg (⟨zeros 32, ⟨none, 0, 0, []⟩, ⟨none, 0, 0, []⟩, 0, n, r5⟩ : Kd).cells.toArray)) w') ?_ ?_
        · apply op_buildN (t := 43) (parts := #[(3, .tmp 10), (4, .tmp 12)])
          · rfl
          · simp only [List.map_toArray, List.map_cons, List.map_nil]
            exact kd_built n r5.p r5.n r5.c r5.R
        · with_reducible rfl
      try simp only [Act.put, List.setIfInBounds_toArray, List.set_cons_zero, List.set_cons_succ]
      refine wpAnyH_ready (rs := [6]) (by kernel_rfl) (by simp) ?_
      refine AllReadyH.cons (o := ⟨some 3, .alloc 43, _, _, _, _⟩) rfl (fun K hK => ?_) AllReadyH.nil
      go_simp
      have hba : Below w5.heap.size w5 (w5.alloc (.cells kd0.cells.toArray 43)) := (Below.refl _ _).alloc (Nat.le_refl _) _
      have HNA := Lib.hid (HN5.out.later hba)
      have HRA := Lib.hid ((hba.block _ (Array.getElem?_eq_some_iff.1 HRS5.out).1).trans HRS5.out)
      have HXA := Lib.hid (heap_alloc_new w5 (.cells kd0.cells.toArray 43))
      have HBA := Lib.hid (HB5.out.trans (hba.mono HB5.out.size))
      have HFA := Lib.hid (HF5.out.later hba)
      clear hba
      try go_wp2_with fail
      refine hK.out _ _ HNA.out (fun hHeld => ?_)
      clear hK K
      try simp only [Act.put, List.setIfInBounds_toArray, List.set_cons_zero, List.set_cons_succ]
      refine wpAnyH_ready (rs := [7]) (by kernel_rfl) (by simp) ?_
      refine AllReadyH.cons (o := ⟨none, .store 43 (.tmp 3) (.tmp 13), _, _, _, _⟩) rfl (fun K hK => ?_) AllReadyH.nil
      refine wp_store_row 43 (.tmp 3) (.tmp 13) (by rfl) w5.heap.size (⟨zeros 32, ⟨none, 0, 0, []⟩, ⟨none, 0, 0, []⟩, 0, n, r5⟩ : Kd).cells.toArray (by rfl) (by rfl) _ _ HXA.out (by rw [List.size_toArray, kdN_len]; exact SKd) (by rw [List.size_toArray, List.size_toArray, kd0_size, kdN_len]) (all_oneCell_toArray Kd.one) ?_
      have HTS := Lib.hid (ta_start (w0 := w) (gr := w.heap.size + 1) (x := n) HNA.out HRA.out HXA.out ⟨HFA.out.ok, (fun x hx hR => by have := HF5.out.lt x hx hR; omega), HFA.out.away (by have := HZ2.out; have := HB5.out.size; simp; omega)⟩ (HB2.out.trans (HBA.out.mono HB2.out.size)) ⟨Nat.le_refl _, by omega, by have := HB2.out.size; have := HB5.out.size; omega⟩ ⟨by have := HZ2.out; have := HB5.out.size; omega, by have := HZ2.out; have := HB5.out.size; omega, by omega⟩ (In64.nat (by have := HN4.out; omega)))
      refine hK.out _ _ HTS.out.node (fun hHeld => ?_)
      clear hK K
      try simp only [Act.put]
      refine wpAnyH_done (by kernel_rfl) ?_ _
      go_wp2_with fail
      go_meet
      exact ⟨w5.heap.size, r5, rfl, HR5.out, HTS.out, Fsh.start HF5.out (by have := HB2.out.size; simp; omega)⟩
    ·
      go_simp
      have hba : Below w2.drew.heap.size w2.drew (w2.drew.alloc (.cells kd0.cells.toArray 43)) := (Below.refl _ _).alloc (Nat.le_refl _) _
      have HBA := Lib.hid (show Below w2.heap.size w2 (w2.drew.alloc (.cells kd0.cells.toArray 43)) from (Below.refl w2.heap.size w2).drew.trans hba)
      have HNA := Lib.hid (HN2.out.later HBA.out)
      have HXA := Lib.hid (show (w2.drew.alloc (.cells kd0.cells.toArray 43)).heap[w2.heap.size]? = some (.cells kd0.cells.toArray 43 (0, 0)) from heap_alloc_new w2.drew (.cells kd0.cells.toArray 43))
      clear hba
      try go_wp2_with fail
      refine hK.out _ _ HNA.out (fun hHeld => ?_)
      clear hK K
      try simp only [Act.put, List.setIfInBounds_toArray, List.set_cons_zero, List.set_cons_succ]
      refine wpAnyH_ready (rs := [4]) (by kernel_rfl) (by simp) ?_
      refine AllReadyH.cons (o := ⟨some 12, .call ⟨.value (.func 84), #[.tmp 11], #[27]⟩, _, _, _, _⟩) rfl (fun K hK => ?_) AllReadyH.nil
      go_simp
      have hbw : Below w2.heap.size w2 (w2.drew.alloc (.cells kd0.cells.toArray 43)) := HBA.out
      refine (HKEY.out (w2.drew.alloc (.cells kd0.cells.toArray 43)) (HB2.out.trans (hbw.mono HB2.out.size))).mono ?_
      rintro _ w5 ⟨r5, rfl, hr5, hf5, b5⟩
      have HR5 := Lib.hid hr5
      have HF5 := Lib.hid hf5
      have hb25 : Below w2.heap.size w2 w5 := hbw.trans (b5.mono hbw.size)
      have HB5 := Lib.hid hb25
      have HN5 := Lib.hid (HN2.out.later hb25)
      have HRS5 := Lib.hid ((hb25.block _ (Array.getElem?_eq_some_iff.1 HR2.out).1).trans HR2.out)
      have HX5 := Lib.hid ((b5.block _ (by simp)).trans HXA.out)
      clear hr5 hf5 b5 hb25 hbw
      unfold Rw.val
      try go_wp2_with fail
      refine hK.out _ _ HN5.out (fun hHeld => ?_)
      clear hK K
      try simp only [Act.put, List.setIfInBounds_toArray, List.set_cons_zero, List.set_cons_succ]
      refine wpAnyH_take (i := 5) (oi := ⟨some 13, .build 43 #[(3, (.tmp 10)), (4, (.tmp 12))], _, _, _, _⟩) (v := ?_) rfl (by kernel_rfl) (by kernel_rfl) (by kernel_rfl) (fun _ _ _ h => h) (Or.inl ⟨by rfl, ?_⟩) (by assumption) ?_
      rotate_left
      · intro w' hSw
        refine Eq.trans (b := Result.ok (Next.value (.agg (⟨zeros 32, ⟨none, 0, 0, []⟩, ⟨none, 0, 0, []⟩, 0, n, r5⟩ : Kd).cells.toArray)) w') ?_ ?_
        · apply op_buildN (t := 43) (parts := #[(3, .tmp 10), (4, .tmp 12)])
          · rfl
          · simp only [List.map_toArray, List.map_cons, List.map_nil]
            exact kd_built n r5.p r5.n r5.c r5.R
        · with_reducible rfl
      try simp only [Act.put, List.setIfInBounds_toArray, List.set_cons_zero, List.set_cons_succ]
      refine wpAnyH_ready (rs := [7]) (by kernel_rfl) (by simp) ?_
      refine AllReadyH.cons (o := ⟨none, .store 43 (.tmp 3) (.tmp 13), _, _, _, _⟩) rfl (fun K hK => ?_) AllReadyH.nil
      refine wp_store_row 43 (.tmp 3) (.tmp 13) (by rfl) w2.heap.size (⟨zeros 32, ⟨none, 0, 0, []⟩, ⟨none, 0, 0, []⟩, 0, n, r5⟩ : Kd).cells.toArray (by rfl) (by rfl) _ _ HX5.out (by rw [List.size_toArray, kdN_len]; exact SKd) (by rw [List.size_toArray, List.size_toArray, kd0_size, kdN_len]) (all_oneCell_toArray Kd.one) ?_
      have HTS := Lib.hid (ta_start (w0 := w) (gr := w.heap.size + 1) (x := n) HN5.out HRS5.out HX5.out ⟨HF5.out.ok, (HF5.out.away (by simp)), HF5.out.away (by have := HZ2.out; have := HB5.out.size; simp; omega)⟩ (HB2.out.trans (HB5.out.mono HB2.out.size)) ⟨Nat.le_refl _, by omega, by have := HB2.out.size; have := HB5.out.size; omega⟩ ⟨by have := HZ2.out; have := HB5.out.size; omega, by have := HZ2.out; have := HB5.out.size; omega, by omega⟩ (In64.nat (by have := HN4.out; omega)))
      refine hK.out _ _ HTS.out.node (fun hHeld => ?_)
      clear hK K
      try simp only [Act.put]
      refine wpAnyH_done (by kernel_rfl) ?_ _
      go_wp2_with fail
      go_meet
      exact ⟨w2.heap.size, r5, rfl, HR5.out, HTS.out, Fsh.start HF5.out (by have := HB2.out.size; simp; omega)⟩
  case rest =>
    obtain ⟨gx, r5, rfl, hr5, hst, hfs⟩ := hcut
    have HFS := Lib.hid hfs
    obtain ⟨wx, hwx⟩ : ∃ w3, w3 = wc := ⟨_, rfl⟩
    rw [← hwx] at hst ⊢
    clear hwx HR2 HB2 HN2 HZ2
    clear w2
    obtain ⟨t0, t1, t2⟩ := hst.node.cells
    have HST := Lib.hid hst
    have HPK0 := Lib.hid (show (⟨zeros 32, ⟨none, 0, 0, []⟩, ⟨none, 0, 0, []⟩, 0, n, r5⟩ : Kd).pk = ⟨zeros 32, (boxR ((E.map En.pe).take 0)).1, (boxR ((E.map En.pe).take 0)).2, liveR ((E.map En.pe).take 0), n, KR⟩ from by rw [← hr5]; rfl)
    clear hst hr5 hfs
    go_wp2_with fail
    go_loopw [17] (fun i wr => Ta1 w w.heap.size kind p n c q m f (w.heap.size + 1) gx (E.map En.pe) KR i wr) (fun i _ => n - (intOf i).toNat)
    case atStart => exact ⟨0, _, by omega, rfl, HST.out, HPK0.out, HFS.out⟩
    case round =>
      obtain ⟨k, kd, hk, rfl, hst, hpk, hfs⟩ := hrel
      have FS := Lib.hid hfs
      have ST := Lib.hid hst
      have PKS := Lib.hid hpk
      have hn4 := HN4.out
      clear hst hpk hfs HFS HST HPK0 t0 t1 t2
      by_cases hlt : k < n
      · obtain ⟨g, o, rfl, c1, c2, hok⟩ := HE.out.get k hlt
        have c1 := (ST.out.low.cell (block_lt_of_cell c1)).trans c1
        have c2 := (ST.out.low.cell (block_lt_of_cell c2)).trans c2
        have i1 : (0 : Int) ≤ k ∧ (k : Int) < n := by omega
        have hlen : k < E.length := by rw [← HES.out]; exact hlt
        have hlenm : k < (E.map En.pe).length := by rw [List.length_map]; exact hlen
        have HTB := Lib.hid (show boxR ((E.map En.pe).take (k + 1)) = boxE (boxR ((E.map En.pe).take k)) (E.getD k default).pe from by
          unfold boxR
          rw [take_fold boxE _ _ _ hlenm, map_getD En.pe E k hlen])
        have HTS := Lib.hid (show liveR ((E.map En.pe).take (k + 1)) = liveR ((E.map En.pe).take k) + (if (E.getD k default).pe.live then (1 : Int) else 0) from by
          unfold liveR
          rw [take_sum _ _ _ hlenm, map_getD En.pe E k hlen])
        have hdl := HROW.out _ (getD_mem E k hlen)
        have hll := live_le ((E.map En.pe).take k)
        have hlk : ((E.map En.pe).take k).length ≤ 4 := by rw [List.length_take]; omega
        generalize E.getD k default = e at *
        have HOK := Lib.hid hok
        have HDL := Lib.hid hdl
        have he8 : e.row.n ≤ 8 ∧ 1 ≤ e.row.n := by have := hok.ints.size; have := HD.out; omega
        have HE8 := Lib.hid he8
        unfold Rw.val at c1
        clear hok hdl he8
        go_upto_region 5 with fail
        obtain ⟨z0, z1⟩ := pair_alloc wr (.slice e.row.p e.row.n e.row.c) (.bool e.live) 55
        have hba : Below wr.heap.size wr (wr.alloc (.cells #[.slice e.row.p e.row.n e.row.c, .bool e.live] 55)) := (Below.refl _ _).alloc (Nat.le_refl _) _
        have SA := Lib.hid (ST.out.later hba)
        have HGE := Lib.hid (show wr.heap.size ≠ gx from fun e => by have := (Array.getElem?_eq_some_iff.1 ST.out.row).1; omega)
        generalize wr.alloc (.cells #[.slice e.row.p e.row.n e.row.c, .bool e.live] 55) = wa at *
        generalize wr.heap.size = ge at *
        clear hba c1 c2 ST
        cases hlv : e.live with
        | false =>
          rw [hlv] at z1
          have HP1 := Lib.hid (show kd.pk = ⟨zeros 32, (boxR ((E.map En.pe).take (k + 1))).1, (boxR ((E.map En.pe).take (k + 1))).2, liveR ((E.map En.pe).take (k + 1)), n, KR⟩ from by
            rw [HTB.out, HTS.out, PKS.out]
            simp [boxE, En.pe, hlv])
          clear hlv
          go_wp2_with fail
          go_roundw
          case rel => exact ⟨k + 1, kd, by omega, by go_num, SA.out, HP1.out, FS.out⟩
          case measure => simp [intOf]; omega
        | true =>
          rw [hlv] at z1
          have hkl : kd.live = liveR ((E.map En.pe).take k) := congrArg PK.live PKS.out
          obtain ⟨lv, hlvn⟩ : ∃ lv : Nat, kd.live = lv := ⟨kd.live.toNat, by omega⟩
          have hlv4 : lv ≤ 4 := by omega
          have hlo : kd.lo.R = (boxR ((E.map En.pe).take k)).1 := congrArg PK.lo PKS.out
          have hhi : kd.hi.R = (boxR ((E.map En.pe).take k)).2 := congrArg PK.hi PKS.out
          have HP1 := Lib.hid (show ∀ r1 r2 : Rw, r1.R = (hull (kd.lo.R, kd.hi.R) (e.row.R, e.row.R)).1 → r2.R = (hull (kd.lo.R, kd.hi.R) (e.row.R, e.row.R)).2 → ({ kd with live := (lv : Int) + 1, lo := r1, hi := r2 } : Kd).pk = ⟨zeros 32, (boxR ((E.map En.pe).take (k + 1))).1, (boxR ((E.map En.pe).take (k + 1))).2, liveR ((E.map En.pe).take (k + 1)), n, KR⟩ from fun r1 r2 e1 e2 => by
            rw [HTB.out, HTS.out, ← hkl, hlvn]
            have e3 : boxE (boxR ((E.map En.pe).take k)) e.pe = hull (kd.lo.R, kd.hi.R) (e.row.R, e.row.R) := by
              unfold boxE
              rw [show e.pe.live = true from hlv, if_pos rfl, hlo, hhi]
              rfl
            rw [e3, ← e1, ← e2]
            have e4 := PKS.out
            simp only [Kd.pk, PK.mk.injEq] at e4 ⊢
            simp only [show e.pe.live = true from hlv, if_true, true_and]
            exact ⟨e4.1, e4.2.2.2.2⟩)
          have c34 := SA.out.cell.live
          rw [Nat.zero_add, hlvn] at c34
          have f34 := frozen_of_row wa gx 34 _ _ SA.out.row
          clear hlv hkl hlvn hlo hhi hll hlk
          go_upto_region 7 with fail
          have SB := Lib.hid (SA.out.setLive ((lv : Int) + 1) ⟨by omega, by omega⟩)
          have z0 := (World.cell?_of_block (w := wa) (w' := wa.setCell ⟨gx, 34, none⟩ (.int .i64 ((lv : Int) + 1))) (a := ⟨ge, 0, none⟩) (heap_setCell_other _ _ _ _ HGE.out)).trans z0
          generalize wa.setCell ⟨gx, 34, none⟩ (.int .i64 ((lv : Int) + 1)) = wb at *
          clear z1 c34 f34 SA
          have Z0 := Lib.hid z0
          clear z0
          refine wp_region_held_drew (S := fun w' => w'.cell? ⟨ge, 0, none⟩ = some (.slice e.row.p e.row.n e.row.c)) (by kernel_rfl) (show wb.drew.cell? ⟨ge, 0, none⟩ = _ from Z0.out) (fun hHeld => ?_)
          refine wpAnyH_take (i := 0) (oi := ⟨some 27, .fieldAddr 43 (.tmp 3) 1, _, _, _, _⟩) (v := ?_) rfl (by kernel_rfl) (by kernel_rfl) (by kernel_rfl) (fun _ _ _ h => h) (Or.inl ⟨by rfl, ?_⟩) (by assumption) ?_
          rotate_left
          · intro w' hSw
            go_simp
            try with_reducible rfl
          try simp only [Act.put, List.setIfInBounds_toArray, List.set_cons_zero, List.set_cons_succ]
          refine wpAnyH_take (i := 2) (oi := ⟨some 29, .fieldAddr 55 (.tmp 5) 0, _, _, _, _⟩) (v := ?_) rfl (by kernel_rfl) (by kernel_rfl) (by kernel_rfl) (fun _ _ _ h => h) (Or.inl ⟨by rfl, ?_⟩) (by assumption) ?_
          rotate_left
          · intro w' hSw
            go_simp
            try with_reducible rfl
          try simp only [Act.put, List.setIfInBounds_toArray, List.set_cons_zero, List.set_cons_succ]
          refine wpAnyH_take (i := 3) (oi := ⟨some 30, .load 39 (.tmp 29), _, _, _, _⟩) (v := ?_) rfl (by kernel_rfl) (by kernel_rfl) (by kernel_rfl) (fun _ _ _ h => h) (Or.inl ⟨by rfl, ?_⟩) (by assumption) ?_
          rotate_left
          · intro w' hSw
            have z0 := hSw
            go_simp
            try with_reducible rfl
          try simp only [Act.put, List.setIfInBounds_toArray, List.set_cons_zero, List.set_cons_succ]
          refine wpAnyH_ready (rs := [1, 4]) (by kernel_rfl) (by simp) ?_
          refine AllReadyH.cons (o := ⟨some 28, .load 41 (.tmp 27), _, _, _, _⟩) rfl (fun K hK => ?_) (AllReadyH.cons (o := ⟨some 31, .call ⟨.value (.func 86), #[.tmp 30], #[39]⟩, _, _, _, _⟩) rfl (fun K hK => ?_) AllReadyH.nil)
          ·
            have b0 : wb.drew.cell? ⟨gx, 32, none⟩ = some (.slice kd.lo.p kd.lo.n kd.lo.c) := by have h9 := (SB.out.later (Below.refl _ _).drew).cell.lo; rw [Nat.zero_add] at h9; exact h9
            have b1 : wb.drew.cell? ⟨gx, 33, none⟩ = some (.slice kd.hi.p kd.hi.n kd.hi.c) := by have h9 := (SB.out.later (Below.refl _ _).drew).cell.hi; rw [Nat.zero_add] at h9; exact h9
            go_simp
            refine hK.out _ _ hHeld (fun hHeld => ?_)
            clear hK K
            try simp only [Act.put, List.setIfInBounds_toArray, List.set_cons_zero, List.set_cons_succ]
            refine wpAnyH_ready (rs := [4]) (by kernel_rfl) (by simp) ?_
            refine AllReadyH.cons (o := ⟨some 31, .call ⟨.value (.func 86), #[.tmp 30], #[39]⟩, _, _, _, _⟩) rfl (fun K hK => ?_) AllReadyH.nil
            go_simp
            refine (of_any e.row.p e.row.n e.row.c e.row.R ⟨HE8.out.2, HE8.out.1⟩ wb.drew ((HOK.out.later (SB.out.low.trans ((Below.refl _ _).drew.mono SB.out.low.size))).ints)).mono ?_
            rintro _ w7 ⟨v7, rfl, g1, g2, rfl, i1', i2', b7⟩
            have hle := HOK.out.ints.size
            rw [part_self hle] at i1' i2'
            have I1 := Lib.hid i1'
            have I2 := Lib.hid i2'
            have hb7 : Below wb.heap.size wb w7 := (Below.refl wb.heap.size wb).drew.trans b7
            have S7 := Lib.hid (SB.out.later hb7)
            have HZ7 := Lib.hid ((hb7.cell (block_lt_of_cell Z0.out)).trans Z0.out)
            clear i1' i2' b7 hle hb7
            try go_wp2_with fail
            refine hK.out _ _ HZ7.out (fun hHeld => ?_)
            clear hK K
            try simp only [Act.put, List.setIfInBounds_toArray, List.set_cons_zero, List.set_cons_succ]
            refine wpAnyH_ready (rs := [5]) (by kernel_rfl) (by simp) ?_
            refine AllReadyH.cons (o := ⟨some 32, .call ⟨.value (.func 85), #[.tmp 28, .tmp 31], #[41, 41]⟩, _, _, _, _⟩) rfl (fun K hK => ?_) AllReadyH.nil
            go_simp
            refine (lhull_any kd.lo.p kd.hi.p (some ⟨g1, 0, none⟩) (some ⟨g2, 0, none⟩) kd.lo.n kd.lo.c kd.hi.n kd.hi.c e.row.n e.row.n e.row.n e.row.n kd.lo.R kd.hi.R e.row.R e.row.R w7 S7.out.ok.lo.ints S7.out.ok.hi.ints I1.out I2.out).mono ?_
            rintro _ w8 ⟨v8, rfl, r1, r2, rfl, e1, e2, fr1, fr2, b8⟩
            have HE1 := Lib.hid e1
            have HE2 := Lib.hid e2
            have F1 := Lib.hid fr1
            have F2 := Lib.hid fr2
            have S8 := Lib.hid (S7.out.later b8)
            have HZ8 := Lib.hid ((b8.cell (block_lt_of_cell HZ7.out)).trans HZ7.out)
            have HLT := Lib.hid (show gx < w7.heap.size ∧ w.heap.size + 1 < w7.heap.size from ⟨(Array.getElem?_eq_some_iff.1 S7.out.row).1, (Array.getElem?_eq_some_iff.1 S7.out.res).1⟩)
            clear e1 e2 fr1 fr2 b8
            try go_wp2_with fail
            refine hK.out _ _ HZ8.out (fun hHeld => ?_)
            clear hK K
            try simp only [Act.put, List.setIfInBounds_toArray, List.set_cons_zero, List.set_cons_succ]
            refine wpAnyH_take (i := 6) (oi := ⟨some 33, .fieldAddr 43 (.tmp 3) 1, _, _, _, _⟩) (v := ?_) rfl (by kernel_rfl) (by kernel_rfl) (by kernel_rfl) (fun _ _ _ h => h) (Or.inl ⟨by rfl, ?_⟩) (by assumption) ?_
            rotate_left
            · intro w' hSw
              go_simp
              try with_reducible rfl
            try simp only [Act.put, List.setIfInBounds_toArray, List.set_cons_zero, List.set_cons_succ]
            refine wpAnyH_ready (rs := [7]) (by kernel_rfl) (by simp) ?_
            refine AllReadyH.cons (o := ⟨none, .store 41 (.tmp 33) (.tmp 32), _, _, _, _⟩) rfl (fun K hK => ?_) AllReadyH.nil
            refine wp_store_mid 41 (.tmp 33) (.tmp 32) (by rfl) gx 32 #[r1.val, r2.val] (by rfl) (by rfl) (kd_there2 S8.out.row S8.out.ok.len r1 r2) IBx (box_one r1 r2) ?_
            have S9 := Lib.hid (S8.out.setBox (r1 := r1) (r2 := r2) ⟨F1.out.ok, F1.out.away HLT.out.1, F1.out.away HLT.out.2⟩ ⟨F2.out.ok, F2.out.away HLT.out.1, F2.out.away HLT.out.2⟩)
            have HZ9 := Lib.hid ((World.cell?_of_block (w := w8) (a := ⟨ge, 0, none⟩) (heap_setCells_other gx [r1.val, r2.val] 32 w8 ge HGE.out)).trans HZ8.out)
            refine hK.out _ _ HZ9.out (fun hHeld => ?_)
            clear hK K
            try simp only [Act.put]
            refine wpAnyH_done (by kernel_rfl) ?_ _
            have HP2 := Lib.hid (HP1.out r1 r2 HE1.out HE2.out)
            have S9' := S9.out
            clear S9 HZ9 hHeld
            have S9 := Lib.hid S9'
            clear S9'
            generalize w8.setCells gx 32 [r1.val, r2.val] = w9 at *
            go_wp2_with fail
            go_roundw
            case rel => exact ⟨k + 1, _, by omega, by go_num, S9.out, HP2.out, FS.out.box F1.out F2.out (by have := S7.out.low.size; omega)⟩
            case measure => simp [intOf]; omega
          ·
            go_simp
            refine (of_any e.row.p e.row.n e.row.c e.row.R ⟨HE8.out.2, HE8.out.1⟩ wb.drew ((HOK.out.later (SB.out.low.trans ((Below.refl _ _).drew.mono SB.out.low.size))).ints)).mono ?_
            rintro _ w7 ⟨v7, rfl, g1, g2, rfl, i1', i2', b7⟩
            have hle := HOK.out.ints.size
            rw [part_self hle] at i1' i2'
            have I1 := Lib.hid i1'
            have I2 := Lib.hid i2'
            have hb7 : Below wb.heap.size wb w7 := (Below.refl wb.heap.size wb).drew.trans b7
            have S7 := Lib.hid (SB.out.later hb7)
            have HZ7 := Lib.hid ((hb7.cell (block_lt_of_cell Z0.out)).trans Z0.out)
            clear i1' i2' b7 hle hb7
            try go_wp2_with fail
            refine hK.out _ _ HZ7.out (fun hHeld => ?_)
            clear hK K
            try simp only [Act.put, List.setIfInBounds_toArray, List.set_cons_zero, List.set_cons_succ]
            refine wpAnyH_ready (rs := [1]) (by kernel_rfl) (by simp) ?_
            refine AllReadyH.cons (o := ⟨some 28, .load 41 (.tmp 27), _, _, _, _⟩) rfl (fun K hK => ?_) AllReadyH.nil
            have b0 : w7.cell? ⟨gx, 32, none⟩ = some (.slice kd.lo.p kd.lo.n kd.lo.c) := by have h9 := S7.out.cell.lo; rw [Nat.zero_add] at h9; exact h9
            have b1 : w7.cell? ⟨gx, 33, none⟩ = some (.slice kd.hi.p kd.hi.n kd.hi.c) := by have h9 := S7.out.cell.hi; rw [Nat.zero_add] at h9; exact h9
            go_simp
            refine hK.out _ _ HZ7.out (fun hHeld => ?_)
            clear hK K
            try simp only [Act.put, List.setIfInBounds_toArray, List.set_cons_zero, List.set_cons_succ]
            refine wpAnyH_ready (rs := [5]) (by kernel_rfl) (by simp) ?_
            refine AllReadyH.cons (o := ⟨some 32, .call ⟨.value (.func 85), #[.tmp 28, .tmp 31], #[41, 41]⟩, _, _, _, _⟩) rfl (fun K hK => ?_) AllReadyH.nil
            go_simp
            refine (lhull_any kd.lo.p kd.hi.p (some ⟨g1, 0, none⟩) (some ⟨g2, 0, none⟩) kd.lo.n kd.lo.c kd.hi.n kd.hi.c e.row.n e.row.n e.row.n e.row.n kd.lo.R kd.hi.R e.row.R e.row.R w7 S7.out.ok.lo.ints S7.out.ok.hi.ints I1.out I2.out).mono ?_
            rintro _ w8 ⟨v8, rfl, r1, r2, rfl, e1, e2, fr1, fr2, b8⟩
            have HE1 := Lib.hid e1
            have HE2 := Lib.hid e2
            have F1 := Lib.hid fr1
            have F2 := Lib.hid fr2
            have S8 := Lib.hid (S7.out.later b8)
            have HZ8 := Lib.hid ((b8.cell (block_lt_of_cell HZ7.out)).trans HZ7.out)
            have HLT := Lib.hid (show gx < w7.heap.size ∧ w.heap.size + 1 < w7.heap.size from ⟨(Array.getElem?_eq_some_iff.1 S7.out.row).1, (Array.getElem?_eq_some_iff.1 S7.out.res).1⟩)
            clear e1 e2 fr1 fr2 b8
            try go_wp2_with fail
            refine hK.out _ _ HZ8.out (fun hHeld => ?_)
            clear hK K
            try simp only [Act.put, List.setIfInBounds_toArray, List.set_cons_zero, List.set_cons_succ]
            refine wpAnyH_take (i := 6) (oi := ⟨some 33, .fieldAddr 43 (.tmp 3) 1, _, _, _, _⟩) (v := ?_) rfl (by kernel_rfl) (by kernel_rfl) (by kernel_rfl) (fun _ _ _ h => h) (Or.inl ⟨by rfl, ?_⟩) (by assumption) ?_
            rotate_left
            · intro w' hSw
              go_simp
              try with_reducible rfl
            try simp only [Act.put, List.setIfInBounds_toArray, List.set_cons_zero, List.set_cons_succ]
            refine wpAnyH_ready (rs := [7]) (by kernel_rfl) (by simp) ?_
            refine AllReadyH.cons (o := ⟨none, .store 41 (.tmp 33) (.tmp 32), _, _, _, _⟩) rfl (fun K hK => ?_) AllReadyH.nil
            refine wp_store_mid 41 (.tmp 33) (.tmp 32) (by rfl) gx 32 #[r1.val, r2.val] (by rfl) (by rfl) (kd_there2 S8.out.row S8.out.ok.len r1 r2) IBx (box_one r1 r2) ?_
            have S9 := Lib.hid (S8.out.setBox (r1 := r1) (r2 := r2) ⟨F1.out.ok, F1.out.away HLT.out.1, F1.out.away HLT.out.2⟩ ⟨F2.out.ok, F2.out.away HLT.out.1, F2.out.away HLT.out.2⟩)
            have HZ9 := Lib.hid ((World.cell?_of_block (w := w8) (a := ⟨ge, 0, none⟩) (heap_setCells_other gx [r1.val, r2.val] 32 w8 ge HGE.out)).trans HZ8.out)
            refine hK.out _ _ HZ9.out (fun hHeld => ?_)
            clear hK K
            try simp only [Act.put]
            refine wpAnyH_done (by kernel_rfl) ?_ _
            have HP2 := Lib.hid (HP1.out r1 r2 HE1.out HE2.out)
            have S9' := S9.out
            clear S9 HZ9 hHeld
            have S9 := Lib.hid S9'
            clear S9'
            generalize w8.setCells gx 32 [r1.val, r2.val] = w9 at *
            go_wp2_with fail
            go_roundw
            case rel => exact ⟨k + 1, _, by omega, by go_num, S9.out, HP2.out, FS.out.box F1.out F2.out (by have := S7.out.low.size; omega)⟩
            case measure => simp [intOf]; omega
      · obtain rfl : n = k := by omega
        have e0 : (E.map En.pe).take n = E.map En.pe := List.take_of_length_le (by rw [List.length_map, HES.out]; exact Nat.le_refl _)
        rw [e0] at PKS
        have hlvE := live_le (E.map En.pe)
        rw [List.length_map, ← HES.out] at hlvE
        generalize boxR (E.map En.pe) = b0 at *
        generalize liveR (E.map En.pe) = lv0 at *
        have HLV := Lib.hid hlvE
        obtain ⟨t0, t1, t2⟩ := ST.out.node.cells
        have HPK0 := Lib.hid (show kd.pk = ⟨zeros 32, (((K.map Kd.pk).take 0).foldl boxK b0).1, (((K.map Kd.pk).take 0).foldl boxK b0).2, lv0 + (((K.map Kd.pk).take 0).map PK.live).sum, n + (((K.map Kd.pk).take 0).map PK.size).sum, KR⟩ from by
          rw [PKS.out]
          simp)
        clear e0 hlt hk hlvE PKS
        go_wp2_with fail
        go_loopw [38] (fun i wr => Ta2 w w.heap.size kind p n c q m f (w.heap.size + 1) gx b0 lv0 (K.map Kd.pk) KR i wr) (fun i _ => m - (intOf i).toNat)
        case atStart => exact ⟨0, kd, by omega, rfl, ST.out, HPK0.out, FS.out⟩
        case round =>
          obtain ⟨k, kd2, hk, rfl, hst, hpk, hfs⟩ := hrel
          have FS2 := Lib.hid hfs
          have S2 := Lib.hid hst
          have PKS := Lib.hid hpk
          have hm4 := HM4.out
          clear hst hpk hfs FS ST HPK0 t0 t1 t2
          by_cases hlt : k < m
          · obtain ⟨g, o, rfl, hrg, hok⟩ := HK.out.get k hlt
            have i1 : (0 : Int) ≤ k ∧ (k : Int) < m := by omega
            have hlen : k < K.length := by rw [← HKS.out]; exact hlt
            have hlenm : k < (K.map Kd.pk).length := by rw [List.length_map]; exact hlen
            have HTB := Lib.hid (show ((K.map Kd.pk).take (k + 1)).foldl boxK b0 = boxK (((K.map Kd.pk).take k).foldl boxK b0) (K.getD k default).pk from by
              rw [take_fold boxK _ _ _ hlenm, map_getD Kd.pk K k hlen])
            have HTV := Lib.hid (show (((K.map Kd.pk).take (k + 1)).map PK.live).sum = (((K.map Kd.pk).take k).map PK.live).sum + (K.getD k default).live from by
              rw [take_sum PK.live _ _ hlenm, map_getD Kd.pk K k hlen]
              rfl)
            have HTZ := Lib.hid (show (((K.map Kd.pk).take (k + 1)).map PK.size).sum = (((K.map Kd.pk).take k).map PK.size).sum + (K.getD k default).size from by
              rw [take_sum PK.size _ _ hlenm, map_getD Kd.pk K k hlen]
              rfl)
            have hkb := HKID.out _ (getD_mem K k hlen)
            have hall : ∀ x ∈ (K.map Kd.pk).take k, (0 ≤ x.live ∧ x.live ≤ 1048576) ∧ (0 ≤ x.size ∧ x.size ≤ 1048576) := fun x hx => by
              obtain ⟨y, hy, rfl⟩ := List.mem_map.1 (List.mem_of_mem_take hx)
              exact HKID.out y hy
            have hs1 := sum_le PK.live 1048576 _ (fun x hx => (hall x hx).1)
            have hs2 := sum_le PK.size 1048576 _ (fun x hx => (hall x hx).2)
            have hlk : ((K.map Kd.pk).take k).length ≤ 4 := by rw [List.length_take]; omega
            have hlv0 := HLV.out
            have hn4 := HN4.out
            have hvl : kd2.live = lv0 + (((K.map Kd.pk).take k).map PK.live).sum := congrArg PK.live PKS.out
            have hvz : kd2.size = n + (((K.map Kd.pk).take k).map PK.size).sum := congrArg PK.size PKS.out
            have hlo : kd2.lo.R = (((K.map Kd.pk).take k).foldl boxK b0).1 := congrArg PK.lo PKS.out
            have hhi : kd2.hi.R = (((K.map Kd.pk).take k).foldl boxK b0).2 := congrArg PK.hi PKS.out
            generalize K.getD k default = e at *
            obtain ⟨a1, ha1⟩ : ∃ a1 : Nat, kd2.live = a1 := ⟨kd2.live.toNat, by omega⟩
            obtain ⟨a2, ha2⟩ : ∃ a2 : Nat, e.live = a2 := ⟨e.live.toNat, by omega⟩
            obtain ⟨a3, ha3⟩ : ∃ a3 : Nat, kd2.size = a3 := ⟨kd2.size.toNat, by omega⟩
            obtain ⟨a4, ha4⟩ : ∃ a4 : Nat, e.size = a4 := ⟨e.size.toNat, by omega⟩
            have hq1 : a1 + a2 ≤ 100000000 := by omega
            have hq2 : a3 + a4 ≤ 100000000 := by omega
            have HP1 := Lib.hid (show ∀ r1 r2 : Rw, r1.R = (hull (kd2.lo.R, kd2.hi.R) (e.lo.R, e.hi.R)).1 → r2.R = (hull (kd2.lo.R, kd2.hi.R) (e.lo.R, e.hi.R)).2 → ({ kd2 with live := (a1 : Int) + a2, size := (a3 : Int) + a4, lo := r1, hi := r2 } : Kd).pk = ⟨zeros 32, (((K.map Kd.pk).take (k + 1)).foldl boxK b0).1, (((K.map Kd.pk).take (k + 1)).foldl boxK b0).2, lv0 + (((K.map Kd.pk).take (k + 1)).map PK.live).sum, n + (((K.map Kd.pk).take (k + 1)).map PK.size).sum, KR⟩ from fun r1 r2 e1 e2 => by
              rw [HTB.out, HTV.out, HTZ.out]
              have e3 : boxK (((K.map Kd.pk).take k).foldl boxK b0) e.pk = hull (kd2.lo.R, kd2.hi.R) (e.lo.R, e.hi.R) := by
                unfold boxK
                rw [hlo, hhi]
                rfl
              rw [e3, ← e1, ← e2]
              have e4 := PKS.out
              simp only [Kd.pk, PK.mk.injEq] at e4 ⊢
              refine ⟨e4.1, trivial, trivial, ?_, ?_, e4.2.2.2.2.2⟩
              · rw [← ha1, ← ha2]; omega
              · rw [← ha3, ← ha4]; omega)
            have HR := Lib.hid (range_later hrg S2.out.low)
            have HOK := Lib.hid hok
            have HCL := Lib.hid (Kd.cells_length hok.len)
            have HA1 := Lib.hid ha1
            have HA2 := Lib.hid ha2
            have HA3 := Lib.hid ha3
            have HA4 := Lib.hid ha4
            have hz0 := HZ.out.1
            clear hrg hok ha1 ha2 ha3 ha4 hvl hvz hlo hhi hs1 hs2 hlk hlv0 hkb hall
            go_upto_region 12 with (first
              | (refine wpList_load_mid (by rfl) 43 _ (by rfl) g (o + k * 37) (by rfl) e.cells du HR.out HDU.out HDR.out (by rw [HCL.out]; exact SKd) ?_)
              | (refine wpList_store_row (by rfl) 43 (.tmp 7) (.tmp 41) (by rfl) wr.heap.size e.cells.toArray (by rfl) (by rfl) _ _ (heap_alloc_new wr _) (by rw [List.size_toArray, HCL.out]; exact SKd) (by simp only [List.size_toArray, HCL.out, kd0_size]) (all_oneCell_toArray Kd.one) ?_; rw [setRow_alloc]))
            have hrx := heap_alloc_new wr (.cells e.cells.toArray 43)
            have SA := Lib.hid (S2.out.later (show Below wr.heap.size wr (wr.alloc (.cells e.cells.toArray 43)) from (Below.refl _ _).alloc (Nat.le_refl _) _))
            have HGB := Lib.hid (show wr.heap.size ≠ gx from fun e => by have := (Array.getElem?_eq_some_iff.1 S2.out.row).1; omega)
            generalize wr.alloc (.cells e.cells.toArray 43) = wa at *
            generalize wr.heap.size = gb at *
            have RX := Lib.hid hrx
            clear hrx hz0 S2
            have x1 := SA.out.cell.live
            have x2 := (kat_row RX.out HOK.out.len).live
            rw [Nat.zero_add, HA1.out] at x1
            rw [Nat.zero_add, HA2.out] at x2
            have f34 := frozen_of_row wa gx 34 _ _ SA.out.row
            go_upto_region 13 with fail
            have SB := Lib.hid (SA.out.setLive ((a1 : Int) + a2) ⟨by omega, by omega⟩)
            have RB := Lib.hid ((show (wa.setCell ⟨gx, 34, none⟩ (.int .i64 ((a1 : Int) + a2))).heap[gb]? = wa.heap[gb]? from heap_setCell_other _ _ _ _ HGB.out).trans RX.out)
            generalize wa.setCell ⟨gx, 34, none⟩ (.int .i64 ((a1 : Int) + a2)) = wb at *
            clear x1 x2 f34 SA RX
            have x1 := SB.out.cell.size
            have x2 := (kat_row RB.out HOK.out.len).size
            rw [Nat.zero_add] at x1
            rw [show ({ kd2 with live := (a1 : Int) + a2 } : Kd).size = (a3 : Int) from HA3.out] at x1
            rw [Nat.zero_add, HA4.out] at x2
            have f35 := frozen_of_row wb gx 35 _ _ SB.out.row
            go_upto_region 14 with fail
            have SC := Lib.hid (SB.out.setSize ((a3 : Int) + a4) ⟨by omega, by omega⟩)
            have RC := Lib.hid ((show (wb.setCell ⟨gx, 35, none⟩ (.int .i64 ((a3 : Int) + a4))).heap[gb]? = wb.heap[gb]? from heap_setCell_other _ _ _ _ HGB.out).trans RB.out)
            generalize wb.setCell ⟨gx, 35, none⟩ (.int .i64 ((a3 : Int) + a4)) = wc at *
            clear x1 x2 f35 SB RB
            have x1 := SC.out.cell.lo
            have x2 := SC.out.cell.hi
            have x3 := (kat_row RC.out HOK.out.len).lo
            have x4 := (kat_row RC.out HOK.out.len).hi
            simp only [Nat.zero_add, Rw.val] at x1 x2 x3 x4
            have HOC := Lib.hid (HOK.out.later SC.out.low)
            go_wp2_with (first
              | (go_at_call 85; refine (lhull_any kd2.lo.p kd2.hi.p e.lo.p e.hi.p kd2.lo.n kd2.lo.c kd2.hi.n kd2.hi.c e.lo.n e.lo.c e.hi.n e.hi.c kd2.lo.R kd2.hi.R e.lo.R e.hi.R wc SC.out.ok.lo.ints SC.out.ok.hi.ints HOC.out.lo.ints HOC.out.hi.ints).mono ?_; rintro _ w8 ⟨v8, rfl, r1, r2, rfl, e1, e2, fr1, fr2, b8⟩; have HP2 := Lib.hid (HP1.out r1 r2 e1 e2); have F1 := Lib.hid fr1; have F2 := Lib.hid fr2; have S8 := Lib.hid (SC.out.later b8); have HLT := Lib.hid (show gx < wc.heap.size ∧ w.heap.size + 1 < wc.heap.size from ⟨(Array.getElem?_eq_some_iff.1 SC.out.row).1, (Array.getElem?_eq_some_iff.1 SC.out.res).1⟩); clear e1 e2 fr1 fr2 b8)
              | (refine wpList_store_mid (by rfl) 41 (.tmp 59) (.tmp 58) (by rfl) gx 32 #[r1.val, r2.val] (by rfl) (by rfl) (kd_there2 S8.out.row S8.out.ok.len r1 r2) IBx (box_one r1 r2) ?_; have S9 := Lib.hid (S8.out.setBox (r1 := r1) (r2 := r2) ⟨F1.out.ok, F1.out.away HLT.out.1, F1.out.away HLT.out.2⟩ ⟨F2.out.ok, F2.out.away HLT.out.1, F2.out.away HLT.out.2⟩)))
            go_roundw
            case rel => exact ⟨k + 1, _, by omega, by go_num, S9.out, HP2.out, FS2.out.box F1.out F2.out (by have := SC.out.low.size; omega)⟩
            case measure => simp [intOf]; omega
          · obtain rfl : m = k := by omega
            have e0 : (K.map Kd.pk).take m = K.map Kd.pk := List.take_of_length_le (by rw [List.length_map, HKS.out]; exact Nat.le_refl _)
            rw [e0, ← HTL.out] at PKS
            have HCL := Lib.hid (Kd.cells_length S2.out.ok.len)
            have HRR := Lib.hid (range_kd S2.out.row)
            clear e0
            go_wp2_with (first
              | (refine wpList_load_mid (by rfl) 43 _ (by rfl) gx 0 (by rfl) kd2.cells du HRR.out HDU.out HDR.out (by rw [HCL.out]; exact SKd) ?_)
              | (refine wpList_store_row (by rfl) 43 _ _ (by rfl) (w.heap.size + 1) kd2.cells.toArray (by rfl) (by rfl) _ _ S2.out.res (by rw [List.size_toArray, HCL.out]; exact SKd) (by simp only [List.size_toArray, HCL.out, kd0_size]) (all_oneCell_toArray Kd.one) ?_))
            have r9 := setRow_heap _ (w.heap.size + 1) _ kd2.cells.toArray _ _ S2.out.res
            have hb9 : Below (w.heap.size + 1) wr (wr.setRow (w.heap.size + 1) kd2.cells.toArray) := Below.setRow (Below.refl _ _) (Nat.le_refl _) _
            have hrw : ∀ r ∈ kd2.rows, r.Ok (wr.setRow (w.heap.size + 1) kd2.cells.toArray) := fun r hr => rw_keep (S2.out.rows r hr).1 (fun x hx hR => setRow_other _ _ _ _ ((S2.out.rows r hr).2.2 x hx hR))
            refine ret_str 2 (by kernel_rfl) (w.heap.size + 1) _ _ HDU.out HDR.out (by rw [List.size_toArray, HCL.out]; exact SKd) (by rfl) r9 ⟨kd2, rfl, PKS.out, ⟨S2.out.ok.len, S2.out.ok.ok, hrw _ (by simp [Kd.rows]), hrw _ (by simp [Kd.rows]), hrw _ (by simp [Kd.rows]), S2.out.ok.live, S2.out.ok.size⟩, FS2.out, S2.out.low.trans (hb9.mono (by omega))⟩
end Go.Proofs.YtfkpgildeddhaaaGreat.Nd

/- Plain mathematics of SHA-256, over natural numbers: words below 2^32, lists of words, lists of bytes. No program is named here. -/
namespace Go.Proofs.YtfkpgildeddhaaaGreat.Sm
def rot (n x : Nat) : Nat := (x * 2 ^ (32 - n)) % 4294967296 ||| x / 2 ^ n
def s0 (x : Nat) : Nat := (rot 7 x ^^^ rot 18 x) ^^^ x / 8
def s1 (x : Nat) : Nat := (rot 17 x ^^^ rot 19 x) ^^^ x / 1024
def b0 (a : Nat) : Nat := (rot 2 a ^^^ rot 13 a) ^^^ rot 22 a
def b1 (e : Nat) : Nat := (rot 6 e ^^^ rot 11 e) ^^^ rot 25 e
def ch (e f g : Nat) : Nat := (e &&& f) ^^^ ((4294967295 - e) &&& g)
def mj (a b c : Nat) : Nat := ((a &&& b) ^^^ (a &&& c)) ^^^ (b &&& c)
structure V8 where
  (a b c d e f g h : Nat)
def V8.ok (v : V8) : Prop := v.a < 4294967296 ∧ v.b < 4294967296 ∧ v.c < 4294967296 ∧ v.d < 4294967296 ∧ v.e < 4294967296 ∧ v.f < 4294967296 ∧ v.g < 4294967296 ∧ v.h < 4294967296
def V8.list (v : V8) : List Nat := [v.a, v.b, v.c, v.d, v.e, v.f, v.g, v.h]
def t1 (k w : Nat) (v : V8) : Nat := (v.h + b1 v.e + ch v.e v.f v.g + k + w) % 4294967296
def t2 (v : V8) : Nat := (b0 v.a + mj v.a v.b v.c) % 4294967296
def step (k w : Nat) (v : V8) : V8 := ⟨(t1 k w v + t2 v) % 4294967296, v.a, v.b, v.c, (v.d + t1 k w v) % 4294967296, v.e, v.f, v.g⟩
def rounds (K W : List Nat) (v : V8) : Nat → V8
  | 0 => v
  | n + 1 => step (K.getD n 0) (W.getD n 0) (rounds K W v n)
def add8 (v u : V8) : V8 := ⟨(v.a + u.a) % 4294967296, (v.b + u.b) % 4294967296, (v.c + u.c) % 4294967296, (v.d + u.d) % 4294967296, (v.e + u.e) % 4294967296, (v.f + u.f) % 4294967296, (v.g + u.g) % 4294967296, (v.h + u.h) % 4294967296⟩
def turn (K W : List Nat) (v : V8) : V8 := add8 v (rounds K W v 64)
def word (B : List Nat) (i : Nat) : Nat := B.getD (4 * i) 0 * 16777216 + B.getD (4 * i + 1) 0 * 65536 + B.getD (4 * i + 2) 0 * 256 + B.getD (4 * i + 3) 0
def words (B : List Nat) : Nat → List Nat
  | 0 => []
  | n + 1 => words B n ++ [word B n]
def more (l : List Nat) : Nat → List Nat
  | 0 => l
  | n + 1 => more l n ++ [((more l n).getD n 0 + s0 ((more l n).getD (n + 1) 0) + (more l n).getD (n + 9) 0 + s1 ((more l n).getD (n + 14) 0)) % 4294967296]
def sched (B : List Nat) : List Nat := more (words B 16) 48
def ks : List Nat := [0x428a2f98, 0x71374491, 0xb5c0fbcf, 0xe9b5dba5, 0x3956c25b, 0x59f111f1, 0x923f82a4, 0xab1c5ed5, 0xd807aa98, 0x12835b01, 0x243185be, 0x550c7dc3, 0x72be5d74, 0x80deb1fe, 0x9bdc06a7, 0xc19bf174, 0xe49b69c1, 0xefbe4786, 0x0fc19dc6, 0x240ca1cc, 0x2de92c6f, 0x4a7484aa, 0x5cb0a9dc, 0x76f988da, 0x983e5152, 0xa831c66d, 0xb00327c8, 0xbf597fc7, 0xc6e00bf3, 0xd5a79147, 0x06ca6351, 0x14292967, 0x27b70a85, 0x2e1b2138, 0x4d2c6dfc, 0x53380d13, 0x650a7354, 0x766a0abb, 0x81c2c92e, 0x92722c85, 0xa2bfe8a1, 0xa81a664b, 0xc24b8b70, 0xc76c51a3, 0xd192e819, 0xd6990624, 0xf40e3585, 0x106aa070, 0x19a4c116, 0x1e376c08, 0x2748774c, 0x34b0bcb5, 0x391c0cb3, 0x4ed8aa4a, 0x5b9cca4f, 0x682e6ff3, 0x748f82ee, 0x78a5636f, 0x84c87814, 0x8cc70208, 0x90befffa, 0xa4506ceb, 0xbef9a3f7, 0xc67178f2]
def first : V8 := ⟨0x6a09e667, 0xbb67ae85, 0x3c6ef372, 0xa54ff53a, 0x510e527f, 0x9b05688c, 0x1f83d9ab, 0x5be0cd19⟩
/-- The words behind n full blocks of the bytes B. -/
def blocks (B : List Nat) (v : V8) : Nat → V8
  | 0 => v
  | n + 1 => turn ks (sched (B.drop (64 * n))) (blocks B v n)
def big (n : Nat) (k : Nat) : Nat := n / 2 ^ (8 * (7 - k)) % 256
def bigs (n : Nat) : List Nat := [big n 0, big n 1, big n 2, big n 3, big n 4, big n 5, big n 6, big n 7]
def fill (n : Nat) : List Nat := 128 :: (List.replicate ((119 - n % 64) % 64) 0 ++ bigs (8 * n))
def bytes4 (w : Nat) : List Nat := [w / 16777216 % 256, w / 65536 % 256, w / 256 % 256, w % 256]
def bytesOf (v : V8) : List Nat := v.list.flatMap bytes4
def full (T : List Nat) : List Nat := T ++ fill T.length
/-- The sum of a text. -/
def sum (T : List Nat) : List Nat := bytesOf (blocks (full T) first ((full T).length / 64))

theorem rot_lt {n x : Nat} (h : x < 4294967296) : rot n x < 4294967296 := by
  unfold rot
  have h2 : x / 2 ^ n < 2 ^ 32 := Nat.lt_of_le_of_lt (Nat.div_le_self _ _) (by omega)
  have h1 : x * 2 ^ (32 - n) % 4294967296 < 2 ^ 32 := by have := Nat.mod_lt (x * 2 ^ (32 - n)) (show 0 < 4294967296 by omega); omega
  have := Nat.or_lt_two_pow h1 h2
  omega
theorem xor_lt {a b : Nat} (h1 : a < 4294967296) (h2 : b < 4294967296) : a ^^^ b < 4294967296 := by
  have := Nat.xor_lt_two_pow (n := 32) (x := a) (y := b) (by omega) (by omega); omega
theorem and_lt {a b : Nat} (h2 : b < 4294967296) : a &&& b < 4294967296 := by
  have := Nat.and_lt_two_pow (n := 32) a (y := b) (by omega); omega
theorem s0_lt {x : Nat} (h : x < 4294967296) : s0 x < 4294967296 := xor_lt (xor_lt (rot_lt h) (rot_lt h)) (by omega)
theorem s1_lt {x : Nat} (h : x < 4294967296) : s1 x < 4294967296 := xor_lt (xor_lt (rot_lt h) (rot_lt h)) (by omega)
theorem b0_lt {x : Nat} (h : x < 4294967296) : b0 x < 4294967296 := xor_lt (xor_lt (rot_lt h) (rot_lt h)) (rot_lt h)
theorem b1_lt {x : Nat} (h : x < 4294967296) : b1 x < 4294967296 := xor_lt (xor_lt (rot_lt h) (rot_lt h)) (rot_lt h)
theorem ch_lt {e f g : Nat} (h2 : f < 4294967296) (h3 : g < 4294967296) : ch e f g < 4294967296 := xor_lt (and_lt h2) (and_lt h3)
theorem mj_lt {a b c : Nat} (h2 : b < 4294967296) (h3 : c < 4294967296) : mj a b c < 4294967296 := xor_lt (xor_lt (and_lt h2) (and_lt h3)) (and_lt h3)
theorem step_ok {k w : Nat} {v : V8} (h : v.ok) : (step k w v).ok := by
  obtain ⟨ha, hb, hc, hd, he, hf, hg, hh⟩ := h
  exact ⟨Nat.mod_lt _ (by omega), ha, hb, hc, Nat.mod_lt _ (by omega), he, hf, hg⟩
theorem rounds_ok {K W : List Nat} {v : V8} (h : v.ok) (n : Nat) : (rounds K W v n).ok := by
  induction n with
  | zero => exact h
  | succ n ih => exact step_ok ih
theorem add8_ok {v u : V8} : (add8 v u).ok := by
  refine ⟨?_, ?_, ?_, ?_, ?_, ?_, ?_, ?_⟩ <;> exact Nat.mod_lt _ (by omega)
theorem first_ok : first.ok := by unfold V8.ok first; decide
theorem blocks_ok {B : List Nat} {v : V8} (h : v.ok) (n : Nat) : (blocks B v n).ok := by
  cases n with
  | zero => exact h
  | succ n => exact add8_ok
theorem length_words (B : List Nat) (n : Nat) : (words B n).length = n := by
  induction n with
  | zero => rfl
  | succ n ih => simp [words, ih]
theorem length_more (l : List Nat) (n : Nat) : (more l n).length = l.length + n := by
  induction n with
  | zero => rfl
  | succ n ih => simp [more, ih]; omega
theorem length_sched (B : List Nat) : (sched B).length = 64 := by simp [sched, length_more, length_words]
def allW (l : List Nat) : Prop := ∀ x ∈ l, x < 4294967296
theorem word_lt {B : List Nat} (h : allB B) (i : Nat) : word B i < 4294967296 := by
  have h0 := getD_lt h (by omega) (4 * i)
  have h1 := getD_lt h (by omega) (4 * i + 1)
  have h2 := getD_lt h (by omega) (4 * i + 2)
  have h3 := getD_lt h (by omega) (4 * i + 3)
  unfold word; omega
theorem words_ok {B : List Nat} (h : allB B) (n : Nat) : allW (words B n) := by
  induction n with
  | zero => intro x hx; simp [words] at hx
  | succ n ih =>
    intro x hx
    simp only [words, List.mem_append, List.mem_singleton] at hx
    rcases hx with hx | rfl
    · exact ih x hx
    · exact word_lt h n
theorem more_ok {l : List Nat} (h : allW l) (n : Nat) : allW (more l n) := by
  induction n with
  | zero => exact h
  | succ n ih =>
    intro x hx
    simp only [more, List.mem_append, List.mem_singleton] at hx
    rcases hx with hx | rfl
    · exact ih x hx
    · exact Nat.mod_lt _ (by omega)
theorem sched_ok {B : List Nat} (h : allB B) : allW (sched B) := more_ok (words_ok h 16) 48
theorem ks_ok : allW ks := by unfold allW ks; decide
theorem big_lt (n k : Nat) : big n k < 256 := Nat.mod_lt _ (by omega)
theorem not_nat {e : Nat} (h : e < 4294967296) : 4294967295 ^^^ e = 4294967295 - e := by
  have h1 : (BitVec.allOnes 32 ^^^ BitVec.ofNat 32 e).toNat = (~~~ BitVec.ofNat 32 e).toNat := by rw [BitVec.allOnes_xor]
  rw [BitVec.toNat_xor, BitVec.toNat_not, BitVec.toNat_allOnes, BitVec.toNat_ofNat, Nat.mod_eq_of_lt (by omega)] at h1
  exact h1
theorem max_u32 : IntKind.u32.max = 4294967295 := by decide
theorem b1_int {e : Nat} (h : e < 4294967296) : bits .xor .u32 (bits .xor .u32 (rot 6 e : Nat) (rot 11 e : Nat)) (rot 25 e : Nat) = ((b1 e : Nat) : Int) := by
  rw [u32_xor_nat _ _ (rot_lt h) (rot_lt h), u32_xor_nat _ _ (xor_lt (rot_lt h) (rot_lt h)) (rot_lt h)]; rfl
theorem b0_int {e : Nat} (h : e < 4294967296) : bits .xor .u32 (bits .xor .u32 (rot 2 e : Nat) (rot 13 e : Nat)) (rot 22 e : Nat) = ((b0 e : Nat) : Int) := by
  rw [u32_xor_nat _ _ (rot_lt h) (rot_lt h), u32_xor_nat _ _ (xor_lt (rot_lt h) (rot_lt h)) (rot_lt h)]; rfl
theorem ch_int {e f g : Nat} (he : e < 4294967296) (hf : f < 4294967296) (hg : g < 4294967296) :
    bits .xor .u32 (bits .and .u32 (e : Nat) (f : Nat)) (bits .and .u32 (bits .xor .u32 IntKind.u32.max (e : Nat)) (g : Nat)) = ((ch e f g : Nat) : Int) := by
  have h1 : bits .xor .u32 IntKind.u32.max (e : Nat) = ((4294967295 - e : Nat) : Int) := by
    rw [max_u32]
    have := u32_xor_nat 4294967295 e (by omega) he
    rw [not_nat he] at this
    exact this
  rw [h1, u32_and_nat _ _ he hf, u32_and_nat _ _ (by omega) hg, u32_xor_nat _ _ (and_lt hf) (and_lt hg)]; rfl
theorem mj_int {a b c : Nat} (ha : a < 4294967296) (hb : b < 4294967296) (hc : c < 4294967296) :
    bits .xor .u32 (bits .xor .u32 (bits .and .u32 (a : Nat) (b : Nat)) (bits .and .u32 (a : Nat) (c : Nat))) (bits .and .u32 (b : Nat) (c : Nat)) = ((mj a b c : Nat) : Int) := by
  rw [u32_and_nat _ _ ha hb, u32_and_nat _ _ ha hc, u32_and_nat _ _ hb hc, u32_xor_nat _ _ (and_lt hb) (and_lt hc), u32_xor_nat _ _ (xor_lt (and_lt hb) (and_lt hc)) (and_lt hc)]; rfl
theorem t1_int {u : V8} (hu : u.ok) (k w : Nat) :
    ((u.h : Nat) + bits .xor .u32 (bits .xor .u32 (rot 6 u.e : Nat) (rot 11 u.e : Nat)) (rot 25 u.e : Nat) + bits .xor .u32 (bits .and .u32 (u.e : Nat) (u.f : Nat)) (bits .and .u32 (bits .xor .u32 IntKind.u32.max (u.e : Nat)) (u.g : Nat)) + (k : Nat) + (w : Nat)) % 4294967296 = ((t1 k w u : Nat) : Int) := by
  obtain ⟨ha, hb, hc, hd, he, hf, hg, hh⟩ := hu
  rw [b1_int he, ch_int he hf hg]; unfold t1; omega
theorem t2_int {u : V8} (hu : u.ok) :
    (bits .xor .u32 (bits .xor .u32 (rot 2 u.a : Nat) (rot 13 u.a : Nat)) (rot 22 u.a : Nat) + bits .xor .u32 (bits .xor .u32 (bits .and .u32 (u.a : Nat) (u.b : Nat)) (bits .and .u32 (u.a : Nat) (u.c : Nat))) (bits .and .u32 (u.b : Nat) (u.c : Nat))) % 4294967296 = ((t2 u : Nat) : Int) := by
  obtain ⟨ha, hb, hc, hd, he, hf, hg, hh⟩ := hu
  rw [b0_int ha, mj_int ha hb hc]; unfold t2; omega
theorem or_shl {a b n : Nat} (h : b < 2 ^ n) : a * 2 ^ n ||| b = a * 2 ^ n + b := by
  have := Nat.shiftLeft_add_eq_or_of_lt h a
  rw [Nat.shiftLeft_eq] at this
  exact this.symm
theorem word_nat {x0 x1 x2 x3 : Nat} (h1 : x1 < 256) (h2 : x2 < 256) (h3 : x3 < 256) : ((x0 * 16777216 ||| x1 * 65536) ||| x2 * 256) ||| x3 = x0 * 16777216 + x1 * 65536 + x2 * 256 + x3 := by
  have e1 : x0 * 16777216 ||| x1 * 65536 = x0 * 16777216 + x1 * 65536 := or_shl (n := 24) (by omega)
  have e2 : (x0 * 16777216 + x1 * 65536) ||| x2 * 256 = x0 * 16777216 + x1 * 65536 + x2 * 256 := by
    have := or_shl (a := x0 * 256 + x1) (n := 16) (b := x2 * 256) (by omega)
    rw [show (x0 * 256 + x1) * 2 ^ 16 = x0 * 16777216 + x1 * 65536 from by omega] at this
    exact this
  have e3 : (x0 * 16777216 + x1 * 65536 + x2 * 256) ||| x3 = x0 * 16777216 + x1 * 65536 + x2 * 256 + x3 := by
    have := or_shl (a := x0 * 65536 + x1 * 256 + x2) (n := 8) (b := x3) (by omega)
    rw [show (x0 * 65536 + x1 * 256 + x2) * 2 ^ 8 = x0 * 16777216 + x1 * 65536 + x2 * 256 from by omega] at this
    exact this
  rw [e1, e2, e3]
theorem word_int {x0 x1 x2 x3 : Nat} (h0 : x0 < 256) (h1 : x1 < 256) (h2 : x2 < 256) (h3 : x3 < 256) :
    bits .or .u32 (bits .or .u32 (bits .or .u32 ((x0 : Nat) * 16777216) ((x1 : Nat) * 65536)) ((x2 : Nat) * 256)) (x3 : Nat) = ((x0 * 16777216 + x1 * 65536 + x2 * 256 + x3 : Nat) : Int) := by
  have e0 : ((x0 : Nat) : Int) * 16777216 = ((x0 * 16777216 : Nat) : Int) := by omega
  have e1 : ((x1 : Nat) : Int) * 65536 = ((x1 * 65536 : Nat) : Int) := by omega
  have e2 : ((x2 : Nat) : Int) * 256 = ((x2 * 256 : Nat) : Int) := by omega
  have l1 : x0 * 16777216 ||| x1 * 65536 < 4294967296 := by have := Nat.or_lt_two_pow (n := 32) (x := x0 * 16777216) (y := x1 * 65536) (by omega) (by omega); omega
  have l2 : (x0 * 16777216 ||| x1 * 65536) ||| x2 * 256 < 4294967296 := by have := Nat.or_lt_two_pow (n := 32) (x := x0 * 16777216 ||| x1 * 65536) (y := x2 * 256) (by omega) (by omega); omega
  rw [e0, e1, e2, u32_or_nat _ _ (by omega) (by omega), u32_or_nat _ _ l1 (by omega), u32_or_nat _ _ l2 (by omega), word_nat h1 h2 h3]
theorem s0_int {x : Nat} (h : x < 4294967296) : bits .xor .u32 (bits .xor .u32 (rot 7 x : Nat) (rot 18 x : Nat)) ((x : Nat) / 8) = ((s0 x : Nat) : Int) := by
  have e : ((x : Nat) : Int) / 8 = ((x / 8 : Nat) : Int) := by omega
  rw [e, u32_xor_nat _ _ (rot_lt h) (rot_lt h), u32_xor_nat _ _ (xor_lt (rot_lt h) (rot_lt h)) (by omega)]; rfl
theorem s1_int {x : Nat} (h : x < 4294967296) : bits .xor .u32 (bits .xor .u32 (rot 17 x : Nat) (rot 19 x : Nat)) ((x : Nat) / 1024) = ((s1 x : Nat) : Int) := by
  have e : ((x : Nat) : Int) / 1024 = ((x / 1024 : Nat) : Int) := by omega
  rw [e, u32_xor_nat _ _ (rot_lt h) (rot_lt h), u32_xor_nat _ _ (xor_lt (rot_lt h) (rot_lt h)) (by omega)]; rfl
end Go.Proofs.YtfkpgildeddhaaaGreat.Sm

/- A preimage, plainly. -/
namespace Go.Proofs.YtfkpgildeddhaaaGreat
open Go.RowKit

def tpart (t : List Nat) : List Nat := Sm.bigs t.length ++ t
def pre (tag : Nat) (L : List (List Nat)) : List Nat := tag :: L.flatMap tpart
def tot (L : List (List Nat)) : Nat := (pre 0 L).length
theorem pre_length (tag : Nat) (L : List (List Nat)) : (pre tag L).length = tot L := by simp [pre, tot]
theorem pre_step (tag : Nat) (L : List (List Nat)) (k : Nat) (h : k < L.length) : pre tag (L.take (k + 1)) = pre tag (L.take k) ++ tpart (L.getD k []) := by
  rw [take_succ_getD L k h]; simp [pre]
theorem tpart_length (t : List Nat) : (tpart t).length = 8 + t.length := by simp [tpart, Sm.bigs]; omega
theorem tot_step (L : List (List Nat)) (k : Nat) (h : k < L.length) : tot (L.take (k + 1)) = tot (L.take k) + (8 + (L.getD k []).length) := by
  have := congrArg List.length (pre_step 0 L k h)
  rw [List.length_append, tpart_length] at this
  exact this
theorem tot_split (L : List (List Nat)) (k : Nat) : tot L = tot (L.take k) + ((L.drop k).flatMap tpart).length := by
  have h : L.flatMap tpart = (L.take k).flatMap tpart ++ (L.drop k).flatMap tpart := by rw [← List.flatMap_append, List.take_append_drop]
  simp only [tot, pre, List.length_cons]
  rw [h, List.length_append]
  omega
theorem tot_take_le (L : List (List Nat)) (k : Nat) : tot (L.take k) ≤ tot L := by
  have := tot_split L k
  omega
theorem len_le_flat (M : List (List Nat)) : M.length ≤ (M.flatMap tpart).length := by
  induction M with
  | nil => simp
  | cons t M ih => rw [List.flatMap_cons, List.length_append, tpart_length]; simp only [List.length_cons]; omega
theorem len_le_tot (L : List (List Nat)) : L.length ≤ tot L := by
  have := len_le_flat L
  simp only [tot, pre, List.length_cons]
  omega
def PreRel (w : World) (tag len : Nat) (L : List (List Nat)) (v i : Value) (wr : World) : Prop :=
  ∃ k : Nat, k ≤ len ∧ i = .int .i64 k ∧ wr.ownsRow w.heap.size 5 1 v (tot (L.take k)) (vals (pre tag (L.take k))) ∧ Below w.heap.size w wr
theorem tot_zero : tot ([] : List (List Nat)) = 1 := rfl
theorem bigs_all (n : Nat) : Sm.allB (Sm.bigs n) := by
  have h : ∀ k, Sm.big n k < 256 := fun k => by unfold Sm.big; exact Nat.mod_lt _ (by omega)
  intro x hx
  simp only [Sm.bigs, List.mem_cons, List.not_mem_nil, or_false] at hx
  rcases hx with rfl | rfl | rfl | rfl | rfl | rfl | rfl | rfl <;> exact h _
end Go.Proofs.YtfkpgildeddhaaaGreat

/- A sum's bytes are bytes. -/
namespace Go.Proofs.YtfkpgildeddhaaaGreat

theorem sum_ok (B : List Nat) : Sm.allB (Sm.sum B) := by
  intro x hx
  simp only [Sm.sum, Sm.bytesOf, List.mem_flatMap] at hx
  obtain ⟨w, _, hx⟩ := hx
  simp only [Sm.bytes4, List.mem_cons, List.not_mem_nil, or_false] at hx
  rcases hx with rfl | rfl | rfl | rfl <;> exact Nat.mod_lt _ (by omega)
end Go.Proofs.YtfkpgildeddhaaaGreat

/- Texts by their sums, plainly. -/
namespace Go.Proofs.YtfkpgildeddhaaaGreat.Pg
open Go.RowKit

/-- The sum of a page. -/
def sumOf (b : List Nat) : List Nat := Sm.sum (pre 80 [b])
theorem sumOf_length (b : List Nat) : (sumOf b).length = 32 := rfl
theorem sumOf_ok (b : List Nat) : Sm.allB (sumOf b) := sum_ok _
/-- Pages: a sum, a text. -/
abbrev Pages := List (List Nat × List Nat)
/-- Where a sum stands first. -/
def idx (d : List Nat) : Pages → Nat
  | [] => 0
  | x :: r => if x.1 = d then 0 else idx d r + 1
def findI (W : Pages) (d : List Nat) : Int := if idx d W < W.length then (idx d W : Int) else -1
theorem idx_le (d : List Nat) : ∀ W : Pages, idx d W ≤ W.length
  | [] => Nat.le_refl _
  | x :: r => by
    rw [idx]
    split
    · omega
    · have := idx_le d r; simp; omega
theorem idx_at {d : List Nat} : ∀ {W : Pages}, idx d W < W.length → (W.getD (idx d W) default).1 = d
  | [], h => absurd h (Nat.not_lt_zero _)
  | x :: r, h => by
    rw [idx] at h ⊢
    split
    · next e => exact e
    · next e =>
      rw [if_neg e] at h
      simpa using idx_at (W := r) (by simpa using h)
theorem idx_before {d : List Nat} : ∀ {W : Pages} {i : Nat}, i < idx d W → (W.getD i default).1 ≠ d
  | [], i, h => absurd h (Nat.not_lt_zero _)
  | x :: r, i, h => by
    rw [idx] at h
    split at h
    · omega
    · next e =>
      cases i with
      | zero => simpa using e
      | succ i => simpa using idx_before (W := r) (by omega : i < idx d r)
/-- The first one that has it is it. -/
theorem idx_is {d : List Nat} {W : Pages} {i : Nat} (hi : i < W.length) (h : (W.getD i default).1 = d) (hb : ∀ j, j < i → (W.getD j default).1 ≠ d) : idx d W = i := by
  rcases Nat.lt_trichotomy (idx d W) i with h1 | h1 | h1
  · exact absurd (idx_at (Nat.lt_trans h1 hi)) (hb _ h1)
  · exact h1
  · exact absurd h (idx_before h1)
theorem idx_none {d : List Nat} {W : Pages} (hb : ∀ j, j < W.length → (W.getD j default).1 ≠ d) : idx d W = W.length := by
  rcases Nat.lt_or_ge (idx d W) W.length with h1 | h1
  · exact absurd (idx_at h1) (hb _ h1)
  · exact Nat.le_antisymm (idx_le d W) h1
/-- The text that is kept by a sum. -/
def textAt (W : Pages) (d : List Nat) : Option (List Nat) := if idx d W < W.length then some (W.getD (idx d W) default).2 else none
/-- What a store holds: its pages in the order in which they came, the first clash. -/
structure S where
  W : Pages
  cl : Option (List Nat × List Nat)
def putW (W : Pages) (b : List Nat) : Pages := if idx (sumOf b) W < W.length then W else W ++ [(sumOf b, b)]
def S.put (s : S) (b : List Nat) : S :=
  ⟨putW s.W b, match s.cl with
    | some x => some x
    | none => match textAt s.W (sumOf b) with
      | none => none
      | some t => if t = b then none else some (t, b)⟩
def keepW (W : Pages) (K : List (List Nat)) : Pages := W.filter (fun x => decide (x.1 ∈ K))
def S.keep (s : S) (K : List (List Nat)) : S := ⟨keepW s.W K, s.cl⟩
/-- What is true of every store: no sum twice, each text by its own sum, a clash is one. -/
structure S.ok (s : S) : Prop where
  one : (s.W.map (·.1)).Nodup
  sum : ∀ x ∈ s.W, x.1 = sumOf x.2
  bytes : ∀ x ∈ s.W, Sm.allB x.2
  clash : ∀ x, s.cl = some x → x.1 ≠ x.2 ∧ sumOf x.1 = sumOf x.2
theorem idx_mem {d : List Nat} {W : Pages} : idx d W < W.length ↔ d ∈ W.map (·.1) := by
  constructor
  · intro h
    have h1 := idx_at h
    rw [← h1, List.getD_eq_getElem?_getD, List.getElem?_eq_getElem h, Option.getD_some]
    exact List.mem_map_of_mem (List.getElem_mem h)
  · intro h
    obtain ⟨x, hx, rfl⟩ := List.mem_map.1 h
    obtain ⟨i, hi, rfl⟩ := List.getElem_of_mem hx
    rcases Nat.lt_or_ge (idx W[i].1 W) W.length with h1 | h1
    · exact h1
    · exact absurd (show (W.getD i default).1 = W[i].1 from by rw [List.getD_eq_getElem?_getD, List.getElem?_eq_getElem hi]; rfl) (idx_before (by omega))
theorem textAt_some {W : Pages} {d : List Nat} (h : idx d W < W.length) : textAt W d = some (W.getD (idx d W) default).2 := if_pos h
theorem textAt_none {W : Pages} {d : List Nat} (h : ¬ idx d W < W.length) : textAt W d = none := if_neg h
theorem S.new_ok : S.ok ⟨[], none⟩ := ⟨List.nodup_nil, (fun x hx => by cases hx), (fun x hx => by cases hx), fun x hx => by cases hx⟩
theorem getD_mem {W : Pages} {i : Nat} (h : i < W.length) : W.getD i default ∈ W := by
  rw [List.getD_eq_getElem?_getD, List.getElem?_eq_getElem h]
  exact List.getElem_mem h
theorem S.put_ok {s : S} (h : s.ok) {b : List Nat} (hb : Sm.allB b) : (s.put b).ok := by
  refine ⟨?_, ?_, ?_, ?_⟩
  · show ((putW s.W b).map (·.1)).Nodup
    unfold putW
    split
    · exact h.one
    · next hn =>
      rw [List.map_append, List.nodup_append]
      refine ⟨h.one, by simp, fun a ha c hc e => hn (idx_mem.2 ?_)⟩
      simp only [List.map_cons, List.map_nil, List.mem_singleton] at hc
      rw [← hc, ← e]
      exact ha
  · intro x hx
    simp only [S.put, putW] at hx
    split at hx
    · exact h.sum x hx
    · rcases List.mem_append.1 hx with hx | hx
      · exact h.sum x hx
      · rw [List.mem_singleton.1 hx]
  · intro x hx
    simp only [S.put, putW] at hx
    split at hx
    · exact h.bytes x hx
    · rcases List.mem_append.1 hx with hx | hx
      · exact h.bytes x hx
      · rw [List.mem_singleton.1 hx]; exact hb
  · intro x hx
    simp only [S.put] at hx
    split at hx
    · next y hy => exact h.clash x (by rw [hy]; exact hx)
    · split at hx
      · cases hx
      · next t ht =>
        split at hx
        · cases hx
        · next hne =>
          cases hx
          refine ⟨hne, ?_⟩
          unfold textAt at ht
          split at ht
          · next hi =>
            cases ht
            have h1 := h.sum _ (getD_mem hi)
            rw [← h1]
            exact idx_at hi
          · cases ht
theorem S.keep_ok {s : S} (h : s.ok) (K : List (List Nat)) : (s.keep K).ok :=
  ⟨(List.Nodup.sublist (List.Sublist.map _ List.filter_sublist) h.one), fun x hx => h.sum x ((List.mem_filter.1 hx).1), fun x hx => h.bytes x ((List.mem_filter.1 hx).1), h.clash⟩
/-- Behind a put, without a clash, the text is got. -/
theorem put_got {s : S} {b : List Nat} (hc : (s.put b).cl = none) : textAt (s.put b).W (sumOf b) = some b := by
  simp only [S.put] at hc
  split at hc
  · cases hc
  · show textAt (putW s.W b) (sumOf b) = some b
    unfold putW
    split
    · next hi =>
      rw [textAt_some hi] at hc
      simp only at hc
      split at hc
      · next e => rw [textAt_some hi, e]
      · cases hc
    · next hi =>
      have h1 : idx (sumOf b) (s.W ++ [(sumOf b, b)]) = s.W.length := idx_is (by simp) (by simp) (fun j hj => by
        rw [List.getD_eq_getElem?_getD, List.getElem?_append_left hj, ← List.getD_eq_getElem?_getD]
        exact idx_before (by have := idx_le (sumOf b) s.W; omega))
      rw [textAt_some (by rw [h1]; simp), h1]
      simp
theorem put_has (s : S) (b : List Nat) : idx (sumOf b) (s.put b).W < (s.put b).W.length := by
  show idx (sumOf b) (putW s.W b) < (putW s.W b).length
  rw [idx_mem]
  unfold putW
  split
  · next hi => exact idx_mem.1 hi
  · simp
end Go.Proofs.YtfkpgildeddhaaaGreat.Pg

/- What a node says, plainly; how long its bytes are. -/
namespace Go.Proofs.YtfkpgildeddhaaaGreat.Nd
open Go.RowKit Go.Proofs.YtfkpgildeddhaaaGreat.Pg

/-- What a node says. -/
def PN.says (n : PN) : PK := { n.tally with sum := sumOf n.bytes }
theorem flat_len {α : Type} (f : α → List Nat) (B : Nat) : ∀ L : List α, (∀ x ∈ L, (f x).length ≤ B) → (L.flatMap f).length ≤ B * L.length
  | [], _ => by simp
  | x :: L, h => by
    have h1 := h x (by simp)
    have h2 := flat_len f B L (fun y hy => h y (by simp [hy]))
    rw [List.flatMap_cons, List.length_append, List.length_cons, Nat.mul_add]
    omega
theorem node_bytes_len {n : PN} (h : n.Fit) (hs : ∀ k ∈ n.kids, k.sum.length = 32) : n.bytes.length ≤ 100000 := by
  have h1 := flat_len PE.bytes 70 n.rows (fun e he => by
    have := h.row e he
    unfold PE.bytes
    rw [List.length_cons, rowBs_length]
    omega)
  have h2 := flat_len PK.bytes 300 n.kids (fun k hk => kid_bytes_len (h.kid k hk) (hs k hk))
  have h3 := h.rows
  have h4 := h.kids
  unfold PN.bytes
  simp only [List.length_cons, List.length_append]
  omega
theorem kd_rows_ok {w : World} {kd : Kd} (h : kd.Ok w) : ∀ r ∈ kd.rows, r.Ok w := fun r hr => by
  simp only [Kd.rows, List.mem_cons, List.not_mem_nil, or_false] at hr
  rcases hr with rfl | rfl | rfl
  · exact h.lo
  · exact h.hi
  · exact h.key
end Go.Proofs.YtfkpgildeddhaaaGreat.Nd

/- The preimage of a page. -/
namespace Go.Proofs.YtfkpgildeddhaaaGreat.Pg
open Go.RowKit

theorem one_text {w : World} {g : Nat} {q : Option Addr} {n c : Nat} {A : List Nat} (h : w.heap[g]? = some (.cells #[.slice q n c] 22 (0, 0))) (h1 : Tx w q n c A) : Texts w (some ⟨g, 0, none⟩) 1 1 [A] :=
  ⟨rfl, Nat.le_refl _, fun _ => ⟨g, 0, rfl, fun i hi => by
    have h0 := fun j => cell_of_row w g j _ _ _ h
    match i, hi with
    | 0, _ => exact ⟨q, n, c, h0 0, h1⟩⟩⟩
theorem pre_ok {L : List (List Nat)} (tag : Nat) (ht : tag < 256) (h : ∀ b ∈ L, Sm.allB b) : Sm.allB (pre tag L) := by
  intro x hx
  simp only [pre, List.mem_cons, List.mem_flatMap, tpart, List.mem_append] at hx
  rcases hx with rfl | ⟨t, htl, h1 | h1⟩
  · exact ht
  · exact bigs_all _ x h1
  · exact h t htl x h1
theorem pre_one (a : Nat) (b : List Nat) : (pre a [b]).length = 9 + b.length := by
  rw [pre, List.length_cons, List.flatMap_cons, List.flatMap_nil, List.append_nil, tpart_length]
  omega
theorem tot_one (b : List Nat) : tot [b] = 9 + b.length := pre_one 0 b
end Go.Proofs.YtfkpgildeddhaaaGreat.Pg

/- The contracts of the smallest functions of package sha: a word turned, the words that are given. -/
namespace Go.Proofs.YtfkpgildeddhaaaGreat
open Go.RowKit

theorem ret_u32 {a b : Int} (h : a = b) : Ending.returned (.int .u32 a) = .returned (.int .u32 b) := by rw [h]
set_option maxHeartbeats 400000 in
theorem rot_any (x n : Nat) (k : Int) (w : World) (hx : x < 4294967296) (hn : 0 < n) (hn' : n < 32) (hk : bits .and .u64 (IntKind.u64.wrap k) 31 = ((32 - n : Nat) : Int)) :
    Calls Tryz.prog 113 #[.int .u32 x, .int .i64 k] w fun e w' => e = .returned (.int .u32 (Sm.rot n x)) ∧ w = w' := by
  obtain ⟨m, hm⟩ : ∃ m, m = 32 - n := ⟨_, rfl⟩
  rw [← hm] at hk
  have h1 : (0 : Int) ≤ m := by omega
  have h2 : (m : Int) ≤ 32 := by omega
  have h3 : (0 : Int) ≤ 32 - m := by omega
  have h4 : (32 - m : Int) ≤ 32 := by omega
  have HM := Lib.hid hm
  clear hm
  go_enter Tryz.func113, Tryz.ntmps113
  go_wp2
  go_ret
  refine ⟨ret_u32 ?_, rfl⟩
  have e := HM.out
  have e1 : (x : Int) * 2 ^ m % 4294967296 = ((x * 2 ^ (32 - n) % 4294967296 : Nat) : Int) := by
    rw [Int.natCast_emod, Int.natCast_mul, Int.natCast_pow, e]; rfl
  have e2 : (x : Int) / 2 ^ (32 - m) = ((x / 2 ^ n : Nat) : Int) := by
    have e3 : 32 - m = n := by omega
    rw [e3, Int.natCast_ediv, Int.natCast_pow]; rfl
  rw [e1, e2]
  exact u32_or_nat _ _ (Nat.mod_lt _ (by omega)) (Nat.lt_of_le_of_lt (Nat.div_le_self _ _) hx)
theorem rk2 : bits .and .u64 (IntKind.u64.wrap (-2)) 31 = ((32 - 2 : Nat) : Int) := by decide +kernel
theorem rk6 : bits .and .u64 (IntKind.u64.wrap (-6)) 31 = ((32 - 6 : Nat) : Int) := by decide +kernel
theorem rk7 : bits .and .u64 (IntKind.u64.wrap (-7)) 31 = ((32 - 7 : Nat) : Int) := by decide +kernel
theorem rk11 : bits .and .u64 (IntKind.u64.wrap (-11)) 31 = ((32 - 11 : Nat) : Int) := by decide +kernel
theorem rk13 : bits .and .u64 (IntKind.u64.wrap (-13)) 31 = ((32 - 13 : Nat) : Int) := by decide +kernel
theorem rk17 : bits .and .u64 (IntKind.u64.wrap (-17)) 31 = ((32 - 17 : Nat) : Int) := by decide +kernel
theorem rk18 : bits .and .u64 (IntKind.u64.wrap (-18)) 31 = ((32 - 18 : Nat) : Int) := by decide +kernel
theorem rk19 : bits .and .u64 (IntKind.u64.wrap (-19)) 31 = ((32 - 19 : Nat) : Int) := by decide +kernel
theorem rk22 : bits .and .u64 (IntKind.u64.wrap (-22)) 31 = ((32 - 22 : Nat) : Int) := by decide +kernel
theorem rk25 : bits .and .u64 (IntKind.u64.wrap (-25)) 31 = ((32 - 25 : Nat) : Int) := by decide +kernel
/-- A word turned by one of the ten numbers that SHA-256 names. -/
theorem rot_of (n x : Nat) (k : Int) (w : World) (hx : x < 4294967296) (hn : (k = -2 ∧ n = 2) ∨ (k = -6 ∧ n = 6) ∨ (k = -7 ∧ n = 7) ∨ (k = -11 ∧ n = 11) ∨ (k = -13 ∧ n = 13) ∨ (k = -17 ∧ n = 17) ∨ (k = -18 ∧ n = 18) ∨ (k = -19 ∧ n = 19) ∨ (k = -22 ∧ n = 22) ∨ (k = -25 ∧ n = 25)) :
    Calls Tryz.prog 113 #[.int .u32 x, .int .i64 k] w fun e w' => e = .returned (.int .u32 (Sm.rot n x)) ∧ w = w' := by
  rcases hn with ⟨rfl, rfl⟩ | ⟨rfl, rfl⟩ | ⟨rfl, rfl⟩ | ⟨rfl, rfl⟩ | ⟨rfl, rfl⟩ | ⟨rfl, rfl⟩ | ⟨rfl, rfl⟩ | ⟨rfl, rfl⟩ | ⟨rfl, rfl⟩ | ⟨rfl, rfl⟩
  · exact rot_any x 2 _ w hx (by omega) (by omega) rk2
  · exact rot_any x 6 _ w hx (by omega) (by omega) rk6
  · exact rot_any x 7 _ w hx (by omega) (by omega) rk7
  · exact rot_any x 11 _ w hx (by omega) (by omega) rk11
  · exact rot_any x 13 _ w hx (by omega) (by omega) rk13
  · exact rot_any x 17 _ w hx (by omega) (by omega) rk17
  · exact rot_any x 18 _ w hx (by omega) (by omega) rk18
  · exact rot_any x 19 _ w hx (by omega) (by omega) rk19
  · exact rot_any x 22 _ w hx (by omega) (by omega) rk22
  · exact rot_any x 25 _ w hx (by omega) (by omega) rk25
def u32s (l : List Nat) : Array Value := (l.map fun x => Value.int .u32 (x : Nat)).toArray
theorem A32 : Tryz.prog.underlying 124 = some (.array 8 123) := by kernel_rfl
theorem S32 : (Tryz.prog.info? 124).map (·.size) = some 8 := by kernel_rfl
theorem A62 : Tryz.prog.underlying 148 = some (.array 64 123) := by kernel_rfl
theorem S62 : (Tryz.prog.info? 148).map (·.size) = some 64 := by kernel_rfl
set_option maxHeartbeats 400000 in
theorem firstWords_any (w : World) :
    Calls Tryz.prog 103 #[] w fun e w' => e = .returned (.agg (u32s Sm.first.list)) ∧ Below w.heap.size w w' := by
  go_enter Tryz.func103, Tryz.ntmps103
  go_wp2
  exact ret_row 0 (by kernel_rfl) w.heap.size _ _ A32 S32 rfl (heap_alloc_new w _) rfl ⟨rfl, (Below.refl _ _).alloc (Nat.le_refl _) _⟩
end Go.Proofs.YtfkpgildeddhaaaGreat

/- The contract of sha.turn: eight words turned by one block. -/
namespace Go.Proofs.YtfkpgildeddhaaaGreat
open Go.RowKit

theorem rot2 (x : Nat) (w : World) (hx : x < 4294967296) : Calls Tryz.prog 113 #[.int .u32 x, .int .i64 (-2)] w fun e w' => e = .returned (.int .u32 (Sm.rot 2 x)) ∧ w = w' := rot_of 2 x _ w hx (by omega)
theorem rot6 (x : Nat) (w : World) (hx : x < 4294967296) : Calls Tryz.prog 113 #[.int .u32 x, .int .i64 (-6)] w fun e w' => e = .returned (.int .u32 (Sm.rot 6 x)) ∧ w = w' := rot_of 6 x _ w hx (by omega)
theorem rot11 (x : Nat) (w : World) (hx : x < 4294967296) : Calls Tryz.prog 113 #[.int .u32 x, .int .i64 (-11)] w fun e w' => e = .returned (.int .u32 (Sm.rot 11 x)) ∧ w = w' := rot_of 11 x _ w hx (by omega)
theorem rot13 (x : Nat) (w : World) (hx : x < 4294967296) : Calls Tryz.prog 113 #[.int .u32 x, .int .i64 (-13)] w fun e w' => e = .returned (.int .u32 (Sm.rot 13 x)) ∧ w = w' := rot_of 13 x _ w hx (by omega)
theorem rot22 (x : Nat) (w : World) (hx : x < 4294967296) : Calls Tryz.prog 113 #[.int .u32 x, .int .i64 (-22)] w fun e w' => e = .returned (.int .u32 (Sm.rot 22 x)) ∧ w = w' := rot_of 22 x _ w hx (by omega)
theorem rot25 (x : Nat) (w : World) (hx : x < 4294967296) : Calls Tryz.prog 113 #[.int .u32 x, .int .i64 (-25)] w fun e w' => e = .returned (.int .u32 (Sm.rot 25 x)) ∧ w = w' := rot_of 25 x _ w hx (by omega)
theorem rot7 (x : Nat) (w : World) (hx : x < 4294967296) : Calls Tryz.prog 113 #[.int .u32 x, .int .i64 (-7)] w fun e w' => e = .returned (.int .u32 (Sm.rot 7 x)) ∧ w = w' := rot_of 7 x _ w hx (by omega)
theorem rot18 (x : Nat) (w : World) (hx : x < 4294967296) : Calls Tryz.prog 113 #[.int .u32 x, .int .i64 (-18)] w fun e w' => e = .returned (.int .u32 (Sm.rot 18 x)) ∧ w = w' := rot_of 18 x _ w hx (by omega)
theorem rot17 (x : Nat) (w : World) (hx : x < 4294967296) : Calls Tryz.prog 113 #[.int .u32 x, .int .i64 (-17)] w fun e w' => e = .returned (.int .u32 (Sm.rot 17 x)) ∧ w = w' := rot_of 17 x _ w hx (by omega)
theorem rot19 (x : Nat) (w : World) (hx : x < 4294967296) : Calls Tryz.prog 113 #[.int .u32 x, .int .i64 (-19)] w fun e w' => e = .returned (.int .u32 (Sm.rot 19 x)) ∧ w = w' := rot_of 19 x _ w hx (by omega)

theorem u32s_get (l : List Nat) (i : Nat) (h : i < l.length) : (u32s l)[i]? = some (.int .u32 (l.getD i 0 : Nat)) := by
  simp [u32s, List.getD_eq_getElem?_getD, List.getElem?_eq_getElem h]
theorem u32s_cell {w : World} {g : Nat} {l : List Nat} {t : TypeId} {fr : Nat × Nat} (hg : w.heap[g]? = some (.cells (u32s l) t fr)) (i : Nat) (h : i < l.length) : w.cell? ⟨g, i, none⟩ = some (.int .u32 (l.getD i 0 : Nat)) := by
  rw [cell_of_row w g i _ t fr hg, u32s_get l i h]
theorem u32_eq {a b : Int} (h : a = b) : Value.int .u32 a = Value.int .u32 b := by rw [h]
structure Facts (w WB : World) (gw gk : Nat) (W K : List Nat) (A : Array Value) : Prop where
  below : Below w.heap.size w WB
  cw : ∀ i, i < 64 → WB.cell? ⟨gw, i, none⟩ = some (.int .u32 (W.getD i 0 : Nat))
  ck : ∀ i, i < 64 → WB.cell? ⟨gk, i, none⟩ = some (.int .u32 (K.getD i 0 : Nat))
  box : WB.heap[w.heap.size]? = some (.cells A 124 (0, 0))
  res : ∃ C, WB.heap[w.heap.size + 1]? = some (.cells C 124 (0, 0)) ∧ C.size = 8
theorem Facts.mk' (w : World) (nq gw gk : Nat) (W K : List Nat) (A C : Array Value)
    (cw : ∀ i, i < 64 → w.cell? ⟨gw, i, none⟩ = some (.int .u32 (W.getD i 0 : Nat)))
    (ck : ∀ i, i < 64 → w.cell? ⟨gk, i, none⟩ = some (.int .u32 (K.getD i 0 : Nat)))
    (bw : gw < w.heap.size) (bk : gk < w.heap.size) (hC : C.size = 8 := by rfl) :
    Facts w (World.drewN ((w.alloc (.cells A 124)).alloc (.cells C 124)) nq) gw gk W K A := by
  have hb : Below w.heap.size w ((w.alloc (.cells A 124)).alloc (.cells C 124)) := ((Below.refl _ _).alloc (Nat.le_refl _) _).alloc (by simp) _
  refine ⟨hb.trans ⟨rfl, rfl, rfl, Nat.le_refl _, fun _ _ => rfl⟩, fun i hi => ?_, fun i hi => ?_, ?_, C, ?_, hC⟩
  · exact (hb.cell (p := ⟨gw, i, none⟩) bw).trans (cw i hi)
  · exact (hb.cell (p := ⟨gk, i, none⟩) bk).trans (ck i hi)
  · exact heap_alloc2_old w _ _
  · exact heap_alloc2_new w _ _
def TurnRel (K W : List Nat) (v : Sm.V8) (W0 : World) (a b c d e f g h i : Value) (wr : World) : Prop :=
  ∃ k : Nat, k ≤ 64 ∧ i = .int .i64 k ∧ a = .int .u32 (Sm.rounds K W v k).a ∧ b = .int .u32 (Sm.rounds K W v k).b ∧ c = .int .u32 (Sm.rounds K W v k).c ∧ d = .int .u32 (Sm.rounds K W v k).d ∧ e = .int .u32 (Sm.rounds K W v k).e ∧ f = .int .u32 (Sm.rounds K W v k).f ∧ g = .int .u32 (Sm.rounds K W v k).g ∧ h = .int .u32 (Sm.rounds K W v k).h ∧ SameHeap W0 wr
set_option maxRecDepth 100000 in
set_option maxHeartbeats 1000000 in
theorem turn_any (v : Sm.V8) (hv : v.ok) (W K : List Nat) (hW : Sm.allW W) (hK : Sm.allW K) (lW : W.length = 64) (lK : K.length = 64) (gw gk : Nat) (w : World)
    (hw : w.heap[gw]? = some (.cells (u32s W) 148 (0, 0))) (hk : w.heap[gk]? = some (.cells (u32s K) 148 (0, 0))) :
    Calls Tryz.prog 111 #[.agg (u32s v.list), .pointer (some ⟨gw, 0, none⟩), .pointer (some ⟨gk, 0, none⟩)] w fun e w' => e = .returned (.agg (u32s (Sm.turn K W v).list)) ∧ Below w.heap.size w w' := by
  obtain ⟨a, b, c, d, e, f, g, h⟩ := v
  have cw : ∀ i, i < 64 → w.cell? ⟨gw, i, none⟩ = some (.int .u32 (W.getD i 0 : Nat)) := fun i hi => u32s_cell hw i (by omega)
  have ck : ∀ i, i < 64 → w.cell? ⟨gk, i, none⟩ = some (.int .u32 (K.getD i 0 : Nat)) := fun i hi => u32s_cell hk i (by omega)
  have bw : gw < w.heap.size := (Array.getElem?_eq_some_iff.1 hw).1
  have bk : gk < w.heap.size := (Array.getElem?_eq_some_iff.1 hk).1
  have CW := Lib.hid cw
  have CK := Lib.hid ck
  have LW := Lib.hid lW
  have LK := Lib.hid lK
  have HW := Lib.hid hW
  have HK := Lib.hid hK
  have HV := Lib.hid hv
  clear cw ck lW lK hW hK hv hw hk
  show Calls Tryz.prog 111 #[.agg #[.int .u32 a, .int .u32 b, .int .u32 c, .int .u32 d, .int .u32 e, .int .u32 f, .int .u32 g, .int .u32 h], .pointer (some ⟨gw, 0, none⟩), .pointer (some ⟨gk, 0, none⟩)] w _
  go_enter Tryz.func111, Tryz.ntmps111
  go_wp2_with fail
  go_quiet (fail)
  go_wp2_with fail
  generalize hWB : World.drewN ((w.alloc (.cells #[.int .u32 a, .int .u32 b, .int .u32 c, .int .u32 d, .int .u32 e, .int .u32 f, .int .u32 g, .int .u32 h] 124)).alloc (.cells #[.int .u32 0, .int .u32 0, .int .u32 0, .int .u32 0, .int .u32 0, .int .u32 0, .int .u32 0, .int .u32 0] 124)) nq = WB
  have FB : Facts w WB gw gk W K #[.int .u32 a, .int .u32 b, .int .u32 c, .int .u32 d, .int .u32 e, .int .u32 f, .int .u32 g, .int .u32 h] := by
    subst hWB
    exact Facts.mk' w nq gw gk W K _ _ CW.out CK.out bw bk
  have FF := Lib.hid FB
  clear FB hWB
  go_loopw [7, 8, 9, 10, 11, 12, 13, 14, 38] (fun a' b' c' d' e' f' g' h' i wr => TurnRel K W ⟨a, b, c, d, e, f, g, h⟩ WB a' b' c' d' e' f' g' h' i wr) (fun _ _ _ _ _ _ _ _ i _ => 64 - (intOf i).toNat)
  case atStart => exact ⟨0, by omega, rfl, rfl, rfl, rfl, rfl, rfl, rfl, rfl, rfl, SameHeap.refl _⟩
  case round =>
    obtain ⟨k, hk, rfl, rfl, rfl, rfl, rfl, rfl, rfl, rfl, rfl, hs⟩ := hrel
    have ho : (Sm.rounds K W ⟨a, b, c, d, e, f, g, h⟩ k).ok := Sm.rounds_ok HV.out k
    have HS := Lib.hid hs
    clear hs
    by_cases hlt : k < 64
    · obtain ⟨u, hu⟩ : ∃ u, u = Sm.rounds K W ⟨a, b, c, d, e, f, g, h⟩ k := ⟨_, rfl⟩
      rw [← hu] at ho ⊢
      have HU := Lib.hid hu
      clear hu
      have HO := Lib.hid ho
      obtain ⟨ha, hb, hc, hd, he, hf, hg, hh⟩ := ho
      have xw := (HS.out.cell ⟨gw, k, none⟩).trans (FF.out.cw k hlt)
      have xk := (HS.out.cell ⟨gk, k, none⟩).trans (FF.out.ck k hlt)
      go_wp2_with (go_at_call 113; first | ((with_reducible refine (rot6 _ _ he).mono ?_); rintro _ _ ⟨rfl, rfl⟩) | ((with_reducible refine (rot11 _ _ he).mono ?_); rintro _ _ ⟨rfl, rfl⟩) | ((with_reducible refine (rot25 _ _ he).mono ?_); rintro _ _ ⟨rfl, rfl⟩))
      go_quiet (fail)
      go_wp2_with (go_at_call 113; first | ((with_reducible refine (rot2 _ _ ha).mono ?_); rintro _ _ ⟨rfl, rfl⟩) | ((with_reducible refine (rot13 _ _ ha).mono ?_); rintro _ _ ⟨rfl, rfl⟩) | ((with_reducible refine (rot22 _ _ ha).mono ?_); rintro _ _ ⟨rfl, rfl⟩))
      go_roundw
      case rel =>
        show TurnRel _ _ _ _ _ _ _ _ _ _ _ _ _ _
        rw [← List.getD_eq_getElem?_getD, ← List.getD_eq_getElem?_getD, Sm.t1_int HO.out, Sm.t2_int HO.out]
        refine ⟨k + 1, by omega, by go_num, ?_, ?_, ?_, ?_, ?_, ?_, ?_, ?_, HS.out.drewN _⟩
        · rw [Sm.rounds, ← HU.out]; exact u32_eq (by simp only [Sm.step]; omega)
        · rw [Sm.rounds, ← HU.out]; rfl
        · rw [Sm.rounds, ← HU.out]; rfl
        · rw [Sm.rounds, ← HU.out]; rfl
        · rw [Sm.rounds, ← HU.out]; exact u32_eq (by simp only [Sm.step]; omega)
        · rw [Sm.rounds, ← HU.out]; rfl
        · rw [Sm.rounds, ← HU.out]; rfl
        · rw [Sm.rounds, ← HU.out]; rfl
      case measure => simp [intOf]; omega
    · obtain rfl : k = 64 := by omega
      obtain ⟨u, hu⟩ : ∃ u, u = Sm.rounds K W ⟨a, b, c, d, e, f, g, h⟩ 64 := ⟨_, rfl⟩
      rw [← hu] at ho ⊢
      have HU := Lib.hid hu
      clear hu ho
      have hbox : wr.heap[w.heap.size]? = some (.cells (u32s [a, b, c, d, e, f, g, h]) 124 (0, 0)) := by rw [HS.out.heap]; exact FF.out.box
      obtain ⟨C, hC, hC8⟩ := FF.out.res
      rw [← HS.out.heap] at hC
      have HC := Lib.hid hC
      have HC8 := Lib.hid hC8
      clear hC hC8
      have c0 := u32s_cell hbox 0 (by simp)
      have c1 := u32s_cell hbox 1 (by simp)
      have c2 := u32s_cell hbox 2 (by simp)
      have c3 := u32s_cell hbox 3 (by simp)
      have c4 := u32s_cell hbox 4 (by simp)
      have c5 := u32s_cell hbox 5 (by simp)
      have c6 := u32s_cell hbox 6 (by simp)
      have c7 := u32s_cell hbox 7 (by simp)
      clear hbox
      simp only [List.getD_cons_zero, List.getD_cons_succ] at c0 c1 c2 c3 c4 c5 c6 c7
      go_wp2_with (refine wpList_store_row (by rfl) 124 _ _ (by rfl) (w.heap.size + 1) _ (by rfl) (by rfl) _ _ HC.out (by exact S32) (by exact HC8.out) (by simp [Value.oneCell']) ?_)
      refine ret_row 6 (by kernel_rfl) (w.heap.size + 1) _ _ A32 S32 rfl (setRow_heap _ _ _ _ _ _ HC.out) (by rfl) ?_
      refine ⟨?_, ?_⟩
      · rw [Sm.turn, ← HU.out]
        simp only [u32s, Sm.add8, Sm.V8.list, List.map_cons, List.map_nil, Int.natCast_emod, Int.natCast_add]
        rfl
      · exact Below.setRow ((FF.out.below).trans (HS.out.below.mono FF.out.below.size)) (by omega) _
end Go.Proofs.YtfkpgildeddhaaaGreat

/- The contract of sha.schedule: a block's 64 words. -/
namespace Go.Proofs.YtfkpgildeddhaaaGreat
open Go.RowKit

structure SFacts (w WB : World) (gb ob : Nat) (B : List Nat) (L : List Nat) : Prop where
  below : Below w.heap.size w WB
  bytes : bytesAt WB gb ob B
  res : ∃ C, WB.heap[w.heap.size]? = some (.cells C 148 (0, 0)) ∧ C.size = 64
  lt : gb < w.heap.size
  row : WB.heap[w.heap.size + 1]? = some (.cells (u32s L) 148 (0, 0))
theorem SFacts.drewN {w WB : World} {gb ob : Nat} {B L : List Nat} (h : SFacts w WB gb ob B L) (n : Nat) : SFacts w (WB.drewN n) gb ob B L :=
  ⟨h.below.trans ⟨rfl, rfl, rfl, Nat.le_refl _, fun _ _ => rfl⟩, h.bytes, h.res, h.lt, h.row⟩
theorem SFacts.mk' (w : World) (gb ob : Nat) (B : List Nat) (hw : bytesAt w gb ob B) (hl : 0 < B.length) : SFacts w ((w.alloc (.cells (u32s (zeros 64)) 148)).alloc (.cells (u32s (zeros 64)) 148)) gb ob B (zeros 64) := by
  have hb : Below w.heap.size w ((w.alloc (.cells (u32s (zeros 64)) 148)).alloc (.cells (u32s (zeros 64)) 148)) := ((Below.refl _ _).alloc (Nat.le_refl _) _).alloc (by simp) _
  refine ⟨hb, fun i hi => ?_, ⟨_, heap_alloc2_old w _ _, by simp [u32s, zeros]⟩, block_lt_of_cell (hw 0 hl), heap_alloc2_new w _ _⟩
  have := hw i hi
  exact (hb.cell (p := ⟨gb, ob + i, none⟩) (block_lt_of_cell this)).trans this
theorem u32s_set (p r : List Nat) (y x k : Nat) (hk : p.length = k) : (u32s (p ++ y :: r)).setIfInBounds k (.int .u32 (x : Nat)) = u32s (p ++ x :: r) := by
  subst hk
  apply Array.ext'
  simp [u32s]
theorem SFacts.store {w WB : World} {gb ob : Nat} {B p r : List Nat} {y : Nat} (h : SFacts w WB gb ob B (p ++ y :: r)) (k : Nat) (hk : p.length = k) (x : Nat) :
    SFacts w (WB.setCell ⟨w.heap.size + 1, k, none⟩ (.int .u32 (x : Nat))) gb ob B (p ++ x :: r) := by
  obtain ⟨C, hC, hC6⟩ := h.res
  refine ⟨h.below.setCell (by show w.heap.size ≤ w.heap.size + 1; omega) _, fun i hi => ?_, ⟨C, ?_, hC6⟩, h.lt, ?_⟩
  · rw [World.cell?_setCell_other _ _ _ _ (by intro e; have e1 : w.heap.size + 1 = gb := congrArg Addr.block e; have := h.lt; omega)]
    exact h.bytes i hi
  · rw [heap_setCell_other _ _ _ _ (by show w.heap.size ≠ w.heap.size + 1; omega)]; exact hC
  · rw [heap_setCell_same _ _ _ _ _ _ h.row, u32s_set p r y x k hk]
def SRel2 (w : World) (gb ob : Nat) (B : List Nat) (i : Value) (wr : World) : Prop :=
  ∃ k : Nat, k ≤ 48 ∧ i = .int .i64 ((16 + k : Nat) : Int) ∧ SFacts w wr gb ob B (Sm.more (Sm.words B 16) k ++ zeros (48 - k))
theorem u32s_one (l : List Nat) : (u32s l).all (·.oneCell') = true := by simp [u32s, Value.oneCell']
theorem sched_size (B : List Nat) : (u32s (Sm.sched B)).size = 64 := by simp [u32s, Sm.length_sched]
def SRel1 (w : World) (gb ob : Nat) (B : List Nat) (i : Value) (wr : World) : Prop :=
  ∃ k : Nat, k ≤ 16 ∧ i = .int .i64 k ∧ SFacts w wr gb ob B (Sm.words B k ++ zeros (64 - k))
theorem Z62 : (Tryz.prog.info? 148).map (fun i => (i.zero, i.size)) = some (some (.agg (u32s (zeros 64))), 64) := by kernel_rfl
set_option maxRecDepth 100000 in
set_option maxHeartbeats 1000000 in
theorem sched_any (B : List Nat) (hB : Sm.allB B) (lB : 64 ≤ B.length) (gb ob cap : Nat) (hcap : 64 ≤ cap) (w : World) (hw : bytesAt w gb ob B) :
    Calls Tryz.prog 110 #[.slice (some ⟨gb, ob, none⟩) 64 cap] w fun e w' => e = .returned (.agg (u32s (Sm.sched B))) ∧ Below w.heap.size w w' := by
  have HB := Lib.hid hB
  have LB := Lib.hid lB
  have HW := Lib.hid hw
  clear hB lB hw
  have hz := (zero_of_info Z62).1
  go_enter Tryz.func110, Tryz.ntmps110
  go_wp2_with fail
  generalize hWB : (w.alloc (.cells (u32s (zeros 64)) 148)).alloc (.cells (u32s (zeros 64)) 148) = WB
  have FB : SFacts w WB gb ob B (zeros 64) := by
    subst hWB
    exact SFacts.mk' w gb ob B HW.out (by have := LB.out; omega)
  have FF := Lib.hid FB
  clear FB hWB hz
  go_loopw [11] (fun i wr => SRel1 w gb ob B i wr) (fun i _ => 16 - (intOf i).toNat)
  case atStart => exact ⟨0, by omega, rfl, FF.out⟩
  case round =>
    obtain ⟨k, hk, rfl, hs⟩ := hrel
    have HS := Lib.hid hs
    clear hs FF
    by_cases hlt : k < 16
    · have g0 : wr.cell? ⟨gb, ob + 4 * k, none⟩ = _ := HS.out.bytes (4 * k) (by have := LB.out; omega)
      have g1 : wr.cell? ⟨gb, ob + 4 * k + 1, none⟩ = _ := HS.out.bytes (4 * k + 1) (by have := LB.out; omega)
      have g2 : wr.cell? ⟨gb, ob + 4 * k + 2, none⟩ = _ := HS.out.bytes (4 * k + 2) (by have := LB.out; omega)
      have g3 : wr.cell? ⟨gb, ob + 4 * k + 3, none⟩ = _ := HS.out.bytes (4 * k + 3) (by have := LB.out; omega)
      obtain ⟨x0, hx0⟩ : ∃ x, x = B.getD (4 * k) 0 := ⟨_, rfl⟩
      obtain ⟨x1, hx1⟩ : ∃ x, x = B.getD (4 * k + 1) 0 := ⟨_, rfl⟩
      obtain ⟨x2, hx2⟩ : ∃ x, x = B.getD (4 * k + 2) 0 := ⟨_, rfl⟩
      obtain ⟨x3, hx3⟩ : ∃ x, x = B.getD (4 * k + 3) 0 := ⟨_, rfl⟩
      have b0 : x0 < 256 := by rw [hx0]; exact Sm.getD_lt HB.out (by omega) _
      have b1 : x1 < 256 := by rw [hx1]; exact Sm.getD_lt HB.out (by omega) _
      have b2 : x2 < 256 := by rw [hx2]; exact Sm.getD_lt HB.out (by omega) _
      have b3 : x3 < 256 := by rw [hx3]; exact Sm.getD_lt HB.out (by omega) _
      rw [← hx0] at g0
      rw [← hx1] at g1
      rw [← hx2] at g2
      rw [← hx3] at g3
      have X0 := Lib.hid hx0
      have X1 := Lib.hid hx1
      have X2 := Lib.hid hx2
      have X3 := Lib.hid hx3
      clear hx0 hx1 hx2 hx3
      have hst : wr.cell? ⟨w.heap.size + 1, k, none⟩ = _ := u32s_cell HS.out.row k (by simp [Sm.length_words, zeros]; omega)
      have hfr : wr.frozen? ⟨w.heap.size + 1, k, none⟩ = false := frozen_of_row wr _ k _ _ HS.out.row
      have HL : (0 : Int) ≤ k ∧ (k : Int) < 64 := by omega
      go_wp2_with fail
      rw [show 4 * k + 4 - 4 * k = 4 from by omega]
      go_still_tail 24, (by kernel_rfl)
      go_wp2_with fail
      go_roundw
      case rel =>
        show SRel1 _ _ _ _ _ _
        rw [Sm.word_int b0 b1 b2 b3]
        refine ⟨k + 1, by omega, by go_num, ?_⟩
        have e : Sm.words B (k + 1) ++ zeros (64 - (k + 1)) = Sm.words B k ++ (x0 * 16777216 + x1 * 65536 + x2 * 256 + x3) :: zeros (64 - (k + 1)) := by
          rw [Sm.words, X0.out, X1.out, X2.out, X3.out, List.append_assoc]; rfl
        rw [e]
        refine (SFacts.store (y := 0) ?_ k (Sm.length_words B k) _).drewN 1
        rw [show 64 - (k + 1) = 64 - k - 1 from by omega, ← zeros_succ (by omega)]
        exact HS.out
      case measure => simp [intOf]; omega
    · obtain rfl : k = 16 := by omega
      rw [show ((16 : Nat) : Int) = 16 from rfl]
      go_wp2_with fail
      go_loopw [6] (fun i wr => SRel2 w gb ob B i wr) (fun i _ => 64 - (intOf i).toNat)
      case atStart => exact ⟨0, by omega, rfl, HS.out⟩
      case round =>
        obtain ⟨k, hk2, rfl, hs⟩ := hrel
        have HS2 := Lib.hid hs
        clear hs HS hk hlt
        by_cases hlt : k < 48
        · obtain ⟨l, hl⟩ : ∃ l, l = Sm.more (Sm.words B 16) k := ⟨_, rfl⟩
          have HS3 := Lib.hid HS2.out
          rw [← hl] at HS3
          have ll : l.length = 16 + k := by rw [hl]; simp [Sm.length_more, Sm.length_words]
          have lw : Sm.allW l := by rw [hl]; exact Sm.more_ok (Sm.words_ok HB.out 16) k
          have HL := Lib.hid hl
          have LL := Lib.hid ll
          have LW := Lib.hid lw
          clear hl ll lw HS2
          have cells : ∀ i, i < 16 + k → wr.cell? ⟨w.heap.size + 1, i, none⟩ = some (.int .u32 (l.getD i 0 : Nat)) := fun i hi => by
            rw [u32s_cell HS3.out.row i (by simp [LL.out, zeros]; omega), getD_left _ _ (by rw [LL.out]; omega)]
          obtain ⟨j, hj⟩ : ∃ j, j = 16 + k := ⟨_, rfl⟩
          rw [← hj] at cells ⊢
          have hst : wr.cell? ⟨w.heap.size + 1, j, none⟩ = _ := u32s_cell HS3.out.row j (by simp [LL.out, zeros]; omega)
          have hfr : wr.frozen? ⟨w.heap.size + 1, j, none⟩ = false := frozen_of_row wr _ _ _ _ HS3.out.row
          have g0 := cells (j - 16) (by omega)
          have g1 := cells (j - 15) (by omega)
          have g9 := cells (j - 7) (by omega)
          have g14 := cells (j - 2) (by omega)
          clear cells
          have i0 : (0 : Int) ≤ (j : Int) - 16 ∧ (j : Int) - 16 < 64 := by omega
          have i1 : (0 : Int) ≤ (j : Int) - 15 ∧ (j : Int) - 15 < 64 := by omega
          have i9 : (0 : Int) ≤ (j : Int) - 7 ∧ (j : Int) - 7 < 64 := by omega
          have i14 : (0 : Int) ≤ (j : Int) - 2 ∧ (j : Int) - 2 < 64 := by omega
          have ij : (0 : Int) ≤ (j : Int) ∧ (j : Int) < 64 := by omega
          have HJ := Lib.hid hj
          clear hj
          obtain ⟨x0, hx0⟩ : ∃ x, x = l.getD (j - 16) 0 := ⟨_, rfl⟩
          obtain ⟨x1, hx1⟩ : ∃ x, x = l.getD (j - 15) 0 := ⟨_, rfl⟩
          obtain ⟨x9, hx9⟩ : ∃ x, x = l.getD (j - 7) 0 := ⟨_, rfl⟩
          obtain ⟨x14, hx14⟩ : ∃ x, x = l.getD (j - 2) 0 := ⟨_, rfl⟩
          have w0 : x0 < 4294967296 := by rw [hx0]; exact Sm.getD_lt LW.out (by omega) _
          have w1 : x1 < 4294967296 := by rw [hx1]; exact Sm.getD_lt LW.out (by omega) _
          have w9 : x9 < 4294967296 := by rw [hx9]; exact Sm.getD_lt LW.out (by omega) _
          have w14 : x14 < 4294967296 := by rw [hx14]; exact Sm.getD_lt LW.out (by omega) _
          rw [← hx0] at g0
          rw [← hx1] at g1
          rw [← hx9] at g9
          rw [← hx14] at g14
          have X0 := Lib.hid hx0
          have X1 := Lib.hid hx1
          have X9 := Lib.hid hx9
          have X14 := Lib.hid hx14
          clear hx0 hx1 hx9 hx14
          go_wp2_with fail
          go_quiet (fail)
          go_wp2_with (go_at_call 113; first | ((with_reducible refine (rot7 _ _ w1).mono ?_); rintro _ _ ⟨rfl, rfl⟩) | ((with_reducible refine (rot18 _ _ w1).mono ?_); rintro _ _ ⟨rfl, rfl⟩) | ((with_reducible refine (rot17 _ _ w14).mono ?_); rintro _ _ ⟨rfl, rfl⟩) | ((with_reducible refine (rot19 _ _ w14).mono ?_); rintro _ _ ⟨rfl, rfl⟩))
          generalize hW2 : wr.drewN nq = W2
          have f0 : W2.cell? ⟨w.heap.size + 1, j - 16, none⟩ = some (.int .u32 (x0 : Nat)) := by rw [← hW2]; exact g0
          have f9 : W2.cell? ⟨w.heap.size + 1, j - 7, none⟩ = some (.int .u32 (x9 : Nat)) := by rw [← hW2]; exact g9
          have fst : W2.cell? ⟨w.heap.size + 1, j, none⟩ = some (.int .u32 ((l ++ zeros (48 - k)).getD j 0 : Nat)) := by rw [← hW2]; exact hst
          have ffr : W2.frozen? ⟨w.heap.size + 1, j, none⟩ = false := by rw [← hW2]; exact hfr
          have HS4 : SFacts w W2 gb ob B (l ++ zeros (48 - k)) := by rw [← hW2]; exact HS3.out.drewN nq
          have HS5 := Lib.hid HS4
          clear hW2 g0 g1 g9 g14 hst hfr HS4 HS3
          have q16 : IntKind.i64.wrap ((j : Int) - 16) = (j : Int) - 16 := IntWalk.i64_in _ (by omega)
          have q7 : IntKind.i64.wrap ((j : Int) - 7) = (j : Int) - 7 := IntWalk.i64_in _ (by omega)
          have p16 : ((j : Int) - 16).toNat = j - 16 := by omega
          have p7 : ((j : Int) - 7).toNat = j - 7 := by omega
          have r16 : (16 : Int) ≤ j := by omega
          have r7 : (7 : Int) ≤ j := by omega
          go_still_tail 15, (by kernel_rfl)
          clear q16 q7 p16 p7
          go_wp2_with fail
          go_roundw
          case rel =>
            show SRel2 _ _ _ _ _ _
            rw [Sm.s0_int w1, Sm.s1_int w14]
            have ej := HJ.out
            have e0 : j - 16 = k := by omega
            have e1 : j - 15 = k + 1 := by omega
            have e9 : j - 7 = k + 9 := by omega
            have e14 : j - 2 = k + 14 := by omega
            have ev : (((x0 : Nat) : Int) + (Sm.s0 x1 : Nat) + (x9 : Nat) + (Sm.s1 x14 : Nat)) % 4294967296 = (((x0 + Sm.s0 x1 + x9 + Sm.s1 x14) % 4294967296 : Nat) : Int) := by omega
            rw [ev]
            refine ⟨k + 1, by omega, by rw [ej]; go_num, ?_⟩
            have e : Sm.more (Sm.words B 16) (k + 1) ++ zeros (48 - (k + 1)) = l ++ ((x0 + Sm.s0 x1 + x9 + Sm.s1 x14) % 4294967296) :: zeros (48 - (k + 1)) := by
              rw [Sm.more, ← HL.out, X0.out, X1.out, X9.out, X14.out, e0, e1, e9, e14, List.append_assoc]; rfl
            rw [e]
            refine (SFacts.store (y := 0) ?_ j (by rw [LL.out]; omega) _).drewN 1
            rw [show 48 - (k + 1) = 48 - k - 1 from by omega, ← zeros_succ (by omega)]
            exact HS5.out
          case measure => simp [intOf]; omega
        · obtain rfl : k = 48 := by omega
          obtain ⟨C, hC, hC6⟩ := HS2.out.res
          have hrow : wr.heap[w.heap.size + 1]? = some (.cells (u32s (Sm.sched B)) 148 (0, 0)) := by
            have := HS2.out.row
            rw [show zeros (48 - 48) = [] from rfl, List.append_nil] at this
            exact this
          have HC := Lib.hid hC
          have HC6 := Lib.hid hC6
          have HR := Lib.hid hrow
          clear hC hC6 hrow
          go_wp2_with (first | (refine wpList_load_row (by rfl) 148 _ (by rfl) (w.heap.size + 1) (by rfl) 148 _ (0, 0) _ HR.out A62 (by rfl) (by rw [sched_size]; exact S62) ?_) | (refine wpList_store_row (by rfl) 148 _ _ (by rfl) (w.heap.size) (u32s (Sm.sched B)) (by rfl) (by rfl) _ _ HC.out (by rw [sched_size]; exact S62) (by rw [sched_size]; exact HC6.out) (u32s_one _) ?_))
          refine ret_row 2 (by kernel_rfl) w.heap.size _ _ A62 S62 rfl (setRow_heap _ _ _ _ _ _ HC.out) (sched_size B) ⟨rfl, ?_⟩
          exact Below.setRow HS2.out.below (Nat.le_refl _) _
end Go.Proofs.YtfkpgildeddhaaaGreat

/- The contract of sha.roundWords: the 64 words of the rounds. -/
namespace Go.Proofs.YtfkpgildeddhaaaGreat
open Go.RowKit
theorem ks_one : (u32s Sm.ks).all (·.oneCell') = true := by kernel_rfl
set_option maxRecDepth 100000 in
set_option maxHeartbeats 1000000 in
theorem roundWords_any (w : World) :
    Calls Tryz.prog 109 #[] w fun e w' => e = .returned (.agg (u32s Sm.ks)) ∧ Below w.heap.size w w' := by
  go_enter Tryz.func109, Tryz.ntmps109
  go_wp2_with (refine wpList_store_row (by rfl) 148 _ _ (by rfl) w.heap.size (u32s Sm.ks) (by rfl) (by as_aux_lemma => kernel_rfl) _ _ (heap_alloc_new w _) S62 (by rfl) ks_one ?_; rw [setRow_alloc])
  exact ret_row 0 (by kernel_rfl) w.heap.size _ _ A62 S62 rfl (heap_alloc_new w _) rfl ⟨rfl, (Below.refl _ _).alloc (Nat.le_refl _) _⟩
end Go.Proofs.YtfkpgildeddhaaaGreat
