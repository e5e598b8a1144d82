/- NdRefSay, NdRight, NdTwoKids, NdUp, GenTxRow, NdTake, NdByte, NdCount, NdNum, NdDigest. -/
import Derived.Test.YtfkpgildeddhaaaGreatM11
import Derived.BigRegion
import Derived.StillTailTactics
import Derived.Deep.CutBlock
import Derived.BigQuiet
/- indentureref10.Say. gen_rsay.py writes it out of nd_rsay.txt. -/
namespace Go.Proofs.YtfkpgildeddhaaaGreat.Nd
open Go.RowKit Go.Proofs.YtfkpgildeddhaaaGreat.Dk Go.Proofs.YtfkpgildeddhaaaGreat.Pg Go.Proofs.YtfkpgildeddhaaaGreat.Zr

theorem ok_away {w : World} {r : Rw} (h : r.Ok w) {X : Nat} (hX : w.heap.size ≤ X) : Away X r := fun _ hx hR e => by have := rintsLt h.ints hx hR; omega
theorem two_len (f : Int → Int → Int) (R T : List Int) (n : Nat) : (two f R T n).length = n := by simp [two]
theorem hull_len (A B : List Int × List Int) (M : Nat) (_h8 : 8 ≤ M) (h1 : A.1.length ≤ M) (h2 : A.2.length ≤ M) (h3 : B.1.length ≤ M) (h4 : B.2.length ≤ M) : (hull A B).1.length ≤ M ∧ (hull A B).2.length ≤ M := by
  unfold hull
  split
  · exact ⟨h1, h2⟩
  · split
    · exact ⟨h3, h4⟩
    · split
      · exact ⟨by simp, by simp⟩
      · exact ⟨by rw [two_len]; exact h1, by rw [two_len]; exact h1⟩
theorem hull_rows {w w' : World} {a1 a2 a3 a4 : Rw} {v : Value} (hb : BoxPost w (hull (a1.R, a2.R) (a3.R, a4.R)).1 (hull (a1.R, a2.R) (a3.R, a4.R)).2 v w') (ha : HullAway w a1.p a2.p a3.p a4.p a1.R a2.R a3.R a4.R (hull (a1.R, a2.R) (a3.R, a4.R)).1 (hull (a1.R, a2.R) (a3.R, a4.R)).2 v)
    (h1 : a1.Ok w) (h2 : a2.Ok w) (h3 : a3.Ok w) (h4 : a4.Ok w) :
    ∃ r1 r2 : Rw, v = .agg #[r1.val, r2.val] ∧ r1.R = (hull (a1.R, a2.R) (a3.R, a4.R)).1 ∧ r2.R = (hull (a1.R, a2.R) (a3.R, a4.R)).2 ∧ r1.Ok w' ∧ r2.Ok w' ∧ (∀ X, X < w.heap.size → Away X a1 → Away X a2 → Away X a3 → Away X a4 → Away X r1 ∧ Away X r2) ∧ Below w.heap.size w w' := by
  have hl := hull_len (a1.R, a2.R) (a3.R, a4.R) 9223372036854775807 (by omega) (by have := h1.top; rw [h1.ints.size] at this; exact this) (by have := h2.top; rw [h2.ints.size] at this; exact this) (by have := h3.top; rw [h3.ints.size] at this; exact this) (by have := h4.top; rw [h4.ints.size] at this; exact this)
  generalize (hull (a1.R, a2.R) (a3.R, a4.R)).1 = A at *
  generalize (hull (a1.R, a2.R) (a3.R, a4.R)).2 = B at *
  obtain ⟨p, c, q, e, rfl, i1, i2, hbl⟩ := hb
  obtain ⟨a, n, c', b, m, e', hv, hx⟩ := ha
  simp only [Value.agg.injEq, Array.mk.injEq, List.cons.injEq, Value.slice.injEq, and_true] at hv
  obtain ⟨⟨rfl, rfl, rfl⟩, rfl, rfl, rfl⟩ := hv
  exact ⟨⟨p, A.length, c, A⟩, ⟨q, B.length, e, B⟩, rfl, rfl, rfl, ⟨i1, hl.1⟩, ⟨i2, hl.2⟩, hx, hbl⟩
theorem kd_built_sum : ∀ (D : List Nat), D.length = 32 → Tryz.prog.built 43 [(0, .agg (u8s D))] = some (⟨D, ⟨none, 0, 0, []⟩, ⟨none, 0, 0, []⟩, 0, 0, ⟨none, 0, 0, []⟩⟩ : Kd).cells.toArray
  | [a0, a1, a2, a3, a4, a5, a6, a7, a8, a9, a10, a11, a12, a13, a14, a15, a16, a17, a18, a19, a20, a21, a22, a23, a24, a25, a26, a27, a28, a29, a30, a31], _ => by kernel_rfl
theorem box_built (p q : Option Addr) (n c m e : Nat) : Tryz.prog.built 41 [(0, .slice p n c), (1, .slice q m e)] = some #[.slice p n c, .slice q m e] := by kernel_rfl
section
variable {w0 w w' : World} {gn kind : Nat} {p : Option Addr} {n c : Nat} {q : Option Addr} {m f gr gx : Nat} {kd : Kd}
theorem ta_begin {O : Array Value} (hn : NodeAt w gn kind p n c q m f) (hr : w.heap[gr]? = some (.cells kd0.cells.toArray 43 (0, 0))) (hx : w.heap[gx]? = some (.cells O 43 (0, 0))) (hk : kd.sum.length = 32) (hkb : Sm.allB kd.sum) (hro : ∀ r ∈ kd.rows, r.Ok w ∧ Away gx r ∧ Away gr r) (hl : Below w0.heap.size w0 w) (ge : w0.heap.size ≤ gn ∧ w0.heap.size ≤ gr ∧ w0.heap.size ≤ gx) (ne : gn ≠ gx ∧ gr ≠ gx ∧ gn ≠ gr) (h1 : In64 kd.live) (h2 : In64 kd.size) :
    TaSt w0 (w.setRow gx kd.cells.toArray) gn kind p n c q m f gr gx kd := by
  have hb : Below gx w (w.setRow gx kd.cells.toArray) := Below.setRow (Below.refl _ _) (Nat.le_refl _) _
  have key : ∀ r : Rw, r.Ok w ∧ Away gx r ∧ Away gr r → r.Ok (w.setRow gx kd.cells.toArray) := fun r hr => rw_keep hr.1 (fun y hy hR => setRow_other _ _ _ _ (hr.2.1 y hy hR))
  exact ⟨⟨(setRow_other _ _ _ _ ne.1).trans hn.row⟩, (setRow_other _ _ _ _ ne.2.1).trans hr, setRow_heap _ _ _ _ _ _ hx, ⟨hk, hkb, key _ (hro _ (by simp [Kd.rows])), key _ (hro _ (by simp [Kd.rows])), key _ (hro _ (by simp [Kd.rows])), h1, h2⟩, fun r hr => (hro r hr).2, hl.trans (hb.mono ge.2.2), ge, ne⟩
theorem TaSt.setKey (h : TaSt w0 w gn kind p n c q m f gr gx kd) {r : Rw} (hr : r.Ok w ∧ Away gx r ∧ Away gr r) : TaSt w0 (w.setCell ⟨gx, 36, none⟩ r.val) gn kind p n c q m f gr gx { kd with key := r } := by
  have r0 := heap_setCell_same w gx 36 _ _ r.val h.row
  rw [kd_set_key h.ok.len] at r0
  refine h.turn r0 (Only.setCell (P := fun j => j = gx) _ (a := ⟨gx, 36, none⟩) rfl _) rfl (fun r' hr' => ?_) h.ok.live h.ok.size
  simp only [Kd.rows, List.mem_cons, List.not_mem_nil, or_false] at hr'
  rcases hr' with rfl | rfl | rfl
  · exact h.rows _ (by simp [Kd.rows])
  · exact h.rows _ (by simp [Kd.rows])
  · exact hr
end
def Ry1 (w : World) (gn kind : Nat) (p : Option Addr) (n c : Nat) (q : Option Addr) (m f gr gx : Nat) (SM : List Nat) (L : List PE) (i : Value) (wr : World) : Prop :=
  ∃ (k : Nat) (kd : Kd), k ≤ n ∧ i = .int .i64 k ∧ TaSt w wr gn kind p n c q m f gr gx kd ∧ kd.pk = ⟨SM, (boxR (L.take k)).1, (boxR (L.take k)).2, liveR (L.take k), k, []⟩
def Ry2 (w : World) (gn kind : Nat) (p : Option Addr) (n c : Nat) (q : Option Addr) (m f gr gx : Nat) (SM : List Nat) (b : List Int × List Int) (lv : Int) (L : List PK) (i : Value) (wr : World) : Prop :=
  ∃ (k : Nat) (kd : Kd), k ≤ m ∧ i = .int .i64 k ∧ TaSt w wr gn kind p n c q m f gr gx kd ∧ kd.pk = ⟨SM, ((L.take k).foldl boxK b).1, ((L.take k).foldl boxK b).2, lv + ((L.take k).map PK.live).sum, n + ((L.take k).map PK.size).sum, []⟩
def RSay (w : World) (N : PN) (e : Ending) (w' : World) : Prop :=
  Below w.heap.size w w' ∧
  ((N.size ≤ 1048576 ∧ ∃ kd : Kd, e = .returned (.tuple #[.agg kd.cells.toArray, .bool true]) ∧ kd.pk = N.says ∧ kd.Ok w') ∨
   (¬ N.size ≤ 1048576 ∧ e = .returned (.tuple #[.agg kd0.cells.toArray, .bool false])))
set_option maxRecDepth 100000 in
set_option maxHeartbeats 16000000 in
theorem rsay_any (kind : Nat) (hkd : kind < 256) (p : Option Addr) (n c : Nat) (q : Option Addr) (m f : Nat) (E : List En) (K : List Kd) (d : Int) (w : World) (hE : EntsIn w p n c E) (hK : KidsIn w q m f K) (hr : (pnOf kind E K).right d = true) (hF : Few E K) :
    Calls Tryz.prog 19 #[.agg #[.int .u8 kind, .slice p n c, .slice q m f]] w (RSay w (pnOf kind E K)) := by
  have hb1 : Below w.heap.size w (w.alloc (.cells #[.int .u8 kind, .slice p n c, .slice q m f] 27)) := (Below.refl _ _).alloc (Nat.le_refl _) _
  have hn1 := NodeAt.start w kind p n c q m f
  have z1 : (w.alloc (.cells #[.int .u8 kind, .slice p n c, .slice q m f] 27)).heap.size = w.heap.size + 1 := by simp
  have hft := PN.fit hr
  obtain ⟨hd, hrow, hkid, hkinds⟩ := PN.kinds hr
  have hn4 : n ≤ 4 := by have := hft.rows; simp only [pnOf, List.length_map] at this; rw [hE.size]; exact this
  have hm4 : m ≤ 4 := by have := hft.kids; simp only [pnOf, List.length_map] at this; rw [hK.size]; exact this
  have HKID := Lib.hid (show ∀ k ∈ K, (0 ≤ k.live ∧ k.live ≤ 1048576) ∧ (0 ≤ k.size ∧ k.size ≤ 1048576) from fun k hk => by
    have h := right_kid (hkid _ (List.mem_map.2 ⟨k, hk, rfl⟩))
    exact ⟨h.1, h.2.1⟩)
  have HBY := Lib.hid (fun w1 (h : Below w.heap.size w w1) => rbytes_any kind hkd p n c q m f E K w1 (hE.later h) (hK.later h) hF (fun k hk => ⟨(HKID.out k hk).1.1, (HKID.out k hk).2.1⟩))
  have HLB := Lib.hid (node_bytes_len hft (fun k hk => by obtain ⟨y, hy, rfl⟩ := List.mem_map.1 hk; exact (hK.each y hy).len))
  have HBO := Lib.hid (show Sm.allB (pnOf kind E K).bytes from node_bytes_ok hkd (fun k hk => by obtain ⟨y, hy, rfl⟩ := List.mem_map.1 hk; exact (hK.each y hy).ok))
  have hsy : (pnOf kind E K).says = ⟨sumOf (pnOf kind E K).bytes, ((K.map Kd.pk).foldl boxK (boxR (E.map En.pe))).1, ((K.map Kd.pk).foldl boxK (boxR (E.map En.pe))).2, liveR (E.map En.pe) + ((K.map Kd.pk).map PK.live).sum, n + ((K.map Kd.pk).map PK.size).sum, (pnOf kind E K).keyOf⟩ := by
    unfold PN.says PN.tally PN.box PN.live PN.size pnOf
    simp only [List.length_map]
    rw [← hE.size]
  have hzz : (pnOf kind E K).size = n + ((K.map Kd.pk).map PK.size).sum := by
    unfold PN.size pnOf
    simp only [List.length_map]
    rw [← hE.size]
  have HKN := Lib.hid (show (kind = 1 ∧ (pnOf kind E K).keyOf = []) ∨ (kind = 2 ∧ 1 ≤ n ∧ (pnOf kind E K).keyOf = (E.getD 0 default).row.R) ∨ (kind = 3 ∧ 2 ≤ m ∧ (pnOf kind E K).keyOf = (K.getD 0 default).key.R) from by
    rcases hkinds with ⟨h1, -⟩ | ⟨h1, h2, -⟩ | ⟨h1, -, h2, -⟩
    · have h1 : kind = 1 := h1
      subst h1
      exact Or.inl ⟨rfl, rfl⟩
    · have h1 : kind = 2 := h1
      subst h1
      simp only [pnOf, List.length_map] at h2
      refine Or.inr (Or.inl ⟨rfl, by rw [hE.size]; exact h2, ?_⟩)
      cases E with
      | nil => simp at h2
      | cons e E' => rfl
    · have h1 : kind = 3 := h1
      subst h1
      simp only [pnOf, List.length_map] at h2
      refine Or.inr (Or.inr ⟨rfl, by rw [hK.size]; exact h2, ?_⟩)
      cases K with
      | nil => simp at h2
      | cons e E' => rfl)
  generalize hN : pnOf kind E K = N at *
  clear hN
  obtain ⟨T, hT⟩ : ∃ T, N.says = T := ⟨_, rfl⟩
  obtain ⟨D, hD⟩ : ∃ D, sumOf N.bytes = D := ⟨_, rfl⟩
  rw [hT, hD] at hsy
  have HDL := Lib.hid (show D.length = 32 from by rw [← hD]; rfl)
  have HDO := Lib.hid (show Sm.allB D from by rw [← hD]; exact sumOf_ok _)
  have HSY := Lib.hid hsy
  have HT := Lib.hid hT
  have HDE := Lib.hid hD
  have HZZ := Lib.hid hzz
  have HN4 := Lib.hid hn4
  have HM4 := Lib.hid hm4
  have HE := Lib.hid hE
  have HK := Lib.hid hK
  have HES := Lib.hid hE.size
  have HKS := Lib.hid hK.size
  obtain ⟨du, hdu, hdr⟩ := UKd
  have HDU := Lib.hid hdu
  have HDR := Lib.hid hdr
  have HZ := Lib.hid (zero_of_info kz)
  clear hE hK hr hft hrow hkid hkinds hsy hT hD hzz hd hn4 hm4 hdu hdr hF hkd
  have hz0 := HZ.out.1
  go_enter Tryz.func19, Tryz.ntmps19
  go_upto_region 1 with fail
  have hb2 : Below (w.heap.size + 1) (w.alloc (.cells #[.int .u8 kind, .slice p n c, .slice q m f] 27)) ((w.alloc (.cells #[.int .u8 kind, .slice p n c, .slice q m f] 27)).alloc (.cells kd0.cells.toArray 43)) := (Below.refl _ _).alloc (by omega) _
  have r2 := heap_alloc_new (w.alloc (.cells #[.int .u8 kind, .slice p n c, .slice q m f] 27)) (.cells kd0.cells.toArray 43)
  rw [z1] at r2
  have z2 : ((w.alloc (.cells #[.int .u8 kind, .slice p n c, .slice q m f] 27)).alloc (.cells kd0.cells.toArray 43)).heap.size = w.heap.size + 2 := by simp
  have HN2 := Lib.hid (hn1.later (by rw [z1]; exact hb2))
  have HB2 := Lib.hid (hb1.trans (hb2.mono (by omega)))
  have HR2 := Lib.hid r2
  have HZ2 := Lib.hid z2
  clear hb1 hn1 z1 hb2 r2 z2
  generalize (w.alloc (.cells #[.int .u8 kind, .slice p n c, .slice q m f] 27)).alloc (.cells kd0.cells.toArray 43) = w2 at *
  obtain ⟨t0, t1, t2⟩ := HN2.out.cells
  have HBY2 := Lib.hid (HBY.out w2 HB2.out)
  have HCL0 := Lib.hid (show (⟨D, ⟨none, 0, 0, []⟩, ⟨none, 0, 0, []⟩, 0, 0, ⟨none, 0, 0, []⟩⟩ : Kd).cells.length = 37 from Kd.cells_length HDL.out)
  clear HBY
  go_upto_region 2 with (first
    | (go_at_call 9; refine HBY2.out.mono ?_; rintro e w3 ⟨q9, c9, rfl, o9, b3⟩; have HT3 := Lib.hid (tx_of_owns o9 HBO.out); have HB3 := Lib.hid b3; clear o9 b3)
    | (go_at_call 45; refine (rsum_any N.bytes q9 N.bytes.length c9 w3 HT3.out HLB.out).mono ?_; rintro e w4 ⟨rfl, b4⟩; have HB4 := Lib.hid (HB3.out.trans (b4.mono HB3.out.size)); clear b4; rw [HDE.out])
    | (refine wpList_build (cells := (⟨D, ⟨none, 0, 0, []⟩, ⟨none, 0, 0, []⟩, 0, 0, ⟨none, 0, 0, []⟩⟩ : Kd).cells.toArray) (by rfl) (by rfl) (by simp only [List.map_toArray, List.map_cons, List.map_nil]; exact kd_built_sum D HDL.out) ?_)
    | (refine wpList_store_row (by rfl) 43 (.tmp 4) (.tmp 10) (by rfl) w4.heap.size (⟨D, ⟨none, 0, 0, []⟩, ⟨none, 0, 0, []⟩, 0, 0, ⟨none, 0, 0, []⟩⟩ : Kd).cells.toArray (by rfl) (by rfl) _ _ (heap_alloc_new w4 _) (by rw [List.size_toArray, HCL0.out]; exact SKd) (by simp only [List.size_toArray, HCL0.out, kd0_size]) (all_oneCell_toArray Kd.one) ?_))
  have hba : Below w4.heap.size w4 (w4.alloc (.cells kd0.cells.toArray 43)) := (Below.refl _ _).alloc (Nat.le_refl _) _
  have hb5 := HB4.out.trans (hba.mono HB4.out.size)
  have hst := ta_begin (w0 := w) (gr := w.heap.size + 1) (kd := ⟨D, ⟨none, 0, 0, []⟩, ⟨none, 0, 0, []⟩, 0, 0, ⟨none, 0, 0, []⟩⟩) (HN2.out.later hb5) ((hb5.block _ (Array.getElem?_eq_some_iff.1 HR2.out).1).trans HR2.out) (heap_alloc_new w4 (.cells kd0.cells.toArray 43)) HDL.out HDO.out (fun r hr => by
    simp only [Kd.rows, List.mem_cons, List.not_mem_nil, or_false] at hr
    rcases hr with rfl | rfl | rfl <;> exact ⟨rw0_ok _, away_nil _ rfl, away_nil _ rfl⟩) (HB2.out.trans (hb5.mono HB2.out.size)) ⟨Nat.le_refl _, by omega, by have := HB2.out.size; have := HB4.out.size; omega⟩ ⟨by have := HZ2.out; have := HB4.out.size; omega, by have := HZ2.out; have := HB4.out.size; omega, by omega⟩ ⟨by show -9223372036854775808 ≤ (0 : Int); omega, by show (0 : Int) ≤ 9223372036854775807; omega⟩ ⟨by show -9223372036854775808 ≤ (0 : Int); omega, by show (0 : Int) ≤ 9223372036854775807; omega⟩
  have HST := Lib.hid hst
  have HGG := Lib.hid (show w.heap.size + 1 < w4.heap.size from by have := HZ2.out; have := HB4.out.size; omega)
  generalize (w4.alloc (.cells kd0.cells.toArray 43)).setRow w4.heap.size (⟨D, ⟨none, 0, 0, []⟩, ⟨none, 0, 0, []⟩, 0, 0, ⟨none, 0, 0, []⟩⟩ : Kd).cells.toArray = wx at *
  generalize w4.heap.size = gx at *
  have HPK0 := Lib.hid (show (⟨D, ⟨none, 0, 0, []⟩, ⟨none, 0, 0, []⟩, 0, 0, ⟨none, 0, 0, []⟩⟩ : Kd).pk = ⟨D, (boxR ((E.map En.pe).take 0)).1, (boxR ((E.map En.pe).take 0)).2, liveR ((E.map En.pe).take 0), (0 : Nat), []⟩ from rfl)
  clear hba hb5 hst HBY2 HB3 HB4 HT3 HN2 HR2 HB2 HZ2 t0 t1 t2
  obtain ⟨t0, t1, t2⟩ := HST.out.node.cells
  go_wp2_with fail
  go_loopw [5] (fun i wr => Ry1 w w.heap.size kind p n c q m f (w.heap.size + 1) gx D (E.map En.pe) i wr) (fun i _ => n - (intOf i).toNat)
  case atStart => exact ⟨0, _, by omega, rfl, HST.out, HPK0.out⟩
  case round =>
    obtain ⟨k, kd, hk, rfl, hst, hpk⟩ := hrel
    have ST := Lib.hid hst
    have PKS := Lib.hid hpk
    have hn4 := HN4.out
    clear hst hpk HST HPK0 t0 t1 t2
    obtain ⟨t0, t1, t2⟩ := ST.out.node.cells
    by_cases hlt : k < n
    · obtain ⟨g, o, rfl, c1, c2, hok⟩ := HE.out.get k hlt
      have i1 : (0 : Int) ≤ k ∧ (k : Int) < n := by omega
      have hlen : k < E.length := by rw [← HES.out]; exact hlt
      have hlenm : k < (E.map En.pe).length := by rw [List.length_map]; exact hlen
      have HTB := Lib.hid (show boxR ((E.map En.pe).take (k + 1)) = boxE (boxR ((E.map En.pe).take k)) (E.getD k default).pe from by
        unfold boxR
        rw [take_fold boxE _ _ _ hlenm, map_getD En.pe E k hlen])
      have HTS := Lib.hid (show liveR ((E.map En.pe).take (k + 1)) = liveR ((E.map En.pe).take k) + (if (E.getD k default).pe.live then (1 : Int) else 0) from by
        unfold liveR
        rw [take_sum _ _ _ hlenm, map_getD En.pe E k hlen])
      have hll := live_le ((E.map En.pe).take k)
      have hlk : ((E.map En.pe).take k).length ≤ 4 := by rw [List.length_take]; omega
      generalize E.getD k default = e at *
      have HOK := Lib.hid hok
      have C1 := Lib.hid c1
      have C2 := Lib.hid c2
      have hks : kd.size = (k : Nat) := congrArg PK.size PKS.out
      have x35 := ST.out.cell.size
      rw [Nat.zero_add, hks] at x35
      have f35 := frozen_of_row wr gx 35 _ _ ST.out.row
      clear hok c1 c2 hks hlen hlenm
      go_upto_region 6 with fail
      have SB := Lib.hid (ST.out.setSize ((k : Int) + 1) ⟨by omega, by omega⟩)
      generalize wr.setCell ⟨gx, 35, none⟩ (.int .i64 ((k : Int) + 1)) = wb at *
      clear x35 f35 t0 t1 t2
      obtain ⟨t0, t1, t2⟩ := SB.out.node.cells
      have c2 := (SB.out.low.cell (block_lt_of_cell C2.out)).trans C2.out
      cases hlv : e.live with
      | false =>
        rw [hlv] at c2
        have HP1 := Lib.hid (show ({ kd with size := (k : Int) + 1 } : Kd).pk = ⟨D, (boxR ((E.map En.pe).take (k + 1))).1, (boxR ((E.map En.pe).take (k + 1))).2, liveR ((E.map En.pe).take (k + 1)), (k + 1 : Nat), []⟩ from by
          have e4 := PKS.out
          rw [HTB.out, HTS.out]
          simp only [Kd.pk, PK.mk.injEq] at e4 ⊢
          simp [boxE, En.pe, hlv, e4])
        clear hlv ST PKS hll hlk HTB HTS
        go_wp2_with fail
        go_roundw
        case rel => exact ⟨k + 1, _, by omega, by go_num, SB.out, HP1.out⟩
        case measure => simp [intOf]; omega
      | true =>
        rw [hlv] at c2
        have hkl : kd.live = liveR ((E.map En.pe).take k) := congrArg PK.live PKS.out
        obtain ⟨lv, hlvn⟩ : ∃ lv : Nat, kd.live = lv := ⟨kd.live.toNat, by omega⟩
        have hlv4 : lv ≤ 4 := by omega
        have hlo : kd.lo.R = (boxR ((E.map En.pe).take k)).1 := congrArg PK.lo PKS.out
        have hhi : kd.hi.R = (boxR ((E.map En.pe).take k)).2 := congrArg PK.hi PKS.out
        have HP1 := Lib.hid (show ∀ r1 r2 : Rw, r1.R = (hull (kd.lo.R, kd.hi.R) (e.row.R, e.row.R)).1 → r2.R = (hull (kd.lo.R, kd.hi.R) (e.row.R, e.row.R)).2 → ({ kd with size := (k : Int) + 1, live := (lv : Int) + 1, lo := r1, hi := r2 } : Kd).pk = ⟨D, (boxR ((E.map En.pe).take (k + 1))).1, (boxR ((E.map En.pe).take (k + 1))).2, liveR ((E.map En.pe).take (k + 1)), (k + 1 : Nat), []⟩ from fun r1 r2 e1 e2 => by
          rw [HTB.out, HTS.out, ← hkl, hlvn]
          have e3 : boxE (boxR ((E.map En.pe).take k)) e.pe = hull (kd.lo.R, kd.hi.R) (e.row.R, e.row.R) := by
            unfold boxE
            rw [show e.pe.live = true from hlv, if_pos rfl, hlo, hhi]
            rfl
          rw [e3, ← e1, ← e2]
          have e4 := PKS.out
          simp only [Kd.pk, PK.mk.injEq] at e4 ⊢
          simp only [show e.pe.live = true from hlv, if_true, true_and]
          exact ⟨e4.1, by omega, e4.2.2.2.2.2⟩)
        have x34 := SB.out.cell.live
        rw [Nat.zero_add, show ({ kd with size := (k : Int) + 1 } : Kd).live = (lv : Int) from hlvn] at x34
        have f34 := frozen_of_row wb gx 34 _ _ SB.out.row
        clear hlv hkl hlvn hlo hhi hll hlk ST PKS HTB HTS
        go_upto_region 8 with fail
        have SC := Lib.hid (SB.out.setLive ((lv : Int) + 1) ⟨by omega, by omega⟩)
        generalize wb.setCell ⟨gx, 34, none⟩ (.int .i64 ((lv : Int) + 1)) = wq at *
        clear x34 f34 c2 SB t0 t1 t2
        refine wp_region_held_drew (S := fun w' => Below w.heap.size w w' ∧ NodeAt w' w.heap.size kind (some ⟨g, o, none⟩) n c q m f) (by kernel_rfl) ⟨(SC.out.later (Below.refl _ _).drew).low, (SC.out.later (Below.refl _ _).drew).node⟩ (fun hHeld => ?_)
        refine wpAnyH_take (i := 0) (oi := ⟨some 32, .fieldAddr 43 (.tmp 4) 1, _, _, _, _⟩) (v := ?_) rfl (by kernel_rfl) (by kernel_rfl) (by kernel_rfl) (fun _ _ _ h => h) (Or.inl ⟨by rfl, ?_⟩) (by assumption) ?_
        rotate_left
        · intro w' hSw
          go_simp
          try with_reducible rfl
        try simp only [Act.put, List.setIfInBounds_toArray, List.set_cons_zero, List.set_cons_succ]
        refine wpAnyH_take (i := 2) (oi := ⟨some 34, .fieldAddr 27 (.tmp 1) 1, _, _, _, _⟩) (v := ?_) rfl (by kernel_rfl) (by kernel_rfl) (by kernel_rfl) (fun _ _ _ h => h) (Or.inl ⟨by rfl, ?_⟩) (by assumption) ?_
        rotate_left
        · intro w' hSw
          go_simp
          try with_reducible rfl
        try simp only [Act.put, List.setIfInBounds_toArray, List.set_cons_zero, List.set_cons_succ]
        refine wpAnyH_take (i := 3) (oi := ⟨some 35, .load 24 (.tmp 34), _, _, _, _⟩) (v := ?_) rfl (by kernel_rfl) (by kernel_rfl) (by kernel_rfl) (fun _ _ _ h => h) (Or.inl ⟨by rfl, ?_⟩) (by assumption) ?_
        rotate_left
        · intro w' hSw
          obtain ⟨t0, t1, t2⟩ := hSw.2.cells
          go_simp
          try with_reducible rfl
        try simp only [Act.put, List.setIfInBounds_toArray, List.set_cons_zero, List.set_cons_succ]
        refine wpAnyH_take (i := 4) (oi := ⟨some 36, .move (.tmp 5), _, _, _, _⟩) (v := ?_) rfl (by kernel_rfl) (by kernel_rfl) (by kernel_rfl) (fun _ _ _ h => h) (Or.inl ⟨by rfl, ?_⟩) (by assumption) ?_
        rotate_left
        · intro w' hSw
          go_simp
          try with_reducible rfl
        try simp only [Act.put, List.setIfInBounds_toArray, List.set_cons_zero, List.set_cons_succ]
        refine wpAnyH_take (i := 5) (oi := ⟨some 37, .indexAddr 24 (.tmp 35) (.tmp 36), _, _, _, _⟩) (v := ?_) rfl (by kernel_rfl) (by kernel_rfl) (by kernel_rfl) (fun _ _ _ h => h) (Or.inl ⟨by rfl, ?_⟩) (by assumption) ?_
        rotate_left
        · intro w' hSw
          go_simp
          try with_reducible rfl
        try simp only [Act.put, List.setIfInBounds_toArray, List.set_cons_zero, List.set_cons_succ]
        refine wpAnyH_take (i := 6) (oi := ⟨some 38, .fieldAddr 55 (.tmp 37) 0, _, _, _, _⟩) (v := ?_) rfl (by kernel_rfl) (by kernel_rfl) (by kernel_rfl) (fun _ _ _ h => h) (Or.inl ⟨by rfl, ?_⟩) (by assumption) ?_
        rotate_left
        · intro w' hSw
          go_simp
          try with_reducible rfl
        try simp only [Act.put, List.setIfInBounds_toArray, List.set_cons_zero, List.set_cons_succ]
        refine wpAnyH_take (i := 7) (oi := ⟨some 39, .load 39 (.tmp 38), _, _, _, _⟩) (v := ?_) rfl (by kernel_rfl) (by kernel_rfl) (by kernel_rfl) (fun _ _ _ h => h) (Or.inl ⟨by rfl, ?_⟩) (by assumption) ?_
        rotate_left
        · intro w' hSw
          have c9 := (hSw.1.cell (block_lt_of_cell C1.out)).trans C1.out
          unfold Rw.val at c9
          go_simp
          try with_reducible rfl
        try simp only [Act.put, List.setIfInBounds_toArray, List.set_cons_zero, List.set_cons_succ]
        refine wpAnyH_take (i := 8) (oi := ⟨some 40, .fieldAddr 27 (.tmp 1) 1, _, _, _, _⟩) (v := ?_) rfl (by kernel_rfl) (by kernel_rfl) (by kernel_rfl) (fun _ _ _ h => h) (Or.inl ⟨by rfl, ?_⟩) (by assumption) ?_
        rotate_left
        · intro w' hSw
          go_simp
          try with_reducible rfl
        try simp only [Act.put, List.setIfInBounds_toArray, List.set_cons_zero, List.set_cons_succ]
        refine wpAnyH_take (i := 9) (oi := ⟨some 41, .load 24 (.tmp 40), _, _, _, _⟩) (v := ?_) rfl (by kernel_rfl) (by kernel_rfl) (by kernel_rfl) (fun _ _ _ h => h) (Or.inl ⟨by rfl, ?_⟩) (by assumption) ?_
        rotate_left
        · intro w' hSw
          obtain ⟨t0, t1, t2⟩ := hSw.2.cells
          go_simp
          try with_reducible rfl
        try simp only [Act.put, List.setIfInBounds_toArray, List.set_cons_zero, List.set_cons_succ]
        refine wpAnyH_take (i := 10) (oi := ⟨some 42, .move (.tmp 5), _, _, _, _⟩) (v := ?_) rfl (by kernel_rfl) (by kernel_rfl) (by kernel_rfl) (fun _ _ _ h => h) (Or.inl ⟨by rfl, ?_⟩) (by assumption) ?_
        rotate_left
        · intro w' hSw
          go_simp
          try with_reducible rfl
        try simp only [Act.put, List.setIfInBounds_toArray, List.set_cons_zero, List.set_cons_succ]
        refine wpAnyH_take (i := 11) (oi := ⟨some 43, .indexAddr 24 (.tmp 41) (.tmp 42), _, _, _, _⟩) (v := ?_) rfl (by kernel_rfl) (by kernel_rfl) (by kernel_rfl) (fun _ _ _ h => h) (Or.inl ⟨by rfl, ?_⟩) (by assumption) ?_
        rotate_left
        · intro w' hSw
          go_simp
          try with_reducible rfl
        try simp only [Act.put, List.setIfInBounds_toArray, List.set_cons_zero, List.set_cons_succ]
        refine wpAnyH_take (i := 12) (oi := ⟨some 44, .fieldAddr 55 (.tmp 43) 0, _, _, _, _⟩) (v := ?_) rfl (by kernel_rfl) (by kernel_rfl) (by kernel_rfl) (fun _ _ _ h => h) (Or.inl ⟨by rfl, ?_⟩) (by assumption) ?_
        rotate_left
        · intro w' hSw
          go_simp
          try with_reducible rfl
        try simp only [Act.put, List.setIfInBounds_toArray, List.set_cons_zero, List.set_cons_succ]
        refine wpAnyH_take (i := 13) (oi := ⟨some 45, .load 39 (.tmp 44), _, _, _, _⟩) (v := ?_) rfl (by kernel_rfl) (by kernel_rfl) (by kernel_rfl) (fun _ _ _ h => h) (Or.inl ⟨by rfl, ?_⟩) (by assumption) ?_
        rotate_left
        · intro w' hSw
          have c9 := (hSw.1.cell (block_lt_of_cell C1.out)).trans C1.out
          unfold Rw.val at c9
          go_simp
          try with_reducible rfl
        try simp only [Act.put, List.setIfInBounds_toArray, List.set_cons_zero, List.set_cons_succ]
        refine wpAnyH_take (i := 14) (oi := ⟨some 46, .build 41 #[(0, (.tmp 39)), (1, (.tmp 45))], _, _, _, _⟩) (v := ?_) rfl (by kernel_rfl) (by kernel_rfl) (by kernel_rfl) (fun _ _ _ h => h) (Or.inl ⟨by rfl, ?_⟩) (by assumption) ?_
        rotate_left
        · intro w' hSw
          refine Eq.trans (b := Result.ok (Next.value (.agg #[.slice e.row.p e.row.n e.row.c, .slice e.row.p e.row.n e.row.c])) w') ?_ ?_
          · apply op_buildN (t := 41) (parts := #[(0, .tmp 39), (1, .tmp 45)])
            · rfl
            · simp only [List.map_toArray, List.map_cons, List.map_nil]
              exact box_built _ _ _ _ _ _
          · with_reducible rfl
        try simp only [Act.put, List.setIfInBounds_toArray, List.set_cons_zero, List.set_cons_succ]
        refine wpAnyH_ready (rs := [1]) (by kernel_rfl) (by simp) ?_
        refine AllReadyH.cons (o := ⟨some 33, .load 41 (.tmp 32), _, _, _, _⟩) rfl (fun K hK => ?_) AllReadyH.nil
        have b0 : wq.drew.cell? ⟨gx, 32, none⟩ = some (.slice kd.lo.p kd.lo.n kd.lo.c) := by have h9 := SC.out.cell.lo; rw [Nat.zero_add] at h9; exact h9
        have b1 : wq.drew.cell? ⟨gx, 33, none⟩ = some (.slice kd.hi.p kd.hi.n kd.hi.c) := by have h9 := SC.out.cell.hi; rw [Nat.zero_add] at h9; exact h9
        go_simp
        refine hK.out _ _ hHeld (fun hHeld => ?_)
        clear hK K
        try simp only [Act.put, List.setIfInBounds_toArray, List.set_cons_zero, List.set_cons_succ]
        refine wpAnyH_ready (rs := [15]) (by kernel_rfl) (by simp) ?_
        refine AllReadyH.cons (o := ⟨some 47, .call ⟨.value (.func 46), #[.tmp 33, .tmp 46], #[41, 41]⟩, _, _, _, _⟩) rfl (fun K hK => ?_) AllReadyH.nil
        go_simp
        have S4 := Lib.hid (SC.out.later (Below.refl _ _).drew)
        have HO4 := Lib.hid (HOK.out.later S4.out.low)
        refine (hull_any kd.lo.p kd.hi.p e.row.p e.row.p kd.lo.n kd.lo.c kd.hi.n kd.hi.c e.row.n e.row.c e.row.n e.row.c kd.lo.R kd.hi.R e.row.R e.row.R wq.drew S4.out.ok.lo.ints S4.out.ok.hi.ints HO4.out.ints HO4.out.ints).mono ?_
        rintro _ w8 ⟨v8, rfl, hbp, haw⟩
        obtain ⟨r1, r2, rfl, e1, e2, ok1, ok2, haw, b8⟩ := hull_rows (a1 := kd.lo) (a2 := kd.hi) (a3 := e.row) (a4 := e.row) hbp haw S4.out.ok.lo S4.out.ok.hi HO4.out HO4.out
        have HE1 := Lib.hid e1
        have HE2 := Lib.hid e2
        have S8 := Lib.hid (S4.out.later b8)
        have HAWx := Lib.hid (haw gx (show gx < wq.drew.heap.size from (Array.getElem?_eq_some_iff.1 S4.out.row).1) (S4.out.away _ (by simp [Kd.rows])).1 (S4.out.away _ (by simp [Kd.rows])).1 (ok_away HOK.out S4.out.ge.2.2) (ok_away HOK.out S4.out.ge.2.2))
        have HAWr := Lib.hid (haw (w.heap.size + 1) (show w.heap.size + 1 < wq.drew.heap.size from (Array.getElem?_eq_some_iff.1 S4.out.res).1) (S4.out.away _ (by simp [Kd.rows])).2 (S4.out.away _ (by simp [Kd.rows])).2 (ok_away HOK.out S4.out.ge.2.1) (ok_away HOK.out S4.out.ge.2.1))
        have HOK1 := Lib.hid ok1
        have HOK2 := Lib.hid ok2
        clear hbp e1 e2 haw b8 ok1 ok2
        try go_wp2_with fail
        refine hK.out _ _ ⟨S8.out.low, S8.out.node⟩ (fun hHeld => ?_)
        clear hK K
        try simp only [Act.put, List.setIfInBounds_toArray, List.set_cons_zero, List.set_cons_succ]
        refine wpAnyH_take (i := 16) (oi := ⟨some 48, .fieldAddr 43 (.tmp 4) 1, _, _, _, _⟩) (v := ?_) rfl (by kernel_rfl) (by kernel_rfl) (by kernel_rfl) (fun _ _ _ h => h) (Or.inl ⟨by rfl, ?_⟩) (by assumption) ?_
        rotate_left
        · intro w' hSw
          go_simp
          try with_reducible rfl
        try simp only [Act.put, List.setIfInBounds_toArray, List.set_cons_zero, List.set_cons_succ]
        refine wpAnyH_ready (rs := [17]) (by kernel_rfl) (by simp) ?_
        refine AllReadyH.cons (o := ⟨none, .store 41 (.tmp 48) (.tmp 47), _, _, _, _⟩) rfl (fun K hK => ?_) AllReadyH.nil
        refine wp_store_mid 41 (.tmp 48) (.tmp 47) (by rfl) gx 32 #[r1.val, r2.val] (by rfl) (by rfl) (kd_there2 S8.out.row S8.out.ok.len r1 r2) IBx (box_one r1 r2) ?_
        have S9 := Lib.hid (S8.out.setBox (r1 := r1) (r2 := r2) ⟨HOK1.out, HAWx.out.1, HAWr.out.1⟩ ⟨HOK2.out, HAWx.out.2, HAWr.out.2⟩)
        refine hK.out _ _ ⟨S9.out.low, S9.out.node⟩ (fun hHeld => ?_)
        clear hK K
        try simp only [Act.put]
        refine wpAnyH_done (by kernel_rfl) ?_ _
        have HP2 := Lib.hid (HP1.out r1 r2 HE1.out HE2.out)
        have S9' := S9.out
        clear S9 hHeld S8 S4 HAWx HAWr HOK1 HOK2
        have S9 := Lib.hid S9'
        clear S9'
        generalize w8.setCells gx 32 [r1.val, r2.val] = w9 at *
        go_wp2_with fail
        go_roundw
        case rel => exact ⟨k + 1, _, by omega, by go_num, S9.out, HP2.out⟩
        case measure => simp [intOf]; omega
    · obtain rfl : n = k := by omega
      have e0 : (E.map En.pe).take n = E.map En.pe := List.take_of_length_le (by rw [List.length_map, HES.out]; exact Nat.le_refl _)
      rw [e0] at PKS
      have hlvE := live_le (E.map En.pe)
      rw [List.length_map, ← HES.out] at hlvE
      generalize boxR (E.map En.pe) = b0 at *
      generalize liveR (E.map En.pe) = lv0 at *
      have HLV := Lib.hid hlvE
      have HPK0 := Lib.hid (show kd.pk = ⟨D, (((K.map Kd.pk).take 0).foldl boxK b0).1, (((K.map Kd.pk).take 0).foldl boxK b0).2, lv0 + (((K.map Kd.pk).take 0).map PK.live).sum, n + (((K.map Kd.pk).take 0).map PK.size).sum, []⟩ from by
        rw [PKS.out]
        simp)
      clear e0 hlt hk hlvE PKS
      go_wp2_with fail
      go_loopw [6] (fun i wr => Ry2 w w.heap.size kind p n c q m f (w.heap.size + 1) gx D b0 lv0 (K.map Kd.pk) i wr) (fun i _ => m - (intOf i).toNat)
      case atStart => exact ⟨0, kd, by omega, rfl, ST.out, HPK0.out⟩
      case round =>
        obtain ⟨k, kd2, hk, rfl, hst, hpk⟩ := hrel
        have S2 := Lib.hid hst
        have PKS := Lib.hid hpk
        have hm4 := HM4.out
        clear hst hpk ST HPK0 t0 t1 t2
        obtain ⟨t0, t1, t2⟩ := S2.out.node.cells
        by_cases hlt : k < m
        · obtain ⟨g, o, rfl, hrg, hok⟩ := HK.out.get k hlt
          have i1 : (0 : Int) ≤ k ∧ (k : Int) < m := by omega
          have hlen : k < K.length := by rw [← HKS.out]; exact hlt
          have hlenm : k < (K.map Kd.pk).length := by rw [List.length_map]; exact hlen
          have HTB := Lib.hid (show ((K.map Kd.pk).take (k + 1)).foldl boxK b0 = boxK (((K.map Kd.pk).take k).foldl boxK b0) (K.getD k default).pk from by
            rw [take_fold boxK _ _ _ hlenm, map_getD Kd.pk K k hlen])
          have HTV := Lib.hid (show (((K.map Kd.pk).take (k + 1)).map PK.live).sum = (((K.map Kd.pk).take k).map PK.live).sum + (K.getD k default).live from by
            rw [take_sum PK.live _ _ hlenm, map_getD Kd.pk K k hlen]
            rfl)
          have HTZ := Lib.hid (show (((K.map Kd.pk).take (k + 1)).map PK.size).sum = (((K.map Kd.pk).take k).map PK.size).sum + (K.getD k default).size from by
            rw [take_sum PK.size _ _ hlenm, map_getD Kd.pk K k hlen]
            rfl)
          have hkb := HKID.out _ (getD_mem K k hlen)
          have hall : ∀ x ∈ (K.map Kd.pk).take k, (0 ≤ x.live ∧ x.live ≤ 1048576) ∧ (0 ≤ x.size ∧ x.size ≤ 1048576) := fun x hx => by
            obtain ⟨y, hy, rfl⟩ := List.mem_map.1 (List.mem_of_mem_take hx)
            exact HKID.out y hy
          have hs1 := sum_le PK.live 1048576 _ (fun x hx => (hall x hx).1)
          have hs2 := sum_le PK.size 1048576 _ (fun x hx => (hall x hx).2)
          have hlk : ((K.map Kd.pk).take k).length ≤ 4 := by rw [List.length_take]; omega
          have hlv0 := HLV.out
          have hn4 := HN4.out
          have hvl : kd2.live = lv0 + (((K.map Kd.pk).take k).map PK.live).sum := congrArg PK.live PKS.out
          have hvz : kd2.size = n + (((K.map Kd.pk).take k).map PK.size).sum := congrArg PK.size PKS.out
          have hlo : kd2.lo.R = (((K.map Kd.pk).take k).foldl boxK b0).1 := congrArg PK.lo PKS.out
          have hhi : kd2.hi.R = (((K.map Kd.pk).take k).foldl boxK b0).2 := congrArg PK.hi PKS.out
          generalize K.getD k default = e at *
          obtain ⟨a1, ha1⟩ : ∃ a1 : Nat, kd2.live = a1 := ⟨kd2.live.toNat, by omega⟩
          obtain ⟨a2, ha2⟩ : ∃ a2 : Nat, e.live = a2 := ⟨e.live.toNat, by omega⟩
          obtain ⟨a3, ha3⟩ : ∃ a3 : Nat, kd2.size = a3 := ⟨kd2.size.toNat, by omega⟩
          obtain ⟨a4, ha4⟩ : ∃ a4 : Nat, e.size = a4 := ⟨e.size.toNat, by omega⟩
          have hq1 : a1 + a2 ≤ 100000000 := by omega
          have hq2 : a3 + a4 ≤ 100000000 := by omega
          have HP1 := Lib.hid (show ∀ r1 r2 : Rw, r1.R = (hull (kd2.lo.R, kd2.hi.R) (e.lo.R, e.hi.R)).1 → r2.R = (hull (kd2.lo.R, kd2.hi.R) (e.lo.R, e.hi.R)).2 → ({ kd2 with live := (a1 : Int) + a2, size := (a3 : Int) + a4, lo := r1, hi := r2 } : Kd).pk = ⟨D, (((K.map Kd.pk).take (k + 1)).foldl boxK b0).1, (((K.map Kd.pk).take (k + 1)).foldl boxK b0).2, lv0 + (((K.map Kd.pk).take (k + 1)).map PK.live).sum, n + (((K.map Kd.pk).take (k + 1)).map PK.size).sum, []⟩ from fun r1 r2 e1 e2 => by
            rw [HTB.out, HTV.out, HTZ.out]
            have e3 : boxK (((K.map Kd.pk).take k).foldl boxK b0) e.pk = hull (kd2.lo.R, kd2.hi.R) (e.lo.R, e.hi.R) := by
              unfold boxK
              rw [hlo, hhi]
              rfl
            rw [e3, ← e1, ← e2]
            have e4 := PKS.out
            simp only [Kd.pk, PK.mk.injEq] at e4 ⊢
            refine ⟨e4.1, trivial, trivial, ?_, ?_, e4.2.2.2.2.2⟩
            · rw [← ha1, ← ha2]; omega
            · rw [← ha3, ← ha4]; omega)
          have HOK := Lib.hid hok
          have HAT := Lib.hid (kat_of hrg hok.len)
          have HA1 := Lib.hid ha1
          have HA2 := Lib.hid ha2
          have HA3 := Lib.hid ha3
          have HA4 := Lib.hid ha4
          have hq3 : IntKind.i64.wrap ((a3 : Int) + (a4 : Int)) = (a3 : Int) + (a4 : Int) := IntWalk.i64_in _ (by omega)
          have hq4 : IntKind.i64.wrap ((a1 : Int) + (a2 : Int)) = (a1 : Int) + (a2 : Int) := IntWalk.i64_in _ (by omega)
          clear hrg hok ha1 ha2 ha3 ha4 hvl hvz hlo hhi hs1 hs2 hlk hlv0 hkb hall PKS hlen hlenm HTB HTV HTZ
          have x1 := S2.out.cell.size
          rw [Nat.zero_add, HA3.out] at x1
          have x2 := (S2.out.low.cell (block_lt_of_cell HAT.out.size)).trans HAT.out.size
          rw [HA4.out] at x2
          have f35 := frozen_of_row wr gx 35 _ _ S2.out.row
          go_upto_region 12 with fail
          go_still_tail 10, (by kernel_rfl)
          have x1 : wr.drew.cell? ⟨gx, 35, none⟩ = some (.int .i64 a3) := x1
          have f35 : wr.drew.frozen? ⟨gx, 35, none⟩ = false := f35
          go_upto_region 13 with fail
          have SB := Lib.hid (show TaSt w (wr.setCell ⟨gx, 35, none⟩ (.int .i64 ((a3 : Int) + a4))).drew w.heap.size kind p n c (some ⟨g, o, none⟩) m f (w.heap.size + 1) gx { kd2 with size := (a3 : Int) + a4 } from (S2.out.setSize ((a3 : Int) + a4) ⟨by omega, by omega⟩).later (Below.refl _ _).drew)
          generalize (wr.setCell ⟨gx, 35, none⟩ (.int .i64 ((a3 : Int) + a4))).drew = wb at *
          clear x1 x2 f35 S2 t0 t1 t2 HA3 HA4
          obtain ⟨t0, t1, t2⟩ := SB.out.node.cells
          have x1 := SB.out.cell.live
          rw [Nat.zero_add, show ({ kd2 with size := (a3 : Int) + a4 } : Kd).live = (a1 : Int) from HA1.out] at x1
          have x2 := (SB.out.low.cell (block_lt_of_cell HAT.out.live)).trans HAT.out.live
          rw [HA2.out] at x2
          have f34 := frozen_of_row wb gx 34 _ _ SB.out.row
          go_still_tail 10, (by kernel_rfl)
          have x1 : wb.drew.cell? ⟨gx, 34, none⟩ = some (.int .i64 a1) := x1
          have f34 : wb.drew.frozen? ⟨gx, 34, none⟩ = false := f34
          go_upto_region 14 with fail
          have SC := Lib.hid (show TaSt w ((wb.setCell ⟨gx, 34, none⟩ (.int .i64 ((a1 : Int) + a2))).drew) w.heap.size kind p n c (some ⟨g, o, none⟩) m f (w.heap.size + 1) gx { kd2 with live := (a1 : Int) + a2, size := (a3 : Int) + a4 } from (SB.out.setLive ((a1 : Int) + a2) ⟨by omega, by omega⟩).later (Below.refl _ _).drew)
          generalize (wb.setCell ⟨gx, 34, none⟩ (.int .i64 ((a1 : Int) + a2))).drew = wq at *
          clear x1 x2 f34 SB t0 t1 t2 HA1 HA2 hq3 hq4
          refine wp_region_held_drew (S := fun w' => Below w.heap.size w w' ∧ NodeAt w' w.heap.size kind p n c (some ⟨g, o, none⟩) m f) (by kernel_rfl) ⟨(SC.out.later (Below.refl _ _).drew).low, (SC.out.later (Below.refl _ _).drew).node⟩ (fun hHeld => ?_)
          refine wpAnyH_take (i := 0) (oi := ⟨some 76, .fieldAddr 43 (.tmp 4) 1, _, _, _, _⟩) (v := ?_) rfl (by kernel_rfl) (by kernel_rfl) (by kernel_rfl) (fun _ _ _ h => h) (Or.inl ⟨by rfl, ?_⟩) (by assumption) ?_
          rotate_left
          · intro w' hSw
            go_simp
            try with_reducible rfl
          try simp only [Act.put, List.setIfInBounds_toArray, List.set_cons_zero, List.set_cons_succ]
          refine wpAnyH_take (i := 2) (oi := ⟨some 78, .fieldAddr 27 (.tmp 1) 2, _, _, _, _⟩) (v := ?_) rfl (by kernel_rfl) (by kernel_rfl) (by kernel_rfl) (fun _ _ _ h => h) (Or.inl ⟨by rfl, ?_⟩) (by assumption) ?_
          rotate_left
          · intro w' hSw
            go_simp
            try with_reducible rfl
          try simp only [Act.put, List.setIfInBounds_toArray, List.set_cons_zero, List.set_cons_succ]
          refine wpAnyH_take (i := 3) (oi := ⟨some 79, .load 25 (.tmp 78), _, _, _, _⟩) (v := ?_) rfl (by kernel_rfl) (by kernel_rfl) (by kernel_rfl) (fun _ _ _ h => h) (Or.inl ⟨by rfl, ?_⟩) (by assumption) ?_
          rotate_left
          · intro w' hSw
            obtain ⟨t0, t1, t2⟩ := hSw.2.cells
            go_simp
            try with_reducible rfl
          try simp only [Act.put, List.setIfInBounds_toArray, List.set_cons_zero, List.set_cons_succ]
          refine wpAnyH_take (i := 4) (oi := ⟨some 80, .move (.tmp 6), _, _, _, _⟩) (v := ?_) rfl (by kernel_rfl) (by kernel_rfl) (by kernel_rfl) (fun _ _ _ h => h) (Or.inl ⟨by rfl, ?_⟩) (by assumption) ?_
          rotate_left
          · intro w' hSw
            go_simp
            try with_reducible rfl
          try simp only [Act.put, List.setIfInBounds_toArray, List.set_cons_zero, List.set_cons_succ]
          refine wpAnyH_take (i := 5) (oi := ⟨some 81, .indexAddr 25 (.tmp 79) (.tmp 80), _, _, _, _⟩) (v := ?_) rfl (by kernel_rfl) (by kernel_rfl) (by kernel_rfl) (fun _ _ _ h => h) (Or.inl ⟨by rfl, ?_⟩) (by assumption) ?_
          rotate_left
          · intro w' hSw
            go_simp
            try with_reducible rfl
          try simp only [Act.put, List.setIfInBounds_toArray, List.set_cons_zero, List.set_cons_succ]
          refine wpAnyH_take (i := 6) (oi := ⟨some 82, .fieldAddr 43 (.tmp 81) 1, _, _, _, _⟩) (v := ?_) rfl (by kernel_rfl) (by kernel_rfl) (by kernel_rfl) (fun _ _ _ h => h) (Or.inl ⟨by rfl, ?_⟩) (by assumption) ?_
          rotate_left
          · intro w' hSw
            go_simp
            try with_reducible rfl
          try simp only [Act.put, List.setIfInBounds_toArray, List.set_cons_zero, List.set_cons_succ]
          refine wpAnyH_take (i := 7) (oi := ⟨some 83, .load 41 (.tmp 82), _, _, _, _⟩) (v := ?_) rfl (by kernel_rfl) (by kernel_rfl) (by kernel_rfl) (fun _ _ _ h => h) (Or.inl ⟨by rfl, ?_⟩) (by assumption) ?_
          rotate_left
          · intro w' hSw
            have c8 := (hSw.1.cell (block_lt_of_cell HAT.out.lo)).trans HAT.out.lo
            have c9 := (hSw.1.cell (block_lt_of_cell HAT.out.hi)).trans HAT.out.hi
            unfold Rw.val at c8 c9
            go_simp
            try with_reducible rfl
          try simp only [Act.put, List.setIfInBounds_toArray, List.set_cons_zero, List.set_cons_succ]
          refine wpAnyH_ready (rs := [1]) (by kernel_rfl) (by simp) ?_
          refine AllReadyH.cons (o := ⟨some 77, .load 41 (.tmp 76), _, _, _, _⟩) rfl (fun K hK => ?_) AllReadyH.nil
          have b0 : wq.drew.cell? ⟨gx, 32, none⟩ = some (.slice kd2.lo.p kd2.lo.n kd2.lo.c) := by have h9 := SC.out.cell.lo; rw [Nat.zero_add] at h9; exact h9
          have b1 : wq.drew.cell? ⟨gx, 33, none⟩ = some (.slice kd2.hi.p kd2.hi.n kd2.hi.c) := by have h9 := SC.out.cell.hi; rw [Nat.zero_add] at h9; exact h9
          go_simp
          refine hK.out _ _ hHeld (fun hHeld => ?_)
          clear hK K
          try simp only [Act.put, List.setIfInBounds_toArray, List.set_cons_zero, List.set_cons_succ]
          refine wpAnyH_ready (rs := [8]) (by kernel_rfl) (by simp) ?_
          refine AllReadyH.cons (o := ⟨some 84, .call ⟨.value (.func 46), #[.tmp 77, .tmp 83], #[41, 41]⟩, _, _, _, _⟩) rfl (fun K hK => ?_) AllReadyH.nil
          go_simp
          have S4 := Lib.hid (SC.out.later (Below.refl _ _).drew)
          have HO4 := Lib.hid (HOK.out.later S4.out.low)
          refine (hull_any kd2.lo.p kd2.hi.p e.lo.p e.hi.p kd2.lo.n kd2.lo.c kd2.hi.n kd2.hi.c e.lo.n e.lo.c e.hi.n e.hi.c kd2.lo.R kd2.hi.R e.lo.R e.hi.R wq.drew S4.out.ok.lo.ints S4.out.ok.hi.ints HO4.out.lo.ints HO4.out.hi.ints).mono ?_
          rintro _ w8 ⟨v8, rfl, hbp, haw⟩
          obtain ⟨r1, r2, rfl, e1, e2, ok1, ok2, haw, b8⟩ := hull_rows (a1 := kd2.lo) (a2 := kd2.hi) (a3 := e.lo) (a4 := e.hi) hbp haw S4.out.ok.lo S4.out.ok.hi HO4.out.lo HO4.out.hi
          have HE1 := Lib.hid e1
          have HE2 := Lib.hid e2
          have S8 := Lib.hid (S4.out.later b8)
          have HAWx := Lib.hid (haw gx (show gx < wq.drew.heap.size from (Array.getElem?_eq_some_iff.1 S4.out.row).1) (S4.out.away _ (by simp [Kd.rows])).1 (S4.out.away _ (by simp [Kd.rows])).1 (ok_away HOK.out.lo S4.out.ge.2.2) (ok_away HOK.out.hi S4.out.ge.2.2))
          have HAWr := Lib.hid (haw (w.heap.size + 1) (show w.heap.size + 1 < wq.drew.heap.size from (Array.getElem?_eq_some_iff.1 S4.out.res).1) (S4.out.away _ (by simp [Kd.rows])).2 (S4.out.away _ (by simp [Kd.rows])).2 (ok_away HOK.out.lo S4.out.ge.2.1) (ok_away HOK.out.hi S4.out.ge.2.1))
          have HOK1 := Lib.hid ok1
          have HOK2 := Lib.hid ok2
          clear hbp e1 e2 haw b8 ok1 ok2
          try go_wp2_with fail
          refine hK.out _ _ ⟨S8.out.low, S8.out.node⟩ (fun hHeld => ?_)
          clear hK K
          try simp only [Act.put, List.setIfInBounds_toArray, List.set_cons_zero, List.set_cons_succ]
          refine wpAnyH_take (i := 9) (oi := ⟨some 85, .fieldAddr 43 (.tmp 4) 1, _, _, _, _⟩) (v := ?_) rfl (by kernel_rfl) (by kernel_rfl) (by kernel_rfl) (fun _ _ _ h => h) (Or.inl ⟨by rfl, ?_⟩) (by assumption) ?_
          rotate_left
          · intro w' hSw
            go_simp
            try with_reducible rfl
          try simp only [Act.put, List.setIfInBounds_toArray, List.set_cons_zero, List.set_cons_succ]
          refine wpAnyH_ready (rs := [10]) (by kernel_rfl) (by simp) ?_
          refine AllReadyH.cons (o := ⟨none, .store 41 (.tmp 85) (.tmp 84), _, _, _, _⟩) rfl (fun K hK => ?_) AllReadyH.nil
          refine wp_store_mid 41 (.tmp 85) (.tmp 84) (by rfl) gx 32 #[r1.val, r2.val] (by rfl) (by rfl) (kd_there2 S8.out.row S8.out.ok.len r1 r2) IBx (box_one r1 r2) ?_
          have S9 := Lib.hid (S8.out.setBox (r1 := r1) (r2 := r2) ⟨HOK1.out, HAWx.out.1, HAWr.out.1⟩ ⟨HOK2.out, HAWx.out.2, HAWr.out.2⟩)
          refine hK.out _ _ ⟨S9.out.low, S9.out.node⟩ (fun hHeld => ?_)
          clear hK K
          try simp only [Act.put]
          refine wpAnyH_done (by kernel_rfl) ?_ _
          have HP2 := Lib.hid (HP1.out r1 r2 HE1.out HE2.out)
          have S9' := S9.out
          clear S9 hHeld S8 S4 HAWx HAWr HOK1 HOK2
          have S9 := Lib.hid S9'
          clear S9'
          generalize w8.setCells gx 32 [r1.val, r2.val] = w9 at *
          go_wp2_with fail
          go_roundw
          case rel => exact ⟨k + 1, _, by omega, by go_num, S9.out, HP2.out⟩
          case measure => simp [intOf]; omega
        · obtain rfl : m = k := by omega
          have e0 : (K.map Kd.pk).take m = K.map Kd.pk := List.take_of_length_le (by rw [List.length_map, HKS.out]; exact Nat.le_refl _)
          rw [e0] at PKS
          clear e0 hlt hk
          have HKY := HKN.out
          clear HKN
          rcases HKY with ⟨rfl, hky⟩ | ⟨rfl, h1, hky⟩ | ⟨rfl, h2, hky⟩
          · have PE := Lib.hid (show kd2.pk = T from by rw [HSY.out, PKS.out, hky])
            clear PKS hky
            go_upto_region 19 with fail
            have hz : kd2.size = N.size := by rw [HZZ.out]; have := congrArg PK.size PE.out; rw [HSY.out] at this; exact this
            have c35 := S2.out.cell.size
            rw [Nat.zero_add] at c35
            by_cases hbig : 1048576 < kd2.size
            · go_wp2_with (first
                | (refine wpList_build (by rfl) (by rfl) kd0_built ?_)
                | (refine wpList_store_row (by rfl) 43 _ _ (by rfl) (w.heap.size + 1) kd0.cells.toArray (by rfl) (by rfl) _ _ S2.out.res (by rw [List.size_toArray, kd0_size]; exact SKd) rfl (all_oneCell_toArray Kd.one) ?_))
              have r9 := setRow_heap _ (w.heap.size + 1) _ kd0.cells.toArray _ _ S2.out.res
              have hb9 : Below (w.heap.size + 1) wr (wr.setRow (w.heap.size + 1) kd0.cells.toArray) := Below.setRow (Below.refl _ _) (Nat.le_refl _) _
              refine ret_str2 2 3 (by kernel_rfl) (w.heap.size + 1) _ kd0.cells.toArray _ HDU.out HDR.out (by rw [List.size_toArray, kd0_size]; exact SKd) (by rfl) (by rfl) r9 ?_
              exact ⟨S2.out.low.trans (hb9.mono (by omega)), Or.inr ⟨by omega, rfl⟩⟩
            · have HCL := Lib.hid (Kd.cells_length S2.out.ok.len)
              have HRR := Lib.hid (range_kd S2.out.row)
              go_wp2_with (first
                | (refine wpList_load_mid (by rfl) 43 _ (by rfl) gx 0 (by rfl) kd2.cells du HRR.out HDU.out HDR.out (by rw [HCL.out]; exact SKd) ?_)
                | (refine wpList_store_row (by rfl) 43 _ _ (by rfl) (w.heap.size + 1) kd2.cells.toArray (by rfl) (by rfl) _ _ S2.out.res (by rw [List.size_toArray, HCL.out]; exact SKd) (by simp only [List.size_toArray, HCL.out, kd0_size]) (all_oneCell_toArray Kd.one) ?_))
              have r9 := setRow_heap _ (w.heap.size + 1) _ kd2.cells.toArray _ _ S2.out.res
              have hb9 : Below (w.heap.size + 1) wr (wr.setRow (w.heap.size + 1) kd2.cells.toArray) := Below.setRow (Below.refl _ _) (Nat.le_refl _) _
              have hrw : ∀ r ∈ kd2.rows, r.Ok (wr.setRow (w.heap.size + 1) kd2.cells.toArray) := fun r hr => rw_keep (S2.out.rows r hr).1 (fun x hx hR => setRow_other _ _ _ _ ((S2.out.rows r hr).2.2 x hx hR))
              refine ret_str2 2 3 (by kernel_rfl) (w.heap.size + 1) _ kd2.cells.toArray _ HDU.out HDR.out (by rw [List.size_toArray, HCL.out]; exact SKd) (by rfl) (by rfl) r9 ?_
              exact ⟨S2.out.low.trans (hb9.mono (by omega)), Or.inl ⟨by omega, kd2, rfl, PE.out.trans HT.out.symm, ⟨S2.out.ok.len, S2.out.ok.ok, hrw _ (by simp [Kd.rows]), hrw _ (by simp [Kd.rows]), hrw _ (by simp [Kd.rows]), S2.out.ok.live, S2.out.ok.size⟩⟩⟩
          · obtain ⟨g, o, rfl, c1, c2, hok⟩ := HE.out.get 0 (by omega)
            simp only [Nat.zero_mul, Nat.add_zero] at c1
            generalize E.getD 0 default = e at *
            have PE := Lib.hid (show ({ kd2 with key := e.row } : Kd).pk = T from by
              have e4 := PKS.out
              rw [HSY.out, hky]
              simp only [Kd.pk, PK.mk.injEq] at e4 ⊢
              exact ⟨e4.1, e4.2.1, e4.2.2.1, e4.2.2.2.1, e4.2.2.2.2.1, trivial⟩)
            have S3 := Lib.hid (S2.out.setKey (r := e.row) ⟨hok.later S2.out.low, ok_away hok S2.out.ge.2.2, ok_away hok S2.out.ge.2.1⟩)
            have c1 := (S2.out.low.cell (block_lt_of_cell c1)).trans c1
            have i1 : (0 : Int) < n := by omega
            have f36 := frozen_of_row wr gx 36 _ _ S2.out.row
            have x36 := S2.out.cell.key
            rw [Nat.zero_add] at x36
            unfold Rw.val at c1 x36
            unfold Rw.val at S3
            clear PKS hky c2 hok h1
            go_upto_region 19 with fail
            generalize wr.setCell ⟨gx, 36, none⟩ (.slice e.row.p e.row.n e.row.c) = wk at *
            generalize ({ kd2 with key := e.row } : Kd) = kd3 at *
            clear S2 c1 f36 x36 t0 t1 t2
            have hz : kd3.size = N.size := by rw [HZZ.out]; have := congrArg PK.size PE.out; rw [HSY.out] at this; exact this
            have c35 := S3.out.cell.size
            rw [Nat.zero_add] at c35
            by_cases hbig : 1048576 < kd3.size
            · go_wp2_with (first
                | (refine wpList_build (by rfl) (by rfl) kd0_built ?_)
                | (refine wpList_store_row (by rfl) 43 _ _ (by rfl) (w.heap.size + 1) kd0.cells.toArray (by rfl) (by rfl) _ _ S3.out.res (by rw [List.size_toArray, kd0_size]; exact SKd) rfl (all_oneCell_toArray Kd.one) ?_))
              have r9 := setRow_heap _ (w.heap.size + 1) _ kd0.cells.toArray _ _ S3.out.res
              have hb9 : Below (w.heap.size + 1) wk (wk.setRow (w.heap.size + 1) kd0.cells.toArray) := Below.setRow (Below.refl _ _) (Nat.le_refl _) _
              refine ret_str2 2 3 (by kernel_rfl) (w.heap.size + 1) _ kd0.cells.toArray _ HDU.out HDR.out (by rw [List.size_toArray, kd0_size]; exact SKd) (by rfl) (by rfl) r9 ?_
              exact ⟨S3.out.low.trans (hb9.mono (by omega)), Or.inr ⟨by omega, rfl⟩⟩
            · have HCL := Lib.hid (Kd.cells_length S3.out.ok.len)
              have HRR := Lib.hid (range_kd S3.out.row)
              go_wp2_with (first
                | (refine wpList_load_mid (by rfl) 43 _ (by rfl) gx 0 (by rfl) kd3.cells du HRR.out HDU.out HDR.out (by rw [HCL.out]; exact SKd) ?_)
                | (refine wpList_store_row (by rfl) 43 _ _ (by rfl) (w.heap.size + 1) kd3.cells.toArray (by rfl) (by rfl) _ _ S3.out.res (by rw [List.size_toArray, HCL.out]; exact SKd) (by simp only [List.size_toArray, HCL.out, kd0_size]) (all_oneCell_toArray Kd.one) ?_))
              have r9 := setRow_heap _ (w.heap.size + 1) _ kd3.cells.toArray _ _ S3.out.res
              have hb9 : Below (w.heap.size + 1) wk (wk.setRow (w.heap.size + 1) kd3.cells.toArray) := Below.setRow (Below.refl _ _) (Nat.le_refl _) _
              have hrw : ∀ r ∈ kd3.rows, r.Ok (wk.setRow (w.heap.size + 1) kd3.cells.toArray) := fun r hr => rw_keep (S3.out.rows r hr).1 (fun x hx hR => setRow_other _ _ _ _ ((S3.out.rows r hr).2.2 x hx hR))
              refine ret_str2 2 3 (by kernel_rfl) (w.heap.size + 1) _ kd3.cells.toArray _ HDU.out HDR.out (by rw [List.size_toArray, HCL.out]; exact SKd) (by rfl) (by rfl) r9 ?_
              exact ⟨S3.out.low.trans (hb9.mono (by omega)), Or.inl ⟨by omega, kd3, rfl, PE.out.trans HT.out.symm, ⟨S3.out.ok.len, S3.out.ok.ok, hrw _ (by simp [Kd.rows]), hrw _ (by simp [Kd.rows]), hrw _ (by simp [Kd.rows]), S3.out.ok.live, S3.out.ok.size⟩⟩⟩
          · obtain ⟨g, o, rfl, hrg, hok⟩ := HK.out.get 0 (by omega)
            simp only [Nat.zero_mul, Nat.add_zero] at hrg
            generalize K.getD 0 default = e at *
            have c1 := (kat_of hrg hok.len).key
            have PE := Lib.hid (show ({ kd2 with key := e.key } : Kd).pk = T from by
              have e4 := PKS.out
              rw [HSY.out, hky]
              simp only [Kd.pk, PK.mk.injEq] at e4 ⊢
              exact ⟨e4.1, e4.2.1, e4.2.2.1, e4.2.2.2.1, e4.2.2.2.2.1, trivial⟩)
            have S3 := Lib.hid (S2.out.setKey (r := e.key) ⟨hok.key.later S2.out.low, ok_away hok.key S2.out.ge.2.2, ok_away hok.key S2.out.ge.2.1⟩)
            have c1 := (S2.out.low.cell (block_lt_of_cell c1)).trans c1
            have i1 : (0 : Int) < m := by omega
            have f36 := frozen_of_row wr gx 36 _ _ S2.out.row
            have x36 := S2.out.cell.key
            rw [Nat.zero_add] at x36
            unfold Rw.val at c1 x36
            unfold Rw.val at S3
            clear PKS hky hrg hok h2
            go_upto_region 19 with fail
            generalize wr.setCell ⟨gx, 36, none⟩ (.slice e.key.p e.key.n e.key.c) = wk at *
            generalize ({ kd2 with key := e.key } : Kd) = kd3 at *
            clear S2 c1 f36 x36 t0 t1 t2
            have hz : kd3.size = N.size := by rw [HZZ.out]; have := congrArg PK.size PE.out; rw [HSY.out] at this; exact this
            have c35 := S3.out.cell.size
            rw [Nat.zero_add] at c35
            by_cases hbig : 1048576 < kd3.size
            · go_wp2_with (first
                | (refine wpList_build (by rfl) (by rfl) kd0_built ?_)
                | (refine wpList_store_row (by rfl) 43 _ _ (by rfl) (w.heap.size + 1) kd0.cells.toArray (by rfl) (by rfl) _ _ S3.out.res (by rw [List.size_toArray, kd0_size]; exact SKd) rfl (all_oneCell_toArray Kd.one) ?_))
              have r9 := setRow_heap _ (w.heap.size + 1) _ kd0.cells.toArray _ _ S3.out.res
              have hb9 : Below (w.heap.size + 1) wk (wk.setRow (w.heap.size + 1) kd0.cells.toArray) := Below.setRow (Below.refl _ _) (Nat.le_refl _) _
              refine ret_str2 2 3 (by kernel_rfl) (w.heap.size + 1) _ kd0.cells.toArray _ HDU.out HDR.out (by rw [List.size_toArray, kd0_size]; exact SKd) (by rfl) (by rfl) r9 ?_
              exact ⟨S3.out.low.trans (hb9.mono (by omega)), Or.inr ⟨by omega, rfl⟩⟩
            · have HCL := Lib.hid (Kd.cells_length S3.out.ok.len)
              have HRR := Lib.hid (range_kd S3.out.row)
              go_wp2_with (first
                | (refine wpList_load_mid (by rfl) 43 _ (by rfl) gx 0 (by rfl) kd3.cells du HRR.out HDU.out HDR.out (by rw [HCL.out]; exact SKd) ?_)
                | (refine wpList_store_row (by rfl) 43 _ _ (by rfl) (w.heap.size + 1) kd3.cells.toArray (by rfl) (by rfl) _ _ S3.out.res (by rw [List.size_toArray, HCL.out]; exact SKd) (by simp only [List.size_toArray, HCL.out, kd0_size]) (all_oneCell_toArray Kd.one) ?_))
              have r9 := setRow_heap _ (w.heap.size + 1) _ kd3.cells.toArray _ _ S3.out.res
              have hb9 : Below (w.heap.size + 1) wk (wk.setRow (w.heap.size + 1) kd3.cells.toArray) := Below.setRow (Below.refl _ _) (Nat.le_refl _) _
              have hrw : ∀ r ∈ kd3.rows, r.Ok (wk.setRow (w.heap.size + 1) kd3.cells.toArray) := fun r hr => rw_keep (S3.out.rows r hr).1 (fun x hx hR => setRow_other _ _ _ _ ((S3.out.rows r hr).2.2 x hx hR))
              refine ret_str2 2 3 (by kernel_rfl) (w.heap.size + 1) _ kd3.cells.toArray _ HDU.out HDR.out (by rw [List.size_toArray, HCL.out]; exact SKd) (by rfl) (by rfl) r9 ?_
              exact ⟨S3.out.low.trans (hb9.mono (by omega)), Or.inl ⟨by omega, kd3, rfl, PE.out.trans HT.out.symm, ⟨S3.out.ok.len, S3.out.ok.ok, hrw _ (by simp [Kd.rows]), hrw _ (by simp [Kd.rows]), hrw _ (by simp [Kd.rows]), S3.out.ok.live, S3.out.ok.size⟩⟩⟩
end Go.Proofs.YtfkpgildeddhaaaGreat.Nd

/- indentureref10.Right. -/
namespace Go.Proofs.YtfkpgildeddhaaaGreat.Nd
open Go.RowKit

def Right1 (w1 : World) (E : List En) (n : Nat) (d : Int) (v i : Value) (wr : World) : Prop := ∃ k : Nat, k ≤ n ∧ i = .int .i64 k ∧ v = .bool (allT (fun e => e.live) E k) ∧ allT (fun e => e.pe.long d) E k = true ∧ wr = w1
def Right2 (K : List Kd) (m : Nat) (d : Int) (v u i : Value) : Prop := ∃ k : Nat, k ≤ m ∧ i = .int .i64 k ∧ v = .bool (allT (fun k => k.pk.keyed d) K k) ∧ u = .bool (allT (fun k => k.pk.keyless) K k) ∧ allT (fun k => k.pk.right d) K k = true
set_option maxRecDepth 100000 in
set_option maxHeartbeats 8000000 in
theorem rright_any (kind : Nat) (p : Option Addr) (n c : Nat) (q : Option Addr) (m f : Nat) (E : List En) (K : List Kd) (d : Int) (w : World) (hE : EntsIn w p n c E) (hK : KidsIn w q m f K) :
    Calls Tryz.prog 18 #[.agg #[.int .u8 kind, .slice p n c, .slice q m f], .int .i64 d] w fun e w' => e = .returned (.bool ((pnOf kind E K).right d)) ∧ Below w.heap.size w w' := by
  have hX := right_def kind E K d
  generalize (pnOf kind E K).right d = X at *
  have hb1 : Below w.heap.size w (w.alloc (.cells #[.int .u8 kind, .slice p n c, .slice q m f] 27)) := (Below.refl _ _).alloc (Nat.le_refl _) _
  have hn := NodeAt.start w kind p n c q m f
  have hE := hE.later hb1
  have hK := hK.later hb1
  have hes := hE.size
  have hks := hK.size
  have htn := hE.top
  have htm := hK.top
  have HE := Lib.hid hE
  have HK := Lib.hid hK
  have HX := Lib.hid hX
  have HES := Lib.hid hes
  have HKS := Lib.hid hks
  have HB := Lib.hid hb1
  have HN := Lib.hid hn
  clear hE hK hX hes hks hb1 hn
  by_cases hd : 1 ≤ d ∧ d ≤ 8
  case neg =>
    have hx := HX.out
    rw [if_pos hd] at hx
    subst hx
    by_cases h1 : d < 1
    · go_enter Tryz.func18, Tryz.ntmps18
      go_wp2_with fail
      go_ret
      exact ⟨rfl, HB.out⟩
    · have h2 : 8 < d := by omega
      go_enter Tryz.func18, Tryz.ntmps18
      go_wp2_with fail
      go_ret
      exact ⟨rfl, HB.out⟩
  have hx := HX.out
  rw [if_neg (fun h => h hd)] at hx
  have HX1 := Lib.hid hx
  clear hx HX
  have hd1 : ¬ d < 1 := by omega
  have hd8 : ¬ 8 < d := by omega
  go_enter Tryz.func18, Tryz.ntmps18
  go_upto_region 4 with fail
  generalize w.alloc (.cells #[.int .u8 kind, .slice p n c, .slice q m f] 27) = w1 at *
  obtain ⟨t0, t1, t2⟩ := HN.out.cells
  go_wp2_with fail
  go_loopw [5, 8] (fun v i wr => Right1 w1 E n d v i wr) (fun _ i _ => n - (intOf i).toNat)
  case atStart => exact ⟨0, by omega, rfl, rfl, rfl, rfl⟩
  case round =>
    obtain ⟨k, hk, rfl, rfl, hl, rfl⟩ := hrel
    by_cases hlt : k < n
    · obtain ⟨g, o, rfl, c1, c2, hok⟩ := HE.out.get k hlt
      have i1 : (0 : Int) ≤ k ∧ (k : Int) < n := by omega
      have hlen : k < E.length := by rw [← HES.out]; exact hlt
      have HS1 := Lib.hid (allT_succ (fun e : En => e.live) E k hlen)
      have HS2 := Lib.hid (allT_succ (fun e : En => e.pe.long d) E k hlen)
      have HF := Lib.hid (all_false (fun e : En => e.pe.long d) E k hlen)
      have HL := Lib.hid (show (E.getD k default).pe.long d = decide ((E.getD k default).row.n = d) from by unfold PE.long En.pe; rw [hok.ints.size])
      have HLV := Lib.hid hl
      clear hl hlen hok
      generalize E.getD k default = e at *
      simp only [Rw.val] at c1
      by_cases hne : (e.row.n : Int) = d
      case neg =>
        have hx := HX1.out
        rw [if_pos (HF.out (by rw [HL.out]; exact decide_eq_false hne))] at hx
        subst hx
        have hneb : ((e.row.n : Int) != d) = true := by simpa using hne
        clear HF HS1 HS2
        go_wp2_with fail
        go_ret
        exact ⟨rfl, HB.out⟩
      have hneb : ((e.row.n : Int) != d) = false := by simpa using hne
      have HLV2 := Lib.hid (show allT (fun e : En => e.pe.long d) E (k + 1) = true from by rw [HS2.out, HLV.out, HL.out, decide_eq_true hne]; rfl)
      clear HF HS2 HL hne HLV
      generalize allT (fun e : En => e.live) E k = lv at *
      cases lv
      · go_wp2_with fail
        go_roundw
        case rel => exact ⟨k + 1, by omega, by go_num, by rw [HS1.out]; rfl, HLV2.out, rfl⟩
        case measure => simp [intOf]; omega
      · go_wp2_with fail
        go_roundw
        case rel => exact ⟨k + 1, by omega, by go_num, by rw [HS1.out]; rfl, HLV2.out, rfl⟩
        case measure => simp [intOf]; omega
    · obtain rfl : k = n := by omega
      have hx := HX1.out
      rw [HES.out, allT_all] at hl
      rw [if_neg (by rw [hl]; simp)] at hx
      have HX2 := Lib.hid hx
      have HLV := Lib.hid (show allT (fun e : En => e.live) E k = E.all (fun e => e.live) from by rw [HES.out, allT_all])
      rw [HLV.out]
      clear hl hx HX1 HLV
      generalize E.all (fun e => e.live) = lv at *
      generalize wr = w1 at *
      obtain ⟨dk, hd, hdr⟩ := UKd
      have HD := Lib.hid hd
      have HDR := Lib.hid hdr
      clear hd hdr
      go_wp2_with fail
      go_loopw [6, 7, 9] (fun v u i wr => Right2 K m d v u i ∧ Below w.heap.size w wr ∧ NodeAt wr w.heap.size kind p k c q m f ∧ KidsIn wr q m f K) (fun _ _ i _ => m - (intOf i).toNat)
      case atStart => exact ⟨⟨0, by omega, rfl, rfl, rfl, rfl⟩, HB.out, HN.out, HK.out⟩
      case round =>
        obtain ⟨⟨k2, hk2, rfl, rfl, rfl, hr⟩, hb2, hn2, hkk⟩ := hrel
        have HB2 := Lib.hid hb2
        have HN2 := Lib.hid hn2
        have HK2 := Lib.hid hkk
        clear hb2 hn2 hkk HB HN HK t0 t1 t2
        obtain ⟨t0, t1, t2⟩ := HN2.out.cells
        by_cases hlt : k2 < m
        · obtain ⟨g, o, rfl, hrg, hok⟩ := HK2.out.get k2 hlt
          have i1 : (0 : Int) ≤ k2 ∧ (k2 : Int) < m := by omega
          have hlen : k2 < K.length := by rw [← HKS.out]; exact hlt
          have HS1 := Lib.hid (allT_succ (fun k : Kd => k.pk.keyed d) K k2 hlen)
          have HS2 := Lib.hid (allT_succ (fun k : Kd => k.pk.keyless) K k2 hlen)
          have HS3 := Lib.hid (allT_succ (fun k : Kd => k.pk.right d) K k2 hlen)
          have HF := Lib.hid (all_false (fun k : Kd => k.pk.right d) K k2 hlen)
          have HR := Lib.hid hr
          have HKD := Lib.hid (show (K.getD k2 default).pk.keyed d = (decide (((K.getD k2 default).key.n : Int) = d) && !decide ((K.getD k2 default).pk = PK.none)) from by unfold PK.keyed Kd.pk; rw [hok.key.ints.size])
          have HKL := Lib.hid (show (K.getD k2 default).pk.keyless = decide ((K.getD k2 default).key.n = 0) from by unfold PK.keyless Kd.pk; rw [hok.key.ints.size])
          have HRG := Lib.hid hrg
          have HOK := Lib.hid hok
          have c6 := (kat_of hrg hok.len).key
          have HCL := Lib.hid (Kd.cells_length hok.len)
          clear hrg hok hr hlen
          generalize K.getD k2 default = kd at *
          simp only [Rw.val] at c6
          by_cases hkr : kd.pk.right d = true
          case neg =>
            have hx := HX2.out
            have hkr := Bool.eq_false_iff.2 hkr
            rw [if_pos (HF.out hkr)] at hx
            subst hx
            have HKR := Lib.hid hkr
            clear hkr HF HS1 HS2 HS3
            go_wp2_with (first | (refine wpList_load_mid (by rfl) 43 _ (by rfl) g (o + k2 * 37) (by rfl) kd.cells dk HRG.out HD.out HDR.out (by rw [HCL.out]; exact SKd) ?_) | (go_at_call 12; refine (rkid_any kd d wr HOK.out).mono ?_; rintro _ w5 ⟨rfl, b5⟩; rw [HKR.out]; skip))
            go_ret
            exact ⟨rfl, HB2.out.trans (b5.mono HB2.out.size)⟩
          have HKR := Lib.hid hkr
          have HR2 := Lib.hid (show allT (fun k : Kd => k.pk.right d) K (k2 + 1) = true from by rw [HS3.out, HR.out, hkr]; rfl)
          clear hkr HF HS3 HR
          have n3 : ((kd.key.n : Int) == 0) = decide (kd.key.n = 0) := by rw [Bool.eq_iff_iff]; simp
          generalize allT (fun k : Kd => k.pk.keyed d) K k2 = kv at *
          generalize allT (fun k : Kd => k.pk.keyless) K k2 = nv at *
          go_upto_region 15 with (first | (refine wpList_load_mid (by rfl) 43 _ (by rfl) g (o + k2 * 37) (by rfl) kd.cells dk HRG.out HD.out HDR.out (by rw [HCL.out]; exact SKd) ?_) | (go_at_call 12; refine (rkid_any kd d wr HOK.out).mono ?_; rintro _ w5 ⟨rfl, b5⟩; rw [HKR.out]; have HB5 := Lib.hid (HB2.out.trans (b5.mono HB2.out.size)); have HN5 := Lib.hid (HN2.out.later b5); have HK5 := Lib.hid (HK2.out.later b5); have HRG5 := Lib.hid (range_later HRG.out b5); have HOK5 := Lib.hid (HOK.out.later b5); have c7 := (b5.cell (block_lt_of_cell c6)).trans c6; clear b5 c6 t0 t1 t2; obtain ⟨t0, t1, t2⟩ := HN5.out.cells))
          go_cut [6] from 56 to 76 (fun v wx => v = .bool (kv && kd.pk.keyed d) ∧ Below w5.heap.size w5 wx)
          case first =>
            cases kv
            · go_wp2_with fail
              go_meet
              exact ⟨rfl, Below.refl _ _⟩
            · by_cases hkn : (kd.key.n : Int) = d
              case neg =>
                have hkb : ((kd.key.n : Int) == d) = false := by simpa using hkn
                have HKN := Lib.hid (show kd.pk.keyed d = false from by rw [HKD.out, decide_eq_false hkn]; rfl)
                clear hkn
                go_wp2_with fail
                go_meet
                exact ⟨by rw [HKN.out]; rfl, Below.refl _ _⟩
              have hkb : ((kd.key.n : Int) == d) = true := by simpa using hkn
              have HKN := Lib.hid (show kd.pk.keyed d = !decide (kd.pk = PK.none) from by rw [HKD.out, decide_eq_true hkn]; rfl)
              clear hkn
              go_wp2_with (first | (refine wpList_load_midG (by rfl) 43 _ (by rfl) g (o + k2 * 37) (by rfl) kd.cells dk HRG5.out HD.out HDR.out (by rw [HCL.out]; exact SKd) ?_) | (go_at_call 16; refine (rempty_any kd w5 HOK5.out).mono ?_; rintro _ w6 ⟨rfl, b6⟩; have B6 := Lib.hid b6; clear b6; generalize decide (kd.pk = PK.none) = em at *))
              go_meet
              exact ⟨by rw [HKN.out]; rfl, B6.out⟩
          case rest =>
            obtain ⟨rfl, hbc⟩ := hcut
            have c8 := (hbc.cell (block_lt_of_cell c7)).trans c7
            have HB6 := Lib.hid (HB5.out.trans (hbc.mono HB5.out.size))
            have HN6 := Lib.hid (HN5.out.later hbc)
            have HK6 := Lib.hid (HK5.out.later hbc)
            clear hbc c7 t0 t1 t2
            obtain ⟨t0, t1, t2⟩ := HN6.out.cells
            cases nv
            · go_wp2_with fail
              go_roundw
              case rel => exact ⟨⟨k2 + 1, by omega, by go_num, by rw [HS1.out], by rw [HS2.out]; rfl, HR2.out⟩, HB6.out, HN6.out, HK6.out⟩
              case measure => simp [intOf]; omega
            · go_wp2_with fail
              go_roundw
              case rel => exact ⟨⟨k2 + 1, by omega, by go_num, by rw [HS1.out], by rw [HS2.out, HKL.out, ← n3]; rfl, HR2.out⟩, HB6.out, HN6.out, HK6.out⟩
              case measure => simp [intOf]; omega
        · obtain rfl : k2 = m := by omega
          have hx := HX2.out
          rw [HKS.out, allT_all] at hr
          rw [if_neg (by rw [hr]; simp), ← HES.out, ← HKS.out] at hx
          have HKV := Lib.hid (show allT (fun k : Kd => k.pk.keyed d) K k2 = K.all (fun k => k.pk.keyed d) from by rw [HKS.out, allT_all])
          have HNV := Lib.hid (show allT (fun k : Kd => k.pk.keyless) K k2 = K.all (fun k => k.pk.keyless) from by rw [HKS.out, allT_all])
          rw [HKV.out, HNV.out]
          have HX3 := Lib.hid hx
          clear hr hx HX2 HKV HNV hlt
          generalize K.all (fun k => k.pk.keyed d) = kv at *
          generalize K.all (fun k => k.pk.keyless) = nv at *
          by_cases a1 : kind = 1
          · have b1 : (((kind : Nat) : Int) == 1) = true := by simp; omega
            by_cases a2 : k = 1
            · have b2 : (((k : Nat) : Int) == 1) = true := by simp; omega
              by_cases a3 : k2 = 2
              · have b3 : (((k2 : Nat) : Int) == 2) = true := by simp; omega
                have hx := HX3.out
                rw [if_pos a1, if_pos ⟨a2, a3⟩] at hx
                subst hx
                go_wp2_with fail
                go_ret
                exact ⟨rfl, HB2.out⟩
              · have b3 : (((k2 : Nat) : Int) == 2) = false := by simp; omega
                have hx := HX3.out
                rw [if_pos a1, if_neg (fun h => a3 h.2)] at hx
                subst hx
                go_wp2_with fail
                go_ret
                exact ⟨rfl, HB2.out⟩
            · have b2 : (((k : Nat) : Int) == 1) = false := by simp; omega
              have hx := HX3.out
              rw [if_pos a1, if_neg (fun h => a2 h.1)] at hx
              subst hx
              go_wp2_with fail
              go_ret
              exact ⟨rfl, HB2.out⟩
          have b1 : (((kind : Nat) : Int) == 1) = false := by simp; omega
          by_cases a2 : kind = 2
          · have b2 : (((kind : Nat) : Int) == 2) = true := by simp; omega
            by_cases a3 : 0 < k
            · have b3 : (0 : Int) < k := by omega
              by_cases a4 : k < 5
              · have b4 : (k : Int) < 5 := by omega
                by_cases a5 : k2 = 0
                · have b5 : (((k2 : Nat) : Int) == 0) = true := by simp; omega
                  have hx := HX3.out
                  rw [if_neg a1, if_pos a2, if_pos ⟨a3, a4, a5⟩] at hx
                  subst hx
                  go_wp2_with fail
                  go_ret
                  exact ⟨rfl, HB2.out⟩
                · have b5 : (((k2 : Nat) : Int) == 0) = false := by simp; omega
                  have hx := HX3.out
                  rw [if_neg a1, if_pos a2, if_neg (fun h => a5 h.2.2)] at hx
                  subst hx
                  go_wp2_with fail
                  go_ret
                  exact ⟨rfl, HB2.out⟩
              · have b4 : ¬ (k : Int) < 5 := by omega
                have hx := HX3.out
                rw [if_neg a1, if_pos a2, if_neg (fun h => a4 h.2.1)] at hx
                subst hx
                go_wp2_with fail
                go_ret
                exact ⟨rfl, HB2.out⟩
            · have b3 : ¬ (0 : Int) < k := by omega
              have hx := HX3.out
              rw [if_neg a1, if_pos a2, if_neg (fun h => a3 h.1)] at hx
              subst hx
              go_wp2_with fail
              go_ret
              exact ⟨rfl, HB2.out⟩
          have b2 : (((kind : Nat) : Int) == 2) = false := by simp; omega
          by_cases a3 : kind = 3
          · have b3 : (((kind : Nat) : Int) == 3) = true := by simp; omega
            by_cases a4 : k = 0
            · have b4 : (((k : Nat) : Int) == 0) = true := by simp; omega
              by_cases a5 : 1 < k2
              · have b5 : (1 : Int) < k2 := by omega
                by_cases a6 : k2 < 5
                · have b6 : (k2 : Int) < 5 := by omega
                  have hx := HX3.out
                  rw [if_neg a1, if_neg a2, if_pos ⟨a3, a4, a5, a6⟩] at hx
                  subst hx
                  go_wp2_with fail
                  go_ret
                  exact ⟨rfl, HB2.out⟩
                · have b6 : ¬ (k2 : Int) < 5 := by omega
                  have hx := HX3.out
                  rw [if_neg a1, if_neg a2, if_neg (fun h => a6 h.2.2.2)] at hx
                  subst hx
                  go_wp2_with fail
                  go_ret
                  exact ⟨rfl, HB2.out⟩
              · have b5 : ¬ (1 : Int) < k2 := by omega
                have hx := HX3.out
                rw [if_neg a1, if_neg a2, if_neg (fun h => a5 h.2.2.1)] at hx
                subst hx
                go_wp2_with fail
                go_ret
                exact ⟨rfl, HB2.out⟩
            · have b4 : (((k : Nat) : Int) == 0) = false := by simp; omega
              have hx := HX3.out
              rw [if_neg a1, if_neg a2, if_neg (fun h => a4 h.2.1)] at hx
              subst hx
              go_wp2_with fail
              go_ret
              exact ⟨rfl, HB2.out⟩
          have b3 : (((kind : Nat) : Int) == 3) = false := by simp; omega
          have hx := HX3.out
          rw [if_neg a1, if_neg a2, if_neg (fun h => a3 h.1)] at hx
          subst hx
          go_wp2_with fail
          go_ret
          exact ⟨rfl, HB2.out⟩
end Go.Proofs.YtfkpgildeddhaaaGreat.Nd

/- A slice of two kids that is laid at once. -/
namespace Go.Proofs.YtfkpgildeddhaaaGreat.Nd
open Go.RowKit

theorem kid_fill2 (q1 q2 q3 : Option Addr) (m1 c1 m2 c2 m3 c3 : Nat) (x y : Int) (q1' q2' q3' : Option Addr) (m1' c1' m2' c2' m3' c3' : Nat) (x' y' : Int) : ∀ (D F : List Nat), D.length = 32 → F.length = 32 → Instr.fill (fun i => some (i * 37, 37)) ((Array.range (2 * 37)).map ((Value.agg kd0.cells.toArray).cells[· % (Value.agg kd0.cells.toArray).cells.size]!)) [(0, .agg (vals D ++ [Value.slice q1 m1 c1, .slice q2 m2 c2, .int .i64 x, .int .i64 y, .slice q3 m3 c3]).toArray), (1, .agg (vals F ++ [Value.slice q1' m1' c1', .slice q2' m2' c2', .int .i64 x', .int .i64 y', .slice q3' m3' c3']).toArray)] = some ((vals D ++ [Value.slice q1 m1 c1, .slice q2 m2 c2, .int .i64 x, .int .i64 y, .slice q3 m3 c3]) ++ (vals F ++ [Value.slice q1' m1' c1', .slice q2' m2' c2', .int .i64 x', .int .i64 y', .slice q3' m3' c3'])).toArray
  | [a0, a1, a2, a3, a4, a5, a6, a7, a8, a9, a10, a11, a12, a13, a14, a15, a16, a17, a18, a19, a20, a21, a22, a23, a24, a25, a26, a27, a28, a29, a30, a31], [b0, b1, b2, b3, b4, b5, b6, b7, b8, b9, b10, b11, b12, b13, b14, b15, b16, b17, b18, b19, b20, b21, b22, b23, b24, b25, b26, b27, b28, b29, b30, b31], _, _ => by kernel_rfl
theorem wp_kid_two {w : World} {o : Oper} {a : Act} {K : Act → World → Prop} {Q : Exit → Act → World → Prop} (x y : Operand) (ho : o.op = .buildSlice 25 2 #[(0, x), (1, y)]) {k l : Kd} (hk : k.sum.length = 32) (hl : l.sum.length = 32) (hx : a.eval x = .agg k.cells.toArray) (hy : a.eval y = .agg l.cells.toArray)
    (h : K (a.put o.dst (.slice (some ⟨w.heap.size, 0, none⟩) 2 2)) (w.alloc (.cells (k.cells ++ l.cells).toArray 43))) : o.wp Tryz.prog a w K Q := by
  obtain ⟨i, hi, hi0, hi1, hi2⟩ := info_parts IKd
  refine wp_buildSlice 25 43 2 #[(0, x), (1, y)] ho (k.cells ++ l.cells).toArray i _ UKs hi hi0 (by rw [hi1]; omega) (by rw [hi1]; omega) ?_ h
  rw [hi1]
  simp only [List.map_toArray, List.map_cons, List.map_nil, hx, hy]
  exact kid_fill2 _ _ _ _ _ _ _ _ _ _ _ _ _ _ _ _ _ _ _ _ _ _ k.sum l.sum hk hl
theorem wpList_kid_twoG {w : World} {ops : Array Oper} {rest : List Oper} {o : Oper} {a : Act} {Q : Exit → Act → World → Prop} (hw : Region.wanted o (yielded ops a.tmps) = true) (x y : Operand) (ho : o.op = .buildSlice 25 2 #[(0, x), (1, y)]) {k l : Kd} (hk : k.sum.length = 32) (hl : l.sum.length = 32) (hx : a.eval x = .agg k.cells.toArray) (hy : a.eval y = .agg l.cells.toArray)
    (h : wpList Tryz.prog ops Q rest (a.put o.dst (.slice (some ⟨w.heap.size, 0, none⟩) 2 2)) (w.alloc (.cells (k.cells ++ l.cells).toArray 43))) : wpList Tryz.prog ops Q (o :: rest) a w :=
  BigFrame.wpList_want hw fun _ hK => wp_kid_two x y ho hk hl hx hy (hK _ _ h)
theorem kids_two {w : World} {g : Nat} {a b : Kd} {t : TypeId} (h : w.heap[g]? = some (.cells (a.cells ++ b.cells).toArray t (0, 0))) (ha : a.Ok w) (hb : b.Ok w) : KidsIn w (some ⟨g, 0, none⟩) 2 2 [a, b] := by
  have hl := Kd.cells_length ha.len
  refine ⟨rfl, Nat.le_refl _, by omega, fun k hk => ?_, Or.inr ⟨g, 0, rfl, fun i hi => ?_⟩⟩
  · simp only [List.mem_cons, List.not_mem_nil, or_false] at hk
    rcases hk with rfl | rfl
    · exact ha
    · exact hb
  · have h2 : i = 0 ∨ i = 1 := by simp at hi; omega
    intro j v hv
    rcases h2 with rfl | rfl
    · have hv' : a.cells[j]? = some v := hv
      rw [cell_of_row w g _ _ _ _ h]
      have hj := (List.getElem?_eq_some_iff.1 hv').1
      simp only [Nat.zero_mul, Nat.zero_add, List.getElem?_toArray]
      rw [List.getElem?_append_left hj]
      exact hv'
    · have hv' : b.cells[j]? = some v := hv
      rw [cell_of_row w g _ _ _ _ h]
      simp only [Nat.one_mul, Nat.zero_add, List.getElem?_toArray]
      rw [List.getElem?_append_right (by omega), hl, Nat.add_sub_cancel_left]
      exact hv'
theorem ents_none (w : World) : EntsIn w none 0 0 [] := ⟨rfl, Nat.le_refl _, by omega, (fun e he => by cases he), Or.inl rfl⟩
theorem kids_none (w : World) : KidsIn w none 0 0 [] := ⟨rfl, Nat.le_refl _, by omega, (fun e he => by cases he), Or.inl rfl⟩
end Go.Proofs.YtfkpgildeddhaaaGreat.Nd

/- A world above another one: what lies below a place stays, and the world is no smaller. -/
namespace Go.Proofs.YtfkpgildeddhaaaGreat.Nd
open Go.RowKit

/-- What lies below a place stays, and the world is no smaller. -/
def Up (B : Nat) (w w' : World) : Prop := Below B w w' ∧ B ≤ w'.heap.size
theorem Up.on {B : Nat} {w w1 w2 : World} (h : Up B w w1) (b : Below w1.heap.size w1 w2) : Up B w w2 := ⟨h.1.trans (b.mono h.2), Nat.le_trans h.2 b.size⟩
end Go.Proofs.YtfkpgildeddhaaaGreat.Nd

/- An argument that is bytes, opened. -/
namespace Go.Proofs.YtfkpgildeddhaaaGreat
open Go.ChangeShapes Go.WideShapes Go.ChangeAt Go.RowKit Go.Deep

theorem C22 : Tryz.prog.cellsOf 22 = 1 := by kernel_rfl
/-- Bytes, as the reading has them. -/
theorem open_bytes {H : Type} {enc : TypeId × Value → H} {W : World} {base : Nat} {held : Bool} {fuel : Nat} {a0 : Option Addr} {len0 cap0 : Nat} {x : DataW H × List MemPlace}
    (h : DataW.trod enc Tryz.prog W base (fun _ => true) held fuel 22 (Value.slice a0 len0 cap0).cells.toList = some x) : (∃ B, Tx W a0 len0 cap0 B) ∧ len0 ≤ 9223372036854775807 := by
  rcases open_ints Tryz.underlying22 Tryz.underlying5 C5 h with ⟨hcs, _⟩ | ⟨a, len, cap, zs, hcs, _, hl, hm, hz, _, hx, hw⟩
  · simp [Value.cells] at hcs
    obtain ⟨rfl, rfl, rfl⟩ := hcs
    exact ⟨⟨[], rfl, Nat.le_refl _, fun x hx => by simp at hx, Or.inl ⟨rfl, rfl⟩, fun _ h _ => by cases h⟩, by omega⟩
  · simp [Value.cells] at hcs
    obtain ⟨rfl, rfl, rfl⟩ := hcs
    simp only [if_true] at hz
    refine ⟨⟨nats zs len0, by simp [nats]; omega, hl, nats_ok hw _, Or.inr ⟨a, rfl, fun j u hu => ?_⟩, fun y hy hc => ?_⟩, by unfold maxLen at hm; omega⟩
    · obtain ⟨hj, rfl⟩ := nats_get hw len0 j (by omega) u hu
      exact hx j (by omega)
    · cases hy
      have := World.cell?_spot (hx 0 (by omega))
      simpa [Addr.add] using this
end Go.Proofs.YtfkpgildeddhaaaGreat

/- The reference's reader (indentureref02.Reader): the relation NS, its take. -/
namespace Go.Proofs.YtfkpgildeddhaaaGreat.Nd
open Go.RowKit

/-- The reference's reader lies in the block g: what is left lies at p, below it. -/
structure NS (w : World) (g : Nat) (p : Option Addr) (n c : Nat) (s : Rd) : Prop where
  row : w.heap[g]? = some (.cells #[.slice p n c, .int .i64 s.e] 70 (0, 0))
  tx : Tx w p n c s.R
  lo : ∀ x, p = some x → s.R ≠ [] → x.block < g
def NSx (w : World) (g : Nat) (s : Rd) : Prop := ∃ p n c, NS w g p n c s
theorem NS.lt {w : World} {g : Nat} {p : Option Addr} {n c : Nat} {s : Rd} (h : NS w g p n c s) : g < w.heap.size := (Array.getElem?_eq_some_iff.1 h.row).1
theorem NSx.lt {w : World} {g : Nat} {s : Rd} (h : NSx w g s) : g < w.heap.size := by
  obtain ⟨p, n, c, h⟩ := h
  exact h.lt
theorem NS.err {w : World} {g : Nat} {p : Option Addr} {n c : Nat} {s : Rd} (h : NS w g p n c s) : w.cell? ⟨g, 1, none⟩ = some (.int .i64 s.e) := (cell_of_row w g 1 _ _ _ h.row).trans rfl
theorem NSx.err {w : World} {g : Nat} {s : Rd} (h : NSx w g s) : w.cell? ⟨g, 1, none⟩ = some (.int .i64 s.e) := by
  obtain ⟨p, n, c, h⟩ := h
  exact h.err
theorem NS.rest {w : World} {g : Nat} {p : Option Addr} {n c : Nat} {s : Rd} (h : NS w g p n c s) : w.cell? ⟨g, 0, none⟩ = some (.slice p n c) := (cell_of_row w g 0 _ _ _ h.row).trans rfl
theorem NS.fz {w : World} {g : Nat} {p : Option Addr} {n c : Nat} {s : Rd} (h : NS w g p n c s) (j : Nat) : w.frozen? ⟨g, j, none⟩ = false := frozen_of_row w g j _ _ h.row
theorem NSx.fz {w : World} {g : Nat} {s : Rd} (h : NSx w g s) (j : Nat) : w.frozen? ⟨g, j, none⟩ = false := by
  obtain ⟨p, n, c, h⟩ := h
  exact h.fz j
theorem NS.later {w w' : World} {g : Nat} {p : Option Addr} {n c : Nat} {s : Rd} (h : NS w g p n c s) (hb : Below w.heap.size w w') : NS w' g p n c s :=
  ⟨(hb.block _ h.lt).trans h.row, h.tx.later hb, h.lo⟩
theorem NSx.later {w w' : World} {g : Nat} {s : Rd} (h : NSx w g s) (hb : Below w.heap.size w w') : NSx w' g s := by
  obtain ⟨p, n, c, h⟩ := h
  exact ⟨p, n, c, h.later hb⟩
theorem nx_other {w : World} {g : Nat} {p q : Option Addr} {n c m d : Nat} {e : Nat} {B : List Nat} (hr : w.heap[g]? = some (.cells #[.slice p n c, .int .i64 e] 70 (0, 0))) (h : Tx w q m d B) : ∀ x, q = some x → B ≠ [] → x.block ≠ g := by
  intro x hx hB hg
  subst hx
  have h0 := h.cells 0 _ (vals_get _ 0 (List.length_pos_iff.2 hB))
  have e0 : x.add 0 = x := by simp [Addr.add]
  rw [e0] at h0
  simp only [World.cell?, hg, hr] at h0
  split at h0 <;> simp_all
  match hx : x.off with
  | 0 => rw [hx] at h0; simp at h0
  | 1 => rw [hx] at h0; simp at h0
  | k + 2 => rw [hx] at h0; simp at h0
theorem NSx.set {w : World} {g : Nat} {s : Rd} (h : NSx w g s) (k : Nat) : NSx (w.setCell ⟨g, 1, none⟩ (.int .i64 k)) g ⟨s.R, k⟩ := by
  obtain ⟨p, n, c, h⟩ := h
  exact ⟨p, n, c, heap_setCell_same w g 1 _ _ (.int .i64 k) h.row, h.tx.grown (grown_setCell w g 1 _) (nx_other h.row h.tx), h.lo⟩
theorem NSx.eq {w : World} {g : Nat} {s t : Rd} (h : NSx w g s) (e : s = t) : NSx w g t := e ▸ h
def NTake (w : World) (g : Nat) (s : Rd) (n : Nat) (e : Ending) (w' : World) : Prop := ∃ q c, e = .returned (.slice q (s.part n).length c) ∧ Tx w' q (s.part n).length c (s.part n) ∧ NSx w' g (s.past n) ∧ w.grownBy w' (some g) ∧ ∀ x, q = some x → s.part n ≠ [] → x.block < g
set_option maxRecDepth 100000 in
set_option maxHeartbeats 1000000 in
theorem rtake_any (s : Rd) (n : Nat) (g : Nat) (w : World) (hs : NSx w g s) (hn : n < 9223372036854775808) (hl : s.R.length < 1099511627776) :
    Calls Tryz.prog 61 #[.pointer (some ⟨g, 0, none⟩), .int .i64 n] w (NTake w g s n) := by
  obtain ⟨p, m, c, hs⟩ := hs
  have h0 := hs.rest
  have h1 := hs.err
  have hm := hs.tx.size
  have hmc := hs.tx.le
  have hml : m < 1099511627776 := by omega
  have f0 := hs.fz 0
  have f1 := hs.fz 1
  have HM := Lib.hid hm
  have HS := Lib.hid hs
  clear hs hm
  by_cases he : s.e = 0
  · rw [he] at h1
    by_cases hlt : m < n
    · have b1 : (m : Int) < n := by omega
      have e : ¬ s.fits n := fun h => by have := h.2; have := HM.out; omega
      have e1 : s.part n = [] := by unfold Rd.part; rw [if_neg e]
      have e2 : s.past n = ⟨s.R, 20⟩ := by unfold Rd.past Rd.refuse; rw [if_neg e, if_pos he]
      unfold NTake
      rw [e1, e2]
      have HE := Lib.hid he
      clear e e1 e2 he
      go_enter Tryz.func61, Tryz.ntmps61
      go_wp2_with fail
      go_ret
      exact ⟨none, 0, rfl, tx_nil _, NSx.set ⟨p, m, c, HS.out⟩ 20, grown_setCell w g 1 _, fun x hx h => absurd rfl h⟩
    · have b1 : ¬ (m : Int) < n := by omega
      have e : s.fits n := ⟨he, by have := HM.out; omega⟩
      have e1 : s.part n = s.R.take n := by unfold Rd.part; rw [if_pos e]
      have e2 : s.past n = ⟨s.R.drop n, 0⟩ := by unfold Rd.past; rw [if_pos e]
      have e3 : (s.R.take n).length = n := by rw [List.length_take]; have := HM.out; omega
      unfold NTake
      rw [e1, e2, e3]
      clear e e1 e2 e3
      have HE := Lib.hid he
      clear he
      have b3 : (0 : Int) ≤ n := by omega
      have b4 : n ≤ c := by omega
      by_cases hcn : c = n
      · subst hcn
        obtain rfl : m = c := by omega
        go_enter Tryz.func61, Tryz.ntmps61
        go_wp2_with fail
        go_ret
        have r1 := heap_setCell_same w g 0 _ _ (.slice p 0 0) HS.out.row
        rw [HE.out] at r1
        have hd : s.R.drop m = [] := List.drop_eq_nil_of_le (by have := HM.out; omega)
        refine ⟨p, m, rfl, (HS.out.tx.take m (Nat.le_refl _)).grown (grown_setCell w g 0 _) (nx_other HS.out.row (HS.out.tx.take m (Nat.le_refl _))), ?_, grown_setCell w g 0 _, by intro x hx; intros; exact HS.out.lo x hx (by assumption)⟩
        rw [hd]
        exact ⟨p, 0, 0, r1, HS.out.tx.nothing.grown (grown_setCell w g 0 _) (fun x hx h => absurd rfl h), fun x hx h => absurd rfl h⟩
      · go_enter Tryz.func61, Tryz.ntmps61
        go_wp2_with fail
        go_ret
        have r1 := heap_setCell_same w g 0 _ _ (.slice (Option.map (fun x => x.add n) p) (m - n) (c - n)) HS.out.row
        rw [HE.out] at r1
        have t1 := HS.out.tx.take n (by omega)
        have t2 := HS.out.tx.drop n (by omega)
        exact ⟨p, c, rfl, t1.grown (grown_setCell w g 0 _) (nx_other HS.out.row t1), ⟨_, _, _, r1, t2.grown (grown_setCell w g 0 _) (nx_other HS.out.row t2), fun x hx h => lo_drop HS.out.lo n x hx h⟩, grown_setCell w g 0 _, by intro x hx; intros; exact HS.out.lo x hx (by assumption)⟩
  · have e : ¬ s.fits n := fun h => he h.1
    have e1 : s.part n = [] := by unfold Rd.part; rw [if_neg e]
    have e2 : s.past n = s := by unfold Rd.past Rd.refuse; rw [if_neg e, if_neg he]
    have b2 : ((s.e : Int) != 0) = true := by simp; omega
    unfold NTake
    rw [e1, e2]
    clear e e1 e2 he
    go_enter Tryz.func61, Tryz.ntmps61
    go_wp2_with fail
    go_ret
    exact ⟨none, 0, rfl, tx_nil _, ⟨p, m, c, HS.out⟩, grown_same _ _, fun x hx h => absurd rfl h⟩
end Go.Proofs.YtfkpgildeddhaaaGreat.Nd

/- The reference's reader: one byte, one truth. -/
namespace Go.Proofs.YtfkpgildeddhaaaGreat.Nd
open Go.RowKit

def NPost (w : World) (g : Nat) (v : Value) (s : Rd) (e : Ending) (w' : World) : Prop := e = .returned v ∧ NSx w' g s ∧ w.grownBy w' (some g)
set_option maxHeartbeats 1000000 in
theorem nbyte_any (s : Rd) (g : Nat) (w : World) (hs : NSx w g s) (hl : s.R.length < 1099511627776) :
    Calls Tryz.prog 31 #[.pointer (some ⟨g, 0, none⟩)] w (NPost w g (.int .u8 (Cm.val (s.part 1) : Nat)) (s.past 1)) := by
  have hv := rtake_any s 1 g w hs (by omega) hl
  have HV := Lib.hid hv
  have hok := hs
  obtain ⟨p0, n0, c0, hok⟩ := hok
  have hok := hok.tx.ok
  have hb := Rd.part_ok hok 1
  clear hs hv hok
  rcases part1 s with hp | ⟨b, hp⟩
  · rw [hp]
    have HP := Lib.hid hp
    clear hp
    go_enter Tryz.func31, Tryz.ntmps31
    go_wp2_with fail
    refine HV.out.mono ?_
    rintro e w1 hq
    obtain ⟨q, c, rfl, h1, h2, h3, -⟩ := hq
    rw [HP.out]
    have H2 := Lib.hid h2
    have H3 := Lib.hid h3
    clear h1 h2 h3
    go_wp2_with fail
    go_ret
    exact ⟨rfl, H2.out, H3.out⟩
  · rw [hp, val_one]
    have hb2 : b < 256 := hb b (by rw [hp]; simp)
    have HP := Lib.hid hp
    clear hp hb
    go_enter Tryz.func31, Tryz.ntmps31
    go_wp2_with fail
    refine HV.out.mono ?_
    rintro e w1 hq
    obtain ⟨q, c, rfl, h1, h2, h3, -⟩ := hq
    rw [HP.out] at h1 ⊢
    have h1 : Tx w1 q 1 c [b] := h1
    rw [show ([b] : List Nat).length = 1 from rfl]
    obtain ⟨x, rfl⟩ : ∃ x, q = some x := by
      rcases h1.at' with ⟨_, hc⟩ | ⟨x, hx, _⟩
      · exact absurd h1.le (by omega)
      · exact ⟨x, hx⟩
    have hx0 := h1.cells 0 _ (vals_get [b] 0 (by simp))
    have hx0 : w1.cell? (x.add 0) = some (.int .u8 b) := hx0
    rw [show x.add 0 = x from by simp [Addr.add]] at hx0
    have H2 := Lib.hid h2
    have H3 := Lib.hid h3
    clear h1 h2 h3
    go_wp2_with fail
    go_ret
    exact ⟨rfl, H2.out, H3.out⟩
set_option maxHeartbeats 1000000 in
theorem ntruth_any (s : Rd) (g : Nat) (w : World) (hs : NSx w g s) (hl : s.R.length < 1099511627776) :
    Calls Tryz.prog 32 #[.pointer (some ⟨g, 0, none⟩)] w (NPost w g (.bool s.truthV) s.truth) := by
  have HV := Lib.hid (nbyte_any s g w hs hl)
  have HN := Lib.hid hs
  clear hs
  by_cases he : (s.past 1).e = 0
  · by_cases hx : 1 < Cm.val (s.part 1)
    · have e1 : s.truthV = false := by unfold Rd.truthV; exact decide_eq_false (by omega)
      have e2 : s.truth = ⟨(s.past 1).R, 21⟩ := by unfold Rd.truth; rw [if_pos ⟨he, hx⟩]
      rw [e1, e2]
      clear e1 e2
      have b1 : (1 : Int) < (Cm.val (s.part 1) : Nat) := by omega
      generalize Cm.val (s.part 1) = v at *
      go_enter Tryz.func32, Tryz.ntmps32
      go_wp2_with fail
      refine HV.out.mono ?_
      rintro e w1 hq
      obtain ⟨rfl, h2, h3⟩ := hq
      have h4 := h2.err
      rw [he] at h4
      have f4 := h2.fz 1
      have H2 := Lib.hid h2
      have H3 := Lib.hid h3
      clear h2 h3
      go_wp2_with fail
      have h5 := H2.out.set 21
      have h6 := h5.err
      have H5 := Lib.hid h5
      clear h5 h4
      go_wp2_with fail
      go_ret
      exact ⟨rfl, H5.out, grown_twice H3.out (grown_setCell w1 g 1 _)⟩
    · have e2 : s.truth = s.past 1 := by unfold Rd.truth; rw [if_neg (fun h => hx h.2)]
      have e1 : s.truthV = decide (Cm.val (s.part 1) = 1) := by unfold Rd.truthV; simp [he]
      rw [e1, e2]
      clear e1 e2
      have b1 : ¬ (1 : Int) < (Cm.val (s.part 1) : Nat) := by omega
      generalize Cm.val (s.part 1) = v at *
      have b2 : (((v : Nat) : Int) == 1) = decide (v = 1) := by
        rw [Bool.eq_iff_iff]; simp; omega
      go_enter Tryz.func32, Tryz.ntmps32
      go_wp2_with fail
      refine HV.out.mono ?_
      rintro e w1 hq
      obtain ⟨rfl, h2, h3⟩ := hq
      have h4 := h2.err
      rw [he] at h4
      have H2 := Lib.hid h2
      have H3 := Lib.hid h3
      clear h2 h3
      go_wp2_with fail
      go_ret
      refine ⟨?_, H2.out, H3.out⟩
      first | rw [b2] | simp
  · have e2 : s.truth = s.past 1 := by unfold Rd.truth; rw [if_neg (fun h => he h.1)]
    have e1 : s.truthV = false := by unfold Rd.truthV; exact decide_eq_false (fun h => he h.1)
    rw [e1, e2]
    clear e1 e2
    generalize Cm.val (s.part 1) = v at *
    have b1 : (((s.past 1).e : Int) == 0) = false := by simp; omega
    go_enter Tryz.func32, Tryz.ntmps32
    go_wp2_with fail
    refine HV.out.mono ?_
    rintro e w1 hq
    obtain ⟨rfl, h2, h3⟩ := hq
    have h4 := h2.err
    have H2 := Lib.hid h2
    have H3 := Lib.hid h3
    clear h2 h3
    go_wp2_with fail
    go_ret
    exact ⟨rfl, H2.out, H3.out⟩
end Go.Proofs.YtfkpgildeddhaaaGreat.Nd

/- The reference's reader: a count. -/
namespace Go.Proofs.YtfkpgildeddhaaaGreat.Nd
open Go.RowKit

set_option maxRecDepth 100000 in
set_option maxHeartbeats 1000000 in
theorem ncount_any (s : Rd) (most : Nat) (hm : most < 9223372036854775808) (g : Nat) (w : World) (hs : NSx w g s) (hl : s.R.length < 1099511627776) :
    Calls Tryz.prog 35 #[.pointer (some ⟨g, 0, none⟩), .int .i64 most] w (NPost w g (.int .i64 (s.countV most)) (s.count most)) := by
  have hv := rtake_any s 3 g w hs (by omega) hl
  have HV := Lib.hid hv
  have hok := hs
  obtain ⟨p0, n0, c0, hok⟩ := hok
  have hok := hok.tx.ok
  have hb := Rd.part_ok hok 3
  clear hs hv hok
  rcases part3 s with hp | ⟨a, b, d, hp⟩
  · have e1 : s.countV most = 0 := by unfold Rd.countV; rw [hp]; split <;> simp [Cm.val]
    have e2 : s.count most = s.past 3 := by unfold Rd.count; rw [hp, if_neg (by simp [Cm.val]; omega)]
    rw [e1, e2]
    have HP := Lib.hid hp
    clear hp e1 e2 hb
    go_enter Tryz.func35, Tryz.ntmps35
    go_wp2_with fail
    refine HV.out.mono ?_
    rintro e w1 hq
    obtain ⟨q, c, rfl, h1, h2, h3, -⟩ := hq
    rw [HP.out]
    have H2 := Lib.hid h2
    have H3 := Lib.hid h3
    clear h1 h2 h3
    go_wp2_with fail
    go_ret
    exact ⟨rfl, H2.out, H3.out⟩
  · have ha : a < 256 := hb a (by rw [hp]; simp)
    have hb' : b < 256 := hb b (by rw [hp]; simp)
    have hd : d < 256 := hb d (by rw [hp]; simp)
    have epast := past_ok (s := s) (n := 3) (by rw [hp]; simp)
    have ev : Cm.val (s.part 3) = 65536 * a + 256 * b + d := by rw [hp, val_three]
    have HP := Lib.hid hp
    have HE := Lib.hid epast
    clear hb hp
    have k1 : IntKind.i64.wrap (65536 * (a : Int)) = 65536 * (a : Int) := by rw [IntKind.wrap_i64]; omega
    have k2 : IntKind.i64.wrap (256 * (b : Int)) = 256 * (b : Int) := by rw [IntKind.wrap_i64]; omega
    have k3 : IntKind.i64.wrap (65536 * (a : Int) + 256 * (b : Int)) = 65536 * (a : Int) + 256 * (b : Int) := by rw [IntKind.wrap_i64]; omega
    have k4 : IntKind.i64.wrap (65536 * (a : Int) + 256 * (b : Int) + d) = 65536 * (a : Int) + 256 * (b : Int) + d := by rw [IntKind.wrap_i64]; omega
    have e1 : s.countV most = if (most : Int) < 65536 * (a : Int) + 256 * (b : Int) + d ∨ 1048576 < 65536 * (a : Int) + 256 * (b : Int) + d then 0 else 65536 * (a : Int) + 256 * (b : Int) + d := by
      unfold Rd.countV
      rw [ev]
      by_cases h : (most : Int) < 65536 * (a : Int) + 256 * (b : Int) + d ∨ 1048576 < 65536 * (a : Int) + 256 * (b : Int) + d
      · rw [if_pos h, if_pos (by omega)]
      · rw [if_neg h, if_neg (by omega)]
        omega
    have e2 : s.count most = if (most : Int) < 65536 * (a : Int) + 256 * (b : Int) + d ∨ 1048576 < 65536 * (a : Int) + 256 * (b : Int) + d then ⟨(s.past 3).R, 10⟩ else s.past 3 := by
      unfold Rd.count
      rw [ev]
      by_cases h : (most : Int) < 65536 * (a : Int) + 256 * (b : Int) + d ∨ 1048576 < 65536 * (a : Int) + 256 * (b : Int) + d
      · rw [if_pos h, if_pos (by omega)]
        unfold Rd.refuse
        rw [epast, if_pos rfl]
      · rw [if_neg h, if_neg (by omega)]
    generalize s.countV most = X at *
    generalize s.count most = Y at *
    have E1 := Lib.hid e1
    have E2 := Lib.hid e2
    clear e1 e2 ev epast
    go_enter Tryz.func35, Tryz.ntmps35
    go_wp2_with fail
    refine HV.out.mono ?_
    rintro e w1 hq
    obtain ⟨q, c, rfl, h1, h2, h3, -⟩ := hq
    rw [HP.out] at h1 ⊢
    have h1 : Tx w1 q 3 c [a, b, d] := h1
    rw [show ([a, b, d] : List Nat).length = 3 from rfl]
    have hc3 := h1.le
    obtain ⟨g1, o1, hp, hx⟩ := h1.bytes.ne (by simp)
    subst hp
    have x0 := hx 0 (by simp)
    have x1 := hx 1 (by simp)
    have x2 := hx 2 (by simp)
    simp only [List.getD_cons_zero, List.getD_cons_succ, Nat.add_zero] at x0 x1 x2
    have f2 := h2.fz 1
    have H2 := Lib.hid h2
    have H3 := Lib.hid h3
    clear h1 h2 h3 hx
    go_upto_region 4 with fail
    go_quiet (fail)
    clear x0 x1 x2 k1 k2 k3 k4 f2
    have hbn : Below w1.heap.size w1 (w1.drewN nq) := Below.drewN ⟨rfl, rfl, rfl, Nat.le_refl _, fun _ _ => rfl⟩ nq
    have h2 := H2.out.later hbn
    have f2 := h2.fz 1
    have c2 := h2.err
    have h3 := grown_twice H3.out (grown_of_below hbn (some g))
    generalize w1.drewN nq = w2 at *
    have H2 := Lib.hid h2
    have H3 := Lib.hid h3
    clear h1 h2 h3 hbn
    generalize 65536 * (a : Int) + 256 * (b : Int) + (d : Int) = v at *
    by_cases b1 : (most : Int) < v
    · have e1 : X = 0 := by rw [E1.out, if_pos (Or.inl b1)]
      have e2 : Y = ⟨(s.past 3).R, 10⟩ := by rw [E2.out, if_pos (Or.inl b1)]
      clear E1 E2
      subst e1
      subst e2
      go_wp2_with fail
      go_ret
      exact ⟨rfl, H2.out.set 10, grown_twice H3.out (grown_setCell w2 g 1 _)⟩
    · by_cases b2 : 1048576 < v
      · have e1 : X = 0 := by rw [E1.out, if_pos (Or.inr b2)]
        have e2 : Y = ⟨(s.past 3).R, 10⟩ := by rw [E2.out, if_pos (Or.inr b2)]
        clear E1 E2
        subst e1
        subst e2
        go_wp2_with fail
        go_ret
        exact ⟨rfl, H2.out.set 10, grown_twice H3.out (grown_setCell w2 g 1 _)⟩
      · have e1 : X = v := by rw [E1.out, if_neg (fun h => h.elim b1 b2)]
        have e2 : Y = s.past 3 := by rw [E2.out, if_neg (fun h => h.elim b1 b2)]
        clear E1 E2
        subst e1
        subst e2
        go_wp2_with fail
        go_ret
        exact ⟨rfl, H2.out, H3.out⟩
end Go.Proofs.YtfkpgildeddhaaaGreat.Nd

/- The reference's reader: a number. -/
namespace Go.Proofs.YtfkpgildeddhaaaGreat.Nd
open Go.RowKit

def NumRel (w1 : World) (B : List Nat) (a i : Value) (wr : World) : Prop := ∃ k : Nat, k ≤ 8 ∧ i = .int .i64 k ∧ a = .int .u64 (Cm.val (B.take k) : Nat) ∧ wr = w1
set_option maxRecDepth 100000 in
set_option maxHeartbeats 1000000 in
theorem nnum_any (s : Rd) (g : Nat) (w : World) (hs : NSx w g s) (hl : s.R.length < 1099511627776) :
    Calls Tryz.prog 62 #[.pointer (some ⟨g, 0, none⟩)] w (NPost w g (.int .i64 s.numV) (s.past 8)) := by
  have HV := Lib.hid (rtake_any s 8 g w hs (by omega) hl)
  have hok := hs
  obtain ⟨p0, n0, c0, hok⟩ := hok
  have hok := hok.tx.ok
  have hb := Rd.part_ok hok 8
  have hn8 := part_nk s 8
  have ev : s.numV = if s.part 8 = [] then 0 else ((Cm.val (s.part 8) : Nat) : Int) - 9223372036854775808 := rfl
  generalize s.numV = X at *
  clear hs hok
  by_cases hp : s.part 8 = []
  · rw [if_pos hp] at ev
    subst ev
    have HP := Lib.hid hp
    clear hp hb hn8
    go_enter Tryz.func62, Tryz.ntmps62
    go_wp2_with fail
    refine HV.out.mono ?_
    rintro e w1 hq
    obtain ⟨q, c, rfl, h1, h2, h3, -⟩ := hq
    rw [HP.out]
    have H2 := Lib.hid h2
    have H3 := Lib.hid h3
    clear h1 h2 h3
    go_wp2_with fail
    go_ret
    exact ⟨rfl, H2.out, H3.out⟩
  · rw [if_neg hp] at ev
    have hB : (s.part 8).length = 8 := hn8.resolve_left hp
    clear hn8
    obtain ⟨B, hBe⟩ : ∃ B, s.part 8 = B := ⟨_, rfl⟩
    rw [hBe] at hp hB hb ev
    have HBE := Lib.hid hBe
    clear hBe
    have EV := Lib.hid ev
    have HP := Lib.hid hp
    have HB := Lib.hid hB
    have HO := Lib.hid hb
    clear hp hB hb ev
    go_enter Tryz.func62, Tryz.ntmps62
    go_wp2_with fail
    refine HV.out.mono ?_
    rintro e w1 hq
    obtain ⟨q, c, rfl, h1, h2, h3, -⟩ := hq
    rw [HBE.out, HB.out] at h1
    rw [HBE.out, HB.out]
    have H1 := Lib.hid h1
    have H2 := Lib.hid h2
    have H3 := Lib.hid h3
    clear h1 h2 h3 HV
    go_wp2_with fail
    go_loopw [4, 5] (fun a i wr => NumRel w1 B a i wr) (fun _ i _ => 8 - (intOf i).toNat)
    case atStart => exact ⟨0, by omega, rfl, rfl, rfl⟩
    case round =>
      obtain ⟨k, hk, rfl, rfl, rfl⟩ := hrel
      by_cases hlt : k < 8
      · obtain ⟨g1, o1, hp, hx⟩ := H1.out.bytes.ne HP.out
        subst hp
        have hc := hx k (by rw [HB.out]; exact hlt)
        have hle := H1.out.le
        have hb8 : B.getD k 0 < 256 := Sm.getD_lt HO.out (by omega) k
        have hst : Cm.val (B.take (k + 1)) = Cm.val (B.take k) * 256 + B.getD k 0 := by rw [take_snoc B k (by rw [HB.out]; exact hlt), Cm.val_snoc]
        have hvl : Cm.val (B.take (k + 1)) < 256 ^ (B.take (k + 1)).length := Cm.val_lt (fun x hx => HO.out x (List.mem_of_mem_take hx))
        have hv8 : Cm.val (B.take (k + 1)) < 18446744073709551616 := Nat.lt_of_lt_of_le hvl (pow256' _ (by rw [List.length_take]; omega))
        rw [hst] at hv8
        have HST := Lib.hid hst
        clear hst hvl hx
        generalize Cm.val (B.take k) = v at *
        generalize B.getD k 0 = b at *
        have k1 : IntKind.u64.wrap (256 * (v : Int)) = 256 * (v : Int) := by rw [IntKind.wrap_u64]; omega
        have k2 : IntKind.u64.wrap (256 * (v : Int) + b) = 256 * (v : Int) + b := by rw [IntKind.wrap_u64]; omega
        have i1 : (0 : Int) ≤ k ∧ (k : Int) < 8 := by omega
        go_wp2_with fail
        go_roundw
        case rel => exact ⟨k + 1, by omega, by go_num, by rw [HST.out]; congr 1; omega, rfl⟩
        case measure => simp [intOf]; omega
      · obtain rfl : k = 8 := by omega
        rw [List.take_of_length_le (by rw [HB.out]; exact Nat.le_refl _)]
        have hvl : Cm.val B < 256 ^ B.length := Cm.val_lt HO.out
        rw [HB.out] at hvl
        have hvl : Cm.val B < 18446744073709551616 := Nat.lt_of_lt_of_le hvl (pow256' _ (Nat.le_refl _))
        generalize Cm.val B = v at *
        have k1 : IntKind.i64.wrap (IntKind.u64.wrap ((v : Int) - 9223372036854775808)) = (v : Int) - 9223372036854775808 := by
          rw [IntKind.wrap_u64, IntKind.wrap_i64]; omega
        go_wp2_with fail
        go_ret
        refine ⟨?_, H2.out, H3.out⟩
        rw [EV.out]
        rfl
end Go.Proofs.YtfkpgildeddhaaaGreat.Nd

/- The reference's reader: a digest. -/
namespace Go.Proofs.YtfkpgildeddhaaaGreat.Nd
open Go.RowKit

/-- A reader hangs on the blocks up to its own alone. -/
theorem NSx.low {w w' : World} {g : Nat} {s : Rd} (h : NSx w g s) (hb : Below (g + 1) w w') : NSx w' g s := by
  obtain ⟨p, n, c, h⟩ := h
  refine ⟨p, n, c, (hb.block g (Nat.lt_succ_self g)).trans h.row, ⟨h.tx.size, h.tx.le, h.tx.ok, h.tx.at'.imp id fun ⟨x, hp, hx⟩ => ⟨x, hp, fun j u hu => ?_⟩, h.tx.sp⟩, h.lo⟩
  have hB : s.R ≠ [] := by rintro e; rw [e] at hu; simp [vals] at hu
  have hb2 : (x.add j).block = x.block := by cases x; simp [Addr.add]; split <;> rfl
  exact (hb.cell (p := x.add j) (by rw [hb2]; exact Nat.lt_succ_of_lt (h.lo x hp hB))).trans (hx j u hu)
def DgRel (w0 : World) (d _g : Nat) (B : List Nat) (i : Value) (wr : World) : Prop :=
  ∃ k, k ≤ B.length ∧ i = .int .i64 k ∧ wr.heap[d]? = some (.cells (u8s (B.take k ++ zeros (32 - k))) 37 (0, 0)) ∧ w0.grownBy wr (some d)
set_option maxRecDepth 100000 in
set_option maxHeartbeats 1000000 in
theorem ndigest_any (s : Rd) (g : Nat) (w : World) (hs : NSx w g s) (hl : s.R.length < 1099511627776) :
    Calls Tryz.prog 34 #[.pointer (some ⟨g, 0, none⟩)] w (NPost w g (.agg (u8s s.digV)) (s.past 32)) := by
  have hz := (zero_of_info Z25).1
  have hg : g < w.heap.size := hs.lt
  have hlen := Rd.part_len s 32
  have hd0 : s.digV = s.part 32 ++ zeros (32 - (s.part 32).length) := rfl
  have hdl := digV_length s
  have HS := Lib.hid hs
  generalize s.digV = D at *
  have HD := Lib.hid hd0
  have HDL := Lib.hid hdl
  clear hd0 hdl
  clear hs
  go_enter Tryz.func34, Tryz.ntmps34
  go_upto_region 2 with fail
  have hb1 : Below w.heap.size w (w.alloc (.cells (u8s (zeros 32)) 37)) := (Below.refl _ _).alloc (Nat.le_refl _) _
  have r1 := heap_alloc_new w (.cells (u8s (zeros 32)) 37)
  have z1 : (w.alloc (.cells (u8s (zeros 32)) 37)).heap.size = w.heap.size + 1 := by simp
  generalize w.alloc (.cells (u8s (zeros 32)) 37) = w1 at *
  have hb2 : Below w1.heap.size w1 (w1.alloc (.cells (u8s (zeros 32)) 37)) := (Below.refl _ _).alloc (Nat.le_refl _) _
  have r2 := heap_alloc_new w1 (.cells (u8s (zeros 32)) 37)
  have z2 : (w1.alloc (.cells (u8s (zeros 32)) 37)).heap.size = w.heap.size + 2 := by simp [z1]
  rw [z1] at r2
  generalize w1.alloc (.cells (u8s (zeros 32)) 37) = w2 at *
  have hb12 : Below w.heap.size w w2 := hb1.trans (hb2.mono (by omega))
  have R1 := Lib.hid ((hb2.block w.heap.size (by omega)).trans r1)
  have R2 := Lib.hid r2
  have B2 := Lib.hid hb12
  have hk := rtake_any s 32 g w2 (HS.out.later hb12) (by omega) hl
  have HK := Lib.hid hk
  clear hb1 hb2 r1 r2 z1 hb12 hk hz
  go_wp2_with fail
  refine HK.out.mono ?_
  rintro e w3 hq
  obtain ⟨q, c, rfl, h1, h2, h3, hlo⟩ := hq
  have R13 := Lib.hid ((h3.block w.heap.size (by omega) (by simp; omega)).trans R1.out)
  have R23 := Lib.hid ((h3.block (w.heap.size + 1) (by omega) (by simp; omega)).trans R2.out)
  have hz3 : w.heap.size + 2 ≤ w3.heap.size := by have := h3.size; omega
  have hle := h1.le
  have G3 := Lib.hid (grown_twice (grown_of_below B2.out (some g)) h3)
  generalize s.part 32 = B at *
  have H1 := Lib.hid h1
  have H2 := Lib.hid h2
  clear h1 h2 h3 HK B2 R1 R2
  go_wp2_with fail
  go_loopw [5] (fun i wr => DgRel w3 (w.heap.size + 1) g B i wr) (fun i _ => B.length - (intOf i).toNat)
  case atStart => exact ⟨0, by omega, rfl, by simpa using R23.out, grown_same _ _⟩
  case round =>
    obtain ⟨k, hk, rfl, hrow, hgr⟩ := hrel
    have hT : Tx wr q B.length c B := H1.out.grown hgr (fun x hx hB hxb => by have := hlo x hx hB; omega)
    by_cases hlt : k < B.length
    · obtain ⟨g1, o1, hp, hx⟩ := hT.bytes.ne (by rintro rfl; simp at hlt)
      subst hp
      have hc := hx k hlt
      have hlt32 : k < 32 := by omega
      have hcell := u8s_cell hrow k (by simp [zeros]; omega)
      have hfz := frozen_of_row wr (w.heap.size + 1) k _ _ hrow
      have hstep := dg_step B k hlt hlen
      have hset := heap_setCell_same wr (w.heap.size + 1) k _ _ (.int .u8 (B.getD k 0 : Nat)) hrow
      rw [hstep] at hset
      have hgr2 := grown_twice hgr (grown_setCell wr (w.heap.size + 1) k (.int .u8 (B.getD k 0 : Nat)))
      have HSET := Lib.hid hset
      have HGR := Lib.hid hgr2
      clear hset hgr2 hgr hstep hx hrow
      have hb8 : B.getD k 0 < 256 := Sm.getD_lt hT.ok (by omega) k
      have HT := Lib.hid hT
      clear hT
      generalize B.getD k 0 = b at *
      go_wp2_with fail
      go_roundw
      case rel => exact ⟨k + 1, by omega, by go_num, HSET.out, HGR.out⟩
      case measure => simp [intOf]; omega
    · obtain rfl : k = B.length := by omega
      rw [List.take_length, ← HD.out] at hrow
      have R1w := (hgr.block w.heap.size (by omega) (by simp)).trans R13.out
      have HR := Lib.hid hrow
      have HR1 := Lib.hid R1w
      have HG := Lib.hid hgr
      clear hrow R1w hgr
      go_wp2_with (first
        | (refine wpList_load_row (by rfl) 37 _ (by rfl) (w.heap.size + 1) (by rfl) 37 _ (0, 0) _ HR.out A25 (by rfl) (by rw [u8s_size, HDL.out]; exact S25) ?_)
        | (refine wpList_store_row (by rfl) 37 _ _ (by rfl) w.heap.size (u8s D) (by rfl) (by rfl) _ _ HR1.out (by rw [u8s_size, HDL.out]; exact S25) (by rw [u8s_size, u8s_size, HDL.out]; simp [zeros]) (u8s_one _) ?_))
      refine ret_row 2 (by kernel_rfl) w.heap.size _ _ A25 S25 rfl (setRow_heap _ _ _ _ _ _ HR1.out) (by rw [u8s_size, HDL.out]) ⟨rfl, ?_, ?_⟩
      · exact (H2.out.low (below_grown HG.out (by omega))).low (Below.setRow (Below.refl _ _) (by omega) _)
      · exact grown_new (grown_new G3.out (Nat.le_refl _) (below_grown (B := w.heap.size) HG.out (by omega)) HG.out.size) (Nat.le_refl _) (Below.setRow (Below.refl _ _) (Nat.le_refl _) _) (by simp)
end Go.Proofs.YtfkpgildeddhaaaGreat.Nd
