/- NlEncode, NlKey, NdTally, BoxPairFn, BoxBuild, BoxOf, BoxHullR, NlHull. -/
import Derived.Test.YtfkpgildeddhaaaGreatM4
import Derived.BigRegion
import Derived.Lib.MinMax
/- node.Encode. -/
namespace Go.Proofs.YtfkpgildeddhaaaGreat.Nd
open Go.RowKit Go.Proofs.YtfkpgildeddhaaaGreat.Wl

theorem right_kid {k : PK} {d : Int} (h : k.right d = true) : (0 ≤ k.live ∧ k.live ≤ 1048576) ∧ (0 ≤ k.size ∧ k.size ≤ 1048576) ∧ k.lo.length ≤ 8 ∧ k.hi.length ≤ 8 := by
  unfold PK.right at h
  split at h
  · rename_i h0
    rw [h0]
    simp [PK.none]
  · split at h
    · cases h
    · split at h
      · have := of_decide_eq_true h
        omega
      · have := rightB_dims h
        omega
/-- What a node that may be holds. -/
structure PN.Fit (n : PN) : Prop where
  rows : n.rows.length ≤ 4
  kids : n.kids.length ≤ 4
  row : ∀ e ∈ n.rows, e.row.length ≤ 8
  kid : ∀ k ∈ n.kids, k.Fit
theorem PN.fit {n : PN} {d : Int} (h : n.right d = true) : n.Fit := by
  rw [PN.right_shape, Bool.and_eq_true, Bool.and_eq_true, Bool.and_eq_true, decide_eq_true_iff] at h
  obtain ⟨⟨⟨hd, hs⟩, hr⟩, hk⟩ := h
  have hrow : ∀ e ∈ n.rows, e.row.length ≤ 8 := fun e he => by
    have := of_decide_eq_true (List.all_eq_true.1 hr e he)
    omega
  have key : ∀ (x : Int), x ≤ 8 → n.kids.all (PK.keys x) = true → ∀ k ∈ n.kids, k.Fit := fun x hx hh k hkm => by
    have h1 := right_kid (List.all_eq_true.1 hk k hkm)
    have h2 := of_decide_eq_true (List.all_eq_true.1 hh k hkm)
    exact ⟨h1.1, h1.2.1, h1.2.2.1, h1.2.2.2, by omega⟩
  unfold PN.shape at hs
  split at hs
  · rw [Bool.and_eq_true, Bool.and_eq_true, decide_eq_true_iff, decide_eq_true_iff] at hs
    exact ⟨by omega, by omega, hrow, key 0 (by omega) hs.2⟩
  · split at hs
    · rw [Bool.and_eq_true, Bool.and_eq_true, Bool.and_eq_true, decide_eq_true_iff, decide_eq_true_iff, decide_eq_true_iff] at hs
      exact ⟨by omega, by omega, hrow, fun k hkm => by rw [List.length_eq_zero_iff.1 hs.1.2] at hkm; cases hkm⟩
    · split at hs
      · rw [Bool.and_eq_true, Bool.and_eq_true, Bool.and_eq_true, decide_eq_true_iff, decide_eq_true_iff, decide_eq_true_iff] at hs
        exact ⟨by omega, by omega, hrow, key d hd.2 hs.2⟩
      · cases hs
/-- A writer under way beside the node that is written. -/
structure EcSt (w0 w : World) (gn kind : Nat) (p : Option Addr) (n c : Nat) (q : Option Addr) (m f : Nat) (g : Nat) (v : Value) (s : St) : Prop where
  ws : WS w w0.heap.size g v s
  node : NodeAt w gn kind p n c q m f
  ne : v.ownBlock ≠ some gn
  ng : gn ≠ g
  low : Below w0.heap.size w0 w
  lg : w0.heap.size ≤ g
section
variable {w0 w w' : World} {gn kind : Nat} {p : Option Addr} {n c : Nat} {q : Option Addr} {m f g : Nat} {v v' : Value} {s s' : St}
theorem EcSt.step (h : EcSt w0 w gn kind p n c q m f g v s) (hs : WS w' w0.heap.size g v' s') (k : WStep w w' g v v') : EcSt w0 w' gn kind p n c q m f g v' s' :=
  ⟨hs, ⟨(k.block _ (Array.getElem?_eq_some_iff.1 h.node.row).1 h.ng h.ne).trans h.node.row⟩, fun e => by
    rcases k.own _ e with h1 | h1
    · exact h.ne h1
    · have := (Array.getElem?_eq_some_iff.1 h.node.row).1
      omega, h.ng, h.low.trans (k.below h.lg (fun j hj => (h.ws.own.lt j hj).1) h.low.size), h.lg⟩
theorem EcSt.later (h : EcSt w0 w gn kind p n c q m f g v s) (hb : Below w.heap.size w w') : EcSt w0 w' gn kind p n c q m f g v s :=
  ⟨h.ws.later hb, h.node.later hb, h.ne, h.ng, h.low.trans (hb.mono h.low.size), h.lg⟩
theorem EcSt.cell_keep {x : Nat} {o : Nat} {u : Value} (_h : EcSt w0 w gn kind p n c q m f g v s) (k : WStep w w' g v v') (hx : x ≠ g) (hv : v.ownBlock ≠ some x) (hc : w.cell? ⟨x, o, Option.none⟩ = some u) : w'.cell? ⟨x, o, Option.none⟩ = some u :=
  (World.cell?_of_block (w := w) (w' := w') (a := ⟨x, o, Option.none⟩) (k.block x (block_lt_of_cell hc) hx hv)).trans hc
theorem EcSt.fresh (h : EcSt w0 w gn kind p n c q m f g v s) : w.heap.size ≠ g ∧ v.ownBlock ≠ some w.heap.size :=
  ⟨fun e => by have := h.ws.lt; omega, fun e => by have := (h.ws.own.lt _ e).2; omega⟩
end
def Ec1 (w0 : World) (gn kind : Nat) (p : Option Addr) (n c : Nat) (q : Option Addr) (m f g : Nat) (E : List En) (H : List Nat) (i : Value) (wr : World) : Prop :=
  ∃ (k : Nat) (v : Value) (X : List Nat), k ≤ n ∧ i = .int .i64 k ∧ X = H ++ (E.take k).flatMap (fun e => e.pe.bytes) ∧ X.length ≤ 2 + 70 * k ∧ EcSt w0 wr gn kind p n c q m f g v ⟨X, 0⟩
def Ec2 (w0 : World) (gn kind : Nat) (p : Option Addr) (n c : Nat) (q : Option Addr) (m f g : Nat) (K : List Kd) (H : List Nat) (i : Value) (wr : World) : Prop :=
  ∃ (k : Nat) (v : Value) (X : List Nat), k ≤ m ∧ i = .int .i64 k ∧ X = H ++ (K.take k).flatMap (fun e => e.pk.bytes) ∧ X.length ≤ 1000 + 300 * k ∧ EcSt w0 wr gn kind p n c q m f g v ⟨X, 0⟩
theorem kid_bytes_len {k : PK} (h : k.Fit) (hs : k.sum.length = 32) : k.bytes.length ≤ 300 := by
  unfold PK.bytes
  simp only [List.length_append, Cm.be_length, rowBs_length, hs]
  have := h.lo; have := h.hi; have := h.key
  omega
def EncPost (w : World) (n : PN) (d : Int) (e : Ending) (w' : World) : Prop :=
  Below w.heap.size w w' ∧
  ((n.right d = true ∧ ∃ q c, e = .returned (.tuple #[.slice q n.bytes.length c, .int .i64 0]) ∧ w'.ownsRow w.heap.size 5 1 (.slice q n.bytes.length c) n.bytes.length (vals n.bytes) ∧ Sm.allB n.bytes) ∨
   (n.right d = false ∧ e = .returned (.tuple #[.slice Option.none 0 0, .int .i64 1])))
theorem node_bytes_ok {n : PN} (hk : n.kind < 256) (h : ∀ k ∈ n.kids, Sm.allB k.sum) : Sm.allB n.bytes := by
  intro x hx
  unfold PN.bytes at hx
  simp only [List.mem_cons, List.mem_append, List.mem_flatMap] at hx
  rcases hx with rfl | rfl | ⟨e, _, hx⟩ | rfl | ⟨k, hkm, hx⟩
  · exact hk
  · exact Nat.mod_lt _ (by omega)
  · unfold PE.bytes at hx
    rcases List.mem_cons.1 hx with rfl | hx
    · split <;> omega
    · exact rowBs_ok _ x hx
  · exact Nat.mod_lt _ (by omega)
  · unfold PK.bytes at hx
    simp only [List.mem_append] at hx
    rcases hx with hx | hx | hx | hx | hx | hx
    · exact h k hkm x hx
    · exact Cm.be_ok _ _ x hx
    · exact Cm.be_ok _ _ x hx
    · exact rowBs_ok _ x hx
    · exact rowBs_ok _ x hx
    · exact rowBs_ok _ x hx
set_option maxRecDepth 100000 in
set_option maxHeartbeats 4000000 in
theorem encode_any (kind : Nat) (hkd : kind < 256) (p : Option Addr) (n c : Nat) (q : Option Addr) (m f : Nat) (E : List En) (K : List Kd) (d : Int) (w : World) (hE : EntsIn w p n c E) (hK : KidsIn w q m f K) :
    Calls Tryz.prog 67 #[.agg #[.int .u8 kind, .slice p n c, .slice q m f], .int .i64 d] w (EncPost w (pnOf kind E K) d) := by
  have hb1 : Below w.heap.size w (w.alloc (.cells #[.int .u8 kind, .slice p n c, .slice q m f] 27)) := (Below.refl _ _).alloc (Nat.le_refl _) _
  have hn := NodeAt.start w kind p n c q m f
  have HRT := Lib.hid (nright_any kind p n c q m f E K d _ (hE.later hb1) (hK.later hb1))
  obtain ⟨X, hX⟩ : ∃ X, (pnOf kind E K).right d = X := ⟨_, rfl⟩
  rw [hX] at HRT
  have HB := Lib.hid hb1
  have HN := Lib.hid hn
  have HEW := Lib.hid hE
  have HKW := Lib.hid hK
  have HES := Lib.hid hE.size
  have HKS := Lib.hid hK.size
  obtain ⟨du, hdu, hdr⟩ := UKd
  have HD := Lib.hid hdu
  have HDR := Lib.hid hdr
  have HZ := Lib.hid (zero_of_info kz)
  clear hE hK hb1 hn hdu hdr
  cases X with
  | false =>
    have HX := Lib.hid hX
    clear hX
    go_enter Tryz.func67, Tryz.ntmps67
    go_upto_region 1 with fail
    generalize w.alloc (.cells #[.int .u8 kind, .slice p n c, .slice q m f] 27) = w1 at *
    obtain ⟨t0, t1, t2⟩ := HN.out.cells
    go_wp2_with (go_at_call 30; refine HRT.out.mono ?_; rintro e w2 ⟨rfl, b2⟩; have HB2 := Lib.hid (HB.out.trans (b2.mono HB.out.size)); clear b2)
    go_ret2
    exact ⟨HB2.out, Or.inr ⟨HX.out, rfl⟩⟩
  | true =>
  have hft := PN.fit hX
  have HX := Lib.hid hX
  have hn4 : n ≤ 4 := by have := hft.rows; simp only [pnOf, List.length_map] at this; rw [HES.out]; exact this
  have hm4 : m ≤ 4 := by have := hft.kids; simp only [pnOf, List.length_map] at this; rw [HKS.out]; exact this
  have HFR := Lib.hid (show ∀ e ∈ E, e.row.R.length ≤ 8 from fun e he => hft.row _ (List.mem_map.2 ⟨e, he, rfl⟩))
  have HFK := Lib.hid (show ∀ k ∈ K, k.pk.Fit from fun k hk => hft.kid _ (List.mem_map.2 ⟨k, hk, rfl⟩))
  clear hX hft
  have e8 : IntKind.u8.wrap (n : Int) = (n : Nat) := by rw [IntKind.wrap_u8]; omega
  have e9 : IntKind.u8.wrap (m : Int) = (m : Nat) := by rw [IntKind.wrap_u8]; omega
  have HKD := Lib.hid hkd
  have HN4 := Lib.hid hn4
  have HM4 := Lib.hid hm4
  clear hkd hn4 hm4
  go_enter Tryz.func67, Tryz.ntmps67
  go_upto_region 1 with fail
  generalize w.alloc (.cells #[.int .u8 kind, .slice p n c, .slice q m f] 27) = w1 at *
  obtain ⟨t0, t1, t2⟩ := HN.out.cells
  go_upto_region 3 with (go_at_call 30; refine HRT.out.mono ?_; rintro e w2 ⟨rfl, b2⟩; have HB2 := Lib.hid (HB.out.trans (b2.mono HB.out.size)); have HN2 := Lib.hid (HN.out.later b2); clear b2)
  clear t0 t1 t2 HRT HN HB
  have hgn : w.heap.size < w2.heap.size := (Array.getElem?_eq_some_iff.1 HN2.out.row).1
  have hec : EcSt w (w2.alloc (.cells #[.slice Option.none 0 0, .int .i64 0] 114)) w.heap.size kind p n c q m f w2.heap.size (.slice Option.none 0 0) ⟨[], 0⟩ :=
    ⟨⟨heap_alloc_new w2 _, World.ownsRow_nil _ _ _ _, (fun x hx => by cases hx), (fun h => absurd rfl h)⟩, HN2.out.later ((Below.refl _ _).alloc (Nat.le_refl _) _), by simp [Value.ownBlock], by omega, HB2.out.alloc HB2.out.size _, HB2.out.size⟩
  go_upto_region 4 with fail
  generalize w2.alloc (.cells #[.slice Option.none 0 0, .int .i64 0] 114) = w3 at *
  generalize w2.heap.size = g at *
  have HC3 := Lib.hid hec
  obtain ⟨t0, t1, t2⟩ := hec.node.cells
  clear hec
  -- the kind, how many rows
  go_upto_region 5 with (go_at_call 79; refine (byte_any ⟨[], 0⟩ kind HKD.out w.heap.size g _ w3 HC3.out.ws (by simp) HC3.out.low.size).mono ?_; rintro _ w4 ⟨rfl, v4, h9, k9⟩; have HC4 := Lib.hid (HC3.out.step h9 k9); clear h9 k9)
  clear t0 t1 t2
  obtain ⟨t0, t1, t2⟩ := HC4.out.node.cells
  go_upto_region 6 with (go_at_call 79; refine (byte_any _ n (by have := HN4.out; omega) w.heap.size g _ w4 HC4.out.ws (by simp [St.put]) HC4.out.low.size).mono ?_; rintro _ w5 ⟨rfl, v5, h9, k9⟩; have hc5 := HC4.out.step h9 k9; rw [show (((St.mk [] 0).put [kind]).put [n]) = ⟨[kind, n], 0⟩ from rfl] at hc5; have HC5 := Lib.hid hc5; clear h9 k9 hc5)
  clear t0 t1 t2 HC4 HC3
  obtain ⟨t0, t1, t2⟩ := HC5.out.node.cells
  go_wp2_with fail
  go_loopw [26] (fun i wr => Ec1 w w.heap.size kind p n c q m f g E [kind, n] i wr) (fun i _ => n - (intOf i).toNat)
  case atStart => exact ⟨0, v5, [kind, n], by omega, rfl, by simp, by simp, HC5.out⟩
  case round =>
    obtain ⟨k, v, Y, hk, rfl, hY, hYl, hec⟩ := hrel
    have HC := Lib.hid hec
    have HY := Lib.hid hY
    have HYL := Lib.hid hYl
    have hn4 := HN4.out
    clear hec hY hYl HC5 t0 t1 t2
    by_cases hlt : k < n
    · obtain ⟨g1, o1, rfl, c1, c2, hok⟩ := HEW.out.get k hlt
      have i1 : (0 : Int) ≤ k ∧ (k : Int) < n := by omega
      have hlen : k < E.length := by rw [← HES.out]; exact hlt
      have HS := Lib.hid (flat_succ (fun e : En => e.pe.bytes) E k hlen)
      have hr8 := HFR.out _ (getD_mem E k hlen)
      have c1 := (HC.out.low.cell (block_lt_of_cell c1)).trans c1
      have c2 := (HC.out.low.cell (block_lt_of_cell c2)).trans c2
      generalize E.getD k default = e at *
      have HOK := Lib.hid hok
      have HR8 := Lib.hid hr8
      simp only [Rw.val] at c1
      clear hok hr8
      go_upto_region 9 with fail
      obtain ⟨z0, z1⟩ := pair_alloc wr (.slice e.row.p e.row.n e.row.c) (.bool e.live) 55
      have HCA := Lib.hid (HC.out.later (show Below wr.heap.size wr (wr.alloc (.cells #[.slice e.row.p e.row.n e.row.c, .bool e.live] 55)) from (Below.refl _ _).alloc (Nat.le_refl _) _))
      have HFX := Lib.hid HC.out.fresh
      generalize wr.alloc (.cells #[.slice e.row.p e.row.n e.row.c, .bool e.live] 55) = wa at *
      generalize wr.heap.size = gx at *
      clear c1 c2
      go_upto_region 10 with (go_at_call 80; refine (truth_any ⟨Y, 0⟩ e.live w.heap.size g _ wa HCA.out.ws (by have := HYL.out; simp only []; omega) HCA.out.low.size).mono ?_; rintro _ w6 ⟨rfl, v6, h9, k9⟩; have z0 := HCA.out.cell_keep k9 HFX.out.1 HFX.out.2 z0; have HC6 := Lib.hid (HCA.out.step h9 k9); have HO6 := Lib.hid (show w6.heap.size ≥ wa.heap.size from k9.size); clear h9 k9)
      have HR6 := Lib.hid (show (St.mk Y 0).truth e.live = ⟨Y ++ [if e.live then 1 else 0], 0⟩ from rfl)
      rw [HR6.out] at HC6
      clear z1 HCA HR6
      have hrow := roww_any ⟨Y ++ [if e.live then 1 else 0], 0⟩ e.row.R _ _ _ w.heap.size g v6 w6 HC6.out.ws (HOK.out.later HC6.out.low).ints (by have := HYL.out; have := HR8.out; simp only [List.length_append, List.length_cons, List.length_nil]; omega) HC6.out.low.size (fun x hx hR => by have h8 := rintsLt HOK.out.ints hx hR; exact ⟨fun e => by have := HC6.out.lg; omega, fun e => by have := (HC6.out.ws.own.lt _ e).1; omega⟩)
      rw [put_row HR8.out] at hrow
      have HROW := Lib.hid hrow
      clear hrow
      go_wp2_with (go_at_call 81; refine HROW.out.mono ?_; rintro _ w7 ⟨rfl, v7, h9, k9⟩; have HC7 := Lib.hid (HC6.out.step h9 k9); clear h9 k9)
      go_roundw
      case rel =>
        refine ⟨k + 1, v7, (Y ++ [if e.live then 1 else 0]) ++ rowBs e.row.R, by omega, by go_num, ?_, ?_, HC7.out⟩
        · rw [HS.out, HY.out]
          cases hlv : e.live <;> simp [PE.bytes, En.pe, hlv]
        · have := HYL.out
          have := HR8.out
          simp only [List.length_append, List.length_cons, List.length_nil, rowBs_length]
          omega
      case measure => simp [intOf]; omega
    · obtain rfl : n = k := by omega
      have e0 : E.take n = E := List.take_of_length_le (by rw [← HES.out]; exact Nat.le_refl _)
      rw [e0] at HY
      have HYB := Lib.hid (show Y.length ≤ 300 from by have := HYL.out; omega)
      clear e0 hlt hk HYL
      obtain ⟨t0, t1, t2⟩ := HC.out.node.cells
      go_upto_region 13 with (go_at_call 79; refine (byte_any ⟨Y, 0⟩ m (by have := HM4.out; omega) w.heap.size g _ wr HC.out.ws (by have := HYB.out; simp only []; omega) HC.out.low.size).mono ?_; rintro _ w5 ⟨rfl, v5, h9, k9⟩; have hc5 := HC.out.step h9 k9; rw [show ((St.mk Y 0).put [m]) = ⟨Y ++ [m], 0⟩ from rfl] at hc5; have HC5 := Lib.hid hc5; clear h9 k9 hc5)
      clear t0 t1 t2 HC
      obtain ⟨t0, t1, t2⟩ := HC5.out.node.cells
      go_wp2_with fail
      go_loopw [45] (fun i wr => Ec2 w w.heap.size kind p n c q m f g K (Y ++ [m]) i wr) (fun i _ => m - (intOf i).toNat)
      case atStart => exact ⟨0, v5, Y ++ [m], by omega, rfl, by simp, by have := HYB.out; simp; omega, HC5.out⟩
      case round =>
        obtain ⟨k, v, Z, hk, rfl, hZ, hZl, hec⟩ := hrel
        have HC := Lib.hid hec
        have HZ' := Lib.hid hZ
        have HZL := Lib.hid hZl
        have hm4 := HM4.out
        clear hec hZ hZl HC5 t0 t1 t2
        by_cases hlt : k < m
        · obtain ⟨g1, o1, rfl, hrg, hok⟩ := HKW.out.get k hlt
          have i1 : (0 : Int) ≤ k ∧ (k : Int) < m := by omega
          have hlen : k < K.length := by rw [← HKS.out]; exact hlt
          have HS := Lib.hid (flat_succ (fun e : Kd => e.pk.bytes) K k hlen)
          have hfit := HFK.out _ (getD_mem K k hlen)
          generalize K.getD k default = e at *
          have HR := Lib.hid (range_later hrg HC.out.low)
          have HOK := Lib.hid hok
          have HFIT := Lib.hid hfit
          have HCL := Lib.hid (Kd.cells_length hok.len)
          have hz0 := HZ.out.1
          clear hok hfit hrg
          go_upto_region 16 with (first
            | (refine wpList_load_mid (by rfl) 43 _ (by rfl) g1 (o1 + k * 37) (by rfl) e.cells du HR.out HD.out HDR.out (by rw [HCL.out]; exact SKd) ?_)
            | (refine wpList_store_row (by rfl) 43 (.tmp 10) (.tmp 48) (by rfl) wr.heap.size e.cells.toArray (by rfl) (by rfl) _ _ (heap_alloc_new wr _) (by rw [List.size_toArray, HCL.out]; exact SKd) (by simp only [List.size_toArray, HCL.out, kd0_size]) (all_oneCell_toArray Kd.one) ?_; rw [setRow_alloc]))
          have HRR := Lib.hid (range_kd (heap_alloc_new wr (.cells e.cells.toArray 43)))
          have HCA := Lib.hid (HC.out.later (show Below wr.heap.size wr (wr.alloc (.cells e.cells.toArray 43)) from (Below.refl _ _).alloc (Nat.le_refl _) _))
          generalize wr.alloc (.cells e.cells.toArray 43) = wa at *
          clear hz0 HC
          have HW := Lib.hid (wkid_any w e HOK.out HFIT.out ⟨Z, 0⟩ g v wa HCA.out.ws (by have := HZL.out; simp only []; omega) HCA.out.low HCA.out.lg)
          go_wp2_with (first
            | (refine wpList_load_mid (by rfl) 43 _ (by rfl) _ 0 (by rfl) e.cells du HRR.out HD.out HDR.out (by rw [HCL.out]; exact SKd) ?_)
            | (go_at_call 82; refine HW.out.mono ?_; rintro _ w7 ⟨rfl, v7, h9, k9⟩; have HC7 := Lib.hid (HCA.out.step h9 k9); clear h9 k9))
          go_roundw
          case rel =>
            refine ⟨k + 1, v7, Z ++ e.pk.bytes, by omega, by go_num, ?_, ?_, HC7.out⟩
            · rw [HS.out, HZ'.out]
              simp
            · have := HZL.out
              have := kid_bytes_len HFIT.out HOK.out.len
              simp only [List.length_append]
              omega
          case measure => simp [intOf]; omega
        · obtain rfl : m = k := by omega
          have e0 : K.take m = K := List.take_of_length_le (by rw [← HKS.out]; exact Nat.le_refl _)
          rw [e0] at HZ'
          have he : Z = (pnOf kind E K).bytes := by
            have hn9 := HES.out
            have hm9 := HKS.out
            have hn4 := HN4.out
            rw [HZ'.out, HY.out]
            unfold PN.bytes pnOf
            simp only [List.length_map, List.flatMap_map]
            rw [← hn9, ← hm9, Nat.mod_eq_of_lt (show n < 256 by omega), Nat.mod_eq_of_lt (show m < 256 by omega)]
            simp
          rw [he] at HC
          have HLZ := Lib.hid (show (pnOf kind E K).bytes.length < 1099511627776 from by rw [← he]; have := HZL.out; omega)
          clear he HZ' HY e0
          go_wp2_with (go_at_call 83; refine (wbytes_any ⟨(pnOf kind E K).bytes, 0⟩ w.heap.size g v wr HC.out.ws HLZ.out).mono ?_; rintro _ w7 ⟨q7, c7, rfl, o7, b7⟩; have HO7 := Lib.hid o7; have HB7 := Lib.hid b7; clear o7 b7)
          go_ret2
          exact ⟨HC.out.low.trans (HB7.out.mono HC.out.low.size), Or.inl ⟨HX.out, q7, c7, rfl, owns_base HO7.out HC.out.low.size, HC.out.ws.ok⟩⟩
end Go.Proofs.YtfkpgildeddhaaaGreat.Nd

/- node.key. -/
namespace Go.Proofs.YtfkpgildeddhaaaGreat.Nd
open Go.RowKit

/-- The row whose code is a node's first one. -/
def PN.keyOf (n : PN) : List Int := if n.kind = 2 then (n.rows.headD ⟨[], false⟩).row else if n.kind = 3 then (n.kids.headD PK.none).key else []
/-- What is known of a node that may be, by its kind. -/
theorem PN.kinds {n : PN} {d : Int} (h : n.right d = true) : (1 ≤ d ∧ d ≤ 8) ∧ (∀ e ∈ n.rows, (e.row.length : Int) = d) ∧ (∀ k ∈ n.kids, k.right d = true) ∧
    ((n.kind = 1 ∧ n.rows.length = 1 ∧ n.kids.length = 2) ∨ (n.kind = 2 ∧ 1 ≤ n.rows.length ∧ n.rows.length ≤ 4 ∧ n.kids.length = 0) ∨ (n.kind = 3 ∧ n.rows.length = 0 ∧ 2 ≤ n.kids.length ∧ n.kids.length ≤ 4 ∧ ∀ k ∈ n.kids, (k.key.length : Int) = d)) := by
  rw [PN.right_shape, Bool.and_eq_true, Bool.and_eq_true, Bool.and_eq_true, decide_eq_true_iff] at h
  obtain ⟨⟨⟨hd, hs⟩, hr⟩, hk⟩ := h
  refine ⟨hd, fun e he => of_decide_eq_true (List.all_eq_true.1 hr e he), fun k hkm => List.all_eq_true.1 hk k hkm, ?_⟩
  unfold PN.shape at hs
  split at hs
  · rename_i k1
    rw [Bool.and_eq_true, Bool.and_eq_true, decide_eq_true_iff, decide_eq_true_iff] at hs
    exact Or.inl ⟨k1, hs.1.1, hs.1.2⟩
  · split at hs
    · rename_i k2
      rw [Bool.and_eq_true, Bool.and_eq_true, Bool.and_eq_true, decide_eq_true_iff, decide_eq_true_iff, decide_eq_true_iff] at hs
      exact Or.inr (Or.inl ⟨k2, hs.1.1.1, hs.1.1.2, hs.1.2⟩)
    · split at hs
      · rename_i k3
        rw [Bool.and_eq_true, Bool.and_eq_true, Bool.and_eq_true, decide_eq_true_iff, decide_eq_true_iff, decide_eq_true_iff] at hs
        exact Or.inr (Or.inr ⟨k3, hs.1.1.1, hs.1.1.2, hs.1.2, fun k hkm => of_decide_eq_true (List.all_eq_true.1 hs.2 k hkm)⟩)
      · cases hs
/-- A row of a call's own that is told. -/
def KeyPost (w : World) (R : List Int) (e : Ending) (w' : World) : Prop := ∃ r : Rw, e = .returned r.val ∧ r.R = R ∧ FrRw w' w.heap.size r ∧ Below w.heap.size w w'
theorem fr_own {w : World} {base g n c : Nat} {R : List Int} (h : OwnRow w base g n c R) (hR : ∀ x ∈ R, -9223372036854775808 ≤ x ∧ x ≤ 9223372036854775807) (hg : base ≤ g) (hn : n ≤ 8) : FrRw w base ⟨some ⟨g, 0, none⟩, n, c, R⟩ := by
  refine ⟨⟨h.ints hR, by show n ≤ _; omega⟩, fun x hx _ => ?_⟩
  obtain rfl : x = ⟨g, 0, none⟩ := by simpa using hx.symm
  exact hg
set_option maxRecDepth 100000 in
set_option maxHeartbeats 1000000 in
theorem key_any (kind : Nat) (p : Option Addr) (n c : Nat) (q : Option Addr) (m f : Nat) (E : List En) (K : List Kd) (d : Int) (w : World) (hE : EntsIn w p n c E) (hK : KidsIn w q m f K) (hr : (pnOf kind E K).right d = true) :
    Calls Tryz.prog 84 #[.agg #[.int .u8 kind, .slice p n c, .slice q m f]] w (KeyPost w (pnOf kind E K).keyOf) := by
  have hb1 : Below w.heap.size w (w.alloc (.cells #[.int .u8 kind, .slice p n c, .slice q m f] 27)) := (Below.refl _ _).alloc (Nat.le_refl _) _
  have hn := NodeAt.start w kind p n c q m f
  obtain ⟨hd, hrow, hkid, hk⟩ := PN.kinds hr
  have HE := Lib.hid (hE.later hb1)
  have HK := Lib.hid (hK.later hb1)
  have HB := Lib.hid hb1
  have HN := Lib.hid hn
  have HES := Lib.hid hE.size
  have HKS := Lib.hid hK.size
  clear hr hb1 hn hE hK
  rcases hk with ⟨k1, -, -⟩ | ⟨k2, h1, h2, -⟩ | ⟨k3, -, h1, h2, hkey⟩
  · obtain rfl : kind = 1 := k1
    have HKO := Lib.hid (show (pnOf 1 E K).keyOf = [] from rfl)
    clear hrow hkid
    go_enter Tryz.func84, Tryz.ntmps84
    go_upto_region 1 with fail
    generalize w.alloc (.cells #[.int .u8 (1 : Nat), .slice p n c, .slice q m f] 27) = w1 at *
    obtain ⟨t0, t1, t2⟩ := HN.out.cells
    go_wp2_with fail
    go_ret
    exact ⟨⟨none, 0, 0, []⟩, rfl, HKO.out.symm, fr_none _ _, HB.out⟩
  · obtain rfl : kind = 2 := k2
    have hn1 : 1 ≤ n := by rw [HES.out]; simpa [pnOf] using h1
    obtain ⟨g, o, rfl, c1, c2, hok⟩ := HE.out.get 0 (by omega)
    obtain ⟨e, E', rfl⟩ : ∃ e E', E = e :: E' := by
      cases E with
      | nil => have := HES.out; simp at this; omega
      | cons e E' => exact ⟨e, E', rfl⟩
    have HKO := Lib.hid (show (pnOf 2 (e :: E') K).keyOf = e.row.R from rfl)
    have hlen := hrow e.pe (by simp [pnOf])
    have hlen : (e.row.R.length : Int) = d := hlen
    simp only [List.getD_cons_zero, Nat.zero_mul, Nat.add_zero] at c1 hok
    have hrn := hok.ints.size
    have HC := Lib.hid (rowclone_any e.row.p e.row.n e.row.c e.row.R _ hok.ints (by omega) (by omega))
    have HIN := Lib.hid hok.ints.ok
    have HN8 := Lib.hid (show e.row.n ≤ 8 from by omega)
    have i1 : (0 : Int) < n := by omega
    unfold Rw.val at c1
    clear hrow hkid c2 hlen hrn hok h1 h2
    go_enter Tryz.func84, Tryz.ntmps84
    go_upto_region 1 with fail
    generalize w.alloc (.cells #[.int .u8 (2 : Nat), .slice (some ⟨g, o, none⟩) n c, .slice q m f] 27) = w1 at *
    obtain ⟨t0, t1, t2⟩ := HN.out.cells
    go_wp2_with (go_at_call 98; refine HC.out.mono ?_; rintro _ w2 ⟨g2, k2, rfl, o2, hg2, b2⟩; have HF2 := Lib.hid (fr_own o2 HIN.out hg2 HN8.out); have HB2 := Lib.hid (HB.out.trans (b2.mono HB.out.size)); clear o2 hg2 b2)
    go_ret
    exact ⟨⟨some ⟨g2, 0, none⟩, e.row.n, k2, e.row.R⟩, rfl, HKO.out.symm, HF2.out.base HB.out.size, HB2.out⟩
  · obtain rfl : kind = 3 := k3
    have hn1 : 2 ≤ m := by rw [HKS.out]; simpa [pnOf] using h1
    obtain ⟨g, o, rfl, hrg, hok⟩ := HK.out.get 0 (by omega)
    obtain ⟨e, K', rfl⟩ : ∃ e K', K = e :: K' := by
      cases K with
      | nil => have := HKS.out; simp at this; omega
      | cons e K' => exact ⟨e, K', rfl⟩
    have HKO := Lib.hid (show (pnOf 3 E (e :: K')).keyOf = e.key.R from rfl)
    have hlen := hkey e.pk (by simp [pnOf])
    have hlen : (e.key.R.length : Int) = d := hlen
    simp only [List.getD_cons_zero, Nat.zero_mul, Nat.add_zero] at hrg hok
    have c1 := (kat_of hrg hok.len).key
    have hrn := hok.key.ints.size
    have HC := Lib.hid (rowclone_any e.key.p e.key.n e.key.c e.key.R _ hok.key.ints (by omega) (by omega))
    have HIN := Lib.hid hok.key.ints.ok
    have HN8 := Lib.hid (show e.key.n ≤ 8 from by omega)
    have i1 : (0 : Int) < m := by omega
    unfold Rw.val at c1
    clear hrow hkid hrg hlen hrn hok h1 h2 hkey
    go_enter Tryz.func84, Tryz.ntmps84
    go_upto_region 1 with fail
    generalize w.alloc (.cells #[.int .u8 (3 : Nat), .slice p n c, .slice (some ⟨g, o, none⟩) m f] 27) = w1 at *
    obtain ⟨t0, t1, t2⟩ := HN.out.cells
    go_wp2_with (go_at_call 98; refine HC.out.mono ?_; rintro _ w2 ⟨g2, k2, rfl, o2, hg2, b2⟩; have HF2 := Lib.hid (fr_own o2 HIN.out hg2 HN8.out); have HB2 := Lib.hid (HB.out.trans (b2.mono HB.out.size)); clear o2 hg2 b2)
    go_ret
    exact ⟨⟨some ⟨g2, 0, none⟩, e.key.n, k2, e.key.R⟩, rfl, HKO.out.symm, HF2.out.base HB.out.size, HB2.out⟩
end Go.Proofs.YtfkpgildeddhaaaGreat.Nd

/- What a node says of what is below it, plainly; a kid under way in a block of its own beside its node. -/
namespace Go.Proofs.YtfkpgildeddhaaaGreat.Nd
open Go.RowKit Go.Proofs.YtfkpgildeddhaaaGreat.Dk

def boxE (b : List Int × List Int) (e : PE) : List Int × List Int := if e.live then hull b (e.row, e.row) else b
def boxK (b : List Int × List Int) (k : PK) : List Int × List Int := hull b (k.lo, k.hi)
def boxR (L : List PE) : List Int × List Int := L.foldl boxE ([], [])
def liveR (L : List PE) : Int := (L.map fun e => if e.live then (1 : Int) else 0).sum
def PN.box (n : PN) : List Int × List Int := n.kids.foldl boxK (boxR n.rows)
def PN.live (n : PN) : Int := liveR n.rows + (n.kids.map PK.live).sum
def PN.size (n : PN) : Int := n.rows.length + (n.kids.map PK.size).sum
/-- What a node says, but its page's sum. -/
def PN.tally (n : PN) : PK := ⟨zeros 32, n.box.1, n.box.2, n.live, n.size, n.keyOf⟩
theorem take_fold {α β : Type} [Inhabited α] (f : β → α → β) (b : β) (L : List α) (k : Nat) (h : k < L.length) : (L.take (k + 1)).foldl f b = f ((L.take k).foldl f b) (L.getD k default) := by
  rw [List.take_succ_eq_append_getElem h, List.foldl_append, List.getD_eq_getElem?_getD, List.getElem?_eq_getElem h]
  rfl
theorem take_sum {α : Type} [Inhabited α] (f : α → Int) (L : List α) (k : Nat) (h : k < L.length) : ((L.take (k + 1)).map f).sum = ((L.take k).map f).sum + f (L.getD k default) := by
  rw [List.take_succ_eq_append_getElem h, List.map_append, List.sum_append, List.getD_eq_getElem?_getD, List.getElem?_eq_getElem h]
  simp
theorem map_getD {α β : Type} [Inhabited α] [Inhabited β] (g : α → β) (L : List α) (k : Nat) (h : k < L.length) : (L.map g).getD k default = g (L.getD k default) := by
  rw [List.getD_eq_getElem?_getD, List.getD_eq_getElem?_getD, List.getElem?_map, List.getElem?_eq_getElem h]
  rfl
instance : Inhabited PE := ⟨⟨[], false⟩⟩
instance : Inhabited PK := ⟨PK.none⟩
/-- Sums of so many numbers of such a size. -/
theorem sum_le {α : Type} (f : α → Int) (B : Int) : ∀ L : List α, (∀ x ∈ L, 0 ≤ f x ∧ f x ≤ B) → 0 ≤ (L.map f).sum ∧ (L.map f).sum ≤ B * L.length
  | [], _ => by simp
  | x :: L, h => by
    have h1 := h x (by simp)
    have h2 := sum_le f B L (fun y hy => h y (by simp [hy]))
    simp only [List.map_cons, List.sum_cons, List.length_cons, Int.natCast_add, Int.natCast_one, Int.mul_add, Int.mul_one]
    omega
theorem live_le (L : List PE) : 0 ≤ liveR L ∧ liveR L ≤ L.length := by
  have := sum_le (fun e : PE => if e.live then (1 : Int) else 0) 1 L (fun e _ => by split <;> omega)
  unfold liveR
  omega
/-- A row lies aside of a block. -/
def Away (X : Nat) (r : Rw) : Prop := ∀ x, r.p = some x → r.R ≠ [] → x.block ≠ X
theorem FrRw.away {w : World} {base X : Nat} {r : Rw} (h : FrRw w base r) (hX : X < base) : Away X r := fun x hx hR => by have := h.lo x hx hR; omega
theorem away_nil (X : Nat) {r : Rw} (h : r.R = []) : Away X r := fun _ _ hR => absurd h hR
/-- A kid under way in the block gx, its node in gn, what will be told in gr. -/
structure TaSt (w0 w : World) (gn kind : Nat) (p : Option Addr) (n c : Nat) (q : Option Addr) (m f gr gx : Nat) (kd : Kd) : Prop where
  node : NodeAt w gn kind p n c q m f
  res : w.heap[gr]? = some (.cells kd0.cells.toArray 43 (0, 0))
  row : w.heap[gx]? = some (.cells kd.cells.toArray 43 (0, 0))
  ok : kd.Ok w
  away : ∀ r ∈ kd.rows, Away gx r ∧ Away gr r
  low : Below w0.heap.size w0 w
  ge : w0.heap.size ≤ gn ∧ w0.heap.size ≤ gr ∧ w0.heap.size ≤ gx
  ne : gn ≠ gx ∧ gr ≠ gx ∧ gn ≠ gr
section
variable {w0 w w' : World} {gn kind : Nat} {p : Option Addr} {n c : Nat} {q : Option Addr} {m f gr gx : Nat} {kd kd' : Kd}
theorem TaSt.later (h : TaSt w0 w gn kind p n c q m f gr gx kd) (hb : Below w.heap.size w w') : TaSt w0 w' gn kind p n c q m f gr gx kd :=
  ⟨h.node.later hb, (hb.block _ (Array.getElem?_eq_some_iff.1 h.res).1).trans h.res, (hb.block _ (Array.getElem?_eq_some_iff.1 h.row).1).trans h.row, h.ok.later hb, h.away, h.low.trans (hb.mono h.low.size), h.ge, h.ne⟩
theorem TaSt.cell (h : TaSt w0 w gn kind p n c q m f gr gx kd) : KAt w gx 0 kd := kat_row h.row h.ok.len
theorem TaSt.turn (h : TaSt w0 w gn kind p n c q m f gr gx kd) (hrow : w'.heap[gx]? = some (.cells kd'.cells.toArray 43 (0, 0))) (ho : Only (fun j => j = gx) w w') (hs : kd'.sum = kd.sum) (hr : ∀ r ∈ kd'.rows, r.Ok w ∧ Away gx r ∧ Away gr r) (hl : In64 kd'.live) (hz : In64 kd'.size) : TaSt w0 w' gn kind p n c q m f gr gx kd' := by
  have key : ∀ r : Rw, r.Ok w ∧ Away gx r ∧ Away gr r → r.Ok w' := fun r hr => rw_keep hr.1 fun x hx hR => ho.block _ (by
    rcases hr.1.ints.at' with h0 | ⟨g, o, hp, hc⟩
    · exact absurd h0 hR
    · rw [hx] at hp
      obtain rfl : x = ⟨g, o, Option.none⟩ := by simpa using hp
      have := hc 0 (List.length_pos_iff.2 hR)
      exact block_lt_of_cell this) (hr.2.1 x hx hR)
  refine ⟨⟨(ho.block _ (Array.getElem?_eq_some_iff.1 h.node.row).1 h.ne.1).trans h.node.row⟩, (ho.block _ (Array.getElem?_eq_some_iff.1 h.res).1 h.ne.2.1).trans h.res, hrow, ⟨by rw [hs]; exact h.ok.len, by rw [hs]; exact h.ok.ok, key _ (hr _ (by simp [Kd.rows])), key _ (hr _ (by simp [Kd.rows])), key _ (hr _ (by simp [Kd.rows])), hl, hz⟩, fun r hm => (hr r hm).2, h.low.trans (ho.below (by have := h.low.size; omega) (fun j e => by rw [e]; exact h.ge.2.2)), h.ge, h.ne⟩
theorem TaSt.rows (h : TaSt w0 w gn kind p n c q m f gr gx kd) : ∀ r ∈ kd.rows, r.Ok w ∧ Away gx r ∧ Away gr r := fun r hr => by
  refine ⟨?_, h.away r hr⟩
  simp only [Kd.rows, List.mem_cons, List.not_mem_nil, or_false] at hr
  rcases hr with rfl | rfl | rfl
  · exact h.ok.lo
  · exact h.ok.hi
  · exact h.ok.key
theorem TaSt.setLive (h : TaSt w0 w gn kind p n c q m f gr gx kd) (x : Int) (hx : In64 x) : TaSt w0 (w.setCell ⟨gx, 34, none⟩ (.int .i64 x)) gn kind p n c q m f gr gx { kd with live := x } := by
  have r := heap_setCell_same w gx 34 _ _ (.int .i64 x) h.row
  rw [kd_set_live h.ok.len] at r
  exact h.turn r (Only.setCell (P := fun j => j = gx) _ (a := ⟨gx, 34, none⟩) rfl _) rfl h.rows hx h.ok.size
theorem TaSt.setSize (h : TaSt w0 w gn kind p n c q m f gr gx kd) (x : Int) (hx : In64 x) : TaSt w0 (w.setCell ⟨gx, 35, none⟩ (.int .i64 x)) gn kind p n c q m f gr gx { kd with size := x } := by
  have r := heap_setCell_same w gx 35 _ _ (.int .i64 x) h.row
  rw [kd_set_size h.ok.len] at r
  exact h.turn r (Only.setCell (P := fun j => j = gx) _ (a := ⟨gx, 35, none⟩) rfl _) rfl h.rows h.ok.live hx
theorem kd_box {w : World} {g : Nat} {k : Kd} {r1 r2 : Rw} (h : w.heap[g]? = some (.cells k.cells.toArray 43 (0, 0))) (hl : k.sum.length = 32) : (w.setCells g 32 [r1.val, r2.val]).heap[g]? = some (.cells ({ k with lo := r1, hi := r2 } : Kd).cells.toArray 43 (0, 0)) := by
  have := heap_setCells_same g 43 [r1.val, r2.val] (vals k.sum) [k.lo.val, k.hi.val] [.int .i64 k.live, .int .i64 k.size, k.key.val] w (by simpa [Kd.cells] using h) rfl
  rw [vals_length, hl] at this
  simpa [Kd.cells] using this
theorem kd_there2 {w : World} {g : Nat} {k : Kd} (h : w.heap[g]? = some (.cells k.cells.toArray 43 (0, 0))) (hl : k.sum.length = 32) (r1 r2 : Rw) : w.there g 32 (#[r1.val, r2.val] : Array Value).size := fun j hj => by
  refine ⟨?_, frozen_of_row w g _ _ _ h⟩
  have hj : j < 2 := hj
  rw [cell_of_row w g _ _ _ _ h]
  rw [Array.getElem?_eq_getElem (by rw [List.size_toArray, Kd.cells_length hl]; omega)]
  rfl
theorem TaSt.setBox (h : TaSt w0 w gn kind p n c q m f gr gx kd) {r1 r2 : Rw} (h1 : r1.Ok w ∧ Away gx r1 ∧ Away gr r1) (h2 : r2.Ok w ∧ Away gx r2 ∧ Away gr r2) : TaSt w0 (w.setCells gx 32 [r1.val, r2.val]) gn kind p n c q m f gr gx { kd with lo := r1, hi := r2 } := by
  refine h.turn (kd_box h.row h.ok.len) (only_cells _ _ _ _) rfl (fun r hr => ?_) h.ok.live h.ok.size
  simp only [Kd.rows, List.mem_cons, List.not_mem_nil, or_false] at hr
  rcases hr with rfl | rfl | rfl
  · exact h1
  · exact h2
  · exact h.rows _ (by simp [Kd.rows])
end
theorem kdN_len (x : Int) (r : Rw) : (⟨zeros 32, ⟨none, 0, 0, []⟩, ⟨none, 0, 0, []⟩, 0, x, r⟩ : Kd).cells.length = 37 := Kd.cells_length (by simp [zeros])
section
variable {w0 w w' : World} {gn kind : Nat} {p : Option Addr} {n c : Nat} {q : Option Addr} {m f gr gx : Nat}
theorem ta_start {r : Rw} {x : Int} {O : Array Value} (hn : NodeAt w gn kind p n c q m f) (hr : w.heap[gr]? = some (.cells kd0.cells.toArray 43 (0, 0))) (hx : w.heap[gx]? = some (.cells O 43 (0, 0))) (hro : r.Ok w ∧ Away gx r ∧ Away gr r) (hl : Below w0.heap.size w0 w) (ge : w0.heap.size ≤ gn ∧ w0.heap.size ≤ gr ∧ w0.heap.size ≤ gx) (ne : gn ≠ gx ∧ gr ≠ gx ∧ gn ≠ gr) (h64 : In64 x) :
    TaSt w0 (w.setRow gx (⟨zeros 32, ⟨none, 0, 0, []⟩, ⟨none, 0, 0, []⟩, 0, x, r⟩ : Kd).cells.toArray) gn kind p n c q m f gr gx ⟨zeros 32, ⟨none, 0, 0, []⟩, ⟨none, 0, 0, []⟩, 0, x, r⟩ := by
  have hb : Below gx w (w.setRow gx (⟨zeros 32, ⟨none, 0, 0, []⟩, ⟨none, 0, 0, []⟩, 0, x, r⟩ : Kd).cells.toArray) := Below.setRow (Below.refl _ _) (Nat.le_refl _) _
  refine ⟨⟨(setRow_other _ _ _ _ ne.1).trans hn.row⟩, (setRow_other _ _ _ _ ne.2.1).trans hr, setRow_heap _ _ _ _ _ _ hx, ⟨by simp [zeros], zeros_ok 32, rw0_ok _, rw0_ok _, rw_keep hro.1 (fun y hy hR => setRow_other _ _ _ _ (hro.2.1 y hy hR)), ⟨by show -9223372036854775808 ≤ (0 : Int); omega, by show (0 : Int) ≤ 9223372036854775807; omega⟩, h64⟩, fun r' hr' => ?_, hl.trans (hb.mono ge.2.2), ge, ne⟩
  simp only [Kd.rows, List.mem_cons, List.not_mem_nil, or_false] at hr'
  rcases hr' with rfl | rfl | rfl
  · exact ⟨away_nil _ rfl, away_nil _ rfl⟩
  · exact ⟨away_nil _ rfl, away_nil _ rfl⟩
  · exact hro.2
theorem IBx : (Tryz.prog.info? 41).map (·.size) = some 2 := by kernel_rfl
theorem box_one (r1 r2 : Rw) : (#[r1.val, r2.val] : Array Value).all (·.oneCell') = true := by
  simp [Rw.val, Value.oneCell']
end
theorem op_buildN {P : Program} {ρ : Operand → Value} {o : Oper} {t : TypeId} {parts : Array (Nat × Operand)} {cells : Array Value} (ho : o.op = .build t parts) (h : P.built t (parts.map fun (i, x) => (i, ρ x)).toList = some cells) (w : World) :
    (execOp ρ o).run P w = .ok (.value (.agg cells)) w := by
  unfold execOp
  simp only [ho, Sem.run_bind, run_build w t _ cells h, Result.andThen_ok, Sem.run_pure]
theorem kd_built (x : Int) (p : Option Addr) (n c : Nat) (R : List Int) : Tryz.prog.built 43 [(3, .int .i64 x), (4, .slice p n c)] = some (⟨zeros 32, ⟨none, 0, 0, []⟩, ⟨none, 0, 0, []⟩, 0, x, ⟨p, n, c, R⟩⟩ : Kd).cells.toArray := by kernel_rfl
end Go.Proofs.YtfkpgildeddhaaaGreat.Nd

/- box.pair. -/
namespace Go.Proofs.YtfkpgildeddhaaaGreat
open Go.RowKit

/-- Whether both boxes are right, and of as many dimensions. -/
def pairB (R S T U : List Int) (n m k l : Nat) : Bool := rightB R S n m n && rightB T U k l n
theorem pairB_dims {R S T U : List Int} {n m k l : Nat} (h : pairB R S T U n m k l = true) : 1 ≤ n ∧ n ≤ 8 ∧ m = n ∧ k = n ∧ l = n := by
  unfold pairB at h
  rw [Bool.and_eq_true] at h
  have h1 := rightB_dims h.1
  have h2 := rightB_dims h.2
  omega
theorem box_two (w : World) (v u v2 u2 : Value) : ∀ w2, w2 = (w.alloc (.cells #[v, u] 41)).alloc (.cells #[v2, u2] 41) →
    (w2.cell? ⟨w.heap.size, 0, none⟩ = some v ∧ w2.cell? ⟨w.heap.size, 1, none⟩ = some u ∧ w2.cell? ⟨w.heap.size + 1, 0, none⟩ = some v2 ∧ w2.cell? ⟨w.heap.size + 1, 1, none⟩ = some u2) ∧ Below w.heap.size w w2 ∧ w2.heap.size = w.heap.size + 2 := by
  rintro w2 rfl
  obtain ⟨a0, a1⟩ := pair_alloc w v u 41
  have hs : (w.alloc (.cells #[v, u] 41)).heap.size = w.heap.size + 1 := by simp
  have hb1 : Below w.heap.size w (w.alloc (.cells #[v, u] 41)) := (Below.refl _ _).alloc (Nat.le_refl _) _
  generalize w.alloc (.cells #[v, u] 41) = w1 at *
  obtain ⟨b0, b1⟩ := pair_alloc w1 v2 u2 41
  have hb2 : Below w1.heap.size w1 (w1.alloc (.cells #[v2, u2] 41)) := (Below.refl _ _).alloc (Nat.le_refl _) _
  rw [hs] at b0 b1
  exact ⟨⟨(hb2.cell (p := ⟨w.heap.size, 0, none⟩) (by show w.heap.size < _; omega)).trans a0, (hb2.cell (p := ⟨w.heap.size, 1, none⟩) (by show w.heap.size < _; omega)).trans a1, b0, b1⟩, hb1.trans (hb2.mono (by omega)), by simp; omega⟩
/-- Two boxes that lie boxed, and their corners. -/
structure Four (w0 w : World) (a b : Nat) (p q r s : Option Addr) (n c m e k f l g : Nat) (R S T U : List Int) : Prop where
  ba : BoxAt w a p n c q m e
  bb : BoxAt w b r k f s l g
  la : a < w.heap.size
  lb : b < w.heap.size
  i1 : Ints w p n c R
  i2 : Ints w q m e S
  i3 : Ints w r k f T
  i4 : Ints w s l g U
  below : Below w0.heap.size w0 w
theorem Four.later {w0 w w' : World} {a b : Nat} {p q r s : Option Addr} {n c m e k f l g : Nat} {R S T U : List Int} (h : Four w0 w a b p q r s n c m e k f l g R S T U) (hb : Below w.heap.size w w') : Four w0 w' a b p q r s n c m e k f l g R S T U :=
  ⟨⟨(hb.cell (p := ⟨a, 0, none⟩) h.la).trans h.ba.1, (hb.cell (p := ⟨a, 1, none⟩) h.la).trans h.ba.2⟩, ⟨(hb.cell (p := ⟨b, 0, none⟩) h.lb).trans h.bb.1, (hb.cell (p := ⟨b, 1, none⟩) h.lb).trans h.bb.2⟩, Nat.lt_of_lt_of_le h.la hb.size, Nat.lt_of_lt_of_le h.lb hb.size,
    h.i1.later hb, h.i2.later hb, h.i3.later hb, h.i4.later hb, h.below.trans (hb.mono h.below.size)⟩
theorem four_of {w w2 : World} {p q r s : Option Addr} {n c m e k f l g : Nat} {R S T U : List Int} (h1 : Ints w p n c R) (h2 : Ints w q m e S) (h3 : Ints w r k f T) (h4 : Ints w s l g U)
    (h : w2 = (w.alloc (.cells #[.slice p n c, .slice q m e] 41)).alloc (.cells #[.slice r k f, .slice s l g] 41)) : Four w w2 w.heap.size (w.heap.size + 1) p q r s n c m e k f l g R S T U := by
  obtain ⟨⟨a0, a1, a2, a3⟩, hb, hs⟩ := box_two w _ _ _ _ w2 h
  exact ⟨⟨a0, a1⟩, ⟨a2, a3⟩, by omega, by omega, h1.later hb, h2.later hb, h3.later hb, h4.later hb, hb⟩
set_option maxRecDepth 100000 in
set_option maxHeartbeats 1000000 in
theorem pair_any (p q r s : Option Addr) (n c m e k f l g : Nat) (R S T U : List Int) (w : World) (h1 : Ints w p n c R) (h2 : Ints w q m e S) (h3 : Ints w r k f T) (h4 : Ints w s l g U) :
    Calls Tryz.prog 99 #[.agg #[.slice p n c, .slice q m e], .agg #[.slice r k f, .slice s l g]] w fun e w' => e = .returned (.bool (pairB R S T U n m k l)) ∧ Below w.heap.size w w' := by
  go_enter Tryz.func99, Tryz.ntmps99
  go_upto_region 1 with fail
  obtain ⟨w2, hw2⟩ : ∃ w2, w2 = (w.alloc (.cells #[.slice p n c, .slice q m e] 41)).alloc (.cells #[.slice r k f, .slice s l g] 41) := ⟨_, rfl⟩
  have HF := Lib.hid (four_of h1 h2 h3 h4 hw2)
  rw [← hw2]
  clear hw2 h1 h2 h3 h4
  have b := HF.out.ba
  obtain ⟨b0, b1⟩ := b
  have b := HF.out.bb
  obtain ⟨b2, b3⟩ := b
  go_wp2_with fail
  refine (right_any p q n c m e R S n w2 HF.out.i1 HF.out.i2).mono ?_
  rintro _ w3 ⟨rfl, hb3⟩
  have HG := Lib.hid (HF.out.later hb3)
  clear hb3 HF b0 b1 b2 b3
  have b := HG.out.ba
  obtain ⟨b0, b1⟩ := b
  have b := HG.out.bb
  obtain ⟨b2, b3⟩ := b
  cases hr : rightB R S n m n with
  | false =>
    have HR := Lib.hid (show pairB R S T U n m k l = false by unfold pairB; rw [hr]; rfl)
    clear hr
    go_wp2_with fail
    go_ret
    exact ⟨congrArg (fun b => Ending.returned (.bool b)) HR.out.symm, HG.out.below⟩
  | true =>
    have HR := Lib.hid (show pairB R S T U n m k l = rightB T U k l n by unfold pairB; rw [hr]; rfl)
    clear hr
    go_wp2_with fail
    refine (right_any r s k f l g T U n w3 HG.out.i3 HG.out.i4).mono ?_
    rintro _ w4 ⟨rfl, hb4⟩
    have HB := Lib.hid (HG.out.below.trans (hb4.mono HG.out.below.size))
    clear hb4
    go_wp2_with fail
    go_ret
    exact ⟨congrArg (fun b => Ending.returned (.bool b)) HR.out.symm, HB.out⟩
end Go.Proofs.YtfkpgildeddhaaaGreat

/- box.build over whatever function of the sides. -/
namespace Go.Proofs.YtfkpgildeddhaaaGreat
open Go.RowKit

def i64s (l : List Int) : Array Value := (l.map fun x => Value.int .i64 x).toArray
/-- The first k numbers told, the others 0. -/
def part (f : Nat → Int) (n k : Nat) : List Int := (List.range n).map fun i => if i < k then f i else 0
theorem part_length (f : Nat → Int) (n k : Nat) : (part f n k).length = n := by simp [part]
theorem part_get (f : Nat → Int) (n k i : Nat) (hi : i < n) : (part f n k).getD i 0 = if i < k then f i else 0 := by
  simp [part, List.getD_eq_getElem?_getD, hi]
theorem i64s_get (l : List Int) (i : Nat) (h : i < l.length) : (i64s l)[i]? = some (.int .i64 (l.getD i 0)) := by
  simp [i64s, List.getD_eq_getElem?_getD, List.getElem?_eq_getElem h]
theorem part_set (f : Nat → Int) (n k : Nat) : (i64s (part f n k)).setIfInBounds k (.int .i64 (f k)) = i64s (part f n (k + 1)) := by
  apply Array.ext'
  simp only [i64s, part, Array.toList_setIfInBounds, List.map_map]
  apply List.ext_getElem (by simp)
  intro i h1 h2
  rw [List.getElem_set]
  simp only [List.length_map, List.length_range] at h2
  by_cases hk : k = i
  · subst hk; simp
  · simp only [hk, if_false, List.getElem_map, List.getElem_range, Function.comp]
    by_cases h3 : i < k
    · rw [if_pos h3, if_pos (by omega)]
    · rw [if_neg h3, if_neg (by omega)]
/-- A row of a call's own. -/
def RowAt (w : World) (g : Nat) (L : List Int) : Prop := w.heap[g]? = some (.cells (i64s L) 2 (0, 0))
theorem RowAt.cell {w : World} {g : Nat} {L : List Int} (h : RowAt w g L) (i : Nat) (hi : i < L.length) : w.cell? ⟨g, i, none⟩ = some (.int .i64 (L.getD i 0)) := by
  rw [cell_of_row w g i _ _ _ h, i64s_get L i hi]
theorem RowAt.free {w : World} {g : Nat} {L : List Int} (h : RowAt w g L) (i : Nat) : w.frozen? ⟨g, i, none⟩ = false := frozen_of_row w g i _ _ h
theorem RowAt.lt {w : World} {g : Nat} {L : List Int} (h : RowAt w g L) : g < w.heap.size := (Array.getElem?_eq_some_iff.1 h).1
theorem RowAt.later {w w' : World} {g : Nat} {L : List Int} (h : RowAt w g L) {n : Nat} (hb : Below n w w') (hn : g < n) : RowAt w' g L := (hb.block _ hn).trans h
theorem RowAt.ints {w : World} {g : Nat} {L : List Int} (h : RowAt w g L) (hL : ∀ x ∈ L, -9223372036854775808 ≤ x ∧ x ≤ 9223372036854775807) : Ints w (some ⟨g, 0, none⟩) L.length L.length L :=
  ⟨rfl, Nat.le_refl _, hL, Or.inr ⟨g, 0, rfl, fun i hi => by rw [Nat.zero_add]; exact h.cell i hi⟩⟩
theorem made_part (f : Nat → Int) (n : Nat) : madeCells (Value.cells (.int .i64 0)) n = i64s (part f n 0) := by
  apply Array.ext
  · simp [size_madeCells, i64s, part, Value.cells]
  · intro i h1 h2
    simp [madeCells, i64s, part, Value.cells, Nat.mod_one]
theorem A23 : Tryz.prog.underlying 39 = some (.slice 2) := by kernel_rfl
theorem I2i : (Tryz.prog.info? 2).map (fun i => (i.zero, i.size, i.bytes)) = some (some (.int .i64 0), 1, 8) := by kernel_rfl
theorem make_row (n : Nat) (h8 : n ≤ 8) (f : Nat → Int) (w : World) : (Instr.makeSlice 39 (.int .i64 n) (.int .i64 n)).run Tryz.prog w = .ok (.slice (some ⟨w.heap.size, 0, none⟩) n n) (w.alloc (.cells (i64s (part f n 0)) 2)) := by
  obtain ⟨i2, hi, hi0, hi1, hi2⟩ := info_parts I2i
  have := run_make (P := Tryz.prog) w 39 2 i2 _ A23 hi hi0 .i64 .i64 n n (by omega) (by omega) (by rw [hi2]; omega) (by omega)
  rw [this, hi1]
  simp only [Int.toNat_natCast, Nat.mul_one, made_part f]
theorem part_zero (f g : Nat → Int) (n : Nat) : part f n 0 = part g n 0 := by simp [part]
/-- What lies behind the three that the call makes. -/
structure Made (w : World) (g1 g2 gb n : Nat) (L M : List Int) (wx : World) : Prop where
  r1 : RowAt wx g1 L
  r2 : RowAt wx g2 M
  bx : wx.heap[gb]? = some (.cells #[.slice (some ⟨g1, 0, none⟩) n n, .slice (some ⟨g2, 0, none⟩) n n] 41 (0, 0))
  res : wx.heap[w.heap.size]? = some (.cells #[.slice none 0 0, .slice none 0 0] 41 (0, 0))
  ne : (g1 ≠ g2 ∧ g1 ≠ gb ∧ g2 ≠ gb) ∧ w.heap.size < g1 ∧ w.heap.size < g2 ∧ w.heap.size < gb
  below : Below w.heap.size w wx
/-- What the function of a side tells: two numbers. -/
def Sides (w : World) (n : Nat) (f g : Nat → Int) (F : Nat) (cap : Array Value) : Prop :=
  ∀ (k : Nat) (w' : World), k < n → Below w.heap.size w w' → Calls Tryz.prog F (#[.int .i64 k] ++ cap) w' fun e w'' => e = .returned (.tuple #[.int .i64 (f k), .int .i64 (g k)]) ∧ ∃ j, w'' = w'.drewN j
theorem heap3 (w : World) (a b c : Array Value) (ta tb tc : TypeId) :
    (((w.alloc (.cells a ta)).alloc (.cells b tb)).alloc (.cells c tc)).drew.heap[w.heap.size]? = some (.cells a ta (0, 0)) ∧ (((w.alloc (.cells a ta)).alloc (.cells b tb)).alloc (.cells c tc)).drew.heap[w.heap.size + 1]? = some (.cells b tb (0, 0)) ∧
    (((w.alloc (.cells a ta)).alloc (.cells b tb)).alloc (.cells c tc)).drew.heap[w.heap.size + 1 + 1]? = some (.cells c tc (0, 0)) ∧ Below w.heap.size w (((w.alloc (.cells a ta)).alloc (.cells b tb)).alloc (.cells c tc)).drew := by
  have s1 : (w.alloc (.cells a ta)).heap.size = w.heap.size + 1 := by simp
  have s2 : ((w.alloc (.cells a ta)).alloc (.cells b tb)).heap.size = w.heap.size + 1 + 1 := by simp
  have h1 := heap_alloc_new w (.cells a ta)
  have b1 : Below w.heap.size w (w.alloc (.cells a ta)) := (Below.refl _ _).alloc (Nat.le_refl _) _
  generalize w.alloc (.cells a ta) = w1 at *
  have h2 := heap_alloc_new w1 (.cells b tb)
  have b2 : Below w1.heap.size w1 (w1.alloc (.cells b tb)) := (Below.refl _ _).alloc (Nat.le_refl _) _
  generalize w1.alloc (.cells b tb) = w2 at *
  have h3 := heap_alloc_new w2 (.cells c tc)
  have b3 : Below w2.heap.size w2 (w2.alloc (.cells c tc)) := (Below.refl _ _).alloc (Nat.le_refl _) _
  generalize w2.alloc (.cells c tc) = w3 at *
  rw [s1] at h2
  rw [s2] at h3
  exact ⟨(b3.block _ (by omega)).trans ((b2.block _ (by omega)).trans h1), (b3.block _ (by omega)).trans h2, h3, (b1.trans ((b2.trans (b3.mono (by omega))).mono (by omega))).drew⟩
theorem made_mk {w w1 W : World} {g1 g2 gb n : Nat} {L M : List Int} (hr : w1.heap[w.heap.size]? = some (.cells #[.slice none 0 0, .slice none 0 0] 41 (0, 0))) (hb : Below w.heap.size w w1) (hsz : w1.heap.size = w.heap.size + 1) (hW : Below w1.heap.size w1 W)
    (r1 : RowAt W g1 L) (r2 : RowAt W g2 M) (bx : W.heap[gb]? = some (.cells #[.slice (some ⟨g1, 0, none⟩) n n, .slice (some ⟨g2, 0, none⟩) n n] 41 (0, 0))) (ne : (g1 ≠ g2 ∧ g1 ≠ gb ∧ g2 ≠ gb) ∧ w1.heap.size ≤ g1 ∧ w1.heap.size ≤ g2 ∧ w1.heap.size ≤ gb) : Made w g1 g2 gb n L M W :=
  ⟨r1, r2, bx, (hW.block _ (by omega)).trans hr, ⟨ne.1, by omega, by omega, by omega⟩, hb.trans (hW.mono (by omega))⟩
/-- Which of three new blocks it is. -/
def At3 (sz : Nat) (a b c : Array Value × TypeId) (g : Nat) (x : Array Value × TypeId) : Prop := (g = sz ∧ x = a) ∨ (g = sz + 1 ∧ x = b) ∨ (g = sz + 1 + 1 ∧ x = c)
theorem made_3 {w w1 : World} {a b c : Array Value} {ta tb tc : TypeId} {g1 g2 gb n : Nat} {L M : List Int} (hr : w1.heap[w.heap.size]? = some (.cells #[.slice none 0 0, .slice none 0 0] 41 (0, 0))) (hb : Below w.heap.size w w1) (hsz : w1.heap.size = w.heap.size + 1)
    (h3 : At3 w1.heap.size (a, ta) (b, tb) (c, tc) gb (#[.slice (some ⟨g1, 0, none⟩) n n, .slice (some ⟨g2, 0, none⟩) n n], 41)) (h1 : At3 w1.heap.size (a, ta) (b, tb) (c, tc) g1 (i64s L, 2)) (h2 : At3 w1.heap.size (a, ta) (b, tb) (c, tc) g2 (i64s M, 2)) (ne : g1 ≠ g2 ∧ g1 ≠ gb ∧ g2 ≠ gb) :
    Made w g1 g2 gb n L M (((w1.alloc (.cells a ta)).alloc (.cells b tb)).alloc (.cells c tc)).drew := by
  obtain ⟨q1, q2, q3, q4⟩ := heap3 w1 a b c ta tb tc
  have key : ∀ g x, At3 w1.heap.size (a, ta) (b, tb) (c, tc) g x → (((w1.alloc (.cells a ta)).alloc (.cells b tb)).alloc (.cells c tc)).drew.heap[g]? = some (.cells x.1 x.2 (0, 0)) ∧ w1.heap.size ≤ g := by
    rintro g x (⟨rfl, rfl⟩ | ⟨rfl, rfl⟩ | ⟨rfl, rfl⟩)
    · exact ⟨q1, Nat.le_refl _⟩
    · exact ⟨q2, by omega⟩
    · exact ⟨q3, by omega⟩
  exact made_mk hr hb hsz q4 (key _ _ h1).1 (key _ _ h2).1 (key _ _ h3).1 ⟨ne, (key _ _ h1).2, (key _ _ h2).2, (key _ _ h3).2⟩
theorem Made.later {w w' wx : World} {g1 g2 gb n : Nat} {L M : List Int} (h : Made w g1 g2 gb n L M wx) (hb : Below wx.heap.size wx w') : Made w g1 g2 gb n L M w' :=
  ⟨h.r1.later hb h.r1.lt, h.r2.later hb h.r2.lt, (hb.block _ (Array.getElem?_eq_some_iff.1 h.bx).1).trans h.bx, (hb.block _ (Array.getElem?_eq_some_iff.1 h.res).1).trans h.res, h.ne, h.below.trans (hb.mono h.below.size)⟩
theorem Made.set {w wx : World} {g1 g2 gb n k : Nat} {f g : Nat → Int} (h : Made w g1 g2 gb n (part f n k) (part g n k) wx) :
    Made w g1 g2 gb n (part f n (k + 1)) (part g n (k + 1)) ((wx.setCell ⟨g1, k, none⟩ (.int .i64 (f k))).setCell ⟨g2, k, none⟩ (.int .i64 (g k))) := by
  have h1 := heap_setCell_same wx g1 k _ _ (.int .i64 (f k)) h.r1
  rw [part_set] at h1
  have h2 : RowAt (wx.setCell ⟨g1, k, none⟩ (.int .i64 (f k))) g2 (part g n k) := (heap_setCell_other _ _ _ _ (Ne.symm h.ne.1.1)).trans h.r2
  have h3 := heap_setCell_same _ g2 k _ _ (.int .i64 (g k)) h2
  rw [part_set] at h3
  have o : ∀ b, b ≠ g1 → b ≠ g2 → ((wx.setCell ⟨g1, k, none⟩ (.int .i64 (f k))).setCell ⟨g2, k, none⟩ (.int .i64 (g k))).heap[b]? = wx.heap[b]? := fun b n1 n2 => (heap_setCell_other _ _ _ _ n2).trans (heap_setCell_other _ _ _ _ n1)
  exact ⟨(heap_setCell_other _ _ _ _ h.ne.1.1).trans h1, h3, (o _ (Ne.symm h.ne.1.2.1) (Ne.symm h.ne.1.2.2)).trans h.bx, (o _ (Nat.ne_of_lt h.ne.2.1) (Nat.ne_of_lt h.ne.2.2.1)).trans h.res, h.ne,
    (h.below.setCell (p := ⟨g1, k, none⟩) (Nat.le_of_lt h.ne.2.1) _).setCell (p := ⟨g2, k, none⟩) (Nat.le_of_lt h.ne.2.2.1) _⟩
/-- What a round reads and writes. -/
structure MadeCells (g1 g2 gb n k : Nat) (x y u : Value) (wx : World) : Prop where
  b0 : wx.cell? ⟨gb, 0, none⟩ = some (.slice (some ⟨g1, 0, none⟩) n n)
  b1 : wx.cell? ⟨gb, 1, none⟩ = some (.slice (some ⟨g2, 0, none⟩) n n)
  c1 : wx.cell? ⟨g1, k, none⟩ = some x
  c2 : wx.cell? ⟨g2, k, none⟩ = some y
  f1 : wx.frozen? ⟨g1, k, none⟩ = false
  f2 : wx.frozen? ⟨g2, k, none⟩ = false
  d1 : (wx.setCell ⟨g1, k, none⟩ u).cell? ⟨gb, 1, none⟩ = some (.slice (some ⟨g2, 0, none⟩) n n)
  e2 : (wx.setCell ⟨g1, k, none⟩ u).cell? ⟨g2, k, none⟩ = some y
  g2 : (wx.setCell ⟨g1, k, none⟩ u).frozen? ⟨g2, k, none⟩ = false
theorem Made.cells {w wx : World} {g1 g2 gb n k : Nat} {L M : List Int} (h : Made w g1 g2 gb n L M wx) (hL : k < L.length) (hM : k < M.length) (u : Value) : MadeCells g1 g2 gb n k (.int .i64 (L.getD k 0)) (.int .i64 (M.getD k 0)) u wx := by
  have hb : (wx.setCell ⟨g1, k, none⟩ u).heap[gb]? = _ := (heap_setCell_other _ _ _ _ (Ne.symm h.ne.1.2.1)).trans h.bx
  have h2 : RowAt (wx.setCell ⟨g1, k, none⟩ u) g2 M := (heap_setCell_other _ _ _ _ (Ne.symm h.ne.1.1)).trans h.r2
  exact ⟨cell_of_row wx gb 0 _ _ _ h.bx, cell_of_row wx gb 1 _ _ _ h.bx, h.r1.cell k hL, h.r2.cell k hM, h.r1.free k, h.r2.free k, cell_of_row _ gb 1 _ _ _ hb, h2.cell k hM, h2.free k⟩
theorem Made.done {w wx : World} {g1 g2 gb n : Nat} {L M : List Int} (h : Made w g1 g2 gb n L M wx) :
    (wx.cell? ⟨gb, 0, none⟩ = some (.slice (some ⟨g1, 0, none⟩) n n) ∧ wx.cell? ⟨gb, 1, none⟩ = some (.slice (some ⟨g2, 0, none⟩) n n) ∧ wx.cell? ⟨w.heap.size, 0, none⟩ = some (.slice none 0 0) ∧ wx.cell? ⟨w.heap.size, 1, none⟩ = some (.slice none 0 0) ∧ wx.frozen? ⟨w.heap.size, 0, none⟩ = false ∧ wx.frozen? ⟨w.heap.size, 1, none⟩ = false) ∧
    ((wx.setCell ⟨w.heap.size, 0, none⟩ (.slice (some ⟨g1, 0, none⟩) n n)).setCell ⟨w.heap.size, 1, none⟩ (.slice (some ⟨g2, 0, none⟩) n n)).heap[w.heap.size]? = some (.cells #[.slice (some ⟨g1, 0, none⟩) n n, .slice (some ⟨g2, 0, none⟩) n n] 41 (0, 0)) ∧
    (RowAt ((wx.setCell ⟨w.heap.size, 0, none⟩ (.slice (some ⟨g1, 0, none⟩) n n)).setCell ⟨w.heap.size, 1, none⟩ (.slice (some ⟨g2, 0, none⟩) n n)) g1 L ∧ RowAt ((wx.setCell ⟨w.heap.size, 0, none⟩ (.slice (some ⟨g1, 0, none⟩) n n)).setCell ⟨w.heap.size, 1, none⟩ (.slice (some ⟨g2, 0, none⟩) n n)) g2 M ∧ w.heap.size < g1 ∧ w.heap.size < g2 ∧ g1 ≠ g2 ∧
      Below w.heap.size w ((wx.setCell ⟨w.heap.size, 0, none⟩ (.slice (some ⟨g1, 0, none⟩) n n)).setCell ⟨w.heap.size, 1, none⟩ (.slice (some ⟨g2, 0, none⟩) n n))) := by
  have h1 := heap_setCell_same wx w.heap.size 0 _ _ (.slice (some ⟨g1, 0, none⟩) n n) h.res
  have h2 := heap_setCell_same _ w.heap.size 1 _ _ (.slice (some ⟨g2, 0, none⟩) n n) h1
  have o : ∀ b, b ≠ w.heap.size → ((wx.setCell ⟨w.heap.size, 0, none⟩ (.slice (some ⟨g1, 0, none⟩) n n)).setCell ⟨w.heap.size, 1, none⟩ (.slice (some ⟨g2, 0, none⟩) n n)).heap[b]? = wx.heap[b]? := fun b nb => (heap_setCell_other _ _ _ _ nb).trans (heap_setCell_other _ _ _ _ nb)
  exact ⟨⟨cell_of_row wx gb 0 _ _ _ h.bx, cell_of_row wx gb 1 _ _ _ h.bx, cell_of_row wx _ 0 _ _ _ h.res, cell_of_row wx _ 1 _ _ _ h.res, frozen_of_row wx _ 0 _ _ h.res, frozen_of_row wx _ 1 _ _ h.res⟩, h2,
    (o _ (Nat.ne_of_gt h.ne.2.1)).trans h.r1, (o _ (Nat.ne_of_gt h.ne.2.2.1)).trans h.r2, h.ne.2.1, h.ne.2.2.1, h.ne.1.1, (h.below.setCell (p := ⟨w.heap.size, 0, none⟩) (Nat.le_refl _) _).setCell (p := ⟨w.heap.size, 1, none⟩) (Nat.le_refl _) _⟩
theorem ret_box {fn : Func} {P : Ending → World → Prop} (p : Tmp) (hr : fn.results = #[.cell p 41]) {tmps : Array Value} {w : World} (g : Nat) (a b : Value)
    (hp : tmps.getD p undef = .pointer (some ⟨g, 0, none⟩)) (hg : w.heap[g]? = some (.cells #[a, b] 41 (0, 0))) (h : P (.returned (.agg #[a, b])) w) : bodyPost Tryz.prog fn P .ret ⟨tmps, []⟩ w := by
  have r0 := cell_of_row w g 0 _ _ _ hg
  have r1 := cell_of_row w g 1 _ _ _ hg
  refine bodyPost_ret (a := ⟨tmps, []⟩) (v := .agg #[a, b]) ?_ rfl h
  have hp' : tmps[p]?.getD undef = .pointer (some ⟨g, 0, none⟩) := by simpa using hp
  simp [results, hr, hp', go_sem, r0, r1]
def BuildRel (w : World) (g1 g2 gb n : Nat) (f g : Nat → Int) (i : Value) (wr : World) : Prop := ∃ k, k ≤ n ∧ i = .int .i64 k ∧ Made w g1 g2 gb n (part f n k) (part g n k) wr
set_option maxRecDepth 100000 in
set_option maxHeartbeats 4000000 in
theorem build_any (n : Nat) (h1 : 1 ≤ n) (h8 : n ≤ 8) (f g : Nat → Int) (F : Nat) (cap : Array Value) (hF : ∀ args w, (callFunc F args).run Tryz.prog w = .ok (.enter F args) w) (w : World) (hs : Sides w n f g F cap) :
    Calls Tryz.prog 100 #[.int .i64 n, .func (.func F) #[] cap] w fun e w' => ∃ g1 g2 : Nat, e = .returned (.agg #[.slice (some ⟨g1, 0, none⟩) n n, .slice (some ⟨g2, 0, none⟩) n n]) ∧ RowAt w' g1 (part f n n) ∧ RowAt w' g2 (part g n n) ∧ w.heap.size < g1 ∧ w.heap.size < g2 ∧ g1 ≠ g2 ∧ Below w.heap.size w w' := by
  have HS := Lib.hid hs
  clear hs
  have M1 := make_row n h8 f
  go_enter Tryz.func100, Tryz.ntmps100
  go_upto_region 1 with fail
  have hr : (w.alloc (.cells #[.slice none 0 0, .slice none 0 0] 41)).heap[w.heap.size]? = some (.cells #[.slice none 0 0, .slice none 0 0] 41 (0, 0)) := heap_alloc_new w _
  have hb : Below w.heap.size w (w.alloc (.cells #[.slice none 0 0, .slice none 0 0] 41)) := (Below.refl _ _).alloc (Nat.le_refl _) _
  have hsz : (w.alloc (.cells #[.slice none 0 0, .slice none 0 0] 41)).heap.size = w.heap.size + 1 := by simp
  generalize w.alloc (.cells #[.slice none 0 0, .slice none 0 0] 41) = w1 at *
  have HR := Lib.hid hr
  have HB := Lib.hid hb
  have HSZ := Lib.hid hsz
  clear hr hb hsz
  go_cut [5] (fun s5 wx => ∃ g1 g2 gb, s5 = .pointer (some ⟨gb, 0, none⟩) ∧ Made w g1 g2 gb n (part f n 0) (part f n 0) wx)
  case first =>
    go_region
    all_goals
      go_wp2_with fail
      go_meet
      first
        | exact ⟨w1.heap.size, w1.heap.size + 1, w1.heap.size + 1 + 1, rfl, made_3 HR.out HB.out HSZ.out (Or.inr (Or.inr ⟨rfl, rfl⟩)) (Or.inl ⟨rfl, rfl⟩) (Or.inr (Or.inl ⟨rfl, rfl⟩)) (by omega)⟩
        | exact ⟨w1.heap.size, w1.heap.size + 1 + 1, w1.heap.size + 1, rfl, made_3 HR.out HB.out HSZ.out (Or.inr (Or.inl ⟨rfl, rfl⟩)) (Or.inl ⟨rfl, rfl⟩) (Or.inr (Or.inr ⟨rfl, rfl⟩)) (by omega)⟩
        | exact ⟨w1.heap.size + 1, w1.heap.size, w1.heap.size + 1 + 1, rfl, made_3 HR.out HB.out HSZ.out (Or.inr (Or.inr ⟨rfl, rfl⟩)) (Or.inr (Or.inl ⟨rfl, rfl⟩)) (Or.inl ⟨rfl, rfl⟩) (by omega)⟩
        | exact ⟨w1.heap.size + 1, w1.heap.size + 1 + 1, w1.heap.size, rfl, made_3 HR.out HB.out HSZ.out (Or.inl ⟨rfl, rfl⟩) (Or.inr (Or.inl ⟨rfl, rfl⟩)) (Or.inr (Or.inr ⟨rfl, rfl⟩)) (by omega)⟩
        | exact ⟨w1.heap.size + 1 + 1, w1.heap.size, w1.heap.size + 1, rfl, made_3 HR.out HB.out HSZ.out (Or.inr (Or.inl ⟨rfl, rfl⟩)) (Or.inr (Or.inr ⟨rfl, rfl⟩)) (Or.inl ⟨rfl, rfl⟩) (by omega)⟩
        | exact ⟨w1.heap.size + 1 + 1, w1.heap.size + 1, w1.heap.size, rfl, made_3 HR.out HB.out HSZ.out (Or.inl ⟨rfl, rfl⟩) (Or.inr (Or.inr ⟨rfl, rfl⟩)) (Or.inr (Or.inl ⟨rfl, rfl⟩)) (by omega)⟩
  case rest =>
    obtain ⟨g1, g2, gb, rfl, hm⟩ := hcut
    have HM := Lib.hid (show Made w g1 g2 gb n (part f n 0) (part g n 0) _ from by rw [← part_zero f g n]; exact hm)
    clear hm HR HB HSZ M1
    clear w1
    go_wp2_with fail
    go_loopw [13] (fun i wr => BuildRel w g1 g2 gb n f g i wr) (fun i _ => n - (intOf i).toNat)
    case atStart => exact ⟨0, by omega, rfl, HM.out⟩
    case round =>
      obtain ⟨k, hk, rfl, hm⟩ := hrel
      clear HM
      have HM := Lib.hid hm
      clear hm
      by_cases hlt : k < n
      · have HC := Lib.hid (show ∀ w', Made w g1 g2 gb n (part f n k) (part g n k) w' → Calls Tryz.prog F (#[.int .i64 k] ++ cap) w' fun e w'' => e = .returned (.tuple #[.int .i64 (f k), .int .i64 (g k)]) ∧ Made w g1 g2 gb n (part f n k) (part g n k) w'' from fun w' hw' =>
          (HS.out k w' hlt hw'.below).mono (by rintro e w'' ⟨h1, j, rfl⟩; exact ⟨h1, hw'.later (Below.drewN (Below.refl _ _) j)⟩))
        have HX := Lib.hid (show ∀ w', Made w g1 g2 gb n (part f n k) (part g n k) w' → MadeCells g1 g2 gb n k _ _ (.int .i64 (f k)) w' from fun w' hw' => hw'.cells (by rw [part_length]; exact hlt) (by rw [part_length]; exact hlt) _)
        have HT := Lib.hid (show ∀ w', Made w g1 g2 gb n (part f n k) (part g n k) w' → _ from fun w' hw' => hw'.set)
        have HD := Lib.hid (HM.out.later (Below.refl _ _).drew)
        obtain ⟨a0, a1, a2, a3, a4, a5, a6, a7, a8⟩ := HX.out _ HM.out
        generalize (part f n k).getD k 0 = x at *
        generalize (part g n k).getD k 0 = y at *
        have i1 : (0 : Int) ≤ k ∧ (k : Int) < n := by omega
        go_wp2_with fail
        go_region_law (go_simp; refine (HC.out _ (by first | exact HM.out | exact HD.out)).mono ?_; rintro e w5 ⟨rfl, hm5⟩; have HM5 := Lib.hid hm5; obtain ⟨y0, y1, y2, y3, y4, y5, y6, y7, y8⟩ := HX.out _ hm5; clear hm5)
        all_goals
          have hm6 := HT.out _ HM5.out
          generalize (w5.setCell ⟨g1, k, none⟩ (.int .i64 (f k))).setCell ⟨g2, k, none⟩ (.int .i64 (g k)) = w6 at *
          have HM6 := Lib.hid hm6
          clear hm6 y0 y1 y2 y3 y4 y5 y6 y7 y8 a0 a1 a2 a3 a4 a5 a6 a7 a8
          go_wp2_with fail
          go_roundw
          case rel => exact ⟨k + 1, by omega, by go_num, HM6.out⟩
          case measure => simp [intOf]; omega
      · obtain rfl : k = n := by omega
        obtain ⟨hq1, hq2, hq3⟩ := HM.out.done
        have HQ2 := Lib.hid hq2
        have HQ3 := Lib.hid hq3
        obtain ⟨c0, c1, c2, c3, c4, c5⟩ := hq1
        clear hq2 hq3
        go_wp2_with fail
        generalize (wr.setCell ⟨w.heap.size, 0, none⟩ (.slice (some ⟨g1, 0, none⟩) k k)).setCell ⟨w.heap.size, 1, none⟩ (.slice (some ⟨g2, 0, none⟩) k k) = w9 at *
        exact ret_box 4 rfl w.heap.size _ _ rfl HQ2.out ⟨g1, g2, rfl, HQ3.out⟩
end Go.Proofs.YtfkpgildeddhaaaGreat

/- box.Of; a box of a call's own that is laid in the result. -/
namespace Go.Proofs.YtfkpgildeddhaaaGreat
open Go.RowKit

set_option maxRecDepth 100000 in
set_option maxHeartbeats 1000000 in
theorem ofside (B : Nat) (p : Option Addr) (n c : Nat) (R : List Int) (k : Nat) (hk : k < n) (w : World) (hB : w.cell? ⟨B, 0, none⟩ = some (.slice p n c)) (h : Ints w p n c R) :
    Calls Tryz.prog 102 #[.int .i64 k, .pointer (some ⟨B, 0, none⟩)] w fun e w' => e = .returned (.tuple #[.int .i64 (R.getD k 0), .int .i64 (R.getD k 0)]) ∧ ∃ j, w' = w.drewN j := by
  obtain ⟨g1, o1, rfl, hc1⟩ := h.cell k hk
  clear h
  generalize R.getD k 0 = xR at *
  have b1 : (0 : Int) ≤ k ∧ (k : Int) < n := by omega
  go_enter Tryz.func102, Tryz.ntmps102
  go_wp2_with fail
  go_quiet (fail)
  go_wp2_with fail
  go_ret2
  exact ⟨rfl, _, rfl⟩
/-- A block that holds a box. -/
def Bx (w : World) (g : Nat) (a b : Value) : Prop := w.heap[g]? = some (.cells #[a, b] 41 (0, 0))
theorem Bx.facts {w : World} {g : Nat} {a b : Value} (h : Bx w g a b) : w.cell? ⟨g, 0, none⟩ = some a ∧ w.cell? ⟨g, 1, none⟩ = some b ∧ w.frozen? ⟨g, 0, none⟩ = false ∧ w.frozen? ⟨g, 1, none⟩ = false :=
  ⟨cell_of_row w g 0 _ _ _ h, cell_of_row w g 1 _ _ _ h, frozen_of_row w g 0 _ _ h, frozen_of_row w g 1 _ _ h⟩
theorem Bx.set {w : World} {g : Nat} {a b : Value} (h : Bx w g a b) (x y : Value) : Bx ((w.setCell ⟨g, 0, none⟩ x).setCell ⟨g, 1, none⟩ y) g x y :=
  heap_setCell_same _ g 1 _ _ y (heap_setCell_same w g 0 _ _ x h)
theorem Bx.lt {w : World} {g : Nat} {a b : Value} (h : Bx w g a b) : g < w.heap.size := (Array.getElem?_eq_some_iff.1 h).1
theorem Bx.later {w w' : World} {g : Nat} {a b : Value} (h : Bx w g a b) (hb : Below w.heap.size w w') : Bx w' g a b := (hb.block _ h.lt).trans h
theorem Bx.fresh (w : World) (a b : Value) : Bx (w.alloc (.cells #[a, b] 41)) w.heap.size a b := heap_alloc_new w _
theorem RowAt.kept {w : World} {g k : Nat} {L : List Int} (h : RowAt w g L) (hk : g ≠ k) (x y : Value) : RowAt ((w.setCell ⟨k, 0, none⟩ x).setCell ⟨k, 1, none⟩ y) g L :=
  (heap_setCell_other _ _ _ _ hk).trans ((heap_setCell_other _ _ _ _ hk).trans h)
theorem part_ok {f : Nat → Int} {n k : Nat} (h : ∀ i, i < n → -9223372036854775808 ≤ f i ∧ f i ≤ 9223372036854775807) : ∀ x ∈ part f n k, -9223372036854775808 ≤ x ∧ x ≤ 9223372036854775807 := by
  intro x hx
  simp only [part, List.mem_map, List.mem_range] at hx
  obtain ⟨i, hi, rfl⟩ := hx
  split
  · exact h i hi
  · omega
/-- A box of a call's own, made of two functions of the side. -/
def MadeBox (w : World) (f g : Nat → Int) (n : Nat) (v : Value) (w' : World) : Prop :=
  ∃ g1 g2 : Nat, v = .agg #[.slice (some ⟨g1, 0, none⟩) n n, .slice (some ⟨g2, 0, none⟩) n n] ∧ Ints w' (some ⟨g1, 0, none⟩) n n (part f n n) ∧ Ints w' (some ⟨g2, 0, none⟩) n n (part g n n) ∧ Below w.heap.size w w'
theorem RowAt.part {w : World} {g n : Nat} {f : Nat → Int} (h : RowAt w g (part f n n)) (hf : ∀ i, i < n → -9223372036854775808 ≤ f i ∧ f i ≤ 9223372036854775807) : Ints w (some ⟨g, 0, none⟩) n n (part f n n) := by
  have := h.ints (part_ok hf)
  rw [part_length] at this
  exact this
/-- What stands behind the box's being laid in the result. -/
theorem box_laid {w0 w w' : World} {R g1 g2 n : Nat} {a b : Value} {f g : Nat → Int} (hx : Bx w R a b) (hR : w0.heap.size ≤ R) (hw : Below w0.heap.size w0 w) (hb : Below w.heap.size w w')
    (h1 : RowAt w' g1 (part f n n)) (h2 : RowAt w' g2 (part g n n)) (l1 : w.heap.size < g1) (l2 : w.heap.size < g2) (hf : ∀ i, i < n → -9223372036854775808 ≤ f i ∧ f i ≤ 9223372036854775807) (hg : ∀ i, i < n → -9223372036854775808 ≤ g i ∧ g i ≤ 9223372036854775807) :
    Bx ((w'.setCell ⟨R, 0, none⟩ (.slice (some ⟨g1, 0, none⟩) n n)).setCell ⟨R, 1, none⟩ (.slice (some ⟨g2, 0, none⟩) n n)) R (.slice (some ⟨g1, 0, none⟩) n n) (.slice (some ⟨g2, 0, none⟩) n n) ∧
    MadeBox w0 f g n (.agg #[.slice (some ⟨g1, 0, none⟩) n n, .slice (some ⟨g2, 0, none⟩) n n]) ((w'.setCell ⟨R, 0, none⟩ (.slice (some ⟨g1, 0, none⟩) n n)).setCell ⟨R, 1, none⟩ (.slice (some ⟨g2, 0, none⟩) n n)) := by
  have hlt := hx.lt
  refine ⟨(hx.later hb).set _ _, g1, g2, rfl, (h1.kept (by omega) _ _).part hf, (h2.kept (by omega) _ _).part hg, ?_⟩
  exact ((hw.trans (hb.mono hw.size)).setCell (p := ⟨R, 0, none⟩) hR _).setCell (p := ⟨R, 1, none⟩) hR _
set_option maxRecDepth 100000 in
set_option maxHeartbeats 1000000 in
theorem of_any (p : Option Addr) (n c : Nat) (R : List Int) (h : 1 ≤ n ∧ n ≤ 8) (w : World) (hR : Ints w p n c R) :
    Calls Tryz.prog 86 #[.slice p n c] w fun e w' => ∃ v, e = .returned v ∧ MadeBox w (fun k => R.getD k 0) (fun k => R.getD k 0) n v w' := by
  have hD := dimensions_any (n : Int)
  rw [decide_eq_true (show 1 ≤ (n : Int) ∧ (n : Int) ≤ 8 by omega)] at hD
  have HD := Lib.hid hD
  have HR := Lib.hid hR
  clear hD
  go_enter Tryz.func86, Tryz.ntmps86
  go_upto_region 1 with fail
  have x0 := boxed w (.slice p n c) 39
  have s0 : (w.alloc (.cells #[.slice p n c] 39)).heap.size = w.heap.size + 1 := by simp
  have b0 : Below w.heap.size w (w.alloc (.cells #[.slice p n c] 39)) := (Below.refl _ _).alloc (Nat.le_refl _) _
  generalize w.alloc (.cells #[.slice p n c] 39) = w0 at *
  have x1 := Bx.fresh w0 (.slice none 0 0) (.slice none 0 0)
  have b1 : Below w0.heap.size w0 (w0.alloc (.cells #[.slice none 0 0, .slice none 0 0] 41)) := (Below.refl _ _).alloc (Nat.le_refl _) _
  rw [s0] at x1
  generalize w0.alloc (.cells #[.slice none 0 0, .slice none 0 0] 41) = w1 at *
  have X := Lib.hid x1
  have hb0 := (b1.cell (p := ⟨w.heap.size, 0, none⟩) (by show w.heap.size < _; omega)).trans x0
  have B1 := Lib.hid (b0.trans (b1.mono (by omega)))
  clear x0 s0 b0 x1 b1
  clear w0
  have HE := Lib.hid (build_any n h.1 h.2 (fun k => R.getD k 0) (fun k => R.getD k 0) 102 #[.pointer (some ⟨w.heap.size, 0, none⟩)] (enter_side Tryz.func102 (by kernel_rfl) rfl) w1 (fun k w'' hk hb => ofside w.heap.size p n c R k hk w'' ((hb.cell (p := ⟨w.heap.size, 0, none⟩) (by have := X.out.lt; show w.heap.size < _; omega)).trans hb0) ((hR.later B1.out).later hb)))
  clear h hR
  go_wp2_with ((go_at_call 64; refine (HD.out _).mono ?_; rintro _ w' ⟨rfl, rfl⟩))
  refine HE.out.mono ?_
  rintro _ w2 ⟨g1, g2, rfl, h1, h2, l1, l2, ne, hb⟩
  obtain ⟨c0, c1, c2, c3⟩ := (X.out.later hb).facts
  have HL := Lib.hid (box_laid X.out (Nat.le_succ _) B1.out hb h1 h2 l1 l2 (fun _ hk => HR.out.get _ hk) (fun _ hk => HR.out.get _ hk))
  clear h1 h2 l1 l2 ne hb X B1 hb0
  go_wp2_with fail
  generalize (w2.setCell ⟨w.heap.size + 1, 0, none⟩ (.slice (some ⟨g1, 0, none⟩) n n)).setCell ⟨w.heap.size + 1, 1, none⟩ (.slice (some ⟨g2, 0, none⟩) n n) = w9 at *
  exact ret_box 2 rfl (w.heap.size + 1) _ _ rfl HL.out.1 ⟨_, rfl, HL.out.2⟩
end Go.Proofs.YtfkpgildeddhaaaGreat

/- box.Hull of boxes that are right. -/
namespace Go.Proofs.YtfkpgildeddhaaaGreat
open Go.RowKit

set_option maxRecDepth 100000 in
set_option maxHeartbeats 1000000 in
theorem hullside (B C : Nat) (p q r s : Option Addr) (n c e f g : Nat) (R S T U : List Int) (k : Nat) (hk : k < n) (w : World) (hB : BoxAt w B p n c q n e) (hC : BoxAt w C r n f s n g) (h1 : Ints w p n c R) (h2 : Ints w q n e S) (h3 : Ints w r n f T) (h4 : Ints w s n g U) :
    Calls Tryz.prog 101 #[.int .i64 k, .pointer (some ⟨B, 0, none⟩), .pointer (some ⟨C, 0, none⟩)] w fun e w' => e = .returned (.tuple #[.int .i64 (min (R.getD k 0) (T.getD k 0)), .int .i64 (max (S.getD k 0) (U.getD k 0))]) ∧ ∃ j, w' = w.drewN j := by
  obtain ⟨hB0, hB1⟩ := hB
  obtain ⟨hC0, hC1⟩ := hC
  obtain ⟨g1, o1, rfl, hc1⟩ := h1.cell k hk
  obtain ⟨g2, o2, rfl, hc2⟩ := h2.cell k hk
  obtain ⟨g3, o3, rfl, hc3⟩ := h3.cell k hk
  obtain ⟨g4, o4, rfl, hc4⟩ := h4.cell k hk
  clear h1 h2 h3 h4
  generalize R.getD k 0 = xR at *
  generalize S.getD k 0 = xS at *
  generalize T.getD k 0 = xT at *
  generalize U.getD k 0 = xU at *
  have b1 : (0 : Int) ≤ k ∧ (k : Int) < n := by omega
  go_enter Tryz.func101, Tryz.ntmps101
  go_wp2_with fail
  go_quiet (fail)
  go_wp2_with fail
  go_ret2
  exact ⟨rfl, _, rfl⟩
theorem max_ok {x y : Int} (hx : -9223372036854775808 ≤ x ∧ x ≤ 9223372036854775807) (hy : -9223372036854775808 ≤ y ∧ y ≤ 9223372036854775807) : -9223372036854775808 ≤ max x y ∧ max x y ≤ 9223372036854775807 := by omega
theorem min_ok {x y : Int} (hx : -9223372036854775808 ≤ x ∧ x ≤ 9223372036854775807) (hy : -9223372036854775808 ≤ y ∧ y ≤ 9223372036854775807) : -9223372036854775808 ≤ min x y ∧ min x y ≤ 9223372036854775807 := by omega
theorem four_bx {w w2 : World} {p q r s : Option Addr} {n c m e k f l g : Nat} {R S T U : List Int} (h1 : Ints w p n c R) (h2 : Ints w q m e S) (h3 : Ints w r k f T) (h4 : Ints w s l g U)
    (h : w2 = (((w.alloc (.cells #[.slice p n c, .slice q m e] 41)).alloc (.cells #[.slice r k f, .slice s l g] 41)).alloc (.cells #[.slice none 0 0, .slice none 0 0] 41))) :
    Four w w2 w.heap.size (w.heap.size + 1) p q r s n c m e k f l g R S T U ∧ Bx w2 (w.heap.size + 2) (.slice none 0 0) (.slice none 0 0) := by
  subst h
  have hF := four_of h1 h2 h3 h4 rfl
  have hs : ((w.alloc (.cells #[.slice p n c, .slice q m e] 41)).alloc (.cells #[.slice r k f, .slice s l g] 41)).heap.size = w.heap.size + 2 := (box_two w _ _ _ _ _ rfl).2.2
  generalize (w.alloc (.cells #[.slice p n c, .slice q m e] 41)).alloc (.cells #[.slice r k f, .slice s l g] 41) = w1 at *
  have hx := Bx.fresh w1 (.slice none 0 0) (.slice none 0 0)
  rw [hs] at hx
  exact ⟨hF.later ((Below.refl _ _).alloc (Nat.le_refl _) _), hx⟩
set_option maxRecDepth 100000 in
set_option maxHeartbeats 1000000 in
theorem hull_right (p q r s : Option Addr) (n c m e k f l g : Nat) (R S T U : List Int) (w : World) (h1 : Ints w p n c R) (h2 : Ints w q m e S) (h3 : Ints w r k f T) (h4 : Ints w s l g U) (hp : pairB R S T U n m k l = true) :
    Calls Tryz.prog 85 #[.agg #[.slice p n c, .slice q m e], .agg #[.slice r k f, .slice s l g]] w fun e w' => ∃ v, e = .returned v ∧ MadeBox w (fun i => min (R.getD i 0) (T.getD i 0)) (fun i => max (S.getD i 0) (U.getD i 0)) n v w' := by
  obtain ⟨hd1, hd2, rfl, rfl, rfl⟩ := pairB_dims hp
  have hp2 := hp
  unfold pairB at hp2
  rw [Bool.and_eq_true] at hp2
  have P1 := Lib.hid hp2.1
  have P2 := Lib.hid hp2.2
  have P3 := Lib.hid hp
  have D1 := Lib.hid (And.intro hd1 hd2)
  clear hp hp2 hd1 hd2
  go_enter Tryz.func85, Tryz.ntmps85
  go_upto_region 1 with fail
  obtain ⟨w2, hw2⟩ : ∃ w2, w2 = (((w.alloc (.cells #[.slice p l c, .slice q l e] 41)).alloc (.cells #[.slice r l f, .slice s l g] 41)).alloc (.cells #[.slice none 0 0, .slice none 0 0] 41)) := ⟨_, rfl⟩
  have HF := Lib.hid (four_bx h1 h2 h3 h4 hw2).1
  have HX := Lib.hid (four_bx h1 h2 h3 h4 hw2).2
  rw [← hw2]
  clear hw2 h1 h2 h3 h4
  obtain ⟨b0, b1, b2, b3⟩ : (w2.cell? ⟨w.heap.size, 0, none⟩ = some (.slice p l c) ∧ w2.cell? ⟨w.heap.size, 1, none⟩ = some (.slice q l e) ∧ w2.cell? ⟨w.heap.size + 1, 0, none⟩ = some (.slice r l f) ∧ w2.cell? ⟨w.heap.size + 1, 1, none⟩ = some (.slice s l g)) := ⟨HF.out.ba.1, HF.out.ba.2, HF.out.bb.1, HF.out.bb.2⟩
  go_cut [5, 6] (fun s5 s6 wx => s5 = .bool true ∧ s6 = .bool true ∧ Below w2.heap.size w2 wx)
  case first =>
    have HS := Lib.hid (show ∀ w', (Below w2.heap.size w2 w') → Calls Tryz.prog 40 #[.agg #[.slice p l c, .slice q l e], .int .i64 l] w' fun e w'' => e = .returned (.bool true) ∧ Below w2.heap.size w2 w'' from fun w' hb => (right_any p q l c l e R S l w' (HF.out.i1.later hb) (HF.out.i2.later hb)).mono (by rw [P1.out]; rintro e w'' ⟨h, hb2⟩; exact ⟨h, hb.trans (hb2.mono hb.size)⟩))
    have HT := Lib.hid (show ∀ w', (Below w2.heap.size w2 w') → Calls Tryz.prog 40 #[.agg #[.slice r l f, .slice s l g], .int .i64 l] w' fun e w'' => e = .returned (.bool true) ∧ Below w2.heap.size w2 w'' from fun w' hb => (right_any r s l f l g T U l w' (HF.out.i3.later hb) (HF.out.i4.later hb)).mono (by rw [P2.out]; rintro e w'' ⟨h, hb2⟩; exact ⟨h, hb.trans (hb2.mono hb.size)⟩))
    go_region_held3 (fun w' => Below w2.heap.size w2 w' ∧ w'.cell? ⟨w.heap.size, 0, none⟩ = some (.slice p l c) ∧ w'.cell? ⟨w.heap.size, 1, none⟩ = some (.slice q l e) ∧ w'.cell? ⟨w.heap.size + 1, 0, none⟩ = some (.slice r l f) ∧ w'.cell? ⟨w.heap.size + 1, 1, none⟩ = some (.slice s l g)) (first | assumption | exact ⟨(Below.refl _ _).drew, b0, b1, b2, b3⟩ | exact ⟨Below.refl _ _, b0, b1, b2, b3⟩) ((first
      | (go_at_call_of 40 (Value.agg #[.slice p l c, .slice q l e]); refine (HS.out _ (by first | assumption | exact (Below.refl _ _).drew | exact Below.refl _ _)).mono ?_; rintro _ w5 ⟨rfl, hb5⟩; have k5 : Below w2.heap.size w2 w5 ∧ w5.cell? ⟨w.heap.size, 0, none⟩ = some (.slice p l c) ∧ w5.cell? ⟨w.heap.size, 1, none⟩ = some (.slice q l e) ∧ w5.cell? ⟨w.heap.size + 1, 0, none⟩ = some (.slice r l f) ∧ w5.cell? ⟨w.heap.size + 1, 1, none⟩ = some (.slice s l g) := ⟨hb5, (HF.out.later hb5).ba.1, (HF.out.later hb5).ba.2, (HF.out.later hb5).bb.1, (HF.out.later hb5).bb.2⟩)
      | (go_at_call_of 40 (Value.agg #[.slice r l f, .slice s l g]); refine (HT.out _ (by first | assumption | exact (Below.refl _ _).drew | exact Below.refl _ _)).mono ?_; rintro _ w6 ⟨rfl, hb6⟩; have k6 : Below w2.heap.size w2 w6 ∧ w6.cell? ⟨w.heap.size, 0, none⟩ = some (.slice p l c) ∧ w6.cell? ⟨w.heap.size, 1, none⟩ = some (.slice q l e) ∧ w6.cell? ⟨w.heap.size + 1, 0, none⟩ = some (.slice r l f) ∧ w6.cell? ⟨w.heap.size + 1, 1, none⟩ = some (.slice s l g) := ⟨hb6, (HF.out.later hb6).ba.1, (HF.out.later hb6).ba.2, (HF.out.later hb6).bb.1, (HF.out.later hb6).bb.2⟩)))
    all_goals
      go_wp2_with fail
      go_meet
      exact ⟨rfl, rfl, by assumption⟩
  case rest =>
    obtain ⟨rfl, rfl, hbx⟩ := hcut
    obtain ⟨wx, hwx⟩ : ∃ w3, w3 = wc := ⟨_, rfl⟩
    rw [← hwx] at hbx ⊢
    clear hwx
    have HG := Lib.hid (HF.out.later hbx)
    have HY := Lib.hid (HX.out.later hbx)
    clear hbx HF HX b0 b1 b2 b3
    clear w2
    obtain ⟨b0, b1, b2, b3⟩ : (wx.cell? ⟨w.heap.size, 0, none⟩ = some (.slice p l c) ∧ wx.cell? ⟨w.heap.size, 1, none⟩ = some (.slice q l e) ∧ wx.cell? ⟨w.heap.size + 1, 0, none⟩ = some (.slice r l f) ∧ wx.cell? ⟨w.heap.size + 1, 1, none⟩ = some (.slice s l g)) := ⟨HG.out.ba.1, HG.out.ba.2, HG.out.bb.1, HG.out.bb.2⟩
    go_wp2_with fail
    refine (pair_any p q r s l c l e l f l g R S T U wx HG.out.i1 HG.out.i2 HG.out.i3 HG.out.i4).mono ?_
    rw [P3.out]
    rintro _ w3 ⟨rfl, hb3⟩
    have HF := Lib.hid (HG.out.later hb3)
    have HX := Lib.hid (HY.out.later hb3)
    clear hb3 HG HY b0 b1 b2 b3
    obtain ⟨b0, b1⟩ : (w3.cell? ⟨w.heap.size, 0, none⟩ = some (.slice p l c) ∧ w3.cell? ⟨w.heap.size, 1, none⟩ = some (.slice q l e)) := ⟨HF.out.ba.1, HF.out.ba.2⟩
    have HE := Lib.hid (build_any l D1.out.1 D1.out.2 (fun i => min (R.getD i 0) (T.getD i 0)) (fun i => max (S.getD i 0) (U.getD i 0)) 101 #[.pointer (some ⟨w.heap.size, 0, none⟩), .pointer (some ⟨w.heap.size + 1, 0, none⟩)] (enter_side Tryz.func101 (by kernel_rfl) rfl) w3 (fun k w' hk hb => hullside w.heap.size (w.heap.size + 1) p q r s l c e f g R S T U k hk w' (HF.out.later hb).ba (HF.out.later hb).bb (HF.out.later hb).i1 (HF.out.later hb).i2 (HF.out.later hb).i3 (HF.out.later hb).i4))
    go_wp2_with fail
    refine HE.out.mono ?_
    rintro _ w4 ⟨g1, g2, rfl, h1, h2, l1, l2, ne, hb⟩
    obtain ⟨d0, d1, d2, d3⟩ := (HX.out.later hb).facts
    have HL := Lib.hid (box_laid HX.out (show w.heap.size ≤ w.heap.size + 2 by omega) HF.out.below hb h1 h2 l1 l2 (fun _ hk => min_ok (HF.out.i1.get _ hk) (HF.out.i3.get _ hk)) (fun _ hk => max_ok (HF.out.i2.get _ hk) (HF.out.i4.get _ hk)))
    clear h1 h2 l1 l2 ne hb b0 b1
    go_wp2_with fail
    generalize (w4.setCell ⟨w.heap.size + 2, 0, none⟩ (.slice (some ⟨g1, 0, none⟩) l l)).setCell ⟨w.heap.size + 2, 1, none⟩ (.slice (some ⟨g2, 0, none⟩) l l) = w9 at *
    exact ret_box 4 rfl (w.heap.size + 2) _ _ rfl HL.out.1 ⟨_, rfl, HL.out.2⟩
end Go.Proofs.YtfkpgildeddhaaaGreat

/- box.Hull of whatever boxes. -/
namespace Go.Proofs.YtfkpgildeddhaaaGreat.Nd
open Go.RowKit Go.Proofs.YtfkpgildeddhaaaGreat.Zr

theorem two_part (f : Int → Int → Int) (R T : List Int) (n : Nat) : part (fun i => f (R.getD i 0) (T.getD i 0)) n n = two f R T n := by
  unfold part two
  apply List.map_congr_left
  intro i hi
  rw [if_pos (List.mem_range.1 hi)]
theorem two_same {f : Int → Int → Int} (hf : ∀ x, f x x = x) (R : List Int) : two f R R R.length = R := by
  apply List.ext_getElem
  · rw [two_length]
  · intro i h1 h2
    simp [two, hf, List.getD_eq_getElem?_getD, h2]
/-- A box of rows of a call's own. -/
def LBox (w : World) (A B : List Int) (v : Value) (w' : World) : Prop := ∃ r1 r2 : Rw, v = .agg #[r1.val, r2.val] ∧ r1.R = A ∧ r2.R = B ∧ FrRw w' w.heap.size r1 ∧ FrRw w' w.heap.size r2 ∧ Below w.heap.size w w'
theorem made_post {w w' : World} {f g : Int → Int → Int} {R S T U : List Int} {n g1 g2 : Nat} (h : MadeBox w (fun i => f (R.getD i 0) (T.getD i 0)) (fun i => g (S.getD i 0) (U.getD i 0)) n (.agg #[.slice (some ⟨g1, 0, none⟩) n n, .slice (some ⟨g2, 0, none⟩) n n]) w') (hn : n ≤ 8) (l1 : w.heap.size ≤ g1) (l2 : w.heap.size ≤ g2) : LBox w (two f R T n) (two g S U n) (.agg #[.slice (some ⟨g1, 0, none⟩) n n, .slice (some ⟨g2, 0, none⟩) n n]) w' := by
  obtain ⟨h1, h2, he, i1, i2, hb⟩ := h
  simp only [Value.agg.injEq, Array.mk.injEq, List.cons.injEq, Value.slice.injEq, Option.some.injEq, Addr.mk.injEq, and_true] at he
  obtain ⟨rfl, rfl⟩ := he
  rw [two_part] at i1
  rw [two_part] at i2
  refine ⟨⟨some ⟨g1, 0, none⟩, n, n, two f R T n⟩, ⟨some ⟨g2, 0, none⟩, n, n, two g S U n⟩, rfl, rfl, rfl, ⟨⟨i1, by show n ≤ _; omega⟩, fun x hx _ => ?_⟩, ⟨⟨i2, by show n ≤ _; omega⟩, fun x hx _ => ?_⟩, hb⟩
  · obtain rfl : x = ⟨g1, 0, none⟩ := by simpa using hx.symm
    exact l1
  · obtain rfl : x = ⟨g2, 0, none⟩ := by simpa using hx.symm
    exact l2
theorem lbox_nil {w w' : World} (h : Below w.heap.size w w') : LBox w [] [] (.agg #[.slice none 0 0, .slice none 0 0]) w' := ⟨⟨none, 0, 0, []⟩, ⟨none, 0, 0, []⟩, rfl, rfl, rfl, fr_none _ _, fr_none _ _, h⟩
/-- Behind a store of one box over the other. -/
theorem BH.overB {w : World} {g : Nat} {p q s t : Option Addr} {n c m e k f l h : Nat} {R S T U : List Int} (H : BH w g p q s t n c m e k f l h R S T U) {w0 : World} (hg : g = w0.heap.size) (h1 : Ints w0 p n c R) (h2 : Ints w0 q m e S) (hl : Below w0.heap.size w0 w) :
    BH ((w.setCell ⟨g + 1, 0, none⟩ (.slice p n c)).setCell ⟨g + 1, 1, none⟩ (.slice q m e)) g p q p q n c m e n c m e R S R S ∧ Below w0.heap.size w0 ((w.setCell ⟨g + 1, 0, none⟩ (.slice p n c)).setCell ⟨g + 1, 1, none⟩ (.slice q m e)) := by
  have hb : Below w0.heap.size w0 ((w.setCell ⟨g + 1, 0, none⟩ (.slice p n c)).setCell ⟨g + 1, 1, none⟩ (.slice q m e)) := (hl.setCell (p := ⟨g + 1, 0, none⟩) (by show w0.heap.size ≤ g + 1; omega) _).setCell (p := ⟨g + 1, 1, none⟩) (by show w0.heap.size ≤ g + 1; omega) _
  refine ⟨⟨?_, ?_, ?_, h1.later hb, h2.later hb, h1.later hb, h2.later hb⟩, hb⟩
  · rw [heap_setCell_other _ _ _ _ (by show g ≠ g + 1; omega), heap_setCell_other _ _ _ _ (by show g ≠ g + 1; omega)]; exact H.a
  · exact heap_setCell_same _ (g + 1) 1 _ _ _ (heap_setCell_same w (g + 1) 0 _ _ _ H.b)
  · rw [heap_setCell_other _ _ _ _ (by show g + 2 ≠ g + 1; omega), heap_setCell_other _ _ _ _ (by show g + 2 ≠ g + 1; omega)]; exact H.r
theorem BH.overA {w : World} {g : Nat} {p q s t : Option Addr} {n c m e k f l h : Nat} {R S T U : List Int} (H : BH w g p q s t n c m e k f l h R S T U) {w0 : World} (hg : g = w0.heap.size) (h1 : Ints w0 s k f T) (h2 : Ints w0 t l h U) (hl : Below w0.heap.size w0 w) :
    BH ((w.setCell ⟨g, 0, none⟩ (.slice s k f)).setCell ⟨g, 1, none⟩ (.slice t l h)) g s t s t k f l h k f l h T U T U ∧ Below w0.heap.size w0 ((w.setCell ⟨g, 0, none⟩ (.slice s k f)).setCell ⟨g, 1, none⟩ (.slice t l h)) := by
  have hb : Below w0.heap.size w0 ((w.setCell ⟨g, 0, none⟩ (.slice s k f)).setCell ⟨g, 1, none⟩ (.slice t l h)) := (hl.setCell (p := ⟨g, 0, none⟩) (by show w0.heap.size ≤ g; omega) _).setCell (p := ⟨g, 1, none⟩) (by show w0.heap.size ≤ g; omega) _
  refine ⟨⟨?_, ?_, ?_, h1.later hb, h2.later hb, h1.later hb, h2.later hb⟩, hb⟩
  · exact heap_setCell_same _ g 1 _ _ _ (heap_setCell_same w g 0 _ _ _ H.a)
  · rw [heap_setCell_other _ _ _ _ (by show g + 1 ≠ g; omega), heap_setCell_other _ _ _ _ (by show g + 1 ≠ g; omega)]; exact H.b
  · rw [heap_setCell_other _ _ _ _ (by show g + 2 ≠ g; omega), heap_setCell_other _ _ _ _ (by show g + 2 ≠ g; omega)]; exact H.r
theorem BH.ats {w : World} {g : Nat} {p q s t : Option Addr} {n c m e k f l h : Nat} {R S T U : List Int} (H : BH w g p q s t n c m e k f l h R S T U) : BoxAt w g p n c q m e ∧ BoxAt w (g + 1) s k f t l h :=
  ⟨⟨H.cells.1, H.cells.2.1⟩, ⟨H.cells.2.2.1, H.cells.2.2.2.1⟩⟩
/-- What stands behind the sides that were told. -/
theorem hull_sides {w : World} {g : Nat} {p q s t : Option Addr} {n c e f h : Nat} {R S T U : List Int} (H : BH w g p q s t n c n e n f n h R S T U) (hd1 : 1 ≤ n) (hd2 : n ≤ 8) :
    Calls Tryz.prog 100 #[.int .i64 n, .func (.func 101) #[] #[.pointer (some ⟨g, 0, none⟩), .pointer (some ⟨g + 1, 0, none⟩)]] w fun e w' => ∃ g1 g2 : Nat, e = .returned (.agg #[.slice (some ⟨g1, 0, none⟩) n n, .slice (some ⟨g2, 0, none⟩) n n]) ∧ RowAt w' g1 (part (fun i => min (R.getD i 0) (T.getD i 0)) n n) ∧ RowAt w' g2 (part (fun i => max (S.getD i 0) (U.getD i 0)) n n) ∧ w.heap.size < g1 ∧ w.heap.size < g2 ∧ g1 ≠ g2 ∧ Below w.heap.size w w' :=
  build_any n hd1 hd2 (fun i => min (R.getD i 0) (T.getD i 0)) (fun i => max (S.getD i 0) (U.getD i 0)) 101 #[.pointer (some ⟨g, 0, none⟩), .pointer (some ⟨g + 1, 0, none⟩)] (enter_side Tryz.func101 (by kernel_rfl) rfl) w (fun j w' hj hb => hullside g (g + 1) p q s t n c e f h R S T U j hj w' (H.later hb).ats.1 (H.later hb).ats.2 (H.later hb).i1 (H.later hb).i2 (H.later hb).i3 (H.later hb).i4)
theorem rb_eq {R S : List Int} {n m : Nat} (h1 : n = R.length) (h2 : m = S.length) : rightB R S n m n = rb R S := by rw [h1, h2]; rfl
theorem pair_rb {R S T U : List Int} {n m k l : Nat} (h1 : n = R.length) (h2 : m = S.length) (h3 : k = T.length) (h4 : l = U.length) (ha : rb R S = true) (hb : rb T U = true) : pairB R S T U n m k l = decide (n = k) := by
  unfold pairB
  rw [rb_eq h1 h2, ha, Bool.true_and]
  by_cases h : n = k
  · rw [decide_eq_true h, h, rb_eq h3 h4, hb]
  · rw [decide_eq_false h]
    exact rightB_not (fun hh => h (by omega))
set_option maxRecDepth 100000 in
set_option maxHeartbeats 2000000 in
theorem lhull_any (p q s t : Option Addr) (n c m e k f l h : Nat) (R S T U : List Int) (w : World) (h1 : Ints w p n c R) (h2 : Ints w q m e S) (h3 : Ints w s k f T) (h4 : Ints w t l h U) :
    Calls Tryz.prog 85 #[.agg #[.slice p n c, .slice q m e], .agg #[.slice s k f, .slice t l h]] w fun e w' => ∃ v, e = .returned v ∧ LBox w (hull (R, S) (T, U)).1 (hull (R, S) (T, U)).2 v w' := by
  obtain ⟨hs0, hb0, hz0⟩ := bh_start h1 h2 h3 h4
  obtain ⟨x1, hx1⟩ : ∃ x, rb R S = x := ⟨_, rfl⟩
  obtain ⟨x2, hx2⟩ : ∃ x, rb T U = x := ⟨_, rfl⟩
  have P1 := Lib.hid (show rightB R S n m n = x1 from by rw [rb_eq h1.size h2.size, hx1])
  have P2 := Lib.hid (show rightB T U k l k = x2 from by rw [rb_eq h3.size h4.size, hx2])
  have HH := Lib.hid (show hull (R, S) (T, U) = if x1 = true ∧ x2 = false then (R, S) else if x2 = true ∧ x1 = false then (T, U) else if x1 = false ∨ R.length ≠ T.length then ([], []) else (two min R T R.length, two max S U R.length) from by rw [← hx1, ← hx2]; rfl)
  have HX1 := Lib.hid hx1
  have HX2 := Lib.hid hx2
  have H1 := Lib.hid h1
  have H2 := Lib.hid h2
  have H3 := Lib.hid h3
  have H4 := Lib.hid h4
  have HN1 := Lib.hid h1.size
  have HN3 := Lib.hid h3.size
  generalize hull (R, S) (T, U) = Z at *
  clear h1 h2 h3 h4 hx1 hx2
  go_enter Tryz.func85, Tryz.ntmps85
  go_upto_region 1 with fail
  generalize ((w.alloc (.cells #[.slice p n c, .slice q m e] 41)).alloc (.cells #[.slice s k f, .slice t l h] 41)).alloc (.cells #[.slice none 0 0, .slice none 0 0] 41) = w2 at *
  have HF := Lib.hid hs0
  have HB := Lib.hid hb0
  obtain ⟨b0, b1, b2, b3, -⟩ := hs0.cells
  clear hs0 hb0 hz0
  go_cut [5, 6] (fun s5 s6 wx => s5 = .bool x1 ∧ s6 = .bool x2 ∧ Below w2.heap.size w2 wx)
  case first =>
    have HS := Lib.hid (show ∀ w', (Below w2.heap.size w2 w') → Calls Tryz.prog 40 #[.agg #[.slice p n c, .slice q m e], .int .i64 n] w' fun e w'' => e = .returned (.bool x1) ∧ Below w2.heap.size w2 w'' from fun w' hb => (right_any p q n c m e R S n w' (HF.out.later hb).i1 (HF.out.later hb).i2).mono (by rw [P1.out]; rintro e w'' ⟨h, hb2⟩; exact ⟨h, hb.trans (hb2.mono hb.size)⟩))
    have HT := Lib.hid (show ∀ w', (Below w2.heap.size w2 w') → Calls Tryz.prog 40 #[.agg #[.slice s k f, .slice t l h], .int .i64 k] w' fun e w'' => e = .returned (.bool x2) ∧ Below w2.heap.size w2 w'' from fun w' hb => (right_any s t k f l h T U k w' (HF.out.later hb).i3 (HF.out.later hb).i4).mono (by rw [P2.out]; rintro e w'' ⟨h, hb2⟩; exact ⟨h, hb.trans (hb2.mono hb.size)⟩))
    go_region_held3 (fun w' => Below w2.heap.size w2 w' ∧ w'.cell? ⟨w.heap.size, 0, none⟩ = some (.slice p n c) ∧ w'.cell? ⟨w.heap.size, 1, none⟩ = some (.slice q m e) ∧ w'.cell? ⟨w.heap.size + 1, 0, none⟩ = some (.slice s k f) ∧ w'.cell? ⟨w.heap.size + 1, 1, none⟩ = some (.slice t l h)) (first | assumption | exact ⟨(Below.refl _ _).drew, b0, b1, b2, b3⟩ | exact ⟨Below.refl _ _, b0, b1, b2, b3⟩) ((first
      | (go_at_call_of 40 (Value.agg #[.slice p n c, .slice q m e]); refine (HS.out _ (by first | assumption | exact (Below.refl _ _).drew | exact Below.refl _ _)).mono ?_; rintro _ w5 ⟨rfl, hb5⟩; have k5 : Below w2.heap.size w2 w5 ∧ w5.cell? ⟨w.heap.size, 0, none⟩ = some (.slice p n c) ∧ w5.cell? ⟨w.heap.size, 1, none⟩ = some (.slice q m e) ∧ w5.cell? ⟨w.heap.size + 1, 0, none⟩ = some (.slice s k f) ∧ w5.cell? ⟨w.heap.size + 1, 1, none⟩ = some (.slice t l h) := ⟨hb5, (HF.out.later hb5).cells.1, (HF.out.later hb5).cells.2.1, (HF.out.later hb5).cells.2.2.1, (HF.out.later hb5).cells.2.2.2.1⟩)
      | (go_at_call_of 40 (Value.agg #[.slice s k f, .slice t l h]); refine (HT.out _ (by first | assumption | exact (Below.refl _ _).drew | exact Below.refl _ _)).mono ?_; rintro _ w6 ⟨rfl, hb6⟩; have k6 : Below w2.heap.size w2 w6 ∧ w6.cell? ⟨w.heap.size, 0, none⟩ = some (.slice p n c) ∧ w6.cell? ⟨w.heap.size, 1, none⟩ = some (.slice q m e) ∧ w6.cell? ⟨w.heap.size + 1, 0, none⟩ = some (.slice s k f) ∧ w6.cell? ⟨w.heap.size + 1, 1, none⟩ = some (.slice t l h) := ⟨hb6, (HF.out.later hb6).cells.1, (HF.out.later hb6).cells.2.1, (HF.out.later hb6).cells.2.2.1, (HF.out.later hb6).cells.2.2.2.1⟩)))
    all_goals
      go_wp2_with fail
      go_meet
      exact ⟨rfl, rfl, by assumption⟩
  case rest =>
    obtain ⟨rfl, rfl, hbx⟩ := hcut
    obtain ⟨wx, hwx⟩ : ∃ w3, w3 = wc := ⟨_, rfl⟩
    rw [← hwx] at hbx ⊢
    clear hwx
    have HG := Lib.hid (HF.out.later hbx)
    have HL := Lib.hid (HB.out.trans (hbx.mono HB.out.size))
    clear hbx HF HB b0 b1 b2 b3
    clear w2
    obtain ⟨b0, b1, b2, b3, r0, r1, f0, f1⟩ := HG.out.cells
    have fa0 := frozen_of_row wx w.heap.size 0 _ _ HG.out.a
    have fa1 := frozen_of_row wx w.heap.size 1 _ _ HG.out.a
    have fb0 := frozen_of_row wx (w.heap.size + 1) 0 _ _ HG.out.b
    have fb1 := frozen_of_row wx (w.heap.size + 1) 1 _ _ HG.out.b
    cases x1 with
    | true =>
      have hd := rb_len HX1.out
      have hm : m = n := by rw [H2.out.size, H1.out.size]; exact hd.2.2
      have hd1 : 1 ≤ n := by rw [H1.out.size]; exact hd.1
      have hd2 : n ≤ 8 := by rw [H1.out.size]; exact hd.2.1
      subst hm
      have HD8 := Lib.hid hd2
      clear hd
      cases x2 with
      | false =>
        have HZ := Lib.hid (show Z = (R, S) from by rw [HH.out]; rfl)
        go_upto_region 8 with fail
        obtain ⟨hbh, hlow⟩ := HG.out.overB rfl H1.out H2.out HL.out
        generalize (wx.setCell ⟨w.heap.size + 1, 0, none⟩ (.slice p m c)).setCell ⟨w.heap.size + 1, 1, none⟩ (.slice q m e) = w3 at *
        have HF := Lib.hid hbh
        have HB := Lib.hid hlow
        clear hbh hlow b0 b1 b2 b3 r0 r1 f0 f1 fa0 fa1 fb0 fb1 HG HL
        obtain ⟨b0, b1, -, -, -⟩ := HF.out.cells
        have HE := Lib.hid (hull_sides HF.out hd1 hd2)
        go_wp2_with fail
        refine HE.out.mono ?_
        rintro _ w4 ⟨g1, g2, rfl, h1, h2, l1, l2, ne, hb⟩
        obtain ⟨d0, d1, d2, d3⟩ := (show Bx w4 (w.heap.size + 2) (.slice none 0 0) (.slice none 0 0) from (HF.out.later hb).r).facts
        have HLD := Lib.hid (box_laid (w0 := w) (show Bx w3 (w.heap.size + 2) (.slice none 0 0) (.slice none 0 0) from HF.out.r) (show w.heap.size ≤ w.heap.size + 2 by omega) HB.out hb h1 h2 l1 l2 (fun _ hk => min_ok (HF.out.i1.get _ hk) (HF.out.i3.get _ hk)) (fun _ hk => max_ok (HF.out.i2.get _ hk) (HF.out.i4.get _ hk)))
        have HG1 := Lib.hid (show w.heap.size ≤ g1 ∧ w.heap.size ≤ g2 from ⟨by have := HB.out.size; omega, by have := HB.out.size; omega⟩)
        clear h1 h2 l1 l2 ne hb b0 b1
        go_wp2_with fail
        generalize (w4.setCell ⟨w.heap.size + 2, 0, none⟩ (.slice (some ⟨g1, 0, none⟩) m m)).setCell ⟨w.heap.size + 2, 1, none⟩ (.slice (some ⟨g2, 0, none⟩) m m) = w9 at *
        refine ret_box 4 rfl (w.heap.size + 2) _ _ rfl HLD.out.1 ⟨_, rfl, ?_⟩
        have hp := made_post (R := R) (S := S) (T := R) (U := S) (f := min) (g := max) HLD.out.2 HD8.out HG1.out.1 HG1.out.2
        rw [HZ.out]
        rw [show two min R R m = R from by rw [H1.out.size]; exact two_same (fun x => by omega) R, show two max S S m = S from by rw [H2.out.size]; exact two_same (fun x => by omega) S] at hp
        exact hp
      | true =>
        have hpr := pair_rb H1.out.size H2.out.size H3.out.size H4.out.size HX1.out HX2.out
        have hdT := rb_len HX2.out
        by_cases hnk : m = k
        · subst hnk
          rw [decide_eq_true rfl] at hpr
          have hlk : l = m := by rw [H4.out.size, H3.out.size]; exact hdT.2.2
          subst hlk
          have HZ := Lib.hid (show Z = (two min R T l, two max S U l) from by
            rw [HH.out, if_neg (by simp), if_neg (by simp), if_neg (by rw [← H1.out.size, ← H3.out.size]; simp), ← H1.out.size])
          have HPR := Lib.hid hpr
          clear hpr hdT
          go_upto_region 8 with (go_at_call 99; refine (pair_any p q s t l c l e l f l h R S T U wx HG.out.i1 HG.out.i2 HG.out.i3 HG.out.i4).mono ?_; rw [HPR.out]; rintro _ w3 ⟨rfl, hb3⟩; have HF := Lib.hid (HG.out.later hb3); have HB := Lib.hid (HL.out.trans (hb3.mono HL.out.size)); clear hb3)
          clear b0 b1 b2 b3 r0 r1 f0 f1 fa0 fa1 fb0 fb1 HG HL
          obtain ⟨b0, b1, -, -, -⟩ := HF.out.cells
          have HE := Lib.hid (hull_sides HF.out hd1 hd2)
          go_wp2_with fail
          refine HE.out.mono ?_
          rintro _ w4 ⟨g1, g2, rfl, h1, h2, l1, l2, ne, hb⟩
          obtain ⟨d0, d1, d2, d3⟩ := (show Bx w4 (w.heap.size + 2) (.slice none 0 0) (.slice none 0 0) from (HF.out.later hb).r).facts
          have HLD := Lib.hid (box_laid (w0 := w) (show Bx w3 (w.heap.size + 2) (.slice none 0 0) (.slice none 0 0) from HF.out.r) (show w.heap.size ≤ w.heap.size + 2 by omega) HB.out hb h1 h2 l1 l2 (fun _ hk => min_ok (HF.out.i1.get _ hk) (HF.out.i3.get _ hk)) (fun _ hk => max_ok (HF.out.i2.get _ hk) (HF.out.i4.get _ hk)))
          have HG1 := Lib.hid (show w.heap.size ≤ g1 ∧ w.heap.size ≤ g2 from ⟨by have := HB.out.size; omega, by have := HB.out.size; omega⟩)
          clear h1 h2 l1 l2 ne hb b0 b1
          go_wp2_with fail
          generalize (w4.setCell ⟨w.heap.size + 2, 0, none⟩ (.slice (some ⟨g1, 0, none⟩) l l)).setCell ⟨w.heap.size + 2, 1, none⟩ (.slice (some ⟨g2, 0, none⟩) l l) = w9 at *
          refine ret_box 4 rfl (w.heap.size + 2) _ _ rfl HLD.out.1 ⟨_, rfl, ?_⟩
          have hp := made_post (R := R) (S := S) (T := T) (U := U) (f := min) (g := max) HLD.out.2 HD8.out HG1.out.1 HG1.out.2
          rw [HZ.out]
          exact hp
        · rw [decide_eq_false hnk] at hpr
          have HZ := Lib.hid (show Z = ([], []) from by
            rw [HH.out, if_neg (by simp), if_neg (by simp), if_pos (Or.inr (by rw [← H1.out.size, ← H3.out.size]; exact hnk))])
          have HPR := Lib.hid hpr
          clear hpr hdT hnk
          go_upto_region 7 with (go_at_call 99; refine (pair_any p q s t m c m e k f l h R S T U wx HG.out.i1 HG.out.i2 HG.out.i3 HG.out.i4).mono ?_; rw [HPR.out]; rintro _ w3 ⟨rfl, hb3⟩; have HF := Lib.hid (HG.out.later hb3); have HB := Lib.hid (HL.out.trans (hb3.mono HL.out.size)); clear hb3)
          clear b0 b1 b2 b3 r0 r1 f0 f1 fa0 fa1 fb0 fb1 HG HL
          obtain ⟨-, -, -, -, r0, r1, f0, f1⟩ := HF.out.cells
          go_wp2_with fail
          refine ret_box 4 rfl (w.heap.size + 2) _ _ rfl ((show Bx w3 (w.heap.size + 2) (.slice none 0 0) (.slice none 0 0) from HF.out.r).set _ _) ⟨_, rfl, ?_⟩
          rw [HZ.out]
          exact lbox_nil ((HB.out.setCell (p := ⟨w.heap.size + 2, 0, none⟩) (by show w.heap.size ≤ w.heap.size + 2; omega) _).setCell (p := ⟨w.heap.size + 2, 1, none⟩) (by show w.heap.size ≤ w.heap.size + 2; omega) _)
    | false =>
      cases x2 with
      | true =>
        have hd := rb_len HX2.out
        have hm : l = k := by rw [H4.out.size, H3.out.size]; exact hd.2.2
        have hd1 : 1 ≤ k := by rw [H3.out.size]; exact hd.1
        have hd2 : k ≤ 8 := by rw [H3.out.size]; exact hd.2.1
        subst hm
        have HD8 := Lib.hid hd2
        have HZ := Lib.hid (show Z = (T, U) from by rw [HH.out]; rfl)
        clear hd
        go_upto_region 8 with fail
        obtain ⟨hbh, hlow⟩ := HG.out.overA rfl H3.out H4.out HL.out
        generalize (wx.setCell ⟨w.heap.size, 0, none⟩ (.slice s l f)).setCell ⟨w.heap.size, 1, none⟩ (.slice t l h) = w3 at *
        have HF := Lib.hid hbh
        have HB := Lib.hid hlow
        clear hbh hlow b0 b1 b2 b3 r0 r1 f0 f1 fa0 fa1 fb0 fb1 HG HL
        obtain ⟨b0, b1, -, -, -⟩ := HF.out.cells
        have HE := Lib.hid (hull_sides HF.out hd1 hd2)
        go_wp2_with fail
        refine HE.out.mono ?_
        rintro _ w4 ⟨g1, g2, rfl, h1, h2, l1, l2, ne, hb⟩
        obtain ⟨d0, d1, d2, d3⟩ := (show Bx w4 (w.heap.size + 2) (.slice none 0 0) (.slice none 0 0) from (HF.out.later hb).r).facts
        have HLD := Lib.hid (box_laid (w0 := w) (show Bx w3 (w.heap.size + 2) (.slice none 0 0) (.slice none 0 0) from HF.out.r) (show w.heap.size ≤ w.heap.size + 2 by omega) HB.out hb h1 h2 l1 l2 (fun _ hk => min_ok (HF.out.i1.get _ hk) (HF.out.i3.get _ hk)) (fun _ hk => max_ok (HF.out.i2.get _ hk) (HF.out.i4.get _ hk)))
        have HG1 := Lib.hid (show w.heap.size ≤ g1 ∧ w.heap.size ≤ g2 from ⟨by have := HB.out.size; omega, by have := HB.out.size; omega⟩)
        clear h1 h2 l1 l2 ne hb b0 b1
        go_wp2_with fail
        generalize (w4.setCell ⟨w.heap.size + 2, 0, none⟩ (.slice (some ⟨g1, 0, none⟩) l l)).setCell ⟨w.heap.size + 2, 1, none⟩ (.slice (some ⟨g2, 0, none⟩) l l) = w9 at *
        refine ret_box 4 rfl (w.heap.size + 2) _ _ rfl HLD.out.1 ⟨_, rfl, ?_⟩
        have hp := made_post (R := T) (S := U) (T := T) (U := U) (f := min) (g := max) HLD.out.2 HD8.out HG1.out.1 HG1.out.2
        rw [HZ.out]
        rw [show two min T T l = T from by rw [H3.out.size]; exact two_same (fun x => by omega) T, show two max U U l = U from by rw [H4.out.size]; exact two_same (fun x => by omega) U] at hp
        exact hp
      | false =>
        have hpr : pairB R S T U n m k l = false := by unfold pairB; rw [P1.out]; rfl
        have HZ := Lib.hid (show Z = ([], []) from by rw [HH.out]; rfl)
        have HPR := Lib.hid hpr
        clear hpr
        go_upto_region 7 with (go_at_call 99; refine (pair_any p q s t n c m e k f l h R S T U wx HG.out.i1 HG.out.i2 HG.out.i3 HG.out.i4).mono ?_; rw [HPR.out]; rintro _ w3 ⟨rfl, hb3⟩; have HF := Lib.hid (HG.out.later hb3); have HB := Lib.hid (HL.out.trans (hb3.mono HL.out.size)); clear hb3)
        clear b0 b1 b2 b3 r0 r1 f0 f1 fa0 fa1 fb0 fb1 HG HL
        obtain ⟨-, -, -, -, r0, r1, f0, f1⟩ := HF.out.cells
        go_wp2_with fail
        refine ret_box 4 rfl (w.heap.size + 2) _ _ rfl ((show Bx w3 (w.heap.size + 2) (.slice none 0 0) (.slice none 0 0) from HF.out.r).set _ _) ⟨_, rfl, ?_⟩
        rw [HZ.out]
        exact lbox_nil ((HB.out.setCell (p := ⟨w.heap.size + 2, 0, none⟩) (by show w.heap.size ≤ w.heap.size + 2; omega) _).setCell (p := ⟨w.heap.size + 2, 1, none⟩) (by show w.heap.size ≤ w.heap.size + 2; omega) _)
end Go.Proofs.YtfkpgildeddhaaaGreat.Nd
