/- Proved: whatever node and number it is handed, the Go function indenturelaw10.NodeHulls returns true (a node's box has all its live rows, and its kids' boxes; each of its sides is one of theirs), and each argument reads afterwards as it read before. Conditions: none beyond the given row's own. -/
import Derived.Test.YtfkpgildeddhaaaM10
import Derived.BigRegion
import Derived.StillTailTactics
/- The law NodeHulls. -/
namespace Go.Proofs.Ytfkpgildeddhaaa.Nd
open Go.RowKit

/-- Truths in a row. -/
def bls (f : Nat → Bool) (n : Nat) : Array Value := ((List.range n).map fun i => Value.bool (f i)).toArray
theorem bls_get (f : Nat → Bool) (n i : Nat) (h : i < n) : (bls f n)[i]? = some (.bool (f i)) := by simp [bls, h]
theorem bls_congr {f g : Nat → Bool} {n : Nat} (h : ∀ i, i < n → f i = g i) : bls f n = bls g n := by
  unfold bls
  congr 1
  exact List.map_congr_left fun i hi => by rw [h i (List.mem_range.1 hi)]
theorem bls_set (f : Nat → Bool) (n j : Nat) (b : Bool) : (bls f n).setIfInBounds j (.bool b) = bls (fun i => if i = j then b else f i) n := by
  unfold bls
  rw [List.setIfInBounds_toArray]
  congr 1
  apply List.ext_getElem
  · simp
  · intro i h1 h2
    rw [List.getElem_set]
    simp only [List.getElem_map, List.getElem_range]
    by_cases h : j = i
    · rw [if_pos h, if_pos h.symm]
    · rw [if_neg h, if_neg (fun e => h e.symm)]
theorem made_bools (n : Nat) : madeCells (Value.cells (.bool false)) n = bls (fun _ => false) n := by
  apply Array.ext
  · simp [size_madeCells, bls, Value.cells]
  · intro i h1 h2
    simp [madeCells, bls, Value.cells, Nat.mod_one]
theorem U39 : Try.prog.underlying 39 = some (.slice 4) := by kernel_rfl
theorem I4b : (Try.prog.info? 4).map (fun i => (i.zero, i.size, i.bytes)) = some (some (.bool false), 1, 1) := by kernel_rfl
theorem make_bools (n : Nat) (h8 : n ≤ 8) (w : World) : (Instr.makeSlice 39 (.int .i64 n) (.int .i64 n)).run Try.prog w = .ok (.slice (some ⟨w.heap.size, 0, none⟩) n n) (w.alloc (.cells (bls (fun _ => false) n) 4)) := by
  obtain ⟨i2, hi, hi0, hi1, hi2⟩ := info_parts I4b
  have := run_make (P := Try.prog) w 39 4 i2 _ U39 hi hi0 .i64 .i64 n n (by omega) (by omega) (by rw [hi2]; omega) (by omega)
  rw [this, hi1]
  simp only [Int.toNat_natCast, Nat.mul_one, made_bools n]
/-- Two rows of truths above a world. -/
structure Mk (w5 : World) (gl gh D : Nat) (f g : Nat → Bool) (w : World) : Prop where
  low : Below w5.heap.size w5 w
  lo : w.heap[gl]? = some (.cells (bls f D) 4 (0, 0))
  hi : w.heap[gh]? = some (.cells (bls g D) 4 (0, 0))
  ge : w5.heap.size ≤ gl ∧ w5.heap.size ≤ gh
  ne : gl ≠ gh
section
variable {w5 w w' : World} {gl gh D j : Nat} {f g f' g' : Nat → Bool}
theorem Mk.later (h : Mk w5 gl gh D f g w) (hb : Below w.heap.size w w') : Mk w5 gl gh D f g w' :=
  ⟨h.low.trans (hb.mono h.low.size), (hb.block _ (Array.getElem?_eq_some_iff.1 h.lo).1).trans h.lo, (hb.block _ (Array.getElem?_eq_some_iff.1 h.hi).1).trans h.hi, h.ge, h.ne⟩
theorem Mk.congr (h : Mk w5 gl gh D f g w) (h1 : ∀ i, i < D → f i = f' i) (h2 : ∀ i, i < D → g i = g' i) : Mk w5 gl gh D f' g' w :=
  ⟨h.low, by rw [← bls_congr h1]; exact h.lo, by rw [← bls_congr h2]; exact h.hi, h.ge, h.ne⟩
theorem Mk.cells (h : Mk w5 gl gh D f g w) (hj : j < D) : w.cell? ⟨gl, j, none⟩ = some (.bool (f j)) ∧ w.cell? ⟨gh, j, none⟩ = some (.bool (g j)) ∧ w.frozen? ⟨gl, j, none⟩ = false ∧ w.frozen? ⟨gh, j, none⟩ = false :=
  ⟨(cell_of_row w gl j _ _ _ h.lo).trans (bls_get f D j hj), (cell_of_row w gh j _ _ _ h.hi).trans (bls_get g D j hj), frozen_of_row w gl _ _ _ h.lo, frozen_of_row w gh _ _ _ h.hi⟩
theorem Mk.setLo (h : Mk w5 gl gh D f g w) (b : Bool) : Mk w5 gl gh D (fun i => if i = j then b else f i) g (w.setCell ⟨gl, j, none⟩ (.bool b)) := by
  have r := heap_setCell_same w gl j _ _ (.bool b) h.lo
  rw [bls_set] at r
  exact ⟨h.low.setCell (p := ⟨gl, j, none⟩) h.ge.1 _, r, (heap_setCell_other _ _ _ _ (Ne.symm h.ne)).trans h.hi, h.ge, h.ne⟩
theorem Mk.setHi (h : Mk w5 gl gh D f g w) (b : Bool) : Mk w5 gl gh D f (fun i => if i = j then b else g i) (w.setCell ⟨gh, j, none⟩ (.bool b)) := by
  have r := heap_setCell_same w gh j _ _ (.bool b) h.hi
  rw [bls_set] at r
  exact ⟨h.low.setCell (p := ⟨gh, j, none⟩) h.ge.2 _, (heap_setCell_other _ _ _ _ h.ne).trans h.lo, r, h.ge, h.ne⟩
end
theorem mk_two (w : World) (D : Nat) (f g : Nat → Bool) :
    Mk w w.heap.size (w.heap.size + 1) D f g ((w.alloc (.cells (bls f D) 4)).alloc (.cells (bls g D) 4)) := by
  have r1 := heap_alloc_new w (.cells (bls f D) 4)
  have b1 : Below w.heap.size w (w.alloc (.cells (bls f D) 4)) := (Below.refl _ _).alloc (Nat.le_refl _) _
  have z1 : (w.alloc (.cells (bls f D) 4)).heap.size = w.heap.size + 1 := by simp
  generalize w.alloc (.cells (bls f D) 4) = w1 at *
  have r2 := heap_alloc_new w1 (.cells (bls g D) 4)
  have b2 : Below w1.heap.size w1 (w1.alloc (.cells (bls g D) 4)) := (Below.refl _ _).alloc (Nat.le_refl _) _
  rw [z1] at r2
  exact ⟨b1.trans (b2.mono (by omega)), (b2.block _ (by omega)).trans r1, r2, ⟨Nat.le_refl _, by omega⟩, by omega⟩
theorem Mk.swap {w5 w : World} {gl gh D : Nat} {f g : Nat → Bool} (h : Mk w5 gl gh D f g w) : Mk w5 gh gl D g f w := ⟨h.low, h.hi, h.lo, ⟨h.ge.2, h.ge.1⟩, Ne.symm h.ne⟩
/-- The first so many marked. -/
def stp (f g : Nat → Bool) (j : Nat) (i : Nat) : Bool := f i || (decide (i < j) && g i)
theorem stp_at (f g : Nat → Bool) (j : Nat) : stp f g j j = f j := by simp [stp]
theorem stp_zero (f g : Nat → Bool) (i : Nat) : stp f g 0 i = f i := by simp [stp]
theorem stp_succ (f g : Nat → Bool) (j i : Nat) : stp f g (j + 1) i = if i = j then f j || g j else stp f g j i := by
  unfold stp
  by_cases h : i = j
  · subst h; simp
  · rw [if_neg h, show decide (i < j + 1) = decide (i < j) from by rw [decide_eq_decide]; omega]
theorem stp_all (f g : Nat → Bool) (D i : Nat) (h : i < D) : stp f g D i = (f i || g i) := by simp [stp, h]
/-- What is known behind what the node says. -/
structure HuSt (gn gk kind : Nat) (p : Option Addr) (n c : Nat) (q : Option Addr) (m f : Nat) (E : List En) (K : List Kd) (kd : Kd) (w : World) : Prop where
  nd : NodeAt w gn kind p n c q m f
  en : EntsIn w p n c E
  ki : KidsIn w q m f K
  rk : w.heap[gk]? = some (.cells kd.cells.toArray 35 (0, 0))
  ok : kd.Ok w
theorem HuSt.later {gn gk kind : Nat} {p : Option Addr} {n c : Nat} {q : Option Addr} {m f : Nat} {E : List En} {K : List Kd} {kd : Kd} {w w' : World} (h : HuSt gn gk kind p n c q m f E K kd w) (b : Below w.heap.size w w') : HuSt gn gk kind p n c q m f E K kd w' :=
  ⟨h.nd.later b, h.en.later b, h.ki.later b, (b.block _ (Array.getElem?_eq_some_iff.1 h.rk).1).trans h.rk, h.ok.later b⟩
theorem HuSt.side {gn gk kind : Nat} {p : Option Addr} {n c : Nat} {q : Option Addr} {m f : Nat} {E : List En} {K : List Kd} {kd : Kd} {w : World} (h : HuSt gn gk kind p n c q m f E K kd w) :
    w.cell? ⟨gk, 32, none⟩ = some (.slice kd.lo.p kd.lo.n kd.lo.c) ∧ w.cell? ⟨gk, 33, none⟩ = some (.slice kd.hi.p kd.hi.n kd.hi.c) ∧ w.cell? ⟨gk, 34, none⟩ = some (.int .i64 kd.live) := by
  have hka := kat_row h.rk h.ok.len
  exact ⟨by simpa [Rw.val] using hka.lo, by simpa [Rw.val] using hka.hi, by simpa using hka.live⟩
theorem mkE_succ (A : List Int) (L : List PE) (k : Nat) (h : k < L.length) (i : Nat) : mkE A (L.take (k + 1)) i = (mkE A (L.take k) i || ((L.getD k default).live && ((L.getD k default).row.getD i 0 == A.getD i 0))) := by
  have e : L.getD k default = L[k] := by rw [List.getD_eq_getElem?_getD, List.getElem?_eq_getElem h]; rfl
  unfold mkE
  rw [e, List.take_succ_eq_append_getElem h, List.any_append]
  simp
theorem mkK_succ (F : PK → List Int) (A : List Int) (L : List PK) (k : Nat) (h : k < L.length) (i : Nat) : mkK F A (L.take (k + 1)) i = (mkK F A (L.take k) i || (!((L.getD k default).live == 0) && ((F (L.getD k default)).getD i 0 == A.getD i 0))) := by
  have e : L.getD k default = L[k] := by rw [List.getD_eq_getElem?_getD, List.getElem?_eq_getElem h]; rfl
  unfold mkK
  rw [e, List.take_succ_eq_append_getElem h, List.any_append]
  simp
/-- A box in a block of its own above a world. -/
structure BxAt (w6 : World) (gx : Nat) (B : Array Value) (w : World) : Prop where
  low : Below w6.heap.size w6 w
  bx : w.heap[gx]? = some (.cells B 33 (0, 0))
/-- The loop over the kids. -/
def Hu2 (w6 : World) (gl gh D : Nat) (U V : Nat → Bool) (A B : List Int) (L : List PK) (i : Value) (wr : World) : Prop := ∃ k : Nat, k ≤ L.length ∧ i = .int .i64 k ∧ Mk w6 gl gh D (fun i => U i || mkK PK.lo A (L.take k) i) (fun i => V i || mkK PK.hi B (L.take k) i) wr
/-- The loop over the rows. -/
def Hu1 (w6 : World) (gl gh D : Nat) (A B : List Int) (L : List PE) (i : Value) (wr : World) : Prop := ∃ k : Nat, k ≤ L.length ∧ i = .int .i64 k ∧ Mk w6 gl gh D (mkE A (L.take k)) (mkE B (L.take k)) wr
/-- A loop over the sides. -/
def HuJ (w6 : World) (gl gh D : Nat) (F G X Y : Nat → Bool) (i : Value) (wr : World) : Prop := ∃ j : Nat, j ≤ D ∧ i = .int .i64 j ∧ Mk w6 gl gh D (stp F X j) (stp G Y j) wr
/-- What lies below a place stays, and the world is no smaller. -/
def Up (B : Nat) (w w' : World) : Prop := Below B w w' ∧ B ≤ w'.heap.size
theorem Up.on {B : Nat} {w w1 w2 : World} (h : Up B w w1) (b : Below w1.heap.size w1 w2) : Up B w w2 := ⟨h.1.trans (b.mono h.2), Nat.le_trans h.2 b.size⟩
set_option maxRecDepth 100000 in
set_option maxHeartbeats 16000000 in
theorem hulls_any (kind : Nat) (hkd : kind < 256) (p : Option Addr) (n c : Nat) (q : Option Addr) (m f : Nat) (E : List En) (K : List Kd) (d : Int) (hd : In64 d) (w : World) (hE : EntsIn w p n c E) (hK : KidsIn w q m f K) :
    Calls Try.prog 3 #[.agg #[.int .u8 kind, .slice p n c, .slice q m f], .int .i64 d] w fun e w' => e = .returned (.bool true) ∧ Below w.heap.size w w' := by
  have hb1 : Below w.heap.size w (w.alloc (.cells #[.int .u8 kind, .slice p n c, .slice q m f] 25)) := (Below.refl _ _).alloc (Nat.le_refl _) _
  have HN := Lib.hid (NodeAt.start w kind p n c q m f)
  have HE := Lib.hid (hE.later hb1)
  have HK := Lib.hid (hK.later hb1)
  have HZ := Lib.hid (zero_of_info kz)
  have HKN := Lib.hid hkd
  obtain ⟨du, hdu, hdr⟩ := UKd
  have HDU := Lib.hid hdu
  have HU1 := Lib.hid (show Up w.heap.size w _ from ⟨hb1, hb1.size⟩)
  have HDR := Lib.hid hdr
  clear hE hK hb1 hkd hdu hdr
  have hz0 := HZ.out.1
  go_enter Try.func3, Try.ntmps3
  go_upto_region 1 with fail
  generalize w.alloc (.cells #[.int .u8 kind, .slice p n c, .slice q m f] 25) = w1 at *
  generalize hgn : w.heap.size = gn at *
  have HGN := Lib.hid hgn
  clear hgn
  go_upto_region 3 with (go_at_call 4; refine (alive_any w1).mono ?_; rintro _ w2 ⟨rfl, b2⟩; have HN2 := Lib.hid (HN.out.later b2); have HE2 := Lib.hid (HE.out.later b2); have HK2 := Lib.hid (HK.out.later b2); have HU2 := Lib.hid (HU1.out.on b2); clear b2)
  clear HN HE HK HU1
  clear w1
  obtain ⟨t0, t1, t2⟩ := HN2.out.cells
  go_wp2_with fail
  refine (great_any kind p n c q m f E K w2 HE2.out HK2.out).mono ?_
  rintro _ w3 ⟨gb, rfl, b3, -⟩
  have HN3 := Lib.hid (HN2.out.later b3)
  have HE3 := Lib.hid (HE2.out.later b3)
  have HK3 := Lib.hid (HK2.out.later b3)
  have HU3 := Lib.hid (HU2.out.on b3)
  clear b3 t0 t1 t2 HN2 HE2 HK2 HU2
  clear w2
  obtain ⟨t0, t1, t2⟩ := HN3.out.cells
  cases gb with
  | true =>
    go_wp2_with fail
    go_ret
    rw [HGN.out]
    first | exact ⟨rfl, HU3.out.1⟩ | exact ⟨rfl, HU3.out.1.drew⟩
  | false =>
  have HSAY := Lib.hid (Say_any kind HKN.out p n c q m f E K d w3 HE3.out HK3.out)
  obtain ⟨N, hN⟩ : ∃ N, pnOf kind E K = N := ⟨_, rfl⟩
  have HPN := Lib.hid hN
  rw [hN] at HSAY
  clear hN
  by_cases hr : N.right d = true ∧ N.size ≤ 1048576
  case neg =>
    have HR := Lib.hid hr
    clear hr
    go_upto_region 5 with fail
    go_upto_region 6 with (first
      | (go_at_call 6; refine HSAY.out.mono ?_; rintro e w5 ⟨b5, h5⟩; obtain rfl := ((h5.resolve_left (fun h => absurd h.1 HR.out)).2); have HU5 := Lib.hid (HU3.out.on b5); clear b5 h5)
      | (refine wpList_store_row (by rfl) 35 (.tmp 5) (.tmp 23) (by rfl) w5.heap.size kd0.cells.toArray (by rfl) (by rfl) _ _ (heap_alloc_new w5 _) (by rw [List.size_toArray, kd0_size]; exact SKd) rfl (all_oneCell_toArray Kd.one) ?_; rw [setRow_alloc]))
    have HU6 := Lib.hid (HU5.out.on (show Below w5.heap.size w5 (w5.alloc (.cells kd0.cells.toArray 35)) from (Below.refl _ _).alloc (Nat.le_refl _) _))
    generalize w5.alloc (.cells kd0.cells.toArray 35) = w6 at *
    go_wp2_with fail
    go_ret
    rw [HGN.out]
    first | exact ⟨rfl, HU6.out.1⟩ | exact ⟨rfl, HU6.out.1.drew⟩
  obtain ⟨hri, hsz⟩ := hr
  have HR := Lib.hid (And.intro hri hsz)
  clear hsz
  obtain ⟨hd1, hd8, hrl, -⟩ := right_split hri
  have HRL := Lib.hid hrl
  obtain ⟨D, rfl⟩ : ∃ D : Nat, d = D := ⟨d.toNat, by omega⟩
  have HSD := Lib.hid (node_sides hri)
  have hD8 : D ≤ 8 := by omega
  clear hri hd1 hd8 hd hrl
  go_upto_region 5 with fail
  go_upto_region 6 with (first
    | (go_at_call 6; refine HSAY.out.mono ?_; rintro e w5 ⟨b5, h5⟩; obtain ⟨kd, rfl, hpk, hok, -⟩ := ((h5.resolve_right (fun h => absurd HR.out h.1)).2); have HPK := Lib.hid hpk; have HOK := Lib.hid hok; have HCL := Lib.hid (Kd.cells_length hok.len); have HN5 := Lib.hid (HN3.out.later b5); have HE5 := Lib.hid (HE3.out.later b5); have HK5 := Lib.hid (HK3.out.later b5); have HU5 := Lib.hid (HU3.out.on b5); clear b5 h5 hpk hok)
    | (refine wpList_store_row (by rfl) 35 (.tmp 5) (.tmp 23) (by rfl) w5.heap.size kd.cells.toArray (by rfl) (by rfl) _ _ (heap_alloc_new w5 _) (by rw [List.size_toArray, HCL.out]; exact SKd) (by simp only [List.size_toArray, HCL.out, kd0_size]) (all_oneCell_toArray Kd.one) ?_; rw [setRow_alloc]))
  have hba : Below w5.heap.size w5 (w5.alloc (.cells kd.cells.toArray 35)) := (Below.refl _ _).alloc (Nat.le_refl _) _
  have HS := Lib.hid (show HuSt gn w5.heap.size kind p n c q m f E K kd (w5.alloc (.cells kd.cells.toArray 35)) from ⟨HN5.out.later hba, HE5.out.later hba, HK5.out.later hba, heap_alloc_new w5 _, HOK.out.later hba⟩)
  have HU6 := Lib.hid (HU5.out.on hba)
  generalize w5.alloc (.cells kd.cells.toArray 35) = w6 at *
  generalize w5.heap.size = gk at *
  clear hba HSAY HN3 HE3 HK3 HN5 HE5 HK5 HOK HU3 HU5 t0 t1 t2
  clear w3 w5
  obtain ⟨s32, s33, s34⟩ := HS.out.side
  have e1 : kd.lo.R = N.box.1 := congrArg PK.lo HPK.out
  have e2 : kd.hi.R = N.box.2 := congrArg PK.hi HPK.out
  have e3 : kd.live = N.live := congrArg PK.live HPK.out
  by_cases hl : kd.live = 0
  · have hx := HSD.out.1 (e3 ▸ hl)
    have l1 : kd.lo.n = 0 := by rw [HS.out.ok.lo.ints.size, e1, hx]; rfl
    have l2 : kd.hi.n = 0 := by rw [HS.out.ok.hi.ints.size, e2, hx]; rfl
    rw [l1] at s32
    rw [l2] at s33
    rw [hl] at s34
    clear e1 e2 e3 hx l1 l2
    go_wp2_with fail
    go_ret
    rw [HGN.out]
    first | exact ⟨rfl, HU6.out.1⟩ | exact ⟨rfl, HU6.out.1.drew⟩
  have hl2 : (kd.live == 0) = false := by simpa using hl
  have HX := Lib.hid (HSD.out.2 (fun h => hl (e3.trans h)))
  rw [← e1, ← e2] at HX
  have HRW := Lib.hid (show E.map En.pe = N.rows ∧ K.map Kd.pk = N.kids from by rw [← HPN.out]; exact ⟨rfl, rfl⟩)
  clear e1 e2 e3 HSD HPK HPN HR
  have MB := make_bools D hD8
  go_upto_region 8 with fail
  go_cut [7, 8] from 48 to 51 (fun s7 s8 wx => ∃ gl gh : Nat, s7 = .slice (some ⟨gl, 0, none⟩) D D ∧ s8 = .slice (some ⟨gh, 0, none⟩) D D ∧ Mk w6 gl gh D (fun _ => false) (fun _ => false) wx)
  case first =>
    go_region
    all_goals
      go_wp2_with fail
      go_meet
      first
        | exact ⟨w6.heap.size, w6.heap.size + 1, rfl, rfl, (mk_two w6 D _ _).later (Below.refl _ _).drew⟩
        | exact ⟨w6.heap.size + 1, w6.heap.size, rfl, rfl, ((mk_two w6 D _ _).swap).later (Below.refl _ _).drew⟩
  case rest =>
  obtain ⟨gl, gh, rfl, rfl, hmk⟩ := hcut
  have HM := Lib.hid hmk
  clear hmk MB s32 s33 s34
  have HES := Lib.hid (show n = N.rows.length from by rw [← HRW.out.1, List.length_map]; exact HS.out.en.size)
  have HKS := Lib.hid (show m = N.kids.length from by rw [← HRW.out.2, List.length_map]; exact HS.out.ki.size)
  have HTN := Lib.hid HS.out.en.top
  have HTM := Lib.hid HS.out.ki.top
  clear hl hl2 HCL hz0
  go_upto_region 10 with fail
  go_loopw [9] (fun i wr => Hu1 w6 gl gh D kd.lo.R kd.hi.R N.rows i wr) (fun i _ => n - (intOf i).toNat)
  case atStart => exact ⟨0, by omega, rfl, HM.out.congr (fun _ _ => rfl) (fun _ _ => rfl)⟩
  case round =>
    obtain ⟨k, hk, rfl, hm⟩ := hrel
    clear HM
    have HM := Lib.hid hm
    have HSR := Lib.hid (HS.out.later hm.low)
    clear hm
    rw [← HES.out] at hk
    obtain ⟨t0, t1, t2⟩ := HSR.out.nd.cells
    have htn := HTN.out
    by_cases hlt : k < n
    · obtain ⟨ge, oe, rfl, d0, d1, hro⟩ := HS.out.en.get k hlt
      have i1 : (0 : Int) ≤ k ∧ (k : Int) < n := by omega
      have hlen : k < E.length := by rw [← HSR.out.en.size]; exact hlt
      have hlen2 : k < N.rows.length := by rw [← HES.out]; exact hlt
      have HG := Lib.hid (show N.rows.getD k default = (E.getD k default).pe from by rw [← HRW.out.1]; exact map_getD En.pe E k hlen)
      have HME := Lib.hid (getD_mem N.rows k hlen2)
      have HSC1 := Lib.hid (mkE_succ kd.lo.R N.rows k hlen2)
      have HSC2 := Lib.hid (mkE_succ kd.hi.R N.rows k hlen2)
      have HRO6 := Lib.hid hro
      clear hro hlen hlen2
      generalize E.getD k default = e at *
      simp only [Rw.val] at d0
      have D0 := Lib.hid d0
      have D1 := Lib.hid d1
      have c0 := (HM.out.low.cell (block_lt_of_cell d0)).trans d0
      have c1 := (HM.out.low.cell (block_lt_of_cell d1)).trans d1
      have HRO := Lib.hid (HRO6.out.later HM.out.low)
      clear d0 d1
      rw [HG.out] at HME HSC1 HSC2
      by_cases hlv : e.live = true
      case neg =>
        have hlf : e.live = false := by simpa using hlv
        rw [hlf] at c1
        have hk1 := HM.out.congr (f' := mkE kd.lo.R (N.rows.take (k + 1))) (g' := mkE kd.hi.R (N.rows.take (k + 1))) (fun i _ => by rw [HSC1.out]; simp [En.pe, hlf]) (fun i _ => by rw [HSC2.out]; simp [En.pe, hlf])
        have HM1 := Lib.hid hk1
        clear hk1 hlv hlf HSC1 HSC2 HM
        go_wp2_with fail
        go_roundw
        case rel => exact ⟨k + 1, by rw [← HES.out]; omega, by go_num, HM1.out⟩
        case measure => simp [intOf]; omega
      rw [hlv] at c1
      have hrlen : e.row.n = D := by have := HRL.out _ HME.out; rw [HRO.out.ints.size]; simp only [En.pe] at this; omega
      have HHA := Lib.hid (HX.out.2.2.1 _ HME.out hlv)
      obtain ⟨s32, s33, -⟩ := HSR.out.side
      have hln : kd.lo.n = D := by rw [HSR.out.ok.lo.ints.size]; exact HX.out.1
      have hhn : kd.hi.n = D := by rw [HSR.out.ok.hi.ints.size]; exact HX.out.2.1
      rw [hln] at s32
      rw [hhn] at s33
      rw [hrlen] at c0
      have HC := Lib.hid (show ∀ w', Below wr.heap.size wr w' → Calls Try.prog 7 #[.agg #[.slice kd.lo.p D kd.lo.c, .slice kd.hi.p D kd.hi.c], .slice e.row.p D e.row.c] w' fun r w'' => r = .returned (.bool true) ∧ Below wr.heap.size wr w'' from fun w' hb => by
        have h1 := HSR.out.ok.lo.ints.later hb
        have h2 := HSR.out.ok.hi.ints.later hb
        have h3 := HRO.out.ints.later hb
        rw [hln] at h1
        rw [hhn] at h2
        rw [hrlen] at h3
        refine (refhas_any kd.lo.p kd.hi.p e.row.p D kd.lo.c D kd.hi.c D e.row.c kd.lo.R kd.hi.R e.row.R w' h1 h2 h3).mono ?_
        rintro _ w'' ⟨rfl, b''⟩
        exact ⟨by rw [show e.row.R = e.pe.row from rfl, HHA.out], hb.trans (b''.mono hb.size)⟩)
      go_upto_region 13 with fail
      go_cut [75] from 66 to 75 (fun s wx => s = .bool false ∧ Below wr.heap.size wr wx)
      case first =>
        go_region_law (go_simp; go_at_call 7; refine (HC.out _ (by first | exact Below.refl _ _ | exact (Below.refl _ _).drew)).mono ?_; rintro _ w4 ⟨rfl, hb4⟩)
        all_goals
          go_wp2_with fail
          go_meet
          exact ⟨rfl, by first | exact hb4 | exact hb4.drew⟩
      case rest =>
      obtain ⟨rfl, hbx⟩ := hcut
      have HMX := Lib.hid (HM.out.later hbx)
      clear hbx HC HHA HM HSR HRO t0 t1 t2 s32 s33 c0 c1
      clear wr
      have HLN := Lib.hid hln
      have HHN := Lib.hid hhn
      have HRN := Lib.hid hrlen
      have HLV := Lib.hid hlv
      clear hln hhn hrlen hlv
      generalize hF : mkE kd.lo.R (N.rows.take k) = F at *
      generalize hG : mkE kd.hi.R (N.rows.take k) = G at *
      have HF := Lib.hid hF
      have HGG := Lib.hid hG
      clear hF hG
      go_upto_region 16 with fail
      go_loopw [10] (fun i wr => HuJ w6 gl gh D F G (fun i => e.row.R.getD i 0 == kd.lo.R.getD i 0) (fun i => e.row.R.getD i 0 == kd.hi.R.getD i 0) i wr) (fun i _ => D - (intOf i).toNat)
      case atStart => exact ⟨0, by omega, rfl, HMX.out.congr (fun i _ => (stp_zero _ _ i).symm) (fun i _ => (stp_zero _ _ i).symm)⟩
      case round =>
        obtain ⟨j, hj, rfl, hm⟩ := hrel
        clear HMX
        have HM := Lib.hid hm
        clear hm
        by_cases hjd : j < D
        · obtain ⟨c10, -, f10, -⟩ := HM.out.cells hjd
          rw [stp_at] at c10
          obtain ⟨g1, o1, e1, x1⟩ := HRO6.out.ints.cell j (by rw [HRN.out]; exact hjd)
          obtain ⟨g2, o2, e2, x2⟩ := HS.out.ok.lo.ints.cell j (by rw [HLN.out]; exact hjd)
          obtain ⟨g3, o3, e3, x3⟩ := HS.out.ok.hi.ints.cell j (by rw [HHN.out]; exact hjd)
          obtain ⟨s32, s33, -⟩ := HS.out.side
          have c0 := D0.out
          rw [HRN.out, e1] at c0
          rw [HLN.out, e2] at s32
          rw [HHN.out, e3] at s33
          have i3 : (0 : Int) ≤ j ∧ (j : Int) < D := by omega
          have HJD := Lib.hid hjd
          have S32 := Lib.hid s32
          have S33 := Lib.hid s33
          have CR := Lib.hid c0
          clear s32 s33 c0 e1 e2 e3 hjd
          generalize hXX : (fun i => e.row.R.getD i 0 == kd.lo.R.getD i 0) = XX at *
          generalize hYY : (fun i => e.row.R.getD i 0 == kd.hi.R.getD i 0) = YY at *
          have hx0 : XX j = (e.row.R.getD j 0 == kd.lo.R.getD j 0) := by rw [← hXX]
          have hy0 : YY j = (e.row.R.getD j 0 == kd.hi.R.getD j 0) := by rw [← hYY]
          generalize e.row.R.getD j 0 = x at *
          generalize kd.lo.R.getD j 0 = y at *
          generalize kd.hi.R.getD j 0 = z at *
          have X1 := Lib.hid x1
          have X2 := Lib.hid x2
          have X3 := Lib.hid x3
          generalize hb1 : F j = b1 at *
          generalize hb2 : G j = b2 at *
          have HEQ := Lib.hid (And.intro hx0 (And.intro hy0 (And.intro True.intro (And.intro hb1 hb2))))
          have HXX := Lib.hid hXX
          have HYY := Lib.hid hYY
          clear hx0 hy0 hb1 hb2 x1 x2 x3 hXX hYY
          go_upto_region 18 with fail
          go_cut [104] from 81 to 105 (fun _ wx => Mk w6 gl gh D (stp F XX (j + 1)) (stp G YY j) wx)
          case first =>
            cases b1 with
            | true =>
              refine wp_region_held_drew (S := fun w' => Below w6.heap.size w6 w') (by kernel_rfl) (HM.out.low.drew) (fun hHeld => ?_)
              refine wpAnyH_take (i := 0) (oi := ⟨some 81, .move (.tmp 7), _, _, _, _⟩) (v := ?_) rfl (by kernel_rfl) (by kernel_rfl) (by kernel_rfl) (fun _ _ _ h => h) (Or.inl ⟨by rfl, ?_⟩) (by assumption) ?_
              rotate_left
              · intro w' hSw
                go_simp
                try with_reducible rfl
              try simp only [Act.put, List.setIfInBounds_toArray, List.set_cons_zero, List.set_cons_succ]
              refine wpAnyH_take (i := 1) (oi := ⟨some 82, .move (.tmp 10), _, _, _, _⟩) (v := ?_) rfl (by kernel_rfl) (by kernel_rfl) (by kernel_rfl) (fun _ _ _ h => h) (Or.inl ⟨by rfl, ?_⟩) (by assumption) ?_
              rotate_left
              · intro w' hSw
                go_simp
                try with_reducible rfl
              try simp only [Act.put, List.setIfInBounds_toArray, List.set_cons_zero, List.set_cons_succ]
              refine wpAnyH_take (i := 2) (oi := ⟨some 83, .move (.tmp 7), _, _, _, _⟩) (v := ?_) rfl (by kernel_rfl) (by kernel_rfl) (by kernel_rfl) (fun _ _ _ h => h) (Or.inl ⟨by rfl, ?_⟩) (by assumption) ?_
              rotate_left
              · intro w' hSw
                go_simp
                try with_reducible rfl
              try simp only [Act.put, List.setIfInBounds_toArray, List.set_cons_zero, List.set_cons_succ]
              refine wpAnyH_take (i := 3) (oi := ⟨some 84, .move (.tmp 10), _, _, _, _⟩) (v := ?_) rfl (by kernel_rfl) (by kernel_rfl) (by kernel_rfl) (fun _ _ _ h => h) (Or.inl ⟨by rfl, ?_⟩) (by assumption) ?_
              rotate_left
              · intro w' hSw
                go_simp
                try with_reducible rfl
              try simp only [Act.put, List.setIfInBounds_toArray, List.set_cons_zero, List.set_cons_succ]
              refine wpAnyH_take (i := 4) (oi := ⟨some 85, .indexAddr 39 (.tmp 83) (.tmp 84), _, _, _, _⟩) (v := ?_) rfl (by kernel_rfl) (by kernel_rfl) (by kernel_rfl) (fun _ _ _ h => h) (Or.inl ⟨by rfl, ?_⟩) (by assumption) ?_
              rotate_left
              · intro w' hSw
                go_simp
                try with_reducible rfl
              try simp only [Act.put, List.setIfInBounds_toArray, List.set_cons_zero, List.set_cons_succ]
              refine wpAnyH_ready (rs := [5]) (by kernel_rfl) (by simp) ?_
              refine AllReadyH.cons (o := ⟨some 86, .load 4 (.tmp 85), _, _, _, _⟩) rfl (fun K hK => ?_) AllReadyH.nil
              have cL : wr.drew.cell? ⟨gl, j, none⟩ = some (.bool true) := c10
              go_simp
              refine hK.out _ _ hHeld (fun hHeld => ?_)
              clear hK K
              try simp only [Act.put, List.setIfInBounds_toArray, List.set_cons_zero, List.set_cons_succ]
              refine wpAnyH_take (i := 6) (oi := ⟨some 87, .move (.tmp 86), _, _, _, _⟩) (v := ?_) rfl (by kernel_rfl) (by kernel_rfl) (by kernel_rfl) (fun _ _ _ h => h) (Or.inl ⟨by rfl, ?_⟩) (by assumption) ?_
              rotate_left
              · intro w' hSw
                go_simp
                try with_reducible rfl
              try simp only [Act.put, List.setIfInBounds_toArray, List.set_cons_zero, List.set_cons_succ]
              refine wpAnyH_take (i := 7) (oi := ⟨some 88, .fieldAddr 25 (.tmp 2) 1, _, _, _, _⟩) (v := undef) rfl (by kernel_rfl) (by kernel_rfl) (by kernel_rfl) (fun _ _ _ h => h) (Or.inr ⟨by rfl, rfl⟩) (by assumption) ?_
              try simp only [Act.put, List.setIfInBounds_toArray, List.set_cons_zero, List.set_cons_succ]
              refine wpAnyH_take (i := 8) (oi := ⟨some 89, .load 22 (.tmp 88), _, _, _, _⟩) (v := undef) rfl (by kernel_rfl) (by kernel_rfl) (by kernel_rfl) (fun _ _ _ h => h) (Or.inr ⟨by rfl, rfl⟩) (by assumption) ?_
              try simp only [Act.put, List.setIfInBounds_toArray, List.set_cons_zero, List.set_cons_succ]
              refine wpAnyH_take (i := 9) (oi := ⟨some 90, .move (.tmp 9), _, _, _, _⟩) (v := undef) rfl (by kernel_rfl) (by kernel_rfl) (by kernel_rfl) (fun _ _ _ h => h) (Or.inr ⟨by rfl, rfl⟩) (by assumption) ?_
              try simp only [Act.put, List.setIfInBounds_toArray, List.set_cons_zero, List.set_cons_succ]
              refine wpAnyH_take (i := 10) (oi := ⟨some 91, .indexAddr 22 (.tmp 89) (.tmp 90), _, _, _, _⟩) (v := undef) rfl (by kernel_rfl) (by kernel_rfl) (by kernel_rfl) (fun _ _ _ h => h) (Or.inr ⟨by rfl, rfl⟩) (by assumption) ?_
              try simp only [Act.put, List.setIfInBounds_toArray, List.set_cons_zero, List.set_cons_succ]
              refine wpAnyH_take (i := 11) (oi := ⟨some 92, .fieldAddr 41 (.tmp 91) 0, _, _, _, _⟩) (v := undef) rfl (by kernel_rfl) (by kernel_rfl) (by kernel_rfl) (fun _ _ _ h => h) (Or.inr ⟨by rfl, rfl⟩) (by assumption) ?_
              try simp only [Act.put, List.setIfInBounds_toArray, List.set_cons_zero, List.set_cons_succ]
              refine wpAnyH_take (i := 12) (oi := ⟨some 93, .load 31 (.tmp 92), _, _, _, _⟩) (v := undef) rfl (by kernel_rfl) (by kernel_rfl) (by kernel_rfl) (fun _ _ _ h => h) (Or.inr ⟨by rfl, rfl⟩) (by assumption) ?_
              try simp only [Act.put, List.setIfInBounds_toArray, List.set_cons_zero, List.set_cons_succ]
              refine wpAnyH_take (i := 13) (oi := ⟨some 94, .move (.tmp 10), _, _, _, _⟩) (v := undef) rfl (by kernel_rfl) (by kernel_rfl) (by kernel_rfl) (fun _ _ _ h => h) (Or.inr ⟨by rfl, rfl⟩) (by assumption) ?_
              try simp only [Act.put, List.setIfInBounds_toArray, List.set_cons_zero, List.set_cons_succ]
              refine wpAnyH_take (i := 14) (oi := ⟨some 95, .indexAddr 31 (.tmp 93) (.tmp 94), _, _, _, _⟩) (v := undef) rfl (by kernel_rfl) (by kernel_rfl) (by kernel_rfl) (fun _ _ _ h => h) (Or.inr ⟨by rfl, rfl⟩) (by assumption) ?_
              try simp only [Act.put, List.setIfInBounds_toArray, List.set_cons_zero, List.set_cons_succ]
              refine wpAnyH_take (i := 15) (oi := ⟨some 96, .load 2 (.tmp 95), _, _, _, _⟩) (v := undef) rfl (by kernel_rfl) (by kernel_rfl) (by kernel_rfl) (fun _ _ _ h => h) (Or.inr ⟨by rfl, rfl⟩) (by assumption) ?_
              try simp only [Act.put, List.setIfInBounds_toArray, List.set_cons_zero, List.set_cons_succ]
              refine wpAnyH_take (i := 16) (oi := ⟨some 97, .fieldAddr 35 (.tmp 5) 1, _, _, _, _⟩) (v := undef) rfl (by kernel_rfl) (by kernel_rfl) (by kernel_rfl) (fun _ _ _ h => h) (Or.inr ⟨by rfl, rfl⟩) (by assumption) ?_
              try simp only [Act.put, List.setIfInBounds_toArray, List.set_cons_zero, List.set_cons_succ]
              refine wpAnyH_take (i := 17) (oi := ⟨some 98, .fieldAddr 33 (.tmp 97) 0, _, _, _, _⟩) (v := undef) rfl (by kernel_rfl) (by kernel_rfl) (by kernel_rfl) (fun _ _ _ h => h) (Or.inr ⟨by rfl, rfl⟩) (by assumption) ?_
              try simp only [Act.put, List.setIfInBounds_toArray, List.set_cons_zero, List.set_cons_succ]
              refine wpAnyH_take (i := 18) (oi := ⟨some 99, .load 31 (.tmp 98), _, _, _, _⟩) (v := undef) rfl (by kernel_rfl) (by kernel_rfl) (by kernel_rfl) (fun _ _ _ h => h) (Or.inr ⟨by rfl, rfl⟩) (by assumption) ?_
              try simp only [Act.put, List.setIfInBounds_toArray, List.set_cons_zero, List.set_cons_succ]
              refine wpAnyH_take (i := 19) (oi := ⟨some 100, .move (.tmp 10), _, _, _, _⟩) (v := undef) rfl (by kernel_rfl) (by kernel_rfl) (by kernel_rfl) (fun _ _ _ h => h) (Or.inr ⟨by rfl, rfl⟩) (by assumption) ?_
              try simp only [Act.put, List.setIfInBounds_toArray, List.set_cons_zero, List.set_cons_succ]
              refine wpAnyH_take (i := 20) (oi := ⟨some 101, .indexAddr 31 (.tmp 99) (.tmp 100), _, _, _, _⟩) (v := undef) rfl (by kernel_rfl) (by kernel_rfl) (by kernel_rfl) (fun _ _ _ h => h) (Or.inr ⟨by rfl, rfl⟩) (by assumption) ?_
              try simp only [Act.put, List.setIfInBounds_toArray, List.set_cons_zero, List.set_cons_succ]
              refine wpAnyH_take (i := 21) (oi := ⟨some 102, .load 2 (.tmp 101), _, _, _, _⟩) (v := undef) rfl (by kernel_rfl) (by kernel_rfl) (by kernel_rfl) (fun _ _ _ h => h) (Or.inr ⟨by rfl, rfl⟩) (by assumption) ?_
              try simp only [Act.put, List.setIfInBounds_toArray, List.set_cons_zero, List.set_cons_succ]
              refine wpAnyH_take (i := 22) (oi := ⟨some 103, .binOp .eql 2 (.tmp 96) (.tmp 102) 2, _, _, _, _⟩) (v := undef) rfl (by kernel_rfl) (by kernel_rfl) (by kernel_rfl) (fun _ _ _ h => h) (Or.inr ⟨by rfl, rfl⟩) (by assumption) ?_
              try simp only [Act.put, List.setIfInBounds_toArray, List.set_cons_zero, List.set_cons_succ]
              refine wpAnyH_take (i := 23) (oi := ⟨some 104, .pick (.tmp 87) (.const (.bool true)) (.tmp 103), _, _, _, _⟩) (v := ?_) rfl (by kernel_rfl) (by kernel_rfl) (by kernel_rfl) (fun _ _ _ h => h) (Or.inl ⟨by rfl, ?_⟩) (by assumption) ?_
              rotate_left
              · intro w' hSw
                go_simp
                try with_reducible rfl
              try simp only [Act.put, List.setIfInBounds_toArray, List.set_cons_zero, List.set_cons_succ]
              refine wpAnyH_take (i := 24) (oi := ⟨some 105, .indexAddr 39 (.tmp 81) (.tmp 82), _, _, _, _⟩) (v := ?_) rfl (by kernel_rfl) (by kernel_rfl) (by kernel_rfl) (fun _ _ _ h => h) (Or.inl ⟨by rfl, ?_⟩) (by assumption) ?_
              rotate_left
              · intro w' hSw
                go_simp
                try with_reducible rfl
              try simp only [Act.put, List.setIfInBounds_toArray, List.set_cons_zero, List.set_cons_succ]
              refine wpAnyH_ready (rs := [25]) (by kernel_rfl) (by simp) ?_
              refine AllReadyH.cons (o := ⟨none, .store 4 (.tmp 105) (.tmp 104), _, _, _, _⟩) rfl (fun K hK => ?_) AllReadyH.nil
              have cL : wr.drew.cell? ⟨gl, j, none⟩ = some (.bool true) := c10
              have fL : wr.drew.frozen? ⟨gl, j, none⟩ = false := f10
              go_simp
              refine hK.out _ _ (hHeld.setCell (p := ⟨gl, j, none⟩) HM.out.ge.1 _) (fun hHeld => ?_)
              clear hK K
              try simp only [Act.put, List.setIfInBounds_toArray, List.set_cons_zero, List.set_cons_succ]
              refine wpAnyH_done (by kernel_rfl) ?_ _
              try go_wp2_with fail
              go_meet
              obtain ⟨hx, hy, -, hb1, hb2⟩ := HEQ.out
              exact ((HM.out.later (Below.refl _ _).drew).setLo (j := j) true).congr (fun i _ => by
                rw [stp_succ]
                by_cases h : i = j
                · rw [if_pos h, if_pos h, hb1]; rfl
                · rw [if_neg h, if_neg h]) (fun _ _ => rfl)
            | false =>
              refine wp_region_held_drew (S := fun w' => Below w6.heap.size w6 w') (by kernel_rfl) (HM.out.low.drew) (fun hHeld => ?_)
              refine wpAnyH_take (i := 0) (oi := ⟨some 81, .move (.tmp 7), _, _, _, _⟩) (v := ?_) rfl (by kernel_rfl) (by kernel_rfl) (by kernel_rfl) (fun _ _ _ h => h) (Or.inl ⟨by rfl, ?_⟩) (by assumption) ?_
              rotate_left
              · intro w' hSw
                go_simp
                try with_reducible rfl
              try simp only [Act.put, List.setIfInBounds_toArray, List.set_cons_zero, List.set_cons_succ]
              refine wpAnyH_take (i := 1) (oi := ⟨some 82, .move (.tmp 10), _, _, _, _⟩) (v := ?_) rfl (by kernel_rfl) (by kernel_rfl) (by kernel_rfl) (fun _ _ _ h => h) (Or.inl ⟨by rfl, ?_⟩) (by assumption) ?_
              rotate_left
              · intro w' hSw
                go_simp
                try with_reducible rfl
              try simp only [Act.put, List.setIfInBounds_toArray, List.set_cons_zero, List.set_cons_succ]
              refine wpAnyH_take (i := 2) (oi := ⟨some 83, .move (.tmp 7), _, _, _, _⟩) (v := ?_) rfl (by kernel_rfl) (by kernel_rfl) (by kernel_rfl) (fun _ _ _ h => h) (Or.inl ⟨by rfl, ?_⟩) (by assumption) ?_
              rotate_left
              · intro w' hSw
                go_simp
                try with_reducible rfl
              try simp only [Act.put, List.setIfInBounds_toArray, List.set_cons_zero, List.set_cons_succ]
              refine wpAnyH_take (i := 3) (oi := ⟨some 84, .move (.tmp 10), _, _, _, _⟩) (v := ?_) rfl (by kernel_rfl) (by kernel_rfl) (by kernel_rfl) (fun _ _ _ h => h) (Or.inl ⟨by rfl, ?_⟩) (by assumption) ?_
              rotate_left
              · intro w' hSw
                go_simp
                try with_reducible rfl
              try simp only [Act.put, List.setIfInBounds_toArray, List.set_cons_zero, List.set_cons_succ]
              refine wpAnyH_take (i := 4) (oi := ⟨some 85, .indexAddr 39 (.tmp 83) (.tmp 84), _, _, _, _⟩) (v := ?_) rfl (by kernel_rfl) (by kernel_rfl) (by kernel_rfl) (fun _ _ _ h => h) (Or.inl ⟨by rfl, ?_⟩) (by assumption) ?_
              rotate_left
              · intro w' hSw
                go_simp
                try with_reducible rfl
              try simp only [Act.put, List.setIfInBounds_toArray, List.set_cons_zero, List.set_cons_succ]
              refine wpAnyH_ready (rs := [5]) (by kernel_rfl) (by simp) ?_
              refine AllReadyH.cons (o := ⟨some 86, .load 4 (.tmp 85), _, _, _, _⟩) rfl (fun K hK => ?_) AllReadyH.nil
              have cL : wr.drew.cell? ⟨gl, j, none⟩ = some (.bool false) := c10
              go_simp
              refine hK.out _ _ hHeld (fun hHeld => ?_)
              clear hK K
              try simp only [Act.put, List.setIfInBounds_toArray, List.set_cons_zero, List.set_cons_succ]
              refine wpAnyH_take (i := 6) (oi := ⟨some 87, .move (.tmp 86), _, _, _, _⟩) (v := ?_) rfl (by kernel_rfl) (by kernel_rfl) (by kernel_rfl) (fun _ _ _ h => h) (Or.inl ⟨by rfl, ?_⟩) (by assumption) ?_
              rotate_left
              · intro w' hSw
                go_simp
                try with_reducible rfl
              try simp only [Act.put, List.setIfInBounds_toArray, List.set_cons_zero, List.set_cons_succ]
              refine wpAnyH_take (i := 7) (oi := ⟨some 88, .fieldAddr 25 (.tmp 2) 1, _, _, _, _⟩) (v := ?_) rfl (by kernel_rfl) (by kernel_rfl) (by kernel_rfl) (fun _ _ _ h => h) (Or.inl ⟨by rfl, ?_⟩) (by assumption) ?_
              rotate_left
              · intro w' hSw
                go_simp
                try with_reducible rfl
              try simp only [Act.put, List.setIfInBounds_toArray, List.set_cons_zero, List.set_cons_succ]
              refine wpAnyH_take (i := 8) (oi := ⟨some 89, .load 22 (.tmp 88), _, _, _, _⟩) (v := ?_) rfl (by kernel_rfl) (by kernel_rfl) (by kernel_rfl) (fun _ _ _ h => h) (Or.inl ⟨by rfl, ?_⟩) (by assumption) ?_
              rotate_left
              · intro w' hSw
                have t1 := (HS.out.later hSw).nd.cells.2.1
                go_simp
                try with_reducible rfl
              try simp only [Act.put, List.setIfInBounds_toArray, List.set_cons_zero, List.set_cons_succ]
              refine wpAnyH_take (i := 9) (oi := ⟨some 90, .move (.tmp 9), _, _, _, _⟩) (v := ?_) rfl (by kernel_rfl) (by kernel_rfl) (by kernel_rfl) (fun _ _ _ h => h) (Or.inl ⟨by rfl, ?_⟩) (by assumption) ?_
              rotate_left
              · intro w' hSw
                go_simp
                try with_reducible rfl
              try simp only [Act.put, List.setIfInBounds_toArray, List.set_cons_zero, List.set_cons_succ]
              refine wpAnyH_take (i := 10) (oi := ⟨some 91, .indexAddr 22 (.tmp 89) (.tmp 90), _, _, _, _⟩) (v := ?_) rfl (by kernel_rfl) (by kernel_rfl) (by kernel_rfl) (fun _ _ _ h => h) (Or.inl ⟨by rfl, ?_⟩) (by assumption) ?_
              rotate_left
              · intro w' hSw
                go_simp
                try with_reducible rfl
              try simp only [Act.put, List.setIfInBounds_toArray, List.set_cons_zero, List.set_cons_succ]
              refine wpAnyH_take (i := 11) (oi := ⟨some 92, .fieldAddr 41 (.tmp 91) 0, _, _, _, _⟩) (v := ?_) rfl (by kernel_rfl) (by kernel_rfl) (by kernel_rfl) (fun _ _ _ h => h) (Or.inl ⟨by rfl, ?_⟩) (by assumption) ?_
              rotate_left
              · intro w' hSw
                go_simp
                try with_reducible rfl
              try simp only [Act.put, List.setIfInBounds_toArray, List.set_cons_zero, List.set_cons_succ]
              refine wpAnyH_take (i := 12) (oi := ⟨some 93, .load 31 (.tmp 92), _, _, _, _⟩) (v := ?_) rfl (by kernel_rfl) (by kernel_rfl) (by kernel_rfl) (fun _ _ _ h => h) (Or.inl ⟨by rfl, ?_⟩) (by assumption) ?_
              rotate_left
              · intro w' hSw
                have c0 := (hSw.cell (block_lt_of_cell CR.out)).trans CR.out
                go_simp
                try with_reducible rfl
              try simp only [Act.put, List.setIfInBounds_toArray, List.set_cons_zero, List.set_cons_succ]
              refine wpAnyH_take (i := 13) (oi := ⟨some 94, .move (.tmp 10), _, _, _, _⟩) (v := ?_) rfl (by kernel_rfl) (by kernel_rfl) (by kernel_rfl) (fun _ _ _ h => h) (Or.inl ⟨by rfl, ?_⟩) (by assumption) ?_
              rotate_left
              · intro w' hSw
                go_simp
                try with_reducible rfl
              try simp only [Act.put, List.setIfInBounds_toArray, List.set_cons_zero, List.set_cons_succ]
              refine wpAnyH_take (i := 14) (oi := ⟨some 95, .indexAddr 31 (.tmp 93) (.tmp 94), _, _, _, _⟩) (v := ?_) rfl (by kernel_rfl) (by kernel_rfl) (by kernel_rfl) (fun _ _ _ h => h) (Or.inl ⟨by rfl, ?_⟩) (by assumption) ?_
              rotate_left
              · intro w' hSw
                go_simp
                try with_reducible rfl
              try simp only [Act.put, List.setIfInBounds_toArray, List.set_cons_zero, List.set_cons_succ]
              refine wpAnyH_take (i := 15) (oi := ⟨some 96, .load 2 (.tmp 95), _, _, _, _⟩) (v := ?_) rfl (by kernel_rfl) (by kernel_rfl) (by kernel_rfl) (fun _ _ _ h => h) (Or.inl ⟨by rfl, ?_⟩) (by assumption) ?_
              rotate_left
              · intro w' hSw
                have y1 := (hSw.cell (block_lt_of_cell X1.out)).trans X1.out
                go_simp
                try with_reducible rfl
              try simp only [Act.put, List.setIfInBounds_toArray, List.set_cons_zero, List.set_cons_succ]
              refine wpAnyH_take (i := 16) (oi := ⟨some 97, .fieldAddr 35 (.tmp 5) 1, _, _, _, _⟩) (v := ?_) rfl (by kernel_rfl) (by kernel_rfl) (by kernel_rfl) (fun _ _ _ h => h) (Or.inl ⟨by rfl, ?_⟩) (by assumption) ?_
              rotate_left
              · intro w' hSw
                go_simp
                try with_reducible rfl
              try simp only [Act.put, List.setIfInBounds_toArray, List.set_cons_zero, List.set_cons_succ]
              refine wpAnyH_take (i := 17) (oi := ⟨some 98, .fieldAddr 33 (.tmp 97) 0, _, _, _, _⟩) (v := ?_) rfl (by kernel_rfl) (by kernel_rfl) (by kernel_rfl) (fun _ _ _ h => h) (Or.inl ⟨by rfl, ?_⟩) (by assumption) ?_
              rotate_left
              · intro w' hSw
                go_simp
                try with_reducible rfl
              try simp only [Act.put, List.setIfInBounds_toArray, List.set_cons_zero, List.set_cons_succ]
              refine wpAnyH_take (i := 18) (oi := ⟨some 99, .load 31 (.tmp 98), _, _, _, _⟩) (v := ?_) rfl (by kernel_rfl) (by kernel_rfl) (by kernel_rfl) (fun _ _ _ h => h) (Or.inl ⟨by rfl, ?_⟩) (by assumption) ?_
              rotate_left
              · intro w' hSw
                have s1 := (hSw.cell (block_lt_of_cell S32.out)).trans S32.out
                go_simp
                try with_reducible rfl
              try simp only [Act.put, List.setIfInBounds_toArray, List.set_cons_zero, List.set_cons_succ]
              refine wpAnyH_take (i := 19) (oi := ⟨some 100, .move (.tmp 10), _, _, _, _⟩) (v := ?_) rfl (by kernel_rfl) (by kernel_rfl) (by kernel_rfl) (fun _ _ _ h => h) (Or.inl ⟨by rfl, ?_⟩) (by assumption) ?_
              rotate_left
              · intro w' hSw
                go_simp
                try with_reducible rfl
              try simp only [Act.put, List.setIfInBounds_toArray, List.set_cons_zero, List.set_cons_succ]
              refine wpAnyH_take (i := 20) (oi := ⟨some 101, .indexAddr 31 (.tmp 99) (.tmp 100), _, _, _, _⟩) (v := ?_) rfl (by kernel_rfl) (by kernel_rfl) (by kernel_rfl) (fun _ _ _ h => h) (Or.inl ⟨by rfl, ?_⟩) (by assumption) ?_
              rotate_left
              · intro w' hSw
                go_simp
                try with_reducible rfl
              try simp only [Act.put, List.setIfInBounds_toArray, List.set_cons_zero, List.set_cons_succ]
              refine wpAnyH_take (i := 21) (oi := ⟨some 102, .load 2 (.tmp 101), _, _, _, _⟩) (v := ?_) rfl (by kernel_rfl) (by kernel_rfl) (by kernel_rfl) (fun _ _ _ h => h) (Or.inl ⟨by rfl, ?_⟩) (by assumption) ?_
              rotate_left
              · intro w' hSw
                have y2 := (hSw.cell (block_lt_of_cell X2.out)).trans X2.out
                go_simp
                try with_reducible rfl
              try simp only [Act.put, List.setIfInBounds_toArray, List.set_cons_zero, List.set_cons_succ]
              refine wpAnyH_take (i := 22) (oi := ⟨some 103, .binOp .eql 2 (.tmp 96) (.tmp 102) 2, _, _, _, _⟩) (v := ?_) rfl (by kernel_rfl) (by kernel_rfl) (by kernel_rfl) (fun _ _ _ h => h) (Or.inl ⟨by rfl, ?_⟩) (by assumption) ?_
              rotate_left
              · intro w' hSw
                go_simp
                try with_reducible rfl
              try simp only [Act.put, List.setIfInBounds_toArray, List.set_cons_zero, List.set_cons_succ]
              refine wpAnyH_take (i := 23) (oi := ⟨some 104, .pick (.tmp 87) (.const (.bool true)) (.tmp 103), _, _, _, _⟩) (v := ?_) rfl (by kernel_rfl) (by kernel_rfl) (by kernel_rfl) (fun _ _ _ h => h) (Or.inl ⟨by rfl, ?_⟩) (by assumption) ?_
              rotate_left
              · intro w' hSw
                go_simp
                try with_reducible rfl
              try simp only [Act.put, List.setIfInBounds_toArray, List.set_cons_zero, List.set_cons_succ]
              refine wpAnyH_take (i := 24) (oi := ⟨some 105, .indexAddr 39 (.tmp 81) (.tmp 82), _, _, _, _⟩) (v := ?_) rfl (by kernel_rfl) (by kernel_rfl) (by kernel_rfl) (fun _ _ _ h => h) (Or.inl ⟨by rfl, ?_⟩) (by assumption) ?_
              rotate_left
              · intro w' hSw
                go_simp
                try with_reducible rfl
              try simp only [Act.put, List.setIfInBounds_toArray, List.set_cons_zero, List.set_cons_succ]
              refine wpAnyH_ready (rs := [25]) (by kernel_rfl) (by simp) ?_
              refine AllReadyH.cons (o := ⟨none, .store 4 (.tmp 105) (.tmp 104), _, _, _, _⟩) rfl (fun K hK => ?_) AllReadyH.nil
              have cL : wr.drew.cell? ⟨gl, j, none⟩ = some (.bool false) := c10
              have fL : wr.drew.frozen? ⟨gl, j, none⟩ = false := f10
              go_simp
              refine hK.out _ _ (hHeld.setCell (p := ⟨gl, j, none⟩) HM.out.ge.1 _) (fun hHeld => ?_)
              clear hK K
              try simp only [Act.put, List.setIfInBounds_toArray, List.set_cons_zero, List.set_cons_succ]
              refine wpAnyH_done (by kernel_rfl) ?_ _
              try go_wp2_with fail
              go_meet
              obtain ⟨hx, hy, -, hb1, hb2⟩ := HEQ.out
              exact ((HM.out.later (Below.refl _ _).drew).setLo (j := j) (x == y)).congr (fun i _ => by
                rw [stp_succ]
                by_cases h : i = j
                · rw [if_pos h, if_pos h, hb1, hx]; rfl
                · rw [if_neg h, if_neg h]) (fun _ _ => rfl)
          case rest =>
          have HM2 := Lib.hid hcut
          clear hcut HM f10 c10
          clear wr
          generalize wc = wr at *
          have HM := HM2
          clear HM2
          obtain ⟨-, c11, -, f11⟩ := HM.out.cells HJD.out
          rw [stp_at, HEQ.out.2.2.2.2] at c11
          go_upto_region 19 with fail
          cases b2 with
          | true =>
            refine wp_region_held_drew (S := fun w' => Below w6.heap.size w6 w') (by kernel_rfl) (HM.out.low.drew) (fun hHeld => ?_)
            refine wpAnyH_take (i := 0) (oi := ⟨some 106, .move (.tmp 8), _, _, _, _⟩) (v := ?_) rfl (by kernel_rfl) (by kernel_rfl) (by kernel_rfl) (fun _ _ _ h => h) (Or.inl ⟨by rfl, ?_⟩) (by assumption) ?_
            rotate_left
            · intro w' hSw
              go_simp
              try with_reducible rfl
            try simp only [Act.put, List.setIfInBounds_toArray, List.set_cons_zero, List.set_cons_succ]
            refine wpAnyH_take (i := 1) (oi := ⟨some 107, .move (.tmp 10), _, _, _, _⟩) (v := ?_) rfl (by kernel_rfl) (by kernel_rfl) (by kernel_rfl) (fun _ _ _ h => h) (Or.inl ⟨by rfl, ?_⟩) (by assumption) ?_
            rotate_left
            · intro w' hSw
              go_simp
              try with_reducible rfl
            try simp only [Act.put, List.setIfInBounds_toArray, List.set_cons_zero, List.set_cons_succ]
            refine wpAnyH_take (i := 2) (oi := ⟨some 108, .move (.tmp 8), _, _, _, _⟩) (v := ?_) rfl (by kernel_rfl) (by kernel_rfl) (by kernel_rfl) (fun _ _ _ h => h) (Or.inl ⟨by rfl, ?_⟩) (by assumption) ?_
            rotate_left
            · intro w' hSw
              go_simp
              try with_reducible rfl
            try simp only [Act.put, List.setIfInBounds_toArray, List.set_cons_zero, List.set_cons_succ]
            refine wpAnyH_take (i := 3) (oi := ⟨some 109, .move (.tmp 10), _, _, _, _⟩) (v := ?_) rfl (by kernel_rfl) (by kernel_rfl) (by kernel_rfl) (fun _ _ _ h => h) (Or.inl ⟨by rfl, ?_⟩) (by assumption) ?_
            rotate_left
            · intro w' hSw
              go_simp
              try with_reducible rfl
            try simp only [Act.put, List.setIfInBounds_toArray, List.set_cons_zero, List.set_cons_succ]
            refine wpAnyH_take (i := 4) (oi := ⟨some 110, .indexAddr 39 (.tmp 108) (.tmp 109), _, _, _, _⟩) (v := ?_) rfl (by kernel_rfl) (by kernel_rfl) (by kernel_rfl) (fun _ _ _ h => h) (Or.inl ⟨by rfl, ?_⟩) (by assumption) ?_
            rotate_left
            · intro w' hSw
              go_simp
              try with_reducible rfl
            try simp only [Act.put, List.setIfInBounds_toArray, List.set_cons_zero, List.set_cons_succ]
            refine wpAnyH_ready (rs := [5]) (by kernel_rfl) (by simp) ?_
            refine AllReadyH.cons (o := ⟨some 111, .load 4 (.tmp 110), _, _, _, _⟩) rfl (fun K hK => ?_) AllReadyH.nil
            have cL : wr.drew.cell? ⟨gh, j, none⟩ = some (.bool true) := c11
            go_simp
            refine hK.out _ _ hHeld (fun hHeld => ?_)
            clear hK K
            try simp only [Act.put, List.setIfInBounds_toArray, List.set_cons_zero, List.set_cons_succ]
            refine wpAnyH_take (i := 6) (oi := ⟨some 112, .move (.tmp 111), _, _, _, _⟩) (v := ?_) rfl (by kernel_rfl) (by kernel_rfl) (by kernel_rfl) (fun _ _ _ h => h) (Or.inl ⟨by rfl, ?_⟩) (by assumption) ?_
            rotate_left
            · intro w' hSw
              go_simp
              try with_reducible rfl
            try simp only [Act.put, List.setIfInBounds_toArray, List.set_cons_zero, List.set_cons_succ]
            refine wpAnyH_take (i := 7) (oi := ⟨some 113, .fieldAddr 25 (.tmp 2) 1, _, _, _, _⟩) (v := undef) rfl (by kernel_rfl) (by kernel_rfl) (by kernel_rfl) (fun _ _ _ h => h) (Or.inr ⟨by rfl, rfl⟩) (by assumption) ?_
            try simp only [Act.put, List.setIfInBounds_toArray, List.set_cons_zero, List.set_cons_succ]
            refine wpAnyH_take (i := 8) (oi := ⟨some 114, .load 22 (.tmp 113), _, _, _, _⟩) (v := undef) rfl (by kernel_rfl) (by kernel_rfl) (by kernel_rfl) (fun _ _ _ h => h) (Or.inr ⟨by rfl, rfl⟩) (by assumption) ?_
            try simp only [Act.put, List.setIfInBounds_toArray, List.set_cons_zero, List.set_cons_succ]
            refine wpAnyH_take (i := 9) (oi := ⟨some 115, .move (.tmp 9), _, _, _, _⟩) (v := undef) rfl (by kernel_rfl) (by kernel_rfl) (by kernel_rfl) (fun _ _ _ h => h) (Or.inr ⟨by rfl, rfl⟩) (by assumption) ?_
            try simp only [Act.put, List.setIfInBounds_toArray, List.set_cons_zero, List.set_cons_succ]
            refine wpAnyH_take (i := 10) (oi := ⟨some 116, .indexAddr 22 (.tmp 114) (.tmp 115), _, _, _, _⟩) (v := undef) rfl (by kernel_rfl) (by kernel_rfl) (by kernel_rfl) (fun _ _ _ h => h) (Or.inr ⟨by rfl, rfl⟩) (by assumption) ?_
            try simp only [Act.put, List.setIfInBounds_toArray, List.set_cons_zero, List.set_cons_succ]
            refine wpAnyH_take (i := 11) (oi := ⟨some 117, .fieldAddr 41 (.tmp 116) 0, _, _, _, _⟩) (v := undef) rfl (by kernel_rfl) (by kernel_rfl) (by kernel_rfl) (fun _ _ _ h => h) (Or.inr ⟨by rfl, rfl⟩) (by assumption) ?_
            try simp only [Act.put, List.setIfInBounds_toArray, List.set_cons_zero, List.set_cons_succ]
            refine wpAnyH_take (i := 12) (oi := ⟨some 118, .load 31 (.tmp 117), _, _, _, _⟩) (v := undef) rfl (by kernel_rfl) (by kernel_rfl) (by kernel_rfl) (fun _ _ _ h => h) (Or.inr ⟨by rfl, rfl⟩) (by assumption) ?_
            try simp only [Act.put, List.setIfInBounds_toArray, List.set_cons_zero, List.set_cons_succ]
            refine wpAnyH_take (i := 13) (oi := ⟨some 119, .move (.tmp 10), _, _, _, _⟩) (v := undef) rfl (by kernel_rfl) (by kernel_rfl) (by kernel_rfl) (fun _ _ _ h => h) (Or.inr ⟨by rfl, rfl⟩) (by assumption) ?_
            try simp only [Act.put, List.setIfInBounds_toArray, List.set_cons_zero, List.set_cons_succ]
            refine wpAnyH_take (i := 14) (oi := ⟨some 120, .indexAddr 31 (.tmp 118) (.tmp 119), _, _, _, _⟩) (v := undef) rfl (by kernel_rfl) (by kernel_rfl) (by kernel_rfl) (fun _ _ _ h => h) (Or.inr ⟨by rfl, rfl⟩) (by assumption) ?_
            try simp only [Act.put, List.setIfInBounds_toArray, List.set_cons_zero, List.set_cons_succ]
            refine wpAnyH_take (i := 15) (oi := ⟨some 121, .load 2 (.tmp 120), _, _, _, _⟩) (v := undef) rfl (by kernel_rfl) (by kernel_rfl) (by kernel_rfl) (fun _ _ _ h => h) (Or.inr ⟨by rfl, rfl⟩) (by assumption) ?_
            try simp only [Act.put, List.setIfInBounds_toArray, List.set_cons_zero, List.set_cons_succ]
            refine wpAnyH_take (i := 16) (oi := ⟨some 122, .fieldAddr 35 (.tmp 5) 1, _, _, _, _⟩) (v := undef) rfl (by kernel_rfl) (by kernel_rfl) (by kernel_rfl) (fun _ _ _ h => h) (Or.inr ⟨by rfl, rfl⟩) (by assumption) ?_
            try simp only [Act.put, List.setIfInBounds_toArray, List.set_cons_zero, List.set_cons_succ]
            refine wpAnyH_take (i := 17) (oi := ⟨some 123, .fieldAddr 33 (.tmp 122) 1, _, _, _, _⟩) (v := undef) rfl (by kernel_rfl) (by kernel_rfl) (by kernel_rfl) (fun _ _ _ h => h) (Or.inr ⟨by rfl, rfl⟩) (by assumption) ?_
            try simp only [Act.put, List.setIfInBounds_toArray, List.set_cons_zero, List.set_cons_succ]
            refine wpAnyH_take (i := 18) (oi := ⟨some 124, .load 31 (.tmp 123), _, _, _, _⟩) (v := undef) rfl (by kernel_rfl) (by kernel_rfl) (by kernel_rfl) (fun _ _ _ h => h) (Or.inr ⟨by rfl, rfl⟩) (by assumption) ?_
            try simp only [Act.put, List.setIfInBounds_toArray, List.set_cons_zero, List.set_cons_succ]
            refine wpAnyH_take (i := 19) (oi := ⟨some 125, .move (.tmp 10), _, _, _, _⟩) (v := undef) rfl (by kernel_rfl) (by kernel_rfl) (by kernel_rfl) (fun _ _ _ h => h) (Or.inr ⟨by rfl, rfl⟩) (by assumption) ?_
            try simp only [Act.put, List.setIfInBounds_toArray, List.set_cons_zero, List.set_cons_succ]
            refine wpAnyH_take (i := 20) (oi := ⟨some 126, .indexAddr 31 (.tmp 124) (.tmp 125), _, _, _, _⟩) (v := undef) rfl (by kernel_rfl) (by kernel_rfl) (by kernel_rfl) (fun _ _ _ h => h) (Or.inr ⟨by rfl, rfl⟩) (by assumption) ?_
            try simp only [Act.put, List.setIfInBounds_toArray, List.set_cons_zero, List.set_cons_succ]
            refine wpAnyH_take (i := 21) (oi := ⟨some 127, .load 2 (.tmp 126), _, _, _, _⟩) (v := undef) rfl (by kernel_rfl) (by kernel_rfl) (by kernel_rfl) (fun _ _ _ h => h) (Or.inr ⟨by rfl, rfl⟩) (by assumption) ?_
            try simp only [Act.put, List.setIfInBounds_toArray, List.set_cons_zero, List.set_cons_succ]
            refine wpAnyH_take (i := 22) (oi := ⟨some 128, .binOp .eql 2 (.tmp 121) (.tmp 127) 2, _, _, _, _⟩) (v := undef) rfl (by kernel_rfl) (by kernel_rfl) (by kernel_rfl) (fun _ _ _ h => h) (Or.inr ⟨by rfl, rfl⟩) (by assumption) ?_
            try simp only [Act.put, List.setIfInBounds_toArray, List.set_cons_zero, List.set_cons_succ]
            refine wpAnyH_take (i := 23) (oi := ⟨some 129, .pick (.tmp 112) (.const (.bool true)) (.tmp 128), _, _, _, _⟩) (v := ?_) rfl (by kernel_rfl) (by kernel_rfl) (by kernel_rfl) (fun _ _ _ h => h) (Or.inl ⟨by rfl, ?_⟩) (by assumption) ?_
            rotate_left
            · intro w' hSw
              go_simp
              try with_reducible rfl
            try simp only [Act.put, List.setIfInBounds_toArray, List.set_cons_zero, List.set_cons_succ]
            refine wpAnyH_take (i := 24) (oi := ⟨some 130, .indexAddr 39 (.tmp 106) (.tmp 107), _, _, _, _⟩) (v := ?_) rfl (by kernel_rfl) (by kernel_rfl) (by kernel_rfl) (fun _ _ _ h => h) (Or.inl ⟨by rfl, ?_⟩) (by assumption) ?_
            rotate_left
            · intro w' hSw
              go_simp
              try with_reducible rfl
            try simp only [Act.put, List.setIfInBounds_toArray, List.set_cons_zero, List.set_cons_succ]
            refine wpAnyH_ready (rs := [25]) (by kernel_rfl) (by simp) ?_
            refine AllReadyH.cons (o := ⟨none, .store 4 (.tmp 130) (.tmp 129), _, _, _, _⟩) rfl (fun K hK => ?_) AllReadyH.nil
            have cL : wr.drew.cell? ⟨gh, j, none⟩ = some (.bool true) := c11
            have fL : wr.drew.frozen? ⟨gh, j, none⟩ = false := f11
            go_simp
            refine hK.out _ _ (hHeld.setCell (p := ⟨gh, j, none⟩) HM.out.ge.2 _) (fun hHeld => ?_)
            clear hK K
            try simp only [Act.put, List.setIfInBounds_toArray, List.set_cons_zero, List.set_cons_succ]
            refine wpAnyH_done (by kernel_rfl) ?_ _
            obtain ⟨hx, hy, -, hb1, hb2⟩ := HEQ.out
            have HM3 := Lib.hid (((HM.out.later (Below.refl _ _).drew).setHi (j := j) true).congr (f' := stp F XX (j + 1)) (g' := stp G YY (j + 1)) (fun _ _ => rfl) (fun i _ => by
              rw [stp_succ]
              by_cases h : i = j
              · rw [if_pos h, if_pos h, hb2]; rfl
              · rw [if_neg h, if_neg h]))
            have hjd := HJD.out
            clear hx hy hb1 hb2 hHeld
            obtain rfl := HXX.out
            obtain rfl := HYY.out
            go_wp2_with fail
            go_roundw
            case rel => exact ⟨j + 1, by omega, by go_num, HM3.out⟩
            case measure => simp [intOf]; omega
          | false =>
            refine wp_region_held_drew (S := fun w' => Below w6.heap.size w6 w') (by kernel_rfl) (HM.out.low.drew) (fun hHeld => ?_)
            refine wpAnyH_take (i := 0) (oi := ⟨some 106, .move (.tmp 8), _, _, _, _⟩) (v := ?_) rfl (by kernel_rfl) (by kernel_rfl) (by kernel_rfl) (fun _ _ _ h => h) (Or.inl ⟨by rfl, ?_⟩) (by assumption) ?_
            rotate_left
            · intro w' hSw
              go_simp
              try with_reducible rfl
            try simp only [Act.put, List.setIfInBounds_toArray, List.set_cons_zero, List.set_cons_succ]
            refine wpAnyH_take (i := 1) (oi := ⟨some 107, .move (.tmp 10), _, _, _, _⟩) (v := ?_) rfl (by kernel_rfl) (by kernel_rfl) (by kernel_rfl) (fun _ _ _ h => h) (Or.inl ⟨by rfl, ?_⟩) (by assumption) ?_
            rotate_left
            · intro w' hSw
              go_simp
              try with_reducible rfl
            try simp only [Act.put, List.setIfInBounds_toArray, List.set_cons_zero, List.set_cons_succ]
            refine wpAnyH_take (i := 2) (oi := ⟨some 108, .move (.tmp 8), _, _, _, _⟩) (v := ?_) rfl (by kernel_rfl) (by kernel_rfl) (by kernel_rfl) (fun _ _ _ h => h) (Or.inl ⟨by rfl, ?_⟩) (by assumption) ?_
            rotate_left
            · intro w' hSw
              go_simp
              try with_reducible rfl
            try simp only [Act.put, List.setIfInBounds_toArray, List.set_cons_zero, List.set_cons_succ]
            refine wpAnyH_take (i := 3) (oi := ⟨some 109, .move (.tmp 10), _, _, _, _⟩) (v := ?_) rfl (by kernel_rfl) (by kernel_rfl) (by kernel_rfl) (fun _ _ _ h => h) (Or.inl ⟨by rfl, ?_⟩) (by assumption) ?_
            rotate_left
            · intro w' hSw
              go_simp
              try with_reducible rfl
            try simp only [Act.put, List.setIfInBounds_toArray, List.set_cons_zero, List.set_cons_succ]
            refine wpAnyH_take (i := 4) (oi := ⟨some 110, .indexAddr 39 (.tmp 108) (.tmp 109), _, _, _, _⟩) (v := ?_) rfl (by kernel_rfl) (by kernel_rfl) (by kernel_rfl) (fun _ _ _ h => h) (Or.inl ⟨by rfl, ?_⟩) (by assumption) ?_
            rotate_left
            · intro w' hSw
              go_simp
              try with_reducible rfl
            try simp only [Act.put, List.setIfInBounds_toArray, List.set_cons_zero, List.set_cons_succ]
            refine wpAnyH_ready (rs := [5]) (by kernel_rfl) (by simp) ?_
            refine AllReadyH.cons (o := ⟨some 111, .load 4 (.tmp 110), _, _, _, _⟩) rfl (fun K hK => ?_) AllReadyH.nil
            have cL : wr.drew.cell? ⟨gh, j, none⟩ = some (.bool false) := c11
            go_simp
            refine hK.out _ _ hHeld (fun hHeld => ?_)
            clear hK K
            try simp only [Act.put, List.setIfInBounds_toArray, List.set_cons_zero, List.set_cons_succ]
            refine wpAnyH_take (i := 6) (oi := ⟨some 112, .move (.tmp 111), _, _, _, _⟩) (v := ?_) rfl (by kernel_rfl) (by kernel_rfl) (by kernel_rfl) (fun _ _ _ h => h) (Or.inl ⟨by rfl, ?_⟩) (by assumption) ?_
            rotate_left
            · intro w' hSw
              go_simp
              try with_reducible rfl
            try simp only [Act.put, List.setIfInBounds_toArray, List.set_cons_zero, List.set_cons_succ]
            refine wpAnyH_take (i := 7) (oi := ⟨some 113, .fieldAddr 25 (.tmp 2) 1, _, _, _, _⟩) (v := ?_) rfl (by kernel_rfl) (by kernel_rfl) (by kernel_rfl) (fun _ _ _ h => h) (Or.inl ⟨by rfl, ?_⟩) (by assumption) ?_
            rotate_left
            · intro w' hSw
              go_simp
              try with_reducible rfl
            try simp only [Act.put, List.setIfInBounds_toArray, List.set_cons_zero, List.set_cons_succ]
            refine wpAnyH_take (i := 8) (oi := ⟨some 114, .load 22 (.tmp 113), _, _, _, _⟩) (v := ?_) rfl (by kernel_rfl) (by kernel_rfl) (by kernel_rfl) (fun _ _ _ h => h) (Or.inl ⟨by rfl, ?_⟩) (by assumption) ?_
            rotate_left
            · intro w' hSw
              have t1 := (HS.out.later hSw).nd.cells.2.1
              go_simp
              try with_reducible rfl
            try simp only [Act.put, List.setIfInBounds_toArray, List.set_cons_zero, List.set_cons_succ]
            refine wpAnyH_take (i := 9) (oi := ⟨some 115, .move (.tmp 9), _, _, _, _⟩) (v := ?_) rfl (by kernel_rfl) (by kernel_rfl) (by kernel_rfl) (fun _ _ _ h => h) (Or.inl ⟨by rfl, ?_⟩) (by assumption) ?_
            rotate_left
            · intro w' hSw
              go_simp
              try with_reducible rfl
            try simp only [Act.put, List.setIfInBounds_toArray, List.set_cons_zero, List.set_cons_succ]
            refine wpAnyH_take (i := 10) (oi := ⟨some 116, .indexAddr 22 (.tmp 114) (.tmp 115), _, _, _, _⟩) (v := ?_) rfl (by kernel_rfl) (by kernel_rfl) (by kernel_rfl) (fun _ _ _ h => h) (Or.inl ⟨by rfl, ?_⟩) (by assumption) ?_
            rotate_left
            · intro w' hSw
              go_simp
              try with_reducible rfl
            try simp only [Act.put, List.setIfInBounds_toArray, List.set_cons_zero, List.set_cons_succ]
            refine wpAnyH_take (i := 11) (oi := ⟨some 117, .fieldAddr 41 (.tmp 116) 0, _, _, _, _⟩) (v := ?_) rfl (by kernel_rfl) (by kernel_rfl) (by kernel_rfl) (fun _ _ _ h => h) (Or.inl ⟨by rfl, ?_⟩) (by assumption) ?_
            rotate_left
            · intro w' hSw
              go_simp
              try with_reducible rfl
            try simp only [Act.put, List.setIfInBounds_toArray, List.set_cons_zero, List.set_cons_succ]
            refine wpAnyH_take (i := 12) (oi := ⟨some 118, .load 31 (.tmp 117), _, _, _, _⟩) (v := ?_) rfl (by kernel_rfl) (by kernel_rfl) (by kernel_rfl) (fun _ _ _ h => h) (Or.inl ⟨by rfl, ?_⟩) (by assumption) ?_
            rotate_left
            · intro w' hSw
              have c0 := (hSw.cell (block_lt_of_cell CR.out)).trans CR.out
              go_simp
              try with_reducible rfl
            try simp only [Act.put, List.setIfInBounds_toArray, List.set_cons_zero, List.set_cons_succ]
            refine wpAnyH_take (i := 13) (oi := ⟨some 119, .move (.tmp 10), _, _, _, _⟩) (v := ?_) rfl (by kernel_rfl) (by kernel_rfl) (by kernel_rfl) (fun _ _ _ h => h) (Or.inl ⟨by rfl, ?_⟩) (by assumption) ?_
            rotate_left
            · intro w' hSw
              go_simp
              try with_reducible rfl
            try simp only [Act.put, List.setIfInBounds_toArray, List.set_cons_zero, List.set_cons_succ]
            refine wpAnyH_take (i := 14) (oi := ⟨some 120, .indexAddr 31 (.tmp 118) (.tmp 119), _, _, _, _⟩) (v := ?_) rfl (by kernel_rfl) (by kernel_rfl) (by kernel_rfl) (fun _ _ _ h => h) (Or.inl ⟨by rfl, ?_⟩) (by assumption) ?_
            rotate_left
            · intro w' hSw
              go_simp
              try with_reducible rfl
            try simp only [Act.put, List.setIfInBounds_toArray, List.set_cons_zero, List.set_cons_succ]
            refine wpAnyH_take (i := 15) (oi := ⟨some 121, .load 2 (.tmp 120), _, _, _, _⟩) (v := ?_) rfl (by kernel_rfl) (by kernel_rfl) (by kernel_rfl) (fun _ _ _ h => h) (Or.inl ⟨by rfl, ?_⟩) (by assumption) ?_
            rotate_left
            · intro w' hSw
              have y1 := (hSw.cell (block_lt_of_cell X1.out)).trans X1.out
              go_simp
              try with_reducible rfl
            try simp only [Act.put, List.setIfInBounds_toArray, List.set_cons_zero, List.set_cons_succ]
            refine wpAnyH_take (i := 16) (oi := ⟨some 122, .fieldAddr 35 (.tmp 5) 1, _, _, _, _⟩) (v := ?_) rfl (by kernel_rfl) (by kernel_rfl) (by kernel_rfl) (fun _ _ _ h => h) (Or.inl ⟨by rfl, ?_⟩) (by assumption) ?_
            rotate_left
            · intro w' hSw
              go_simp
              try with_reducible rfl
            try simp only [Act.put, List.setIfInBounds_toArray, List.set_cons_zero, List.set_cons_succ]
            refine wpAnyH_take (i := 17) (oi := ⟨some 123, .fieldAddr 33 (.tmp 122) 1, _, _, _, _⟩) (v := ?_) rfl (by kernel_rfl) (by kernel_rfl) (by kernel_rfl) (fun _ _ _ h => h) (Or.inl ⟨by rfl, ?_⟩) (by assumption) ?_
            rotate_left
            · intro w' hSw
              go_simp
              try with_reducible rfl
            try simp only [Act.put, List.setIfInBounds_toArray, List.set_cons_zero, List.set_cons_succ]
            refine wpAnyH_take (i := 18) (oi := ⟨some 124, .load 31 (.tmp 123), _, _, _, _⟩) (v := ?_) rfl (by kernel_rfl) (by kernel_rfl) (by kernel_rfl) (fun _ _ _ h => h) (Or.inl ⟨by rfl, ?_⟩) (by assumption) ?_
            rotate_left
            · intro w' hSw
              have s1 := (hSw.cell (block_lt_of_cell S33.out)).trans S33.out
              go_simp
              try with_reducible rfl
            try simp only [Act.put, List.setIfInBounds_toArray, List.set_cons_zero, List.set_cons_succ]
            refine wpAnyH_take (i := 19) (oi := ⟨some 125, .move (.tmp 10), _, _, _, _⟩) (v := ?_) rfl (by kernel_rfl) (by kernel_rfl) (by kernel_rfl) (fun _ _ _ h => h) (Or.inl ⟨by rfl, ?_⟩) (by assumption) ?_
            rotate_left
            · intro w' hSw
              go_simp
              try with_reducible rfl
            try simp only [Act.put, List.setIfInBounds_toArray, List.set_cons_zero, List.set_cons_succ]
            refine wpAnyH_take (i := 20) (oi := ⟨some 126, .indexAddr 31 (.tmp 124) (.tmp 125), _, _, _, _⟩) (v := ?_) rfl (by kernel_rfl) (by kernel_rfl) (by kernel_rfl) (fun _ _ _ h => h) (Or.inl ⟨by rfl, ?_⟩) (by assumption) ?_
            rotate_left
            · intro w' hSw
              go_simp
              try with_reducible rfl
            try simp only [Act.put, List.setIfInBounds_toArray, List.set_cons_zero, List.set_cons_succ]
            refine wpAnyH_take (i := 21) (oi := ⟨some 127, .load 2 (.tmp 126), _, _, _, _⟩) (v := ?_) rfl (by kernel_rfl) (by kernel_rfl) (by kernel_rfl) (fun _ _ _ h => h) (Or.inl ⟨by rfl, ?_⟩) (by assumption) ?_
            rotate_left
            · intro w' hSw
              have y2 := (hSw.cell (block_lt_of_cell X3.out)).trans X3.out
              go_simp
              try with_reducible rfl
            try simp only [Act.put, List.setIfInBounds_toArray, List.set_cons_zero, List.set_cons_succ]
            refine wpAnyH_take (i := 22) (oi := ⟨some 128, .binOp .eql 2 (.tmp 121) (.tmp 127) 2, _, _, _, _⟩) (v := ?_) rfl (by kernel_rfl) (by kernel_rfl) (by kernel_rfl) (fun _ _ _ h => h) (Or.inl ⟨by rfl, ?_⟩) (by assumption) ?_
            rotate_left
            · intro w' hSw
              go_simp
              try with_reducible rfl
            try simp only [Act.put, List.setIfInBounds_toArray, List.set_cons_zero, List.set_cons_succ]
            refine wpAnyH_take (i := 23) (oi := ⟨some 129, .pick (.tmp 112) (.const (.bool true)) (.tmp 128), _, _, _, _⟩) (v := ?_) rfl (by kernel_rfl) (by kernel_rfl) (by kernel_rfl) (fun _ _ _ h => h) (Or.inl ⟨by rfl, ?_⟩) (by assumption) ?_
            rotate_left
            · intro w' hSw
              go_simp
              try with_reducible rfl
            try simp only [Act.put, List.setIfInBounds_toArray, List.set_cons_zero, List.set_cons_succ]
            refine wpAnyH_take (i := 24) (oi := ⟨some 130, .indexAddr 39 (.tmp 106) (.tmp 107), _, _, _, _⟩) (v := ?_) rfl (by kernel_rfl) (by kernel_rfl) (by kernel_rfl) (fun _ _ _ h => h) (Or.inl ⟨by rfl, ?_⟩) (by assumption) ?_
            rotate_left
            · intro w' hSw
              go_simp
              try with_reducible rfl
            try simp only [Act.put, List.setIfInBounds_toArray, List.set_cons_zero, List.set_cons_succ]
            refine wpAnyH_ready (rs := [25]) (by kernel_rfl) (by simp) ?_
            refine AllReadyH.cons (o := ⟨none, .store 4 (.tmp 130) (.tmp 129), _, _, _, _⟩) rfl (fun K hK => ?_) AllReadyH.nil
            have cL : wr.drew.cell? ⟨gh, j, none⟩ = some (.bool false) := c11
            have fL : wr.drew.frozen? ⟨gh, j, none⟩ = false := f11
            go_simp
            refine hK.out _ _ (hHeld.setCell (p := ⟨gh, j, none⟩) HM.out.ge.2 _) (fun hHeld => ?_)
            clear hK K
            try simp only [Act.put, List.setIfInBounds_toArray, List.set_cons_zero, List.set_cons_succ]
            refine wpAnyH_done (by kernel_rfl) ?_ _
            obtain ⟨hx, hy, -, hb1, hb2⟩ := HEQ.out
            have HM3 := Lib.hid (((HM.out.later (Below.refl _ _).drew).setHi (j := j) (x == z)).congr (f' := stp F XX (j + 1)) (g' := stp G YY (j + 1)) (fun _ _ => rfl) (fun i _ => by
              rw [stp_succ]
              by_cases h : i = j
              · rw [if_pos h, if_pos h, hb2, hy]; rfl
              · rw [if_neg h, if_neg h]))
            have hjd := HJD.out
            clear hx hy hb1 hb2 hHeld
            obtain rfl := HXX.out
            obtain rfl := HYY.out
            go_wp2_with fail
            go_roundw
            case rel => exact ⟨j + 1, by omega, by go_num, HM3.out⟩
            case measure => simp [intOf]; omega
        · obtain rfl : D = j := by omega
          have HM1 := Lib.hid (HM.out.congr (f' := mkE kd.lo.R (N.rows.take (k + 1))) (g' := mkE kd.hi.R (N.rows.take (k + 1))) (fun i hi => by rw [stp_all _ _ _ _ hi, HSC1.out]; simp [En.pe, HLV.out]) (fun i hi => by rw [stp_all _ _ _ _ hi, HSC2.out]; simp [En.pe, HLV.out]))
          clear HM
          go_wp2_with fail
          go_roundw
          case rel => exact ⟨k + 1, by rw [← HES.out]; omega, by go_num, HM1.out⟩
          case measure => simp [intOf]; omega
    · obtain rfl : n = k := by omega
      have HMR := Lib.hid (HM.out.congr (f' := mkE kd.lo.R N.rows) (g' := mkE kd.hi.R N.rows) (fun i _ => by rw [HES.out, List.take_length]) (fun i _ => by rw [HES.out, List.take_length]))
      clear HM HSR
      clear HRL hk hlt
      generalize mkE kd.lo.R N.rows = U at *
      generalize mkE kd.hi.R N.rows = V at *
      go_wp2_with fail
      go_loopw [11] (fun i wr => Hu2 w6 gl gh D U V kd.lo.R kd.hi.R N.kids i wr) (fun i _ => m - (intOf i).toNat)
      case atStart => exact ⟨0, by omega, rfl, HMR.out.congr (fun i _ => by simp [mkK]) (fun i _ => by simp [mkK])⟩
      case round =>
        obtain ⟨k, hk, rfl, hm⟩ := hrel
        clear HMR
        have HM := Lib.hid hm
        have HSR := Lib.hid (HS.out.later hm.low)
        clear hm
        rw [← HKS.out] at hk
        obtain ⟨t0, t1, t2⟩ := HSR.out.nd.cells
        have htm := HTM.out
        by_cases hlt : k < m
        · obtain ⟨gq, oq, rfl, hrg, hok⟩ := HS.out.ki.get k hlt
          have i1 : (0 : Int) ≤ k ∧ (k : Int) < m := by omega
          have hlen : k < K.length := by rw [← HSR.out.ki.size]; exact hlt
          have hlen2 : k < N.kids.length := by rw [← HKS.out]; exact hlt
          have HG := Lib.hid (show N.kids.getD k default = (K.getD k default).pk from by rw [← HRW.out.2]; exact map_getD Kd.pk K k hlen)
          have HME := Lib.hid (getD_mem N.kids k hlen2)
          have HSC1 := Lib.hid (mkK_succ PK.lo kd.lo.R N.kids k hlen2)
          have HSC2 := Lib.hid (mkK_succ PK.hi kd.hi.R N.kids k hlen2)
          have HOK6 := Lib.hid hok
          have HAT := Lib.hid (kat_of hrg hok.len)
          clear hrg hok hlen hlen2
          generalize K.getD k default = kx at *
          rw [HG.out] at HME HSC1 HSC2
          have c32 := (HM.out.low.cell (block_lt_of_cell HAT.out.lo)).trans HAT.out.lo
          have c33 := (HM.out.low.cell (block_lt_of_cell HAT.out.hi)).trans HAT.out.hi
          have c34 := (HM.out.low.cell (block_lt_of_cell HAT.out.live)).trans HAT.out.live
          simp only [Rw.val] at c32 c33
          have hba : Below wr.heap.size wr (wr.alloc (.cells #[.slice kx.lo.p kx.lo.n kx.lo.c, .slice kx.hi.p kx.hi.n kx.hi.c] 33)) := (Below.refl _ _).alloc (Nat.le_refl _) _
          go_upto_region 24 with fail
          have HM7 := Lib.hid (HM.out.later hba)
          have HBX := Lib.hid (heap_alloc_new wr (.cells #[.slice kx.lo.p kx.lo.n kx.lo.c, .slice kx.hi.p kx.hi.n kx.hi.c] 33))
          have HNE := Lib.hid (show wr.heap.size ≠ gl ∧ wr.heap.size ≠ gh from ⟨fun h => by have := (Array.getElem?_eq_some_iff.1 HM.out.lo).1; omega, fun h => by have := (Array.getElem?_eq_some_iff.1 HM.out.hi).1; omega⟩)
          have HSR7 := Lib.hid (HSR.out.later hba)
          have c34 := (hba.cell (block_lt_of_cell c34)).trans c34
          clear hba c32 c33 t0 t1 t2 HM HSR
          generalize wr.alloc (.cells #[.slice kx.lo.p kx.lo.n kx.lo.c, .slice kx.hi.p kx.hi.n kx.hi.c] 33) = w7 at *
          generalize wr.heap.size = gx at *
          obtain ⟨t0, t1, t2⟩ := HSR7.out.nd.cells
          by_cases hlv : kx.live = 0
          · rw [hlv] at c34
            have HM1 := Lib.hid (HM7.out.congr (f' := fun i => U i || mkK PK.lo kd.lo.R (N.kids.take (k + 1)) i) (g' := fun i => V i || mkK PK.hi kd.hi.R (N.kids.take (k + 1)) i) (fun i _ => by rw [HSC1.out]; simp [Kd.pk, hlv]) (fun i _ => by rw [HSC2.out]; simp [Kd.pk, hlv]))
            clear hlv HSC1 HSC2 HM7
            clear HSR7 HBX HNE HAT HOK6 HME HG
            go_wp2_with fail
            go_roundw
            case rel => exact ⟨k + 1, by rw [← HKS.out]; omega, by go_num, HM1.out⟩
            case measure => simp [intOf]; omega
          have hlb : (kx.live == 0) = false := by simpa using hlv
          obtain ⟨hl1, hl2, hh1, hh2⟩ := HX.out.2.2.2.1 _ HME.out hlv
          have hn1 : kx.lo.n = D := by rw [HOK6.out.lo.ints.size]; exact hl1
          have hn2 : kx.hi.n = D := by rw [HOK6.out.hi.ints.size]; exact hl2
          have HH1 := Lib.hid hh1
          have HH2 := Lib.hid hh2
          have HN1 := Lib.hid hn1
          have HN2 := Lib.hid hn2
          rw [hn1, hn2] at HBX
          obtain ⟨s32, s33, -⟩ := HSR7.out.side
          have hln : kd.lo.n = D := by rw [HSR7.out.ok.lo.ints.size]; exact HX.out.1
          have hhn : kd.hi.n = D := by rw [HSR7.out.ok.hi.ints.size]; exact HX.out.2.1
          rw [hln] at s32
          rw [hhn] at s33
          have HLB := Lib.hid hlv
          have HLN := Lib.hid hln
          have HHN := Lib.hid hhn
          have HC1 := Lib.hid (show ∀ w', Below w7.heap.size w7 w' → Calls Try.prog 7 #[.agg #[.slice kd.lo.p D kd.lo.c, .slice kd.hi.p D kd.hi.c], .slice kx.lo.p D kx.lo.c] w' fun r w'' => r = .returned (.bool true) ∧ Below w7.heap.size w7 w'' from fun w' hb => by
            have h1 := HSR7.out.ok.lo.ints.later hb
            have h2 := HSR7.out.ok.hi.ints.later hb
            have h3 := (HOK6.out.later HM7.out.low).lo.ints.later hb
            rw [HLN.out] at h1
            rw [HHN.out] at h2
            rw [HN1.out] at h3
            refine (refhas_any kd.lo.p kd.hi.p kx.lo.p D kd.lo.c D kd.hi.c D kx.lo.c kd.lo.R kd.hi.R kx.lo.R w' h1 h2 h3).mono ?_
            rintro _ w'' ⟨rfl, b''⟩
            exact ⟨by rw [show kx.lo.R = kx.pk.lo from rfl, HH1.out], hb.trans (b''.mono hb.size)⟩)
          have HC2 := Lib.hid (show ∀ w', Below w7.heap.size w7 w' → Calls Try.prog 7 #[.agg #[.slice kd.lo.p D kd.lo.c, .slice kd.hi.p D kd.hi.c], .slice kx.hi.p D kx.hi.c] w' fun r w'' => r = .returned (.bool true) ∧ Below w7.heap.size w7 w'' from fun w' hb => by
            have h1 := HSR7.out.ok.lo.ints.later hb
            have h2 := HSR7.out.ok.hi.ints.later hb
            have h3 := (HOK6.out.later HM7.out.low).hi.ints.later hb
            rw [HLN.out] at h1
            rw [HHN.out] at h2
            rw [HN2.out] at h3
            refine (refhas_any kd.lo.p kd.hi.p kx.hi.p D kd.lo.c D kd.hi.c D kx.hi.c kd.lo.R kd.hi.R kx.hi.R w' h1 h2 h3).mono ?_
            rintro _ w'' ⟨rfl, b''⟩
            exact ⟨by rw [show kx.hi.R = kx.pk.hi from rfl, HH2.out], hb.trans (b''.mono hb.size)⟩)
          have x0 := cell_of_row w7 gx 0 _ _ _ HBX.out
          have x1 := cell_of_row w7 gx 1 _ _ _ HBX.out
          clear hlv hl1 hl2 hh1 hh2 hn1 hn2 hln hhn
          go_wp2_with fail
          refine (HC1.out w7 (Below.refl _ _)).mono ?_
          rintro _ w8 ⟨rfl, b8⟩
          have s32 := (b8.cell (block_lt_of_cell s32)).trans s32
          have s33 := (b8.cell (block_lt_of_cell s33)).trans s33
          have x1 := (b8.cell (block_lt_of_cell x1)).trans x1
          have HB8 := Lib.hid b8
          clear b8
          go_wp2_with fail
          refine (HC2.out w8 HB8.out).mono ?_
          rintro _ w9 ⟨rfl, b9⟩
          have HB9 := Lib.hid b9
          clear b9
          have HM9 := Lib.hid (HM7.out.later HB9.out)
          have HBX9 := Lib.hid ((HB9.out.block _ (Array.getElem?_eq_some_iff.1 HBX.out).1).trans HBX.out)
          clear HM7 HBX HSR7 HB8 HB9 HC1 HC2 HH1 HH2 x0 x1 c34 t0 t1 t2
          generalize hF : (fun i => U i || mkK PK.lo kd.lo.R (N.kids.take k) i) = F at *
          generalize hG : (fun i => V i || mkK PK.hi kd.hi.R (N.kids.take k) i) = G at *
          have HF := Lib.hid hF
          have HGG := Lib.hid hG
          clear hF hG
          go_upto_region 28 with fail
          go_loopw [13] (fun i wr => HuJ w6 gl gh D F G (fun i => kx.lo.R.getD i 0 == kd.lo.R.getD i 0) (fun i => kx.hi.R.getD i 0 == kd.hi.R.getD i 0) i wr ∧ wr.heap[gx]? = some (.cells #[.slice kx.lo.p D kx.lo.c, .slice kx.hi.p D kx.hi.c] 33 (0, 0))) (fun i _ => D - (intOf i).toNat)
          case atStart => exact ⟨⟨0, by omega, rfl, HM9.out.congr (fun i _ => (stp_zero _ _ i).symm) (fun i _ => (stp_zero _ _ i).symm)⟩, HBX9.out⟩
          case round =>
            obtain ⟨⟨j, hj, rfl, hm⟩, hbx⟩ := hrel
            clear HM9 HBX9
            have HM := Lib.hid hm
            have HBX := Lib.hid hbx
            clear hm hbx
            by_cases hjd : j < D
            · obtain ⟨c10, -, f10, -⟩ := HM.out.cells hjd
              rw [stp_at] at c10
              obtain ⟨g1, o1, e1, x1⟩ := HOK6.out.lo.ints.cell j (by rw [HN1.out]; exact hjd)
              obtain ⟨g4, o4, e4, x4⟩ := HOK6.out.hi.ints.cell j (by rw [HN2.out]; exact hjd)
              obtain ⟨g2, o2, e2, x2⟩ := HS.out.ok.lo.ints.cell j (by rw [HLN.out]; exact hjd)
              obtain ⟨g3, o3, e3, x3⟩ := HS.out.ok.hi.ints.cell j (by rw [HHN.out]; exact hjd)
              obtain ⟨s32, s33, -⟩ := HS.out.side
              rw [HLN.out, e2] at s32
              rw [HHN.out, e3] at s33
              have HBE := Lib.hid (show (#[.slice kx.lo.p D kx.lo.c, .slice kx.hi.p D kx.hi.c] : Array Value) = #[.slice (some ⟨g1, o1, none⟩) D kx.lo.c, .slice (some ⟨g4, o4, none⟩) D kx.hi.c] from by rw [e1, e4])
              rw [e1, e4] at HBX
              have i3 : (0 : Int) ≤ j ∧ (j : Int) < D := by omega
              have HJD := Lib.hid hjd
              have S32 := Lib.hid s32
              have S33 := Lib.hid s33
              clear s32 s33 e1 e2 e3 e4 hjd
              generalize hXX : (fun i => kx.lo.R.getD i 0 == kd.lo.R.getD i 0) = XX at *
              generalize hYY : (fun i => kx.hi.R.getD i 0 == kd.hi.R.getD i 0) = YY at *
              have hx0 : XX j = (kx.lo.R.getD j 0 == kd.lo.R.getD j 0) := by rw [← hXX]
              have hy0 : YY j = (kx.hi.R.getD j 0 == kd.hi.R.getD j 0) := by rw [← hYY]
              generalize kx.lo.R.getD j 0 = x at *
              generalize kx.hi.R.getD j 0 = u at *
              generalize kd.lo.R.getD j 0 = y at *
              generalize kd.hi.R.getD j 0 = z at *
              have X1 := Lib.hid x1
              have X2 := Lib.hid x2
              have X3 := Lib.hid x3
              have X4 := Lib.hid x4
              generalize hb1 : F j = b1 at *
              generalize hb2 : G j = b2 at *
              have HEQ := Lib.hid (And.intro hx0 (And.intro hy0 (And.intro True.intro (And.intro hb1 hb2))))
              have HXX := Lib.hid hXX
              have HYY := Lib.hid hYY
              clear hx0 hy0 hb1 hb2 x1 x2 x3 x4 hXX hYY
              go_upto_region 30 with fail
              go_cut [189] from 170 to 190 (fun _ wx => Mk w6 gl gh D (stp F XX (j + 1)) (stp G YY j) wx ∧ wx.heap[gx]? = some (.cells #[.slice (some ⟨g1, o1, none⟩) D kx.lo.c, .slice (some ⟨g4, o4, none⟩) D kx.hi.c] 33 (0, 0)))
              case first =>
                cases b1 with
                | true =>
                  refine wp_region_held_drew (S := fun w' => BxAt w6 gx #[.slice (some ⟨g1, o1, none⟩) D kx.lo.c, .slice (some ⟨g4, o4, none⟩) D kx.hi.c] w') (by kernel_rfl) (⟨HM.out.low.drew, HBX.out⟩) (fun hHeld => ?_)
                  refine wpAnyH_take (i := 0) (oi := ⟨some 170, .move (.tmp 7), _, _, _, _⟩) (v := ?_) rfl (by kernel_rfl) (by kernel_rfl) (by kernel_rfl) (fun _ _ _ h => h) (Or.inl ⟨by rfl, ?_⟩) (by assumption) ?_
                  rotate_left
                  · intro w' hSw
                    go_simp
                    try with_reducible rfl
                  try simp only [Act.put, List.setIfInBounds_toArray, List.set_cons_zero, List.set_cons_succ]
                  refine wpAnyH_take (i := 1) (oi := ⟨some 171, .move (.tmp 13), _, _, _, _⟩) (v := ?_) rfl (by kernel_rfl) (by kernel_rfl) (by kernel_rfl) (fun _ _ _ h => h) (Or.inl ⟨by rfl, ?_⟩) (by assumption) ?_
                  rotate_left
                  · intro w' hSw
                    go_simp
                    try with_reducible rfl
                  try simp only [Act.put, List.setIfInBounds_toArray, List.set_cons_zero, List.set_cons_succ]
                  refine wpAnyH_take (i := 2) (oi := ⟨some 172, .move (.tmp 7), _, _, _, _⟩) (v := ?_) rfl (by kernel_rfl) (by kernel_rfl) (by kernel_rfl) (fun _ _ _ h => h) (Or.inl ⟨by rfl, ?_⟩) (by assumption) ?_
                  rotate_left
                  · intro w' hSw
                    go_simp
                    try with_reducible rfl
                  try simp only [Act.put, List.setIfInBounds_toArray, List.set_cons_zero, List.set_cons_succ]
                  refine wpAnyH_take (i := 3) (oi := ⟨some 173, .move (.tmp 13), _, _, _, _⟩) (v := ?_) rfl (by kernel_rfl) (by kernel_rfl) (by kernel_rfl) (fun _ _ _ h => h) (Or.inl ⟨by rfl, ?_⟩) (by assumption) ?_
                  rotate_left
                  · intro w' hSw
                    go_simp
                    try with_reducible rfl
                  try simp only [Act.put, List.setIfInBounds_toArray, List.set_cons_zero, List.set_cons_succ]
                  refine wpAnyH_take (i := 4) (oi := ⟨some 174, .indexAddr 39 (.tmp 172) (.tmp 173), _, _, _, _⟩) (v := ?_) rfl (by kernel_rfl) (by kernel_rfl) (by kernel_rfl) (fun _ _ _ h => h) (Or.inl ⟨by rfl, ?_⟩) (by assumption) ?_
                  rotate_left
                  · intro w' hSw
                    go_simp
                    try with_reducible rfl
                  try simp only [Act.put, List.setIfInBounds_toArray, List.set_cons_zero, List.set_cons_succ]
                  refine wpAnyH_ready (rs := [5]) (by kernel_rfl) (by simp) ?_
                  refine AllReadyH.cons (o := ⟨some 175, .load 4 (.tmp 174), _, _, _, _⟩) rfl (fun K hK => ?_) AllReadyH.nil
                  have cL : wr.drew.cell? ⟨gl, j, none⟩ = some (.bool true) := c10
                  go_simp
                  refine hK.out _ _ hHeld (fun hHeld => ?_)
                  clear hK K
                  try simp only [Act.put, List.setIfInBounds_toArray, List.set_cons_zero, List.set_cons_succ]
                  refine wpAnyH_take (i := 6) (oi := ⟨some 176, .move (.tmp 175), _, _, _, _⟩) (v := ?_) rfl (by kernel_rfl) (by kernel_rfl) (by kernel_rfl) (fun _ _ _ h => h) (Or.inl ⟨by rfl, ?_⟩) (by assumption) ?_
                  rotate_left
                  · intro w' hSw
                    go_simp
                    try with_reducible rfl
                  try simp only [Act.put, List.setIfInBounds_toArray, List.set_cons_zero, List.set_cons_succ]
                  refine wpAnyH_take (i := 7) (oi := ⟨some 177, .fieldAddr 33 (.tmp 12) 0, _, _, _, _⟩) (v := undef) rfl (by kernel_rfl) (by kernel_rfl) (by kernel_rfl) (fun _ _ _ h => h) (Or.inr ⟨by rfl, rfl⟩) (by assumption) ?_
                  try simp only [Act.put, List.setIfInBounds_toArray, List.set_cons_zero, List.set_cons_succ]
                  refine wpAnyH_take (i := 8) (oi := ⟨some 178, .load 31 (.tmp 177), _, _, _, _⟩) (v := undef) rfl (by kernel_rfl) (by kernel_rfl) (by kernel_rfl) (fun _ _ _ h => h) (Or.inr ⟨by rfl, rfl⟩) (by assumption) ?_
                  try simp only [Act.put, List.setIfInBounds_toArray, List.set_cons_zero, List.set_cons_succ]
                  refine wpAnyH_take (i := 9) (oi := ⟨some 179, .move (.tmp 13), _, _, _, _⟩) (v := undef) rfl (by kernel_rfl) (by kernel_rfl) (by kernel_rfl) (fun _ _ _ h => h) (Or.inr ⟨by rfl, rfl⟩) (by assumption) ?_
                  try simp only [Act.put, List.setIfInBounds_toArray, List.set_cons_zero, List.set_cons_succ]
                  refine wpAnyH_take (i := 10) (oi := ⟨some 180, .indexAddr 31 (.tmp 178) (.tmp 179), _, _, _, _⟩) (v := undef) rfl (by kernel_rfl) (by kernel_rfl) (by kernel_rfl) (fun _ _ _ h => h) (Or.inr ⟨by rfl, rfl⟩) (by assumption) ?_
                  try simp only [Act.put, List.setIfInBounds_toArray, List.set_cons_zero, List.set_cons_succ]
                  refine wpAnyH_take (i := 11) (oi := ⟨some 181, .load 2 (.tmp 180), _, _, _, _⟩) (v := undef) rfl (by kernel_rfl) (by kernel_rfl) (by kernel_rfl) (fun _ _ _ h => h) (Or.inr ⟨by rfl, rfl⟩) (by assumption) ?_
                  try simp only [Act.put, List.setIfInBounds_toArray, List.set_cons_zero, List.set_cons_succ]
                  refine wpAnyH_take (i := 12) (oi := ⟨some 182, .fieldAddr 35 (.tmp 5) 1, _, _, _, _⟩) (v := undef) rfl (by kernel_rfl) (by kernel_rfl) (by kernel_rfl) (fun _ _ _ h => h) (Or.inr ⟨by rfl, rfl⟩) (by assumption) ?_
                  try simp only [Act.put, List.setIfInBounds_toArray, List.set_cons_zero, List.set_cons_succ]
                  refine wpAnyH_take (i := 13) (oi := ⟨some 183, .fieldAddr 33 (.tmp 182) 0, _, _, _, _⟩) (v := undef) rfl (by kernel_rfl) (by kernel_rfl) (by kernel_rfl) (fun _ _ _ h => h) (Or.inr ⟨by rfl, rfl⟩) (by assumption) ?_
                  try simp only [Act.put, List.setIfInBounds_toArray, List.set_cons_zero, List.set_cons_succ]
                  refine wpAnyH_take (i := 14) (oi := ⟨some 184, .load 31 (.tmp 183), _, _, _, _⟩) (v := undef) rfl (by kernel_rfl) (by kernel_rfl) (by kernel_rfl) (fun _ _ _ h => h) (Or.inr ⟨by rfl, rfl⟩) (by assumption) ?_
                  try simp only [Act.put, List.setIfInBounds_toArray, List.set_cons_zero, List.set_cons_succ]
                  refine wpAnyH_take (i := 15) (oi := ⟨some 185, .move (.tmp 13), _, _, _, _⟩) (v := undef) rfl (by kernel_rfl) (by kernel_rfl) (by kernel_rfl) (fun _ _ _ h => h) (Or.inr ⟨by rfl, rfl⟩) (by assumption) ?_
                  try simp only [Act.put, List.setIfInBounds_toArray, List.set_cons_zero, List.set_cons_succ]
                  refine wpAnyH_take (i := 16) (oi := ⟨some 186, .indexAddr 31 (.tmp 184) (.tmp 185), _, _, _, _⟩) (v := undef) rfl (by kernel_rfl) (by kernel_rfl) (by kernel_rfl) (fun _ _ _ h => h) (Or.inr ⟨by rfl, rfl⟩) (by assumption) ?_
                  try simp only [Act.put, List.setIfInBounds_toArray, List.set_cons_zero, List.set_cons_succ]
                  refine wpAnyH_take (i := 17) (oi := ⟨some 187, .load 2 (.tmp 186), _, _, _, _⟩) (v := undef) rfl (by kernel_rfl) (by kernel_rfl) (by kernel_rfl) (fun _ _ _ h => h) (Or.inr ⟨by rfl, rfl⟩) (by assumption) ?_
                  try simp only [Act.put, List.setIfInBounds_toArray, List.set_cons_zero, List.set_cons_succ]
                  refine wpAnyH_take (i := 18) (oi := ⟨some 188, .binOp .eql 2 (.tmp 181) (.tmp 187) 2, _, _, _, _⟩) (v := undef) rfl (by kernel_rfl) (by kernel_rfl) (by kernel_rfl) (fun _ _ _ h => h) (Or.inr ⟨by rfl, rfl⟩) (by assumption) ?_
                  try simp only [Act.put, List.setIfInBounds_toArray, List.set_cons_zero, List.set_cons_succ]
                  refine wpAnyH_take (i := 19) (oi := ⟨some 189, .pick (.tmp 176) (.const (.bool true)) (.tmp 188), _, _, _, _⟩) (v := ?_) rfl (by kernel_rfl) (by kernel_rfl) (by kernel_rfl) (fun _ _ _ h => h) (Or.inl ⟨by rfl, ?_⟩) (by assumption) ?_
                  rotate_left
                  · intro w' hSw
                    go_simp
                    try with_reducible rfl
                  try simp only [Act.put, List.setIfInBounds_toArray, List.set_cons_zero, List.set_cons_succ]
                  refine wpAnyH_take (i := 20) (oi := ⟨some 190, .indexAddr 39 (.tmp 170) (.tmp 171), _, _, _, _⟩) (v := ?_) rfl (by kernel_rfl) (by kernel_rfl) (by kernel_rfl) (fun _ _ _ h => h) (Or.inl ⟨by rfl, ?_⟩) (by assumption) ?_
                  rotate_left
                  · intro w' hSw
                    go_simp
                    try with_reducible rfl
                  try simp only [Act.put, List.setIfInBounds_toArray, List.set_cons_zero, List.set_cons_succ]
                  refine wpAnyH_ready (rs := [21]) (by kernel_rfl) (by simp) ?_
                  refine AllReadyH.cons (o := ⟨none, .store 4 (.tmp 190) (.tmp 189), _, _, _, _⟩) rfl (fun K hK => ?_) AllReadyH.nil
                  have cL : wr.drew.cell? ⟨gl, j, none⟩ = some (.bool true) := c10
                  have fL : wr.drew.frozen? ⟨gl, j, none⟩ = false := f10
                  go_simp
                  refine hK.out _ _ ⟨hHeld.low.setCell (p := ⟨gl, j, none⟩) HM.out.ge.1 _, (heap_setCell_other _ _ _ _ HNE.out.1).trans hHeld.bx⟩ (fun hHeld => ?_)
                  clear hK K
                  try simp only [Act.put, List.setIfInBounds_toArray, List.set_cons_zero, List.set_cons_succ]
                  refine wpAnyH_done (by kernel_rfl) ?_ _
                  try go_wp2_with fail
                  go_meet
                  obtain ⟨hx, hy, -, hb1, hb2⟩ := HEQ.out
                  refine ⟨((HM.out.later (Below.refl _ _).drew).setLo (j := j) true).congr (fun i _ => by
                    rw [stp_succ]
                    by_cases h : i = j
                    · rw [if_pos h, if_pos h, hb1]; rfl
                    · rw [if_neg h, if_neg h]) (fun _ _ => rfl), hHeld.bx⟩
                | false =>
                  refine wp_region_held_drew (S := fun w' => BxAt w6 gx #[.slice (some ⟨g1, o1, none⟩) D kx.lo.c, .slice (some ⟨g4, o4, none⟩) D kx.hi.c] w') (by kernel_rfl) (⟨HM.out.low.drew, HBX.out⟩) (fun hHeld => ?_)
                  refine wpAnyH_take (i := 0) (oi := ⟨some 170, .move (.tmp 7), _, _, _, _⟩) (v := ?_) rfl (by kernel_rfl) (by kernel_rfl) (by kernel_rfl) (fun _ _ _ h => h) (Or.inl ⟨by rfl, ?_⟩) (by assumption) ?_
                  rotate_left
                  · intro w' hSw
                    go_simp
                    try with_reducible rfl
                  try simp only [Act.put, List.setIfInBounds_toArray, List.set_cons_zero, List.set_cons_succ]
                  refine wpAnyH_take (i := 1) (oi := ⟨some 171, .move (.tmp 13), _, _, _, _⟩) (v := ?_) rfl (by kernel_rfl) (by kernel_rfl) (by kernel_rfl) (fun _ _ _ h => h) (Or.inl ⟨by rfl, ?_⟩) (by assumption) ?_
                  rotate_left
                  · intro w' hSw
                    go_simp
                    try with_reducible rfl
                  try simp only [Act.put, List.setIfInBounds_toArray, List.set_cons_zero, List.set_cons_succ]
                  refine wpAnyH_take (i := 2) (oi := ⟨some 172, .move (.tmp 7), _, _, _, _⟩) (v := ?_) rfl (by kernel_rfl) (by kernel_rfl) (by kernel_rfl) (fun _ _ _ h => h) (Or.inl ⟨by rfl, ?_⟩) (by assumption) ?_
                  rotate_left
                  · intro w' hSw
                    go_simp
                    try with_reducible rfl
                  try simp only [Act.put, List.setIfInBounds_toArray, List.set_cons_zero, List.set_cons_succ]
                  refine wpAnyH_take (i := 3) (oi := ⟨some 173, .move (.tmp 13), _, _, _, _⟩) (v := ?_) rfl (by kernel_rfl) (by kernel_rfl) (by kernel_rfl) (fun _ _ _ h => h) (Or.inl ⟨by rfl, ?_⟩) (by assumption) ?_
                  rotate_left
                  · intro w' hSw
                    go_simp
                    try with_reducible rfl
                  try simp only [Act.put, List.setIfInBounds_toArray, List.set_cons_zero, List.set_cons_succ]
                  refine wpAnyH_take (i := 4) (oi := ⟨some 174, .indexAddr 39 (.tmp 172) (.tmp 173), _, _, _, _⟩) (v := ?_) rfl (by kernel_rfl) (by kernel_rfl) (by kernel_rfl) (fun _ _ _ h => h) (Or.inl ⟨by rfl, ?_⟩) (by assumption) ?_
                  rotate_left
                  · intro w' hSw
                    go_simp
                    try with_reducible rfl
                  try simp only [Act.put, List.setIfInBounds_toArray, List.set_cons_zero, List.set_cons_succ]
                  refine wpAnyH_ready (rs := [5]) (by kernel_rfl) (by simp) ?_
                  refine AllReadyH.cons (o := ⟨some 175, .load 4 (.tmp 174), _, _, _, _⟩) rfl (fun K hK => ?_) AllReadyH.nil
                  have cL : wr.drew.cell? ⟨gl, j, none⟩ = some (.bool false) := c10
                  go_simp
                  refine hK.out _ _ hHeld (fun hHeld => ?_)
                  clear hK K
                  try simp only [Act.put, List.setIfInBounds_toArray, List.set_cons_zero, List.set_cons_succ]
                  refine wpAnyH_take (i := 6) (oi := ⟨some 176, .move (.tmp 175), _, _, _, _⟩) (v := ?_) rfl (by kernel_rfl) (by kernel_rfl) (by kernel_rfl) (fun _ _ _ h => h) (Or.inl ⟨by rfl, ?_⟩) (by assumption) ?_
                  rotate_left
                  · intro w' hSw
                    go_simp
                    try with_reducible rfl
                  try simp only [Act.put, List.setIfInBounds_toArray, List.set_cons_zero, List.set_cons_succ]
                  refine wpAnyH_take (i := 7) (oi := ⟨some 177, .fieldAddr 33 (.tmp 12) 0, _, _, _, _⟩) (v := ?_) rfl (by kernel_rfl) (by kernel_rfl) (by kernel_rfl) (fun _ _ _ h => h) (Or.inl ⟨by rfl, ?_⟩) (by assumption) ?_
                  rotate_left
                  · intro w' hSw
                    go_simp
                    try with_reducible rfl
                  try simp only [Act.put, List.setIfInBounds_toArray, List.set_cons_zero, List.set_cons_succ]
                  refine wpAnyH_take (i := 8) (oi := ⟨some 178, .load 31 (.tmp 177), _, _, _, _⟩) (v := ?_) rfl (by kernel_rfl) (by kernel_rfl) (by kernel_rfl) (fun _ _ _ h => h) (Or.inl ⟨by rfl, ?_⟩) (by assumption) ?_
                  rotate_left
                  · intro w' hSw
                    have c0 := cell_of_row w' gx 0 _ _ _ hSw.bx
                    go_simp
                    try with_reducible rfl
                  try simp only [Act.put, List.setIfInBounds_toArray, List.set_cons_zero, List.set_cons_succ]
                  refine wpAnyH_take (i := 9) (oi := ⟨some 179, .move (.tmp 13), _, _, _, _⟩) (v := ?_) rfl (by kernel_rfl) (by kernel_rfl) (by kernel_rfl) (fun _ _ _ h => h) (Or.inl ⟨by rfl, ?_⟩) (by assumption) ?_
                  rotate_left
                  · intro w' hSw
                    go_simp
                    try with_reducible rfl
                  try simp only [Act.put, List.setIfInBounds_toArray, List.set_cons_zero, List.set_cons_succ]
                  refine wpAnyH_take (i := 10) (oi := ⟨some 180, .indexAddr 31 (.tmp 178) (.tmp 179), _, _, _, _⟩) (v := ?_) rfl (by kernel_rfl) (by kernel_rfl) (by kernel_rfl) (fun _ _ _ h => h) (Or.inl ⟨by rfl, ?_⟩) (by assumption) ?_
                  rotate_left
                  · intro w' hSw
                    go_simp
                    try with_reducible rfl
                  try simp only [Act.put, List.setIfInBounds_toArray, List.set_cons_zero, List.set_cons_succ]
                  refine wpAnyH_take (i := 11) (oi := ⟨some 181, .load 2 (.tmp 180), _, _, _, _⟩) (v := ?_) rfl (by kernel_rfl) (by kernel_rfl) (by kernel_rfl) (fun _ _ _ h => h) (Or.inl ⟨by rfl, ?_⟩) (by assumption) ?_
                  rotate_left
                  · intro w' hSw
                    have y1 := (hSw.low.cell (block_lt_of_cell X1.out)).trans X1.out
                    go_simp
                    try with_reducible rfl
                  try simp only [Act.put, List.setIfInBounds_toArray, List.set_cons_zero, List.set_cons_succ]
                  refine wpAnyH_take (i := 12) (oi := ⟨some 182, .fieldAddr 35 (.tmp 5) 1, _, _, _, _⟩) (v := ?_) rfl (by kernel_rfl) (by kernel_rfl) (by kernel_rfl) (fun _ _ _ h => h) (Or.inl ⟨by rfl, ?_⟩) (by assumption) ?_
                  rotate_left
                  · intro w' hSw
                    go_simp
                    try with_reducible rfl
                  try simp only [Act.put, List.setIfInBounds_toArray, List.set_cons_zero, List.set_cons_succ]
                  refine wpAnyH_take (i := 13) (oi := ⟨some 183, .fieldAddr 33 (.tmp 182) 0, _, _, _, _⟩) (v := ?_) rfl (by kernel_rfl) (by kernel_rfl) (by kernel_rfl) (fun _ _ _ h => h) (Or.inl ⟨by rfl, ?_⟩) (by assumption) ?_
                  rotate_left
                  · intro w' hSw
                    go_simp
                    try with_reducible rfl
                  try simp only [Act.put, List.setIfInBounds_toArray, List.set_cons_zero, List.set_cons_succ]
                  refine wpAnyH_take (i := 14) (oi := ⟨some 184, .load 31 (.tmp 183), _, _, _, _⟩) (v := ?_) rfl (by kernel_rfl) (by kernel_rfl) (by kernel_rfl) (fun _ _ _ h => h) (Or.inl ⟨by rfl, ?_⟩) (by assumption) ?_
                  rotate_left
                  · intro w' hSw
                    have s1 := (hSw.low.cell (block_lt_of_cell S32.out)).trans S32.out
                    go_simp
                    try with_reducible rfl
                  try simp only [Act.put, List.setIfInBounds_toArray, List.set_cons_zero, List.set_cons_succ]
                  refine wpAnyH_take (i := 15) (oi := ⟨some 185, .move (.tmp 13), _, _, _, _⟩) (v := ?_) rfl (by kernel_rfl) (by kernel_rfl) (by kernel_rfl) (fun _ _ _ h => h) (Or.inl ⟨by rfl, ?_⟩) (by assumption) ?_
                  rotate_left
                  · intro w' hSw
                    go_simp
                    try with_reducible rfl
                  try simp only [Act.put, List.setIfInBounds_toArray, List.set_cons_zero, List.set_cons_succ]
                  refine wpAnyH_take (i := 16) (oi := ⟨some 186, .indexAddr 31 (.tmp 184) (.tmp 185), _, _, _, _⟩) (v := ?_) rfl (by kernel_rfl) (by kernel_rfl) (by kernel_rfl) (fun _ _ _ h => h) (Or.inl ⟨by rfl, ?_⟩) (by assumption) ?_
                  rotate_left
                  · intro w' hSw
                    go_simp
                    try with_reducible rfl
                  try simp only [Act.put, List.setIfInBounds_toArray, List.set_cons_zero, List.set_cons_succ]
                  refine wpAnyH_take (i := 17) (oi := ⟨some 187, .load 2 (.tmp 186), _, _, _, _⟩) (v := ?_) rfl (by kernel_rfl) (by kernel_rfl) (by kernel_rfl) (fun _ _ _ h => h) (Or.inl ⟨by rfl, ?_⟩) (by assumption) ?_
                  rotate_left
                  · intro w' hSw
                    have y2 := (hSw.low.cell (block_lt_of_cell X2.out)).trans X2.out
                    go_simp
                    try with_reducible rfl
                  try simp only [Act.put, List.setIfInBounds_toArray, List.set_cons_zero, List.set_cons_succ]
                  refine wpAnyH_take (i := 18) (oi := ⟨some 188, .binOp .eql 2 (.tmp 181) (.tmp 187) 2, _, _, _, _⟩) (v := ?_) rfl (by kernel_rfl) (by kernel_rfl) (by kernel_rfl) (fun _ _ _ h => h) (Or.inl ⟨by rfl, ?_⟩) (by assumption) ?_
                  rotate_left
                  · intro w' hSw
                    go_simp
                    try with_reducible rfl
                  try simp only [Act.put, List.setIfInBounds_toArray, List.set_cons_zero, List.set_cons_succ]
                  refine wpAnyH_take (i := 19) (oi := ⟨some 189, .pick (.tmp 176) (.const (.bool true)) (.tmp 188), _, _, _, _⟩) (v := ?_) rfl (by kernel_rfl) (by kernel_rfl) (by kernel_rfl) (fun _ _ _ h => h) (Or.inl ⟨by rfl, ?_⟩) (by assumption) ?_
                  rotate_left
                  · intro w' hSw
                    go_simp
                    try with_reducible rfl
                  try simp only [Act.put, List.setIfInBounds_toArray, List.set_cons_zero, List.set_cons_succ]
                  refine wpAnyH_take (i := 20) (oi := ⟨some 190, .indexAddr 39 (.tmp 170) (.tmp 171), _, _, _, _⟩) (v := ?_) rfl (by kernel_rfl) (by kernel_rfl) (by kernel_rfl) (fun _ _ _ h => h) (Or.inl ⟨by rfl, ?_⟩) (by assumption) ?_
                  rotate_left
                  · intro w' hSw
                    go_simp
                    try with_reducible rfl
                  try simp only [Act.put, List.setIfInBounds_toArray, List.set_cons_zero, List.set_cons_succ]
                  refine wpAnyH_ready (rs := [21]) (by kernel_rfl) (by simp) ?_
                  refine AllReadyH.cons (o := ⟨none, .store 4 (.tmp 190) (.tmp 189), _, _, _, _⟩) rfl (fun K hK => ?_) AllReadyH.nil
                  have cL : wr.drew.cell? ⟨gl, j, none⟩ = some (.bool false) := c10
                  have fL : wr.drew.frozen? ⟨gl, j, none⟩ = false := f10
                  go_simp
                  refine hK.out _ _ ⟨hHeld.low.setCell (p := ⟨gl, j, none⟩) HM.out.ge.1 _, (heap_setCell_other _ _ _ _ HNE.out.1).trans hHeld.bx⟩ (fun hHeld => ?_)
                  clear hK K
                  try simp only [Act.put, List.setIfInBounds_toArray, List.set_cons_zero, List.set_cons_succ]
                  refine wpAnyH_done (by kernel_rfl) ?_ _
                  try go_wp2_with fail
                  go_meet
                  obtain ⟨hx, hy, -, hb1, hb2⟩ := HEQ.out
                  refine ⟨((HM.out.later (Below.refl _ _).drew).setLo (j := j) (x == y)).congr (fun i _ => by
                    rw [stp_succ]
                    by_cases h : i = j
                    · rw [if_pos h, if_pos h, hb1, hx]; rfl
                    · rw [if_neg h, if_neg h]) (fun _ _ => rfl), hHeld.bx⟩
              case rest =>
              have HM2 := Lib.hid hcut.1
              have HBX2 := Lib.hid hcut.2
              clear hcut HM HBX f10 c10
              clear wr
              generalize wc = wr at *
              have HM := HM2
              have HBX := HBX2
              clear HM2 HBX2
              obtain ⟨-, c11, -, f11⟩ := HM.out.cells HJD.out
              rw [stp_at, HEQ.out.2.2.2.2] at c11
              go_upto_region 31 with fail
              cases b2 with
              | true =>
                refine wp_region_held_drew (S := fun w' => BxAt w6 gx #[.slice (some ⟨g1, o1, none⟩) D kx.lo.c, .slice (some ⟨g4, o4, none⟩) D kx.hi.c] w') (by kernel_rfl) (⟨HM.out.low.drew, HBX.out⟩) (fun hHeld => ?_)
                refine wpAnyH_take (i := 0) (oi := ⟨some 191, .move (.tmp 8), _, _, _, _⟩) (v := ?_) rfl (by kernel_rfl) (by kernel_rfl) (by kernel_rfl) (fun _ _ _ h => h) (Or.inl ⟨by rfl, ?_⟩) (by assumption) ?_
                rotate_left
                · intro w' hSw
                  go_simp
                  try with_reducible rfl
                try simp only [Act.put, List.setIfInBounds_toArray, List.set_cons_zero, List.set_cons_succ]
                refine wpAnyH_take (i := 1) (oi := ⟨some 192, .move (.tmp 13), _, _, _, _⟩) (v := ?_) rfl (by kernel_rfl) (by kernel_rfl) (by kernel_rfl) (fun _ _ _ h => h) (Or.inl ⟨by rfl, ?_⟩) (by assumption) ?_
                rotate_left
                · intro w' hSw
                  go_simp
                  try with_reducible rfl
                try simp only [Act.put, List.setIfInBounds_toArray, List.set_cons_zero, List.set_cons_succ]
                refine wpAnyH_take (i := 2) (oi := ⟨some 193, .move (.tmp 8), _, _, _, _⟩) (v := ?_) rfl (by kernel_rfl) (by kernel_rfl) (by kernel_rfl) (fun _ _ _ h => h) (Or.inl ⟨by rfl, ?_⟩) (by assumption) ?_
                rotate_left
                · intro w' hSw
                  go_simp
                  try with_reducible rfl
                try simp only [Act.put, List.setIfInBounds_toArray, List.set_cons_zero, List.set_cons_succ]
                refine wpAnyH_take (i := 3) (oi := ⟨some 194, .move (.tmp 13), _, _, _, _⟩) (v := ?_) rfl (by kernel_rfl) (by kernel_rfl) (by kernel_rfl) (fun _ _ _ h => h) (Or.inl ⟨by rfl, ?_⟩) (by assumption) ?_
                rotate_left
                · intro w' hSw
                  go_simp
                  try with_reducible rfl
                try simp only [Act.put, List.setIfInBounds_toArray, List.set_cons_zero, List.set_cons_succ]
                refine wpAnyH_take (i := 4) (oi := ⟨some 195, .indexAddr 39 (.tmp 193) (.tmp 194), _, _, _, _⟩) (v := ?_) rfl (by kernel_rfl) (by kernel_rfl) (by kernel_rfl) (fun _ _ _ h => h) (Or.inl ⟨by rfl, ?_⟩) (by assumption) ?_
                rotate_left
                · intro w' hSw
                  go_simp
                  try with_reducible rfl
                try simp only [Act.put, List.setIfInBounds_toArray, List.set_cons_zero, List.set_cons_succ]
                refine wpAnyH_ready (rs := [5]) (by kernel_rfl) (by simp) ?_
                refine AllReadyH.cons (o := ⟨some 196, .load 4 (.tmp 195), _, _, _, _⟩) rfl (fun K hK => ?_) AllReadyH.nil
                have cL : wr.drew.cell? ⟨gh, j, none⟩ = some (.bool true) := c11
                go_simp
                refine hK.out _ _ hHeld (fun hHeld => ?_)
                clear hK K
                try simp only [Act.put, List.setIfInBounds_toArray, List.set_cons_zero, List.set_cons_succ]
                refine wpAnyH_take (i := 6) (oi := ⟨some 197, .move (.tmp 196), _, _, _, _⟩) (v := ?_) rfl (by kernel_rfl) (by kernel_rfl) (by kernel_rfl) (fun _ _ _ h => h) (Or.inl ⟨by rfl, ?_⟩) (by assumption) ?_
                rotate_left
                · intro w' hSw
                  go_simp
                  try with_reducible rfl
                try simp only [Act.put, List.setIfInBounds_toArray, List.set_cons_zero, List.set_cons_succ]
                refine wpAnyH_take (i := 7) (oi := ⟨some 198, .fieldAddr 33 (.tmp 12) 1, _, _, _, _⟩) (v := undef) rfl (by kernel_rfl) (by kernel_rfl) (by kernel_rfl) (fun _ _ _ h => h) (Or.inr ⟨by rfl, rfl⟩) (by assumption) ?_
                try simp only [Act.put, List.setIfInBounds_toArray, List.set_cons_zero, List.set_cons_succ]
                refine wpAnyH_take (i := 8) (oi := ⟨some 199, .load 31 (.tmp 198), _, _, _, _⟩) (v := undef) rfl (by kernel_rfl) (by kernel_rfl) (by kernel_rfl) (fun _ _ _ h => h) (Or.inr ⟨by rfl, rfl⟩) (by assumption) ?_
                try simp only [Act.put, List.setIfInBounds_toArray, List.set_cons_zero, List.set_cons_succ]
                refine wpAnyH_take (i := 9) (oi := ⟨some 200, .move (.tmp 13), _, _, _, _⟩) (v := undef) rfl (by kernel_rfl) (by kernel_rfl) (by kernel_rfl) (fun _ _ _ h => h) (Or.inr ⟨by rfl, rfl⟩) (by assumption) ?_
                try simp only [Act.put, List.setIfInBounds_toArray, List.set_cons_zero, List.set_cons_succ]
                refine wpAnyH_take (i := 10) (oi := ⟨some 201, .indexAddr 31 (.tmp 199) (.tmp 200), _, _, _, _⟩) (v := undef) rfl (by kernel_rfl) (by kernel_rfl) (by kernel_rfl) (fun _ _ _ h => h) (Or.inr ⟨by rfl, rfl⟩) (by assumption) ?_
                try simp only [Act.put, List.setIfInBounds_toArray, List.set_cons_zero, List.set_cons_succ]
                refine wpAnyH_take (i := 11) (oi := ⟨some 202, .load 2 (.tmp 201), _, _, _, _⟩) (v := undef) rfl (by kernel_rfl) (by kernel_rfl) (by kernel_rfl) (fun _ _ _ h => h) (Or.inr ⟨by rfl, rfl⟩) (by assumption) ?_
                try simp only [Act.put, List.setIfInBounds_toArray, List.set_cons_zero, List.set_cons_succ]
                refine wpAnyH_take (i := 12) (oi := ⟨some 203, .fieldAddr 35 (.tmp 5) 1, _, _, _, _⟩) (v := undef) rfl (by kernel_rfl) (by kernel_rfl) (by kernel_rfl) (fun _ _ _ h => h) (Or.inr ⟨by rfl, rfl⟩) (by assumption) ?_
                try simp only [Act.put, List.setIfInBounds_toArray, List.set_cons_zero, List.set_cons_succ]
                refine wpAnyH_take (i := 13) (oi := ⟨some 204, .fieldAddr 33 (.tmp 203) 1, _, _, _, _⟩) (v := undef) rfl (by kernel_rfl) (by kernel_rfl) (by kernel_rfl) (fun _ _ _ h => h) (Or.inr ⟨by rfl, rfl⟩) (by assumption) ?_
                try simp only [Act.put, List.setIfInBounds_toArray, List.set_cons_zero, List.set_cons_succ]
                refine wpAnyH_take (i := 14) (oi := ⟨some 205, .load 31 (.tmp 204), _, _, _, _⟩) (v := undef) rfl (by kernel_rfl) (by kernel_rfl) (by kernel_rfl) (fun _ _ _ h => h) (Or.inr ⟨by rfl, rfl⟩) (by assumption) ?_
                try simp only [Act.put, List.setIfInBounds_toArray, List.set_cons_zero, List.set_cons_succ]
                refine wpAnyH_take (i := 15) (oi := ⟨some 206, .move (.tmp 13), _, _, _, _⟩) (v := undef) rfl (by kernel_rfl) (by kernel_rfl) (by kernel_rfl) (fun _ _ _ h => h) (Or.inr ⟨by rfl, rfl⟩) (by assumption) ?_
                try simp only [Act.put, List.setIfInBounds_toArray, List.set_cons_zero, List.set_cons_succ]
                refine wpAnyH_take (i := 16) (oi := ⟨some 207, .indexAddr 31 (.tmp 205) (.tmp 206), _, _, _, _⟩) (v := undef) rfl (by kernel_rfl) (by kernel_rfl) (by kernel_rfl) (fun _ _ _ h => h) (Or.inr ⟨by rfl, rfl⟩) (by assumption) ?_
                try simp only [Act.put, List.setIfInBounds_toArray, List.set_cons_zero, List.set_cons_succ]
                refine wpAnyH_take (i := 17) (oi := ⟨some 208, .load 2 (.tmp 207), _, _, _, _⟩) (v := undef) rfl (by kernel_rfl) (by kernel_rfl) (by kernel_rfl) (fun _ _ _ h => h) (Or.inr ⟨by rfl, rfl⟩) (by assumption) ?_
                try simp only [Act.put, List.setIfInBounds_toArray, List.set_cons_zero, List.set_cons_succ]
                refine wpAnyH_take (i := 18) (oi := ⟨some 209, .binOp .eql 2 (.tmp 202) (.tmp 208) 2, _, _, _, _⟩) (v := undef) rfl (by kernel_rfl) (by kernel_rfl) (by kernel_rfl) (fun _ _ _ h => h) (Or.inr ⟨by rfl, rfl⟩) (by assumption) ?_
                try simp only [Act.put, List.setIfInBounds_toArray, List.set_cons_zero, List.set_cons_succ]
                refine wpAnyH_take (i := 19) (oi := ⟨some 210, .pick (.tmp 197) (.const (.bool true)) (.tmp 209), _, _, _, _⟩) (v := ?_) rfl (by kernel_rfl) (by kernel_rfl) (by kernel_rfl) (fun _ _ _ h => h) (Or.inl ⟨by rfl, ?_⟩) (by assumption) ?_
                rotate_left
                · intro w' hSw
                  go_simp
                  try with_reducible rfl
                try simp only [Act.put, List.setIfInBounds_toArray, List.set_cons_zero, List.set_cons_succ]
                refine wpAnyH_take (i := 20) (oi := ⟨some 211, .indexAddr 39 (.tmp 191) (.tmp 192), _, _, _, _⟩) (v := ?_) rfl (by kernel_rfl) (by kernel_rfl) (by kernel_rfl) (fun _ _ _ h => h) (Or.inl ⟨by rfl, ?_⟩) (by assumption) ?_
                rotate_left
                · intro w' hSw
                  go_simp
                  try with_reducible rfl
                try simp only [Act.put, List.setIfInBounds_toArray, List.set_cons_zero, List.set_cons_succ]
                refine wpAnyH_ready (rs := [21]) (by kernel_rfl) (by simp) ?_
                refine AllReadyH.cons (o := ⟨none, .store 4 (.tmp 211) (.tmp 210), _, _, _, _⟩) rfl (fun K hK => ?_) AllReadyH.nil
                have cL : wr.drew.cell? ⟨gh, j, none⟩ = some (.bool true) := c11
                have fL : wr.drew.frozen? ⟨gh, j, none⟩ = false := f11
                go_simp
                refine hK.out _ _ ⟨hHeld.low.setCell (p := ⟨gh, j, none⟩) HM.out.ge.2 _, (heap_setCell_other _ _ _ _ HNE.out.2).trans hHeld.bx⟩ (fun hHeld => ?_)
                clear hK K
                try simp only [Act.put, List.setIfInBounds_toArray, List.set_cons_zero, List.set_cons_succ]
                refine wpAnyH_done (by kernel_rfl) ?_ _
                obtain ⟨hx, hy, -, hb1, hb2⟩ := HEQ.out
                have HM3 := Lib.hid (((HM.out.later (Below.refl _ _).drew).setHi (j := j) true).congr (f' := stp F XX (j + 1)) (g' := stp G YY (j + 1)) (fun _ _ => rfl) (fun i _ => by
                  rw [stp_succ]
                  by_cases h : i = j
                  · rw [if_pos h, if_pos h, hb2]; rfl
                  · rw [if_neg h, if_neg h]))
                have HBX9 := Lib.hid hHeld.bx
                have hjd := HJD.out
                clear hx hy hb1 hb2 hHeld
                obtain rfl := HXX.out
                obtain rfl := HYY.out
                go_wp2_with fail
                go_roundw
                case rel => exact ⟨⟨j + 1, by omega, by go_num, HM3.out⟩, (by rw [HBE.out]; exact HBX9.out)⟩
                case measure => simp [intOf]; omega
              | false =>
                refine wp_region_held_drew (S := fun w' => BxAt w6 gx #[.slice (some ⟨g1, o1, none⟩) D kx.lo.c, .slice (some ⟨g4, o4, none⟩) D kx.hi.c] w') (by kernel_rfl) (⟨HM.out.low.drew, HBX.out⟩) (fun hHeld => ?_)
                refine wpAnyH_take (i := 0) (oi := ⟨some 191, .move (.tmp 8), _, _, _, _⟩) (v := ?_) rfl (by kernel_rfl) (by kernel_rfl) (by kernel_rfl) (fun _ _ _ h => h) (Or.inl ⟨by rfl, ?_⟩) (by assumption) ?_
                rotate_left
                · intro w' hSw
                  go_simp
                  try with_reducible rfl
                try simp only [Act.put, List.setIfInBounds_toArray, List.set_cons_zero, List.set_cons_succ]
                refine wpAnyH_take (i := 1) (oi := ⟨some 192, .move (.tmp 13), _, _, _, _⟩) (v := ?_) rfl (by kernel_rfl) (by kernel_rfl) (by kernel_rfl) (fun _ _ _ h => h) (Or.inl ⟨by rfl, ?_⟩) (by assumption) ?_
                rotate_left
                · intro w' hSw
                  go_simp
                  try with_reducible rfl
                try simp only [Act.put, List.setIfInBounds_toArray, List.set_cons_zero, List.set_cons_succ]
                refine wpAnyH_take (i := 2) (oi := ⟨some 193, .move (.tmp 8), _, _, _, _⟩) (v := ?_) rfl (by kernel_rfl) (by kernel_rfl) (by kernel_rfl) (fun _ _ _ h => h) (Or.inl ⟨by rfl, ?_⟩) (by assumption) ?_
                rotate_left
                · intro w' hSw
                  go_simp
                  try with_reducible rfl
                try simp only [Act.put, List.setIfInBounds_toArray, List.set_cons_zero, List.set_cons_succ]
                refine wpAnyH_take (i := 3) (oi := ⟨some 194, .move (.tmp 13), _, _, _, _⟩) (v := ?_) rfl (by kernel_rfl) (by kernel_rfl) (by kernel_rfl) (fun _ _ _ h => h) (Or.inl ⟨by rfl, ?_⟩) (by assumption) ?_
                rotate_left
                · intro w' hSw
                  go_simp
                  try with_reducible rfl
                try simp only [Act.put, List.setIfInBounds_toArray, List.set_cons_zero, List.set_cons_succ]
                refine wpAnyH_take (i := 4) (oi := ⟨some 195, .indexAddr 39 (.tmp 193) (.tmp 194), _, _, _, _⟩) (v := ?_) rfl (by kernel_rfl) (by kernel_rfl) (by kernel_rfl) (fun _ _ _ h => h) (Or.inl ⟨by rfl, ?_⟩) (by assumption) ?_
                rotate_left
                · intro w' hSw
                  go_simp
                  try with_reducible rfl
                try simp only [Act.put, List.setIfInBounds_toArray, List.set_cons_zero, List.set_cons_succ]
                refine wpAnyH_ready (rs := [5]) (by kernel_rfl) (by simp) ?_
                refine AllReadyH.cons (o := ⟨some 196, .load 4 (.tmp 195), _, _, _, _⟩) rfl (fun K hK => ?_) AllReadyH.nil
                have cL : wr.drew.cell? ⟨gh, j, none⟩ = some (.bool false) := c11
                go_simp
                refine hK.out _ _ hHeld (fun hHeld => ?_)
                clear hK K
                try simp only [Act.put, List.setIfInBounds_toArray, List.set_cons_zero, List.set_cons_succ]
                refine wpAnyH_take (i := 6) (oi := ⟨some 197, .move (.tmp 196), _, _, _, _⟩) (v := ?_) rfl (by kernel_rfl) (by kernel_rfl) (by kernel_rfl) (fun _ _ _ h => h) (Or.inl ⟨by rfl, ?_⟩) (by assumption) ?_
                rotate_left
                · intro w' hSw
                  go_simp
                  try with_reducible rfl
                try simp only [Act.put, List.setIfInBounds_toArray, List.set_cons_zero, List.set_cons_succ]
                refine wpAnyH_take (i := 7) (oi := ⟨some 198, .fieldAddr 33 (.tmp 12) 1, _, _, _, _⟩) (v := ?_) rfl (by kernel_rfl) (by kernel_rfl) (by kernel_rfl) (fun _ _ _ h => h) (Or.inl ⟨by rfl, ?_⟩) (by assumption) ?_
                rotate_left
                · intro w' hSw
                  go_simp
                  try with_reducible rfl
                try simp only [Act.put, List.setIfInBounds_toArray, List.set_cons_zero, List.set_cons_succ]
                refine wpAnyH_take (i := 8) (oi := ⟨some 199, .load 31 (.tmp 198), _, _, _, _⟩) (v := ?_) rfl (by kernel_rfl) (by kernel_rfl) (by kernel_rfl) (fun _ _ _ h => h) (Or.inl ⟨by rfl, ?_⟩) (by assumption) ?_
                rotate_left
                · intro w' hSw
                  have c0 := cell_of_row w' gx 1 _ _ _ hSw.bx
                  go_simp
                  try with_reducible rfl
                try simp only [Act.put, List.setIfInBounds_toArray, List.set_cons_zero, List.set_cons_succ]
                refine wpAnyH_take (i := 9) (oi := ⟨some 200, .move (.tmp 13), _, _, _, _⟩) (v := ?_) rfl (by kernel_rfl) (by kernel_rfl) (by kernel_rfl) (fun _ _ _ h => h) (Or.inl ⟨by rfl, ?_⟩) (by assumption) ?_
                rotate_left
                · intro w' hSw
                  go_simp
                  try with_reducible rfl
                try simp only [Act.put, List.setIfInBounds_toArray, List.set_cons_zero, List.set_cons_succ]
                refine wpAnyH_take (i := 10) (oi := ⟨some 201, .indexAddr 31 (.tmp 199) (.tmp 200), _, _, _, _⟩) (v := ?_) rfl (by kernel_rfl) (by kernel_rfl) (by kernel_rfl) (fun _ _ _ h => h) (Or.inl ⟨by rfl, ?_⟩) (by assumption) ?_
                rotate_left
                · intro w' hSw
                  go_simp
                  try with_reducible rfl
                try simp only [Act.put, List.setIfInBounds_toArray, List.set_cons_zero, List.set_cons_succ]
                refine wpAnyH_take (i := 11) (oi := ⟨some 202, .load 2 (.tmp 201), _, _, _, _⟩) (v := ?_) rfl (by kernel_rfl) (by kernel_rfl) (by kernel_rfl) (fun _ _ _ h => h) (Or.inl ⟨by rfl, ?_⟩) (by assumption) ?_
                rotate_left
                · intro w' hSw
                  have y1 := (hSw.low.cell (block_lt_of_cell X4.out)).trans X4.out
                  go_simp
                  try with_reducible rfl
                try simp only [Act.put, List.setIfInBounds_toArray, List.set_cons_zero, List.set_cons_succ]
                refine wpAnyH_take (i := 12) (oi := ⟨some 203, .fieldAddr 35 (.tmp 5) 1, _, _, _, _⟩) (v := ?_) rfl (by kernel_rfl) (by kernel_rfl) (by kernel_rfl) (fun _ _ _ h => h) (Or.inl ⟨by rfl, ?_⟩) (by assumption) ?_
                rotate_left
                · intro w' hSw
                  go_simp
                  try with_reducible rfl
                try simp only [Act.put, List.setIfInBounds_toArray, List.set_cons_zero, List.set_cons_succ]
                refine wpAnyH_take (i := 13) (oi := ⟨some 204, .fieldAddr 33 (.tmp 203) 1, _, _, _, _⟩) (v := ?_) rfl (by kernel_rfl) (by kernel_rfl) (by kernel_rfl) (fun _ _ _ h => h) (Or.inl ⟨by rfl, ?_⟩) (by assumption) ?_
                rotate_left
                · intro w' hSw
                  go_simp
                  try with_reducible rfl
                try simp only [Act.put, List.setIfInBounds_toArray, List.set_cons_zero, List.set_cons_succ]
                refine wpAnyH_take (i := 14) (oi := ⟨some 205, .load 31 (.tmp 204), _, _, _, _⟩) (v := ?_) rfl (by kernel_rfl) (by kernel_rfl) (by kernel_rfl) (fun _ _ _ h => h) (Or.inl ⟨by rfl, ?_⟩) (by assumption) ?_
                rotate_left
                · intro w' hSw
                  have s1 := (hSw.low.cell (block_lt_of_cell S33.out)).trans S33.out
                  go_simp
                  try with_reducible rfl
                try simp only [Act.put, List.setIfInBounds_toArray, List.set_cons_zero, List.set_cons_succ]
                refine wpAnyH_take (i := 15) (oi := ⟨some 206, .move (.tmp 13), _, _, _, _⟩) (v := ?_) rfl (by kernel_rfl) (by kernel_rfl) (by kernel_rfl) (fun _ _ _ h => h) (Or.inl ⟨by rfl, ?_⟩) (by assumption) ?_
                rotate_left
                · intro w' hSw
                  go_simp
                  try with_reducible rfl
                try simp only [Act.put, List.setIfInBounds_toArray, List.set_cons_zero, List.set_cons_succ]
                refine wpAnyH_take (i := 16) (oi := ⟨some 207, .indexAddr 31 (.tmp 205) (.tmp 206), _, _, _, _⟩) (v := ?_) rfl (by kernel_rfl) (by kernel_rfl) (by kernel_rfl) (fun _ _ _ h => h) (Or.inl ⟨by rfl, ?_⟩) (by assumption) ?_
                rotate_left
                · intro w' hSw
                  go_simp
                  try with_reducible rfl
                try simp only [Act.put, List.setIfInBounds_toArray, List.set_cons_zero, List.set_cons_succ]
                refine wpAnyH_take (i := 17) (oi := ⟨some 208, .load 2 (.tmp 207), _, _, _, _⟩) (v := ?_) rfl (by kernel_rfl) (by kernel_rfl) (by kernel_rfl) (fun _ _ _ h => h) (Or.inl ⟨by rfl, ?_⟩) (by assumption) ?_
                rotate_left
                · intro w' hSw
                  have y2 := (hSw.low.cell (block_lt_of_cell X3.out)).trans X3.out
                  go_simp
                  try with_reducible rfl
                try simp only [Act.put, List.setIfInBounds_toArray, List.set_cons_zero, List.set_cons_succ]
                refine wpAnyH_take (i := 18) (oi := ⟨some 209, .binOp .eql 2 (.tmp 202) (.tmp 208) 2, _, _, _, _⟩) (v := ?_) rfl (by kernel_rfl) (by kernel_rfl) (by kernel_rfl) (fun _ _ _ h => h) (Or.inl ⟨by rfl, ?_⟩) (by assumption) ?_
                rotate_left
                · intro w' hSw
                  go_simp
                  try with_reducible rfl
                try simp only [Act.put, List.setIfInBounds_toArray, List.set_cons_zero, List.set_cons_succ]
                refine wpAnyH_take (i := 19) (oi := ⟨some 210, .pick (.tmp 197) (.const (.bool true)) (.tmp 209), _, _, _, _⟩) (v := ?_) rfl (by kernel_rfl) (by kernel_rfl) (by kernel_rfl) (fun _ _ _ h => h) (Or.inl ⟨by rfl, ?_⟩) (by assumption) ?_
                rotate_left
                · intro w' hSw
                  go_simp
                  try with_reducible rfl
                try simp only [Act.put, List.setIfInBounds_toArray, List.set_cons_zero, List.set_cons_succ]
                refine wpAnyH_take (i := 20) (oi := ⟨some 211, .indexAddr 39 (.tmp 191) (.tmp 192), _, _, _, _⟩) (v := ?_) rfl (by kernel_rfl) (by kernel_rfl) (by kernel_rfl) (fun _ _ _ h => h) (Or.inl ⟨by rfl, ?_⟩) (by assumption) ?_
                rotate_left
                · intro w' hSw
                  go_simp
                  try with_reducible rfl
                try simp only [Act.put, List.setIfInBounds_toArray, List.set_cons_zero, List.set_cons_succ]
                refine wpAnyH_ready (rs := [21]) (by kernel_rfl) (by simp) ?_
                refine AllReadyH.cons (o := ⟨none, .store 4 (.tmp 211) (.tmp 210), _, _, _, _⟩) rfl (fun K hK => ?_) AllReadyH.nil
                have cL : wr.drew.cell? ⟨gh, j, none⟩ = some (.bool false) := c11
                have fL : wr.drew.frozen? ⟨gh, j, none⟩ = false := f11
                go_simp
                refine hK.out _ _ ⟨hHeld.low.setCell (p := ⟨gh, j, none⟩) HM.out.ge.2 _, (heap_setCell_other _ _ _ _ HNE.out.2).trans hHeld.bx⟩ (fun hHeld => ?_)
                clear hK K
                try simp only [Act.put, List.setIfInBounds_toArray, List.set_cons_zero, List.set_cons_succ]
                refine wpAnyH_done (by kernel_rfl) ?_ _
                obtain ⟨hx, hy, -, hb1, hb2⟩ := HEQ.out
                have HM3 := Lib.hid (((HM.out.later (Below.refl _ _).drew).setHi (j := j) (u == z)).congr (f' := stp F XX (j + 1)) (g' := stp G YY (j + 1)) (fun _ _ => rfl) (fun i _ => by
                  rw [stp_succ]
                  by_cases h : i = j
                  · rw [if_pos h, if_pos h, hb2, hy]; rfl
                  · rw [if_neg h, if_neg h]))
                have HBX9 := Lib.hid hHeld.bx
                have hjd := HJD.out
                clear hx hy hb1 hb2 hHeld
                obtain rfl := HXX.out
                obtain rfl := HYY.out
                go_wp2_with fail
                go_roundw
                case rel => exact ⟨⟨j + 1, by omega, by go_num, HM3.out⟩, (by rw [HBE.out]; exact HBX9.out)⟩
                case measure => simp [intOf]; omega
            · obtain rfl : D = j := by omega
              have HM1 := Lib.hid (HM.out.congr (f' := fun i => U i || mkK PK.lo kd.lo.R (N.kids.take (k + 1)) i) (g' := fun i => V i || mkK PK.hi kd.hi.R (N.kids.take (k + 1)) i) (fun i hi => by rw [stp_all _ _ _ _ hi, HSC1.out, ← HF.out, show (kx.pk.live == 0) = false from by simpa [Kd.pk] using HLB.out, ← Bool.or_assoc, Bool.not_false, Bool.true_and]; rfl) (fun i hi => by rw [stp_all _ _ _ _ hi, HSC2.out, ← HGG.out, show (kx.pk.live == 0) = false from by simpa [Kd.pk] using HLB.out, ← Bool.or_assoc, Bool.not_false, Bool.true_and]; rfl))
              clear HM HBX
              go_wp2_with fail
              go_roundw
              case rel => exact ⟨k + 1, by rw [← HKS.out]; omega, by go_num, HM1.out⟩
              case measure => simp [intOf]; omega
        · obtain rfl : m = k := by omega
          have HMF := Lib.hid (HM.out.congr (f' := fun _ => true) (g' := fun _ => true) (fun i hi => by rw [HKS.out, List.take_length]; exact (HX.out.2.2.2.2 i hi).1) (fun i hi => by rw [HKS.out, List.take_length]; exact (HX.out.2.2.2.2 i hi).2))
          clear HM HX
          clear hk hlt
          go_wp2_with fail
          go_loopw [14] (fun i wr => ∃ j : Nat, j ≤ D ∧ i = .int .i64 j ∧ Mk w6 gl gh D (fun _ => true) (fun _ => true) wr) (fun i _ => D - (intOf i).toNat)
          case atStart => exact ⟨0, by omega, rfl, HMF.out⟩
          case round =>
            obtain ⟨j, hj, rfl, hm⟩ := hrel
            clear HMF
            have HM := Lib.hid hm
            clear hm
            by_cases hjd : j < D
            · obtain ⟨c10, c11, -, -⟩ := HM.out.cells hjd
              have i3 : (0 : Int) ≤ j ∧ (j : Int) < D := by omega
              go_wp2_with fail
              go_roundw
              case rel => exact ⟨j + 1, by omega, by go_num, HM.out⟩
              case measure => simp [intOf]; omega
            · obtain rfl : D = j := by omega
              go_wp2_with fail
              go_ret
              rw [HGN.out]
              first | exact ⟨rfl, (HU6.out.on HM.out.low).1⟩ | exact ⟨rfl, (HU6.out.on HM.out.low).1.drew⟩
end Go.Proofs.Ytfkpgildeddhaaa.Nd

/- Proved: whatever node and number it is handed, the Go function indenturelaw10.NodeHulls returns true (a node's box has all its live rows, and its kids' boxes; each of its sides is one of theirs), and each argument reads afterwards as it read before. Conditions: none beyond the given row's own. -/
namespace Go.Proofs.Ytfkpgildeddhaaa
open Go.ChangeShapes Go.WideShapes Go.ChangeAt Go.RowKit Go.Deep

set_option maxRecDepth 100000 in
theorem ndhulls_lifted (os : Os) (started : os.Started) (H : Type) (enc : TypeId × Value → H) :
    ReturnsInHanded {} Try.checked os 3 .any (Rows.nodeHullsSpec.pre6 enc Try.prog Try.f3 Rows.nodeHullsRow.domain false) (Rows.nodeHullsSpec.post enc Try.prog Try.f3 false true false false) := by
  refine returnsInHanded_of_change (C := Try.checked) gen_own started (by kernel_rfl) Try.func3
    (ChangeSpec.witness6 (enc := enc) (C := Try.checked) false ⟨#[], #[.agg #[.int .u8 0, .slice none 0 0, .slice none 0 0], .int .i64 0], []⟩ 8 (by kernel_rfl) (by kernel_rfl) (by kernel_rfl) (by kernel_rfl)) ?_
  intro W base args ds gs before hval0 hW _ _
  have hval : ∀ (j : Nat) t v, Try.f3.params[j]? = some t → args[j]? = some v → Value.okWide Try.prog W .any base t v := hval0
  have hW' := hW
  obtain ⟨p, q, hA0, hV, rfl, _, _⟩ := hW
  have hA : DataW.TrodAll enc Try.prog W 0 (fun _ => true) true Try.f3.params.toList args.toList ds p := hA0
  rw [Try.params3] at hA hval
  obtain ⟨v0, vs0, d0, ds0, p0, q0, hargs, rfl, rfl, h0, r0⟩ := trodAll_cons hA
  obtain ⟨v1, vs1, d1, ds1, p1, q1, rfl, rfl, rfl, h1, r1⟩ := trodAll_cons r0
  obtain ⟨rfl, rfl, rfl⟩ := trodAll_nil r1
  obtain rfl : args = #[v0, v1] := by cases args; simp_all
  obtain ⟨rfl, rfl⟩ := trodVars_none hV
  obtain ⟨kd0, a0, len0, cap0, b0, ben0, bap0, E0, K0, rfl, hkd0, hE0, hK0⟩ := Nd.open_node (hval 0 25 v0 rfl rfl) h0
  obtain ⟨n1, rfl, rfl, rfl, hn1⟩ := open_int Try.underlying3 (hval 1 3 v1 rfl rfl) h1
  have k0 := h0
  have k1 := h1
  have lt0 : ∀ x ∈ p0, x.block < W.heap.size := by obtain ⟨m, hm⟩ := k0; exact DataW.trod_lt m _ _ _ hm
  have bn1 := bounds_i64 hn1
  clear hA0 hval0
  refine (Nd.hulls_any kd0 hkd0 a0 len0 cap0 b0 ben0 bap0 E0 K0 n1 bn1 W hE0 hK0).mono fun e W' ⟨he, bel⟩ => ?_
  subst he
  exact ⟨_, rfl, _, _, _, [], _, [], hW', trodAll_mk1 (shut_bool Try.underlying4 _),
    (trodAll_cons_mk (Below.trod gen_laidOut (by kernel_rfl) (of_decide_eq_true (by kernel_rfl)) k0 bel lt0) (trodAll_cons_mk (Below.trod gen_laidOut (by kernel_rfl) (of_decide_eq_true (by kernel_rfl)) k1 bel (fun x hx => by cases hx)) trodAll_mk0)), rfl, bel.frame _, fun h => by cases h⟩
theorem ndhulls_holds : Rows.NodeHullsSaid :=
  OpenClaim.holds_of_wide 3 Try.f3 rfl rfl rfl rfl rfl rfl rfl ⟨rfl, rfl, rfl, rfl, rfl⟩ rfl rfl rfl rfl rfl (by kernel_rfl) Try.func3 (by kernel_rfl)
    (of_decide_eq_true (by kernel_rfl)) (by unfold Func.isWrapper; first | (rw [if_pos (by decide +kernel)]; kernel_rfl) | (rw [if_neg (by decide +kernel)]; exact ⟨rfl, rfl⟩))
    (fun os started H enc _ => ndhulls_lifted os started H enc)
end Go.Proofs.Ytfkpgildeddhaaa
