/- NlFns, NlShaped, NlRight, CodRNew, CodREnd, NlDecode, BoxClone, CodWRow, CodWTruth, CodWBytes, NlWriteKid. -/
import Derived.Test.YtfkpgildeddhaaaGreatM3
import Derived.BigRegion
import Derived.Lib.SliceRun
import Derived.Laws.AppendOwn
/- The functions that node.Right hands node.each; node.keyed. -/
namespace Go.Proofs.YtfkpgildeddhaaaGreat.Nd
open Go.RowKit

set_option maxRecDepth 100000 in
set_option maxHeartbeats 1000000 in
theorem fnLive_any (e : En) (w : World) :
    Calls Tryz.prog 78 #[.agg #[e.row.val, .bool e.live]] w fun r w' => r = .returned (.bool e.live) ∧ Below w.heap.size w w' := by
  have hb1 : Below w.heap.size w (w.alloc (.cells #[e.row.val, .bool e.live] 55)) := (Below.refl _ _).alloc (Nat.le_refl _) _
  obtain ⟨z0, z1⟩ := pair_alloc w e.row.val (.bool e.live) 55
  have HB := Lib.hid hb1
  clear hb1
  go_enter Tryz.func78, Tryz.ntmps78
  go_upto_region 1 with fail
  generalize w.alloc (.cells #[e.row.val, .bool e.live] 55) = w1 at *
  go_wp2_with fail
  go_ret
  exact ⟨rfl, HB.out⟩
set_option maxRecDepth 100000 in
set_option maxHeartbeats 1000000 in
theorem fnLong_any (e : En) (B : Nat) (d : Int) (w : World) (hB : w.cell? ⟨B, 0, none⟩ = some (.int .i64 d)) (he : e.row.Ok w) :
    Calls Tryz.prog 58 #[.agg #[e.row.val, .bool e.live], .pointer (some ⟨B, 0, none⟩)] w fun r w' => r = .returned (.bool (e.pe.long d)) ∧ Below w.heap.size w w' := by
  have hb1 : Below w.heap.size w (w.alloc (.cells #[e.row.val, .bool e.live] 55)) := (Below.refl _ _).alloc (Nat.le_refl _) _
  obtain ⟨z0, z1⟩ := pair_alloc w e.row.val (.bool e.live) 55
  have b0 := (hb1.cell (block_lt_of_cell hB)).trans hB
  have HB := Lib.hid hb1
  have HX := Lib.hid (show ((e.row.n : Int) == d) = e.pe.long d from by
    have := he.ints.size
    rw [Bool.eq_iff_iff, beq_iff_eq]
    unfold PE.long En.pe
    rw [decide_eq_true_iff, ← this])
  clear hb1 hB he
  go_enter Tryz.func58, Tryz.ntmps58
  go_upto_region 1 with fail
  generalize w.alloc (.cells #[e.row.val, .bool e.live] 55) = w1 at *
  unfold Rw.val at z0
  go_wp2_with fail
  go_ret
  exact ⟨by rw [← HX.out]; rfl, HB.out⟩
set_option maxRecDepth 100000 in
set_option maxHeartbeats 1000000 in
theorem fnKid_any (k : Kd) (B : Nat) (d : Int) (w : World) (hB : w.cell? ⟨B, 0, none⟩ = some (.int .i64 d)) (hk : k.Ok w) :
    Calls Tryz.prog 60 #[.agg k.cells.toArray, .pointer (some ⟨B, 0, none⟩)] w fun r w' => r = .returned (.bool (k.pk.right d)) ∧ Below w.heap.size w w' := by
  have hb1 : Below w.heap.size w (w.alloc (.cells k.cells.toArray 43)) := (Below.refl _ _).alloc (Nat.le_refl _) _
  have r1 := heap_alloc_new w (.cells k.cells.toArray 43)
  have b0 := (hb1.cell (block_lt_of_cell hB)).trans hB
  obtain ⟨du, hdu, hdr⟩ := UKd
  have HD := Lib.hid hdu
  have HDR := Lib.hid hdr
  have HB := Lib.hid hb1
  have HOK := Lib.hid (hk.later hb1)
  have HCL := Lib.hid (Kd.cells_length hk.len)
  clear hb1 hB hk hdu hdr
  go_enter Tryz.func60, Tryz.ntmps60
  go_upto_region 1 with fail
  generalize w.alloc (.cells k.cells.toArray 43) = w1 at *
  have HR := Lib.hid (range_kd r1)
  clear r1
  go_wp2_with (first
    | (refine wpList_load_mid (by rfl) 43 _ (by rfl) _ 0 (by rfl) k.cells du HR.out HD.out HDR.out (by rw [HCL.out]; exact SKd) ?_)
    | (refine (nkid_any k d w1 HOK.out).mono ?_; rintro _ w5 ⟨rfl, b5⟩))
  go_ret
  exact ⟨rfl, HB.out.trans (b5.mono HB.out.size)⟩
def PK.keys (d : Int) (k : PK) : Bool := decide ((k.key.length : Int) = d)
set_option maxRecDepth 100000 in
set_option maxHeartbeats 1000000 in
theorem fnKey_any (k : Kd) (B : Nat) (d : Int) (w : World) (hB : w.cell? ⟨B, 0, none⟩ = some (.int .i64 d)) (hk : k.Ok w) :
    Calls Tryz.prog 92 #[.agg k.cells.toArray, .pointer (some ⟨B, 0, none⟩)] w fun r w' => r = .returned (.bool (k.pk.keys d)) ∧ Below w.heap.size w w' := by
  have hb1 : Below w.heap.size w (w.alloc (.cells k.cells.toArray 43)) := (Below.refl _ _).alloc (Nat.le_refl _) _
  have r1 := heap_alloc_new w (.cells k.cells.toArray 43)
  have b0 := (hb1.cell (block_lt_of_cell hB)).trans hB
  have HB := Lib.hid hb1
  have hx : ((k.key.n : Int) == d) = k.pk.keys d := by
    have := hk.key.ints.size
    rw [Bool.eq_iff_iff, beq_iff_eq]
    unfold PK.keys Kd.pk
    rw [decide_eq_true_iff, ← this]
  have HX := Lib.hid hx
  have HSL := Lib.hid hk.len
  clear hb1 hB hx hk
  go_enter Tryz.func92, Tryz.ntmps92
  go_upto_region 1 with fail
  generalize w.alloc (.cells k.cells.toArray 43) = w1 at *
  have a6 := (kat_row r1 HSL.out).key
  rw [Nat.zero_add] at a6
  unfold Rw.val at a6
  clear r1
  go_wp2_with fail
  go_ret
  exact ⟨by rw [← HX.out]; rfl, HB.out⟩
set_option maxRecDepth 100000 in
set_option maxHeartbeats 1000000 in
theorem nkeyed_any (p : Option Addr) (n c : Nat) (K : List Kd) (d : Int) (w : World) (hK : KidsIn w p n c K) :
    Calls Tryz.prog 77 #[.slice p n c, .int .i64 d] w fun e w' => e = .returned (.bool ((K.map Kd.pk).all (PK.keys d))) ∧ Below w.heap.size w w' := by
  have hb1 : Below w.heap.size w (w.alloc (.cells #[.int .i64 d] 3)) := (Below.refl _ _).alloc (Nat.le_refl _) _
  have b0 := boxed w (.int .i64 d) 3
  have hE := eachK_any p n c K (PK.keys d) 92 #[.pointer (some ⟨w.heap.size, 0, none⟩)] (fun args w => by as_aux_lemma => kernel_rfl) (w.alloc (.cells #[.int .i64 d] 3)) (hK.later hb1)
    (fun k w' _ hk hb => fnKey_any k w.heap.size d w' ((hb.cell (block_lt_of_cell b0)).trans b0) hk)
  obtain ⟨X, hX⟩ : ∃ X, (K.map Kd.pk).all (PK.keys d) = X := ⟨_, rfl⟩
  rw [hX] at hE ⊢
  have HE := Lib.hid hE
  have HB := Lib.hid hb1
  clear hE hb1 hK b0 hX
  go_enter Tryz.func77, Tryz.ntmps77
  go_upto_region 1 with fail
  generalize w.alloc (.cells #[.int .i64 d] 3) = w1 at *
  go_wp2_with (refine HE.out.mono ?_; rintro e w'' ⟨rfl, b2⟩)
  go_ret
  exact ⟨rfl, HB.out.trans (b2.mono HB.out.size)⟩
end Go.Proofs.YtfkpgildeddhaaaGreat.Nd

/- node.shaped: what a node's kind asks for. -/
namespace Go.Proofs.YtfkpgildeddhaaaGreat.Nd
open Go.RowKit

/-- What a node's kind asks for. -/
def PN.shape (n : PN) (d : Int) : Bool :=
  if n.kind = 1 then decide (n.rows.length = 1) && decide (n.kids.length = 2) && n.kids.all (PK.keys 0)
  else if n.kind = 2 then decide (1 ≤ n.rows.length) && decide (n.rows.length ≤ 4) && decide (n.kids.length = 0) && n.rows.all PE.live
  else if n.kind = 3 then decide (n.rows.length = 0) && decide (2 ≤ n.kids.length) && decide (n.kids.length ≤ 4) && n.kids.all (PK.keys d)
  else false
theorem keys_keyless : ∀ K : List PK, K.all (PK.keys 0) = K.all PK.keyless := fun K => by
  congr 1
  funext k
  unfold PK.keys PK.keyless
  rw [Bool.eq_iff_iff, decide_eq_true_iff, decide_eq_true_iff]
  omega
theorem keys_keyed {d : Int} (h : 1 ≤ d) : ∀ K : List PK, K.all (PK.keys d) = K.all (PK.keyed d) := fun K => by
  congr 1
  funext k
  unfold PK.keys PK.keyed
  by_cases e : k = PK.none
  · subst e
    rw [decide_eq_false (show ¬ ((PK.none.key.length : Nat) : Int) = d from by show ¬ ((0 : Nat) : Int) = d; omega)]
    rfl
  · rw [decide_eq_false e]
    simp
theorem PN.right_shape (n : PN) (d : Int) : n.right d = (decide (1 ≤ d ∧ d ≤ 8) && n.shape d && n.rows.all (PE.long d) && n.kids.all (PK.right · d)) := by
  unfold PN.right PN.shape
  by_cases hd : 1 ≤ d ∧ d ≤ 8
  · rw [if_neg (by simpa using hd), decide_eq_true hd, keys_keyless, keys_keyed hd.1]
    cases h1 : n.rows.all (PE.long d)
    · simp
    · cases h2 : n.kids.all (PK.right · d)
      · simp
      · simp only [Bool.true_eq_false, if_false, Bool.and_true, Bool.true_and]
        by_cases k1 : n.kind = 1
        · rw [if_pos k1, if_pos k1]
          by_cases h : n.rows.length = 1 ∧ n.kids.length = 2
          · rw [if_pos h, decide_eq_true h.1, decide_eq_true h.2]; rfl
          · rw [if_neg h]
            by_cases h' : n.rows.length = 1
            · rw [decide_eq_false (show ¬ n.kids.length = 2 from fun e => h ⟨h', e⟩)]; simp
            · rw [decide_eq_false h']; rfl
        · rw [if_neg k1, if_neg k1]
          by_cases k2 : n.kind = 2
          · rw [if_pos k2, if_pos k2]
            by_cases h : 0 < n.rows.length ∧ n.rows.length < 5 ∧ n.kids.length = 0
            · rw [if_pos h, decide_eq_true (show 1 ≤ n.rows.length by omega), decide_eq_true (show n.rows.length ≤ 4 by omega), decide_eq_true h.2.2]; rfl
            · rw [if_neg h]
              by_cases a : 1 ≤ n.rows.length
              · by_cases b : n.rows.length ≤ 4
                · rw [decide_eq_false (show ¬ n.kids.length = 0 by omega)]; simp
                · rw [decide_eq_false b]; simp
              · rw [decide_eq_false a]; rfl
          · rw [if_neg k2, if_neg k2]
            by_cases k3 : n.kind = 3
            · rw [if_pos k3]
              by_cases h : n.rows.length = 0 ∧ 1 < n.kids.length ∧ n.kids.length < 5
              · rw [if_pos ⟨k3, h⟩, decide_eq_true h.1, decide_eq_true (show 2 ≤ n.kids.length by omega), decide_eq_true (show n.kids.length ≤ 4 by omega)]; rfl
              · rw [if_neg (fun e => h e.2)]
                by_cases a : n.rows.length = 0
                · by_cases b : 2 ≤ n.kids.length
                  · rw [decide_eq_false (show ¬ n.kids.length ≤ 4 by omega)]; simp
                  · rw [decide_eq_false b]; simp
                · rw [decide_eq_false a]; rfl
            · rw [if_neg (fun e => k3 e.1), if_neg k3]
  · rw [if_pos hd, decide_eq_false hd]
    rfl
set_option maxRecDepth 100000 in
set_option maxHeartbeats 2000000 in
theorem nshaped_any (kind : Nat) (p : Option Addr) (n c : Nat) (q : Option Addr) (m f : Nat) (E : List En) (K : List Kd) (d : Int) (w : World) (hE : EntsIn w p n c E) (hK : KidsIn w q m f K) :
    Calls Tryz.prog 56 #[.agg #[.int .u8 kind, .slice p n c, .slice q m f], .int .i64 d] w fun e w' => e = .returned (.bool ((pnOf kind E K).shape d)) ∧ Below w.heap.size w w' := by
  have hb1 : Below w.heap.size w (w.alloc (.cells #[.int .u8 kind, .slice p n c, .slice q m f] 27)) := (Below.refl _ _).alloc (Nat.le_refl _) _
  have hn := NodeAt.start w kind p n c q m f
  have HE := Lib.hid (hE.later hb1)
  have HK := Lib.hid (hK.later hb1)
  have HB := Lib.hid hb1
  have HN := Lib.hid hn
  have hs : (pnOf kind E K).shape d = if kind = 1 then decide (n = 1) && decide (m = 2) && (K.map Kd.pk).all (PK.keys 0)
      else if kind = 2 then decide (1 ≤ n) && decide (n ≤ 4) && decide (m = 0) && (E.map En.pe).all PE.live
      else if kind = 3 then decide (n = 0) && decide (2 ≤ m) && decide (m ≤ 4) && (K.map Kd.pk).all (PK.keys d)
      else false := by
    unfold PN.shape pnOf
    simp only [List.length_map]
    rw [← hE.size, ← hK.size]
  have HK0 := Lib.hid (fun w1 (h : Below w.heap.size w w1) => nkeyed_any q m f K 0 w1 (hK.later h))
  have HKD := Lib.hid (fun w1 (h : Below w.heap.size w w1) => nkeyed_any q m f K d w1 (hK.later h))
  have HEL := Lib.hid (fun w1 (h : Below w.heap.size w w1) => eachE_any p n c E PE.live 78 #[] (fun args w => by as_aux_lemma => kernel_rfl) w1 (hE.later h) (fun e w' _ _ _ => fnLive_any e w'))
  generalize (pnOf kind E K).shape d = X at *
  generalize (K.map Kd.pk).all (PK.keys 0) = X0 at *
  generalize (K.map Kd.pk).all (PK.keys d) = XD at *
  generalize (E.map En.pe).all PE.live = XL at *
  have HS := Lib.hid hs
  clear hE hK hb1 hn hs
  go_enter Tryz.func56, Tryz.ntmps56
  go_upto_region 1 with fail
  generalize w.alloc (.cells #[.int .u8 kind, .slice p n c, .slice q m f] 27) = w1 at *
  obtain ⟨t0, t1, t2⟩ := HN.out.cells
  by_cases k1 : kind = 1
  · have hs := HS.out
    rw [if_pos k1] at hs
    subst k1
    by_cases h1 : n = 1
    · subst h1
      by_cases h2 : m = 2
      · subst h2
        have HSS := Lib.hid hs
        clear hs
        go_wp2_with (refine (HK0.out w1 HB.out).mono ?_; rintro e w'' ⟨rfl, b2⟩)
        go_ret
        exact ⟨by rw [HSS.out]; rfl, HB.out.trans (b2.mono HB.out.size)⟩
      · rw [decide_eq_false h2] at hs
        have e2 : ((m : Int) == 2) = false := by simp; omega
        obtain rfl : X = false := by simpa using hs
        clear hs h2
        go_wp2_with fail
        go_ret
        exact ⟨rfl, HB.out⟩
    · rw [decide_eq_false h1] at hs
      have e1 : ((n : Int) == 1) = false := by simp; omega
      obtain rfl : X = false := by simpa using hs
      clear hs h1
      go_wp2_with fail
      go_ret
      exact ⟨rfl, HB.out⟩
  have g1 : ((kind : Int) == 1) = false := by simp; omega
  by_cases k2 : kind = 2
  · have hs := HS.out
    rw [if_neg k1, if_pos k2] at hs
    subst k2
    clear g1 k1
    by_cases h1 : 1 ≤ n
    · have e1 : (1 : Int) ≤ n := by omega
      by_cases h2 : n ≤ 4
      · have e2 : (n : Int) ≤ 4 := by omega
        by_cases h3 : m = 0
        · subst h3
          rw [decide_eq_true h1, decide_eq_true h2] at hs
          have HSS := Lib.hid hs
          clear hs h1 h2
          go_wp2_with (refine (HEL.out w1 HB.out).mono ?_; rintro e w'' ⟨rfl, b2⟩)
          go_ret
          exact ⟨by rw [HSS.out]; rfl, HB.out.trans (b2.mono HB.out.size)⟩
        · rw [decide_eq_false h3] at hs
          have e3 : ((m : Int) == 0) = false := by simp; omega
          obtain rfl : X = false := by simpa using hs
          clear hs h3 h1 h2
          go_wp2_with fail
          go_ret
          exact ⟨rfl, HB.out⟩
      · rw [decide_eq_false h2] at hs
        have e2 : ¬ (n : Int) ≤ 4 := by omega
        obtain rfl : X = false := by simpa using hs
        clear hs h2 h1
        go_wp2_with fail
        go_ret
        exact ⟨rfl, HB.out⟩
    · rw [decide_eq_false h1] at hs
      have e1 : ¬ (1 : Int) ≤ n := by omega
      obtain rfl : X = false := by simpa using hs
      clear hs h1
      go_wp2_with fail
      go_ret
      exact ⟨rfl, HB.out⟩
  have g2 : ((kind : Int) == 2) = false := by simp; omega
  by_cases k3 : kind = 3
  · have hs := HS.out
    rw [if_neg k1, if_neg k2, if_pos k3] at hs
    subst k3
    clear g1 k1 g2 k2
    by_cases h1 : n = 0
    · subst h1
      by_cases h2 : 2 ≤ m
      · have e2 : (2 : Int) ≤ m := by omega
        by_cases h3 : m ≤ 4
        · have e3 : (m : Int) ≤ 4 := by omega
          rw [decide_eq_true h2, decide_eq_true h3] at hs
          have HSS := Lib.hid hs
          clear hs h3 h2
          go_wp2_with (refine (HKD.out w1 HB.out).mono ?_; rintro e w'' ⟨rfl, b2⟩)
          go_ret
          exact ⟨by rw [HSS.out]; rfl, HB.out.trans (b2.mono HB.out.size)⟩
        · rw [decide_eq_false h3] at hs
          have e3 : ¬ (m : Int) ≤ 4 := by omega
          obtain rfl : X = false := by simpa using hs
          clear hs h3 h2
          go_wp2_with fail
          go_ret
          exact ⟨rfl, HB.out⟩
      · rw [decide_eq_false h2] at hs
        have e2 : ¬ (2 : Int) ≤ m := by omega
        obtain rfl : X = false := by simpa using hs
        clear hs h2
        go_wp2_with fail
        go_ret
        exact ⟨rfl, HB.out⟩
    · rw [decide_eq_false h1] at hs
      have e1 : ((n : Int) == 0) = false := by simp; omega
      obtain rfl : X = false := by simpa using hs
      clear hs h1
      go_wp2_with fail
      go_ret
      exact ⟨rfl, HB.out⟩
  have g3 : ((kind : Int) == 3) = false := by simp; omega
  have hs := HS.out
  rw [if_neg k1, if_neg k2, if_neg k3] at hs
  subst hs
  clear k1 k2 k3
  go_wp2_with fail
  go_ret
  exact ⟨rfl, HB.out⟩
end Go.Proofs.YtfkpgildeddhaaaGreat.Nd

/- node.Right. -/
namespace Go.Proofs.YtfkpgildeddhaaaGreat.Nd
open Go.RowKit

/-- A node and how many dimensions it is asked for, each in its box. -/
structure NR (w : World) (g kind : Nat) (p : Option Addr) (n c : Nat) (q : Option Addr) (m f : Nat) (d : Int) : Prop where
  node : NodeAt w g kind p n c q m f
  dim : w.cell? ⟨g + 1, 0, none⟩ = some (.int .i64 d)
theorem NR.later {w w' : World} {g kind : Nat} {p : Option Addr} {n c : Nat} {q : Option Addr} {m f : Nat} {d : Int} (h : NR w g kind p n c q m f d) (hb : Below w.heap.size w w') : NR w' g kind p n c q m f d :=
  ⟨h.node.later hb, (hb.cell (block_lt_of_cell h.dim)).trans h.dim⟩
set_option maxRecDepth 100000 in
set_option maxHeartbeats 2000000 in
theorem nright_any (kind : Nat) (p : Option Addr) (n c : Nat) (q : Option Addr) (m f : Nat) (E : List En) (K : List Kd) (d : Int) (w : World) (hE : EntsIn w p n c E) (hK : KidsIn w q m f K) :
    Calls Tryz.prog 30 #[.agg #[.int .u8 kind, .slice p n c, .slice q m f], .int .i64 d] w fun e w' => e = .returned (.bool ((pnOf kind E K).right d)) ∧ Below w.heap.size w w' := by
  have hb1 : Below w.heap.size w (w.alloc (.cells #[.int .u8 kind, .slice p n c, .slice q m f] 27)) := (Below.refl _ _).alloc (Nat.le_refl _) _
  have hn := NodeAt.start w kind p n c q m f
  have hz : (w.alloc (.cells #[.int .u8 kind, .slice p n c, .slice q m f] 27)).heap.size = w.heap.size + 1 := by simp
  have hb2 : Below (w.heap.size + 1) (w.alloc (.cells #[.int .u8 kind, .slice p n c, .slice q m f] 27)) ((w.alloc (.cells #[.int .u8 kind, .slice p n c, .slice q m f] 27)).alloc (.cells #[.int .i64 d] 3)) := (Below.refl _ _).alloc (by omega) _
  have hd := boxed (w.alloc (.cells #[.int .u8 kind, .slice p n c, .slice q m f] 27)) (.int .i64 d) 3
  rw [hz] at hd
  have hnr : NR ((w.alloc (.cells #[.int .u8 kind, .slice p n c, .slice q m f] 27)).alloc (.cells #[.int .i64 d] 3)) w.heap.size kind p n c q m f d := ⟨hn.later (by rw [hz]; exact hb2), hd⟩
  have hb12 := hb1.trans (hb2.mono (by omega))
  have hr := PN.right_shape (pnOf kind E K) d
  have HR0 := Lib.hid hr
  have HSH := Lib.hid (fun w1 (h : Below w.heap.size w w1) => nshaped_any kind p n c q m f E K d w1 (hE.later h) (hK.later h))
  have HLE := Lib.hid (fun w1 (h : Below w.heap.size w w1) (hc : w1.cell? ⟨w.heap.size + 1, 0, none⟩ = some (.int .i64 d)) => eachE_any p n c E (PE.long d) 58 #[.pointer (some ⟨w.heap.size + 1, 0, none⟩)] (fun args w => by as_aux_lemma => kernel_rfl) w1 (hE.later h) (fun e w' _ he hb => fnLong_any e _ d w' ((hb.cell (block_lt_of_cell hc)).trans hc) he))
  have HKE := Lib.hid (fun w1 (h : Below w.heap.size w w1) (hc : w1.cell? ⟨w.heap.size + 1, 0, none⟩ = some (.int .i64 d)) => eachK_any q m f K (PK.right · d) 60 #[.pointer (some ⟨w.heap.size + 1, 0, none⟩)] (fun args w => by as_aux_lemma => kernel_rfl) w1 (hK.later h) (fun e w' _ he hb => fnKid_any e _ d w' ((hb.cell (block_lt_of_cell hc)).trans hc) he))
  rw [show (pnOf kind E K).rows = E.map En.pe from rfl, show (pnOf kind E K).kids = K.map Kd.pk from rfl] at hr
  generalize (pnOf kind E K).right d = X at *
  generalize (pnOf kind E K).shape d = XS at *
  generalize (E.map En.pe).all (PE.long d) = XL at *
  generalize (K.map Kd.pk).all (PK.right · d) = XK at *
  have HS := Lib.hid hr
  have HB := Lib.hid hb12
  have HNR := Lib.hid hnr
  clear hE hK hb1 hb2 hb12 hn hnr hd hz hr HR0
  go_enter Tryz.func30, Tryz.ntmps30
  go_upto_region 1 with fail
  generalize (w.alloc (.cells #[.int .u8 kind, .slice p n c, .slice q m f] 27)).alloc (.cells #[.int .i64 d] 3) = w1 at *
  obtain ⟨t0, t1, t2⟩ := HNR.out.node.cells
  have t3 := HNR.out.dim
  by_cases h1 : 1 ≤ d
  case neg =>
    have hs := HS.out
    rw [decide_eq_false (fun e => h1 e.1)] at hs
    obtain rfl : X = false := by simpa using hs
    clear hs
    go_wp2_with fail
    go_ret
    exact ⟨rfl, HB.out⟩
  by_cases h2 : d ≤ 8
  case neg =>
    have hs := HS.out
    rw [decide_eq_false (fun e => h2 e.2)] at hs
    obtain rfl : X = false := by simpa using hs
    clear hs
    go_wp2_with fail
    go_ret
    exact ⟨rfl, HB.out⟩
  have hs := HS.out
  rw [decide_eq_true ⟨h1, h2⟩] at hs
  have HS1 := Lib.hid hs
  clear hs HS
  have A1 := Lib.hid (HSH.out w1 HB.out)
  clear HSH
  cases XS with
  | false =>
    obtain rfl : X = false := by have := HS1.out; simpa using this
    clear HS1
    go_wp2_with (go_at_call 56; refine A1.out.mono ?_; rintro e w2 ⟨rfl, b2⟩; have HB2 := Lib.hid (HB.out.trans (b2.mono HB.out.size)); clear b2)
    go_ret
    exact ⟨rfl, HB2.out⟩
  | true =>
  cases XL with
  | false =>
    obtain rfl : X = false := by have := HS1.out; simpa using this
    clear HS1
    go_wp2_with (first
      | (go_at_call 56; refine A1.out.mono ?_; rintro e w2 ⟨rfl, b2⟩; have HB2 := Lib.hid (HB.out.trans (b2.mono HB.out.size)); have H2 := Lib.hid (HNR.out.later b2); obtain ⟨t0, t1, t2⟩ := H2.out.node.cells; have t3 := H2.out.dim; have A2 := Lib.hid (HLE.out w2 HB2.out t3); clear b2)
      | (go_at_call 57; refine A2.out.mono ?_; rintro e w3 ⟨rfl, b3⟩; have HB3 := Lib.hid (HB2.out.trans (b3.mono HB2.out.size)); clear b3))
    go_ret
    exact ⟨rfl, HB3.out⟩
  | true =>
  have HX := Lib.hid (show XK = X from by have := HS1.out; simpa using this.symm)
  clear HS1
  go_wp2_with (first
    | (go_at_call 56; refine A1.out.mono ?_; rintro e w2 ⟨rfl, b2⟩; have HB2 := Lib.hid (HB.out.trans (b2.mono HB.out.size)); have H2 := Lib.hid (HNR.out.later b2); obtain ⟨t0, t1, t2⟩ := H2.out.node.cells; have t3 := H2.out.dim; have A2 := Lib.hid (HLE.out w2 HB2.out t3); clear b2)
    | (go_at_call 57; refine A2.out.mono ?_; rintro e w3 ⟨rfl, b3⟩; have HB3 := Lib.hid (HB2.out.trans (b3.mono HB2.out.size)); have H3 := Lib.hid (H2.out.later b3); obtain ⟨t0, t1, t2⟩ := H3.out.node.cells; have t3 := H3.out.dim; have A3 := Lib.hid (HKE.out w3 HB3.out t3); clear b3)
    | (go_at_call 59; refine A3.out.mono ?_; rintro e w4 ⟨rfl, b4⟩; have HB4 := Lib.hid (HB3.out.trans (b4.mono HB3.out.size)); clear b4))
  go_ret
  exact ⟨by rw [HX.out]; rfl, HB4.out⟩
end Go.Proofs.YtfkpgildeddhaaaGreat.Nd

/- The contract of codec.New. -/
namespace Go.Proofs.YtfkpgildeddhaaaGreat
open Go.RowKit

theorem rd_built (q : Option Addr) (m c : Nat) : Tryz.prog.built 89 [(0, .slice q m c)] = some #[.slice q m c, .int .i64 0] := by kernel_rfl
def NewPost (w : World) (B : List Nat) (e : Ending) (w' : World) : Prop := ∃ g, e = .returned (.pointer (some ⟨g, 0, none⟩)) ∧ w.heap.size ≤ g ∧ RSx w' g ⟨B, 0⟩ ∧ Below w.heap.size w w'
set_option maxHeartbeats 1000000 in
theorem rnew_any (B : List Nat) (p : Option Addr) (n c : Nat) (w : World) (hB : Tx w p n c B) (hl : n < 1099511627776) :
    Calls Tryz.prog 25 #[.slice p n c] w (NewPost w B) := by
  have HB := Lib.hid hB
  clear hB
  go_enter Tryz.func25, Tryz.ntmps25
  go_wp2_with fail
  refine (clone_any B p n c _ HB.out hl).mono ?_
  rintro e w1 hp
  obtain ⟨q, m, rfl, h1, h2⟩ := hp
  have H1 := Lib.hid h1
  have H2 := Lib.hid h2
  clear h1 h2
  go_wp2_with fail
  go_ret
  exact ⟨w1.heap.size, rfl, H2.out.size, ⟨q, B.length, m, heap_alloc_new w1 _, (tx_of_owns H1.out HB.out.ok).later ((Below.refl _ _).alloc (Nat.le_refl _) _), fun x hx h => by
    subst hx
    exact (H1.out.lt x.block (by
      rcases H1.out.2 with ⟨h1, _⟩ | ⟨k, cap, cur, h1, _⟩
      · simp at h1
      · simp only [Value.slice.injEq, Option.some.injEq] at h1; rw [h1.1]; rfl)).2⟩, H2.out.alloc H2.out.size _⟩
end Go.Proofs.YtfkpgildeddhaaaGreat

/- The contract of codec.Reader.End. -/
namespace Go.Proofs.YtfkpgildeddhaaaGreat
open Go.RowKit

def Rd.end (s : Rd) : Rd := if s.R = [] then s else s.refuse 22
set_option maxHeartbeats 1000000 in
theorem rend_any (s : Rd) (g : Nat) (w : World) (hs : RSx w g s) :
    Calls Tryz.prog 29 #[.pointer (some ⟨g, 0, none⟩)] w (RPost w g (.int .i64 s.end.e) s.end) := by
  obtain ⟨p, n, c, hs⟩ := hs
  have h0 := hs.rest
  have h1 := hs.err
  have hn := hs.tx.size
  have HS := Lib.hid hs
  have HN := Lib.hid hn
  clear hs hn
  unfold Rd.end
  by_cases h : s.R = []
  · rw [if_pos h]
    obtain rfl : n = 0 := by rw [HN.out, h]; rfl
    clear h
    go_enter Tryz.func29, Tryz.ntmps29
    go_wp2_with fail
    go_ret
    exact ⟨rfl, ⟨p, 0, c, HS.out⟩, grown_same _ _⟩
  · rw [if_neg h]
    have b1 : (0 : Int) < n := by have := List.length_pos_iff.2 h; have := HN.out; omega
    clear h h1
    go_enter Tryz.func29, Tryz.ntmps29
    go_wp2_with fail
    refine (rrefuse_any s 22 g _ ⟨p, n, c, HS.out⟩).mono ?_
    rintro e w1 hp
    obtain ⟨rfl, ⟨p1, n1, c1, h2⟩, h3⟩ := hp
    have h4 := h2.err
    have H2 := Lib.hid h2
    have H3 := Lib.hid h3
    clear h2 h3
    go_wp2_with fail
    go_ret
    exact ⟨rfl, ⟨p1, n1, c1, H2.out⟩, H3.out⟩
end Go.Proofs.YtfkpgildeddhaaaGreat

/- node.Decode. -/
namespace Go.Proofs.YtfkpgildeddhaaaGreat.Nd
open Go.RowKit Go.Proofs.YtfkpgildeddhaaaGreat.Dk

theorem UNo0 : (Tryz.prog.underlying 27).map (·.isRow) = some true := by kernel_rfl
theorem UNo : ∃ d, Tryz.prog.underlying 27 = some d ∧ d.isRow = true := by
  have h := UNo0
  revert h
  cases Tryz.prog.underlying 27 with
  | none => intro h; cases h
  | some d => intro h; exact ⟨d, rfl, by simpa using h⟩
theorem SNo : (Tryz.prog.info? 27).map (·.size) = some 3 := by kernel_rfl
theorem lst_form {w : World} {base e size n : Nat} {v : Value} {xs : List Value} (h : w.ownsRow base e size v n xs) : ∃ q c, v = .slice q n c := by
  rcases h.2 with ⟨rfl, h0⟩ | ⟨g, cap, cur, rfl, _⟩
  · exact ⟨none, 0, by rw [h0]⟩
  · exact ⟨_, cap, rfl⟩
/-- The loop over the entries. -/
structure De1 (wL : World) (gn g kind n1 : Nat) (T : List PE × Rd) (k : Nat) (E : List En) (v : Value) (s : Rd) (wr : World) : Prop where
  le : k ≤ n1
  row : wr.heap[gn]? = some (.cells #[.int .u8 kind, v, .slice none 0 0] 27 (0, 0))
  ents : Ens wL.heap.size wr v k E
  rd : RSx wr g s
  only : Only (fun j => j = gn ∨ j = g) wL wr
  run : readE 8 (n1 - k) s (E.map En.pe) = T
  len : s.R.length < 1099511627776
def De1R (wL : World) (gn g kind n1 : Nat) (T : List PE × Rd) (i : Value) (wr : World) : Prop := ∃ k E v s, i = .int .u8 (k : Nat) ∧ De1 wL gn g kind n1 T k E v s wr
structure De2 (wL : World) (gn g kind n2 : Nat) (v1 : Value) (T : List PK × Rd) (k : Nat) (K : List Kd) (v : Value) (s : Rd) (wr : World) : Prop where
  le : k ≤ n2
  row : wr.heap[gn]? = some (.cells #[.int .u8 kind, v1, v] 27 (0, 0))
  kids : Kds wL.heap.size wr v k K
  rd : RSx wr g s
  only : Only (fun j => j = gn ∨ j = g) wL wr
  run : readK 8 (n2 - k) s (K.map Kd.pk) = T
  len : s.R.length < 1099511627776
def De2R (wL : World) (gn g kind n2 : Nat) (v1 : Value) (T : List PK × Rd) (i : Value) (wr : World) : Prop := ∃ k K v s, i = .int .u8 (k : Nat) ∧ De2 wL gn g kind n2 v1 T k K v s wr
/-- One more entry. -/
theorem De1.step {wL wr w5 w7 : World} {gn g kind n1 : Nat} {T : List PE × Rd} {k : Nat} {E : List En} {v v7 : Value} {s : Rd} (h : De1 wL gn g kind n1 T k E v s wr) (hk : k < n1) (hgn : gn < wL.heap.size) (hg : g < gn) {r : Rw} {lv : Bool}
    (hr : r.R = s.truth.rowV 8) (hlv : lv = s.truthV) (hfr : FrRw w5 wr.heap.size r) (h5 : RSx w5 g (s.entN 8)) (k5 : wr.grownBy w5 (some g)) {o : Obj}
    (hown : w7.ownsRow wL.heap.size 55 2 v7 (k + 1) (E.flatMap En.cells ++ En.cells ⟨r, lv⟩)) (hgr : (w5.alloc o).grownBy w7 v.ownBlock) (hat : v7.ownBlock = v.ownBlock ∨ v7.ownBlock = some (w5.alloc o).heap.size) (hl : (s.entN 8).R.length < 1099511627776) :
    De1 wL gn g kind n1 T (k + 1) (E ++ [⟨r, lv⟩]) v7 (s.entN 8) (w7.setCell ⟨gn, 1, none⟩ v7) := by
  have hv := fun x e => h.ents.own.lt x e
  have hz6 : (w5.alloc o).heap.size = w5.heap.size + 1 := by simp
  have hb6 : Below w5.heap.size w5 (w5.alloc o) := (Below.refl _ _).alloc (Nat.le_refl _) _
  have e5 := h.ents.grown k5 (by omega)
  have e6 := e5.later hb6
  have hsz := h.only.size
  have hnew : ∀ q ∈ En.rows ⟨r, lv⟩, FrRw (w5.alloc o) wL.heap.size q ∧ ∀ x, q.p = some x → q.R ≠ [] → v.ownBlock ≠ some x.block := fun q hq => by
    obtain rfl : q = r := by simpa [En.rows] using hq
    refine ⟨(hfr.later hb6).base hsz, fun x hx hR e => ?_⟩
    have h1 := hfr.lo x hx hR
    have h2 := (hv _ e).2
    omega
  have e7 := e6.put hnew hown hgr hat
  have row5 := (k5.block gn (Array.getElem?_eq_some_iff.1 h.row).1 (by simp; omega)).trans h.row
  have row6 := (hb6.block gn (Array.getElem?_eq_some_iff.1 row5).1).trans row5
  have row7 := (hgr.block gn (Array.getElem?_eq_some_iff.1 row6).1 (fun e => by have := (hv _ e.symm).1; omega)).trans row6
  have row8 := heap_setCell_same w7 gn 1 _ _ v7 row7
  have hb7 : Below (g + 1) (w5.alloc o) w7 := ⟨hgr.os, hgr.tape, hgr.output, hgr.size, fun j hj => hgr.block j (by have := k5.size; omega) (fun e => by have := (hv _ e.symm).1; omega)⟩
  have hb8 : Below (g + 1) w7 (w7.setCell ⟨gn, 1, none⟩ v7) := (Below.refl _ _).setCell (p := ⟨gn, 1, none⟩) (by show g + 1 ≤ gn; omega) _
  refine ⟨hk, row8, e7.keep (fun j hj _ => heap_setCell_other _ _ _ _ (by show j ≠ gn; omega)), ((h5.later hb6).low hb7).low hb8, ?_, ?_, hl⟩
  · refine ⟨hgr.os.trans (k5.os.trans h.only.os), hgr.tape.trans (k5.tape.trans h.only.tape), hgr.output.trans (k5.output.trans h.only.output), ?_, fun j hj hn => ?_⟩
    · have := hgr.size; have := k5.size; simp only [World.setCell] at *; simp; omega
    · rw [heap_setCell_other _ _ _ _ (by show j ≠ gn; intro e; exact hn (Or.inl e))]
      have hjr : j < wr.heap.size := by omega
      have hj5 : j < w5.heap.size := by have := k5.size; omega
      rw [hgr.block j (by omega) (fun e => by have := (hv _ e.symm).1; omega), hb6.block j hj5, k5.block j hjr (by simp; intro e; exact hn (Or.inr e))]
      exact h.only.block j hj hn
  · rw [List.map_append, show n1 - (k + 1) = n1 - k - 1 by omega]
    have := h.run
    rw [readE_go (by omega)] at this
    rw [← this]
    show readE 8 (n1 - k - 1) (s.entN 8) (E.map En.pe ++ [⟨r.R, lv⟩]) = _
    rw [hr, hlv]
    rfl
theorem De2.step {wL wr w5 w7 : World} {gn g kind n2 : Nat} {v1 : Value} {T : List PK × Rd} {k : Nat} {K : List Kd} {v v7 : Value} {s : Rd} (h : De2 wL gn g kind n2 v1 T k K v s wr) (hk : k < n2) (hgn : gn < wL.heap.size) (hg : g < gn) {kd : Kd}
    (hpk : kd.pk = s.kidV 8) (hok : kd.Ok w5) (f1 : FrRw w5 wr.heap.size kd.lo) (f2 : FrRw w5 wr.heap.size kd.hi) (f3 : FrRw w5 wr.heap.size kd.key) (h5 : RSx w5 g (s.kidN 8)) (k5 : wr.grownBy w5 (some g)) {o : Obj}
    (hown : w7.ownsRow wL.heap.size 43 37 v7 (k + 1) (K.flatMap Kd.cells ++ kd.cells)) (hgr : (w5.alloc o).grownBy w7 v.ownBlock) (hat : v7.ownBlock = v.ownBlock ∨ v7.ownBlock = some (w5.alloc o).heap.size) (hl : (s.kidN 8).R.length < 1099511627776) :
    De2 wL gn g kind n2 v1 T (k + 1) (K ++ [kd]) v7 (s.kidN 8) (w7.setCell ⟨gn, 2, none⟩ v7) := by
  have hv := fun x e => h.kids.lst.own.lt x e
  have hz6 : (w5.alloc o).heap.size = w5.heap.size + 1 := by simp
  have hb6 : Below w5.heap.size w5 (w5.alloc o) := (Below.refl _ _).alloc (Nat.le_refl _) _
  have e5 := h.kids.lst.grown k5 (by omega)
  have e6 := e5.later hb6
  have hsz := h.only.size
  have hnew : ∀ q ∈ Kd.rows kd, FrRw (w5.alloc o) wL.heap.size q ∧ ∀ x, q.p = some x → q.R ≠ [] → v.ownBlock ≠ some x.block := fun q hq => by
    have hq5 : FrRw w5 wr.heap.size q := by
      simp only [Kd.rows, List.mem_cons, List.not_mem_nil, or_false] at hq
      rcases hq with rfl | rfl | rfl <;> assumption
    refine ⟨(hq5.later hb6).base hsz, fun x hx hR e => ?_⟩
    have h1 := hq5.lo x hx hR
    have h2 := (hv _ e).2
    omega
  have e7 := e6.put hnew hown hgr hat
  have row5 := (k5.block gn (Array.getElem?_eq_some_iff.1 h.row).1 (by simp; omega)).trans h.row
  have row6 := (hb6.block gn (Array.getElem?_eq_some_iff.1 row5).1).trans row5
  have row7 := (hgr.block gn (Array.getElem?_eq_some_iff.1 row6).1 (fun e => by have := (hv _ e.symm).1; omega)).trans row6
  have row8 := heap_setCell_same w7 gn 2 _ _ v7 row7
  have hb7 : Below (g + 1) (w5.alloc o) w7 := ⟨hgr.os, hgr.tape, hgr.output, hgr.size, fun j hj => hgr.block j (by have := k5.size; omega) (fun e => by have := (hv _ e.symm).1; omega)⟩
  have hb8 : Below (g + 1) w7 (w7.setCell ⟨gn, 2, none⟩ v7) := (Below.refl _ _).setCell (p := ⟨gn, 2, none⟩) (by show g + 1 ≤ gn; omega) _
  refine ⟨hk, row8, ⟨e7.keep (fun j hj _ => heap_setCell_other _ _ _ _ (by show j ≠ gn; omega)), fun x hx => ?_⟩, ((h5.later hb6).low hb7).low hb8, ?_, ?_, hl⟩
  · rcases List.mem_append.1 hx with hx | hx
    · exact h.kids.good x hx
    · obtain rfl : x = kd := by simpa using hx
      exact ⟨hok.len, hok.ok, hok.live, hok.size⟩
  · refine ⟨hgr.os.trans (k5.os.trans h.only.os), hgr.tape.trans (k5.tape.trans h.only.tape), hgr.output.trans (k5.output.trans h.only.output), ?_, fun j hj hn => ?_⟩
    · have := hgr.size; have := k5.size; simp only [World.setCell] at *; simp; omega
    · rw [heap_setCell_other _ _ _ _ (by show j ≠ gn; intro e; exact hn (Or.inl e))]
      have hjr : j < wr.heap.size := by omega
      have hj5 : j < w5.heap.size := by have := k5.size; omega
      rw [hgr.block j (by omega) (fun e => by have := (hv _ e.symm).1; omega), hb6.block j hj5, k5.block j hjr (by simp; intro e; exact hn (Or.inr e))]
      exact h.only.block j hj hn
  · rw [List.map_append, show n2 - (k + 1) = n2 - k - 1 by omega]
    have := h.run
    rw [readK_go (by omega)] at this
    rw [← this, ← hpk]
    rfl
theorem res_set {w : World} {g : Nat} {a b c a' b' c' : Value} (h : w.heap[g]? = some (.cells #[a, b, c] 27 (0, 0))) : (((w.setCell ⟨g, 0, none⟩ a').setCell ⟨g, 1, none⟩ b').setCell ⟨g, 2, none⟩ c').heap[g]? = some (.cells #[a', b', c'] 27 (0, 0)) ∧ Only (fun j => j = g) w (((w.setCell ⟨g, 0, none⟩ a').setCell ⟨g, 1, none⟩ b').setCell ⟨g, 2, none⟩ c') := by
  have h1 := heap_setCell_same w g 0 _ _ a' h
  have h2 := heap_setCell_same _ g 1 _ _ b' h1
  have h3 := heap_setCell_same _ g 2 _ _ c' h2
  exact ⟨h3, ((Only.setCell (P := fun j => j = g) w (a := ⟨g, 0, none⟩) rfl a').trans (Only.setCell (P := fun j => j = g) _ (a := ⟨g, 1, none⟩) rfl b')).trans (Only.setCell (P := fun j => j = g) _ (a := ⟨g, 2, none⟩) rfl c')⟩
theorem end_e {s : Rd} : s.end.e = 0 ↔ s.e = 0 ∧ s.R = [] := by
  unfold Rd.end Rd.refuse
  by_cases h : s.R = []
  · rw [if_pos h]; simp [h]
  · rw [if_neg h]
    split
    · rename_i k; simp [h]
    · rename_i k; simp [h, k]
def DecPost (w : World) (B : List Nat) (d : Int) (e : Ending) (w' : World) : Prop :=
  Below w.heap.size w w' ∧
  (((rdN 8 B).good d ∧ ∃ kind p n c q m f E K, e = .returned (.tuple #[.agg #[.int .u8 (kind : Nat), .slice p n c, .slice q m f], .int .i64 0]) ∧ (∀ w'' : World, (∀ k, w.heap.size ≤ k → k < w'.heap.size → w''.heap[k]? = w'.heap[k]?) → EntsIn w'' p n c E ∧ KidsIn w'' q m f K) ∧ pnOf kind E K = (rdN 8 B).node ∧ kind < 256) ∨
   (¬ (rdN 8 B).good d ∧ e = .returned (.tuple #[.agg #[.int .u8 0, .slice none 0 0, .slice none 0 0], .int .i64 21])))
set_option maxRecDepth 100000 in
set_option maxHeartbeats 4000000 in
theorem decode_any (B : List Nat) (p : Option Addr) (n c : Nat) (d : Int) (w : World) (hB : Tx w p n c B) (hl : n < 1099511627776) :
    Calls Tryz.prog 6 #[.slice p n c, .int .i64 d] w (DecPost w B d) := by
  have hbd := rdN_bounds (m := 8) hB.ok
  have hBl : B.length < 1099511627776 := by rw [← hB.size]; exact hl
  have hx0 : rdN 8 B = ⟨Cm.val ((Rd.mk B 0).part 1), Cm.val (((Rd.mk B 0).past 1).part 1), (((Rd.mk B 0).past 1).past 1), readE 8 (Cm.val (((Rd.mk B 0).past 1).part 1)) (((Rd.mk B 0).past 1).past 1) [], Cm.val ((readE 8 (Cm.val (((Rd.mk B 0).past 1).part 1)) (((Rd.mk B 0).past 1).past 1) []).2.part 1), (readE 8 (Cm.val (((Rd.mk B 0).past 1).part 1)) (((Rd.mk B 0).past 1).past 1) []).2.past 1, readK 8 (Cm.val ((readE 8 (Cm.val (((Rd.mk B 0).past 1).part 1)) (((Rd.mk B 0).past 1).past 1) []).2.part 1)) ((readE 8 (Cm.val (((Rd.mk B 0).past 1).part 1)) (((Rd.mk B 0).past 1).past 1) []).2.past 1) []⟩ := rfl
  have HA0 := Lib.hid (fun w1 g (h : RSx w1 g ⟨B, 0⟩) => rbyte_any ⟨B, 0⟩ g w1 h hBl)
  have HA1 := Lib.hid (fun w1 g (h : RSx w1 g ((Rd.mk B 0).past 1)) => rbyte_any ((Rd.mk B 0).past 1) g w1 h (Nat.lt_of_le_of_lt hbd.2.2.2.2.2.2.2.2.2 hBl))
  generalize hxx : rdN 8 B = x at *
  have hk0 : Cm.val ((Rd.mk B 0).part 1) = x.kind := by rw [hx0]
  have hk1 : Cm.val (((Rd.mk B 0).past 1).part 1) = x.n1 := by rw [hx0]
  have hk2 : (((Rd.mk B 0).past 1).past 1) = x.s2 := by rw [hx0]
  have hk3 : readE 8 x.n1 x.s2 [] = x.T1 := by rw [hx0]
  have hk4 : Cm.val (x.T1.2.part 1) = x.n2 := by rw [hx0]
  have hk5 : x.T1.2.past 1 = x.s4 := by rw [hx0]
  have hk6 : readK 8 x.n2 x.s4 [] = x.T2 := by rw [hx0]
  rw [hk0] at HA0
  rw [hk1, hk2] at HA1
  generalize (Rd.mk B 0).past 1 = s1 at *
  have HBD := Lib.hid hbd
  have HBL := Lib.hid hBl
  have HK3 := Lib.hid hk3
  have HK4 := Lib.hid hk4
  have HK5 := Lib.hid hk5
  have HK6 := Lib.hid hk6
  have HB := Lib.hid hB
  have HXX := Lib.hid hxx
  clear hbd hBl hx0 hk0 hk1 hk2 hk3 hk4 hk5 hk6 hB hxx
  obtain ⟨ie, hi, hi0, hi1, hi2⟩ := info_parts IEn
  have HI := Lib.hid hi
  have HI0 := Lib.hid hi0
  have HI1 := Lib.hid hi1
  have HI2 := Lib.hid hi2
  clear hi hi0 hi1 hi2
  obtain ⟨ik, hi, hi0, hi1, hi2⟩ := info_parts IKd
  have KI := Lib.hid hi
  have KI0 := Lib.hid hi0
  have KI1 := Lib.hid hi1
  have KI2 := Lib.hid hi2
  clear hi hi0 hi1 hi2
  have hb1 : Below w.heap.size w (w.alloc (.cells #[.int .u8 0, .slice none 0 0, .slice none 0 0] 27)) := (Below.refl _ _).alloc (Nat.le_refl _) _
  have r1 := heap_alloc_new w (.cells #[.int .u8 0, .slice none 0 0, .slice none 0 0] 27)
  have z1 : (w.alloc (.cells #[.int .u8 0, .slice none 0 0, .slice none 0 0] 27)).heap.size = w.heap.size + 1 := by simp
  have HNW := Lib.hid (rnew_any B p n c _ (HB.out.later hb1) hl)
  have HB1 := Lib.hid hb1
  have R1 := Lib.hid r1
  have Z1 := Lib.hid z1
  clear hb1 r1 hl z1
  go_enter Tryz.func6, Tryz.ntmps6
  go_upto_region 1 with fail
  generalize w.alloc (.cells #[.int .u8 0, .slice none 0 0, .slice none 0 0] 27) = w1 at *
  go_upto_region 2 with (go_at_call 25; refine HNW.out.mono ?_; rintro e w2 hp; obtain ⟨g, rfl, hg2, h2, b2⟩ := hp; have HR2 := Lib.hid h2; have HG2 := Lib.hid hg2; have R2 := Lib.hid ((b2.block w.heap.size (by have := Z1.out; omega)).trans R1.out); have HB2 := Lib.hid (HB1.out.trans (b2.mono HB1.out.size)); clear h2 hg2 b2)
  have A0 := Lib.hid (HA0.out w2 g HR2.out)
  clear HNW HA0 R1 HB1
  go_upto_region 3 with (go_at_call 26; refine A0.out.mono ?_; rintro e w3 ⟨rfl, h3, k3⟩; have HR3 := Lib.hid h3; have K3 := Lib.hid k3; clear h3 k3)
  have hg3 : g < w3.heap.size := HR3.out.lt
  have hb4 : Below w3.heap.size w3 (w3.alloc (.cells #[.int .u8 x.kind, .slice none 0 0, .slice none 0 0] 27)) := (Below.refl _ _).alloc (Nat.le_refl _) _
  have rn4 := heap_alloc_new w3 (.cells #[.int .u8 x.kind, .slice none 0 0, .slice none 0 0] 27)
  have hgw : w.heap.size < g := by have := HG2.out; have := Z1.out; omega
  have R3 := Lib.hid ((K3.out.block w.heap.size (Array.getElem?_eq_some_iff.1 R2.out).1 (by simp; omega)).trans R2.out)
  have HB3 := Lib.hid (show Below w.heap.size w w3 from HB2.out.trans (below_grown K3.out (by omega) HB2.out.size))
  obtain ⟨gn, hgn⟩ : ∃ gn, gn = w3.heap.size := ⟨_, rfl⟩
  rw [← hgn] at rn4 hg3 hb4 ⊢
  have R4 := Lib.hid ((hb4.block w.heap.size (by omega)).trans R3.out)
  have HR4 := Lib.hid (HR3.out.later (by rw [← hgn]; exact hb4))
  have HB4 := Lib.hid (HB3.out.trans (hb4.mono (by omega)))
  have RN4 := Lib.hid rn4
  have HGG := Lib.hid (show w.heap.size < g ∧ g < gn from ⟨hgw, hg3⟩)
  clear hb4 rn4 hg3 hgw R2 R3 HR3 HB2 HB3 K3 A0 HR2 hgn HG2 Z1
  clear w2
  generalize w3.alloc (.cells #[.int .u8 x.kind, .slice none 0 0, .slice none 0 0] 27) = w4 at *
  clear w3
  have A0 := Lib.hid (HA1.out w4 g HR4.out)
  clear HA1
  go_upto_region 4 with (go_at_call 26; refine A0.out.mono ?_; rintro e wL ⟨rfl, h3, k3⟩; have HR5 := Lib.hid h3; have K5 := Lib.hid k3; clear h3 k3)
  have hgn4 : gn < w4.heap.size := (Array.getElem?_eq_some_iff.1 RN4.out).1
  have RN5 := Lib.hid ((K5.out.block gn hgn4 (by simp; have := HGG.out; omega)).trans RN4.out)
  have RG5 := Lib.hid ((K5.out.block w.heap.size (Array.getElem?_eq_some_iff.1 R4.out).1 (by simp; have := HGG.out; omega)).trans R4.out)
  have HB5 := Lib.hid (show Below w.heap.size w wL from HB4.out.trans (below_grown K5.out (by have := HGG.out; omega) HB4.out.size))
  have HGL := Lib.hid (show gn < wL.heap.size from (Array.getElem?_eq_some_iff.1 RN5.out).1)
  have HLS := Lib.hid (show x.s2.R.length < 1099511627776 from Nat.lt_of_le_of_lt HBD.out.2.2.2.2.1 HBL.out)
  have hn1 := HBD.out.2.1
  clear A0 R4 HR4 HB4 RN4 K5 hgn4
  clear w4
  go_loopw [15] (fun i wr => De1R wL gn g x.kind x.n1 x.T1 i wr) (fun i _ => x.n1 - (intOf i).toNat)
  case atStart => exact ⟨0, [], .slice none 0 0, x.s2, rfl, by omega, RN5.out, Lst.nil _, HR5.out, Only.refl _ _, by rw [Nat.sub_zero]; exact HK3.out, HLS.out⟩
  case round =>
    obtain ⟨k, E, v, s, rfl, hst⟩ := hrel
    have ST := Lib.hid hst
    obtain ⟨qv, cv, rfl, -⟩ := hst.ents.form
    have hle := hst.le
    clear hst RN5 HR5 HLS
    by_cases hlt : k < x.n1
    · have b1 : (k : Int) < x.n1 := by omega
      have HT := Lib.hid (readEnt_any s g wr.drew (ST.out.rd.later (Below.refl _ _).drew) ST.out.len)
      have HNL := Lib.hid (show (s.entN 8).R.length < 1099511627776 from by
        have hok : Sm.allB s.R := by obtain ⟨p, n, c, h⟩ := ST.out.rd; exact h.tx.ok
        exact Nat.lt_of_le_of_lt (ent_R (m := 8) hok).2 ST.out.len)
      have HGR := Lib.hid (show gn < wr.heap.size ∧ wL.heap.size ≤ wr.heap.size from ⟨(Array.getElem?_eq_some_iff.1 ST.out.row).1, ST.out.only.size⟩)
      have hk256 : k < 255 := by omega
      go_upto_region 5 with fail
      refine wp_region_held_drew (S := fun _ => True) (by kernel_rfl) trivial (fun hHeld => ?_)
      refine wpAnyH_take (i := 0) (oi := ⟨some 17, .fieldAddr 27 (.tmp 7) 1, _, _, _, _⟩) (v := ?_) rfl (by kernel_rfl) (by kernel_rfl) (by kernel_rfl) (fun _ _ _ h => h) (Or.inl ⟨by rfl, ?_⟩) (by assumption) ?_
      rotate_left
      · intro w' hSw
        go_simp
        try with_reducible rfl
      try simp only [Act.put, List.setIfInBounds_toArray, List.set_cons_zero, List.set_cons_succ]
      refine wpAnyH_take (i := 2) (oi := ⟨some 19, .move (.tmp 6), _, _, _, _⟩) (v := ?_) rfl (by kernel_rfl) (by kernel_rfl) (by kernel_rfl) (fun _ _ _ h => h) (Or.inl ⟨by rfl, ?_⟩) (by assumption) ?_
      rotate_left
      · intro w' hSw
        go_simp
        try with_reducible rfl
      try simp only [Act.put, List.setIfInBounds_toArray, List.set_cons_zero, List.set_cons_succ]
      refine wpAnyH_ready (rs := [1, 3]) (by kernel_rfl) (by simp) ?_
      refine AllReadyH.cons (o := ⟨some 18, .load 24 (.tmp 17), _, _, _, _⟩) rfl (fun K hK => ?_) (AllReadyH.cons (o := ⟨some 20, .call ⟨.value (.func 27), #[.tmp 19], #[62]⟩, _, _, _, _⟩) rfl (fun K hK => ?_) AllReadyH.nil)
      ·
        have t1 : wr.drew.cell? ⟨gn, 1, none⟩ = some (.slice qv k cv) := cell_of_row wr.drew gn 1 _ _ _ (show wr.drew.heap[gn]? = _ from ST.out.row)
        go_simp
        refine hK.out _ _ trivial (fun hHeld => ?_)
        clear hK K
        try simp only [Act.put, List.setIfInBounds_toArray, List.set_cons_zero, List.set_cons_succ]
        refine wpAnyH_ready (rs := [3]) (by kernel_rfl) (by simp) ?_
        refine AllReadyH.cons (o := ⟨some 20, .call ⟨.value (.func 27), #[.tmp 19], #[62]⟩, _, _, _, _⟩) rfl (fun K hK => ?_) AllReadyH.nil
        go_simp
        refine HT.out.mono ?_
        rintro _ w5 ⟨r5, rfl, hr5, hf5, h5, k5⟩
        have RR5 := Lib.hid hr5
        have FR5 := Lib.hid hf5
        have H5 := Lib.hid h5
        have K5 := Lib.hid (show wr.grownBy w5 (some g) from ⟨k5.os, k5.tape, k5.output, k5.size, k5.block⟩)
        have ROW5 := Lib.hid ((K5.out.block gn HGR.out.1 (by simp; have := HGG.out; omega)).trans ST.out.row)
        clear hr5 hf5 h5 k5
        try go_wp2_with fail
        refine hK.out _ _ trivial (fun hHeld => ?_)
        clear hK K
        try simp only [Act.put, List.setIfInBounds_toArray, List.set_cons_zero, List.set_cons_succ]
        refine wpAnyH_ready (rs := [4]) (by kernel_rfl) (by simp) ?_
        refine AllReadyH.cons (o := ⟨some 21, .buildSlice 24 1 #[(0, (.tmp 20))], _, _, _, _⟩) rfl (fun K hK => ?_) AllReadyH.nil
        refine wp_ent_one (.tmp 20) (by rfl) (by rfl) ?_
        have hb6 : Below w5.heap.size w5 (w5.alloc (.cells #[.slice r5.p r5.n r5.c, .bool s.truthV] 55)) := (Below.refl _ _).alloc (Nat.le_refl _) _
        have ROW6 := Lib.hid ((hb6.block gn (Array.getElem?_eq_some_iff.1 ROW5.out).1).trans ROW5.out)
        have OWN6 := Lib.hid ((ST.out.ents.grown K5.out (by have := HGL.out; have := HGG.out; omega)).own.alloc (.cells #[.slice r5.p r5.n r5.c, .bool s.truthV] 55))
        clear hb6
        refine hK.out _ _ trivial (fun hHeld => ?_)
        clear hK K
        try simp only [Act.put, List.setIfInBounds_toArray, List.set_cons_zero, List.set_cons_succ]
        refine wpAnyH_ready (rs := [5]) (by kernel_rfl) (by simp) ?_
        refine AllReadyH.cons (o := ⟨some 22, .call ⟨.builtin .append, #[.tmp 18, .tmp 21], #[24, 24]⟩, _, _, _, _⟩) rfl (fun K hK => ?_) AllReadyH.nil
        refine wp_append_at (.tmp 18) (.tmp 21) 24 (by rfl) wL.heap.size 55 ie (.agg #[.slice none 0 0, .bool false]) 2 32 UEs HI.out HI0.out HI1.out HI2.out (by rfl) (by decide) _ k _ (by rfl) OWN6.out ⟨w5.heap.size, 0, none⟩ 1 1 (En.cells ⟨r5, s.truthV⟩) (by rfl) (by rfl) (ent_news w5 ⟨r5, s.truthV⟩) En.one (by unfold maxLen; omega) (by omega) (by have h1 := HGR.out; have h2 := K5.out.size; simp; omega) ?_
        intro v7 w7 hown7 hgrow7 hat7
        have hv7 := fun y e => ST.out.ents.own.lt y e
        have row7 := (hgrow7.block gn (Array.getElem?_eq_some_iff.1 ROW6.out).1 (fun e => by have := (hv7 _ e.symm).1; have := HGL.out; omega)).trans ROW6.out
        have t7 := cell_of_row w7 gn 1 _ _ _ row7
        have f7 := frozen_of_row w7 gn 1 _ _ row7
        obtain ⟨q7, c7, rfl⟩ := lst_form hown7
        have HO7 := Lib.hid hown7
        have HG7 := Lib.hid hgrow7
        have HT7 := Lib.hid hat7
        clear hown7 hgrow7 hat7 hv7 row7
        refine hK.out _ _ trivial (fun hHeld => ?_)
        clear hK K
        try simp only [Act.put, List.setIfInBounds_toArray, List.set_cons_zero, List.set_cons_succ]
        refine wpAnyH_take (i := 6) (oi := ⟨some 23, .fieldAddr 27 (.tmp 7) 1, _, _, _, _⟩) (v := ?_) rfl (by kernel_rfl) (by kernel_rfl) (by kernel_rfl) (fun _ _ _ h => h) (Or.inl ⟨by rfl, ?_⟩) (by assumption) ?_
        rotate_left
        · intro w' hSw
          go_simp
          try with_reducible rfl
        try simp only [Act.put, List.setIfInBounds_toArray, List.set_cons_zero, List.set_cons_succ]
        refine wpAnyH_ready (rs := [7]) (by kernel_rfl) (by simp) ?_
        refine AllReadyH.cons (o := ⟨none, .store 24 (.tmp 23) (.tmp 22), _, _, _, _⟩) rfl (fun K hK => ?_) AllReadyH.nil
        go_simp
        try go_wp2_with fail
        refine hK.out _ _ trivial (fun hHeld => ?_)
        clear hK K
        try simp only [Act.put, List.setIfInBounds_toArray, List.set_cons_zero, List.set_cons_succ]
        refine wpAnyH_done (by kernel_rfl) ?_ _
        have ST9 := Lib.hid (ST.out.step hlt HGL.out HGG.out.2 RR5.out rfl FR5.out H5.out K5.out HO7.out HG7.out HT7.out HNL.out)
        clear HO7 HG7 HT7 t7 f7 OWN6 ROW6 ROW5 K5 H5 FR5 hHeld
        generalize w7.setCell ⟨gn, 1, none⟩ (.slice q7 (k + 1) c7) = w9 at *
        go_wp2_with fail
        go_roundw
        case rel => exact ⟨k + 1, _, _, _, by go_num, ST9.out⟩
        case measure => simp [intOf]; omega
      ·
        go_simp
        refine HT.out.mono ?_
        rintro _ w5 ⟨r5, rfl, hr5, hf5, h5, k5⟩
        have RR5 := Lib.hid hr5
        have FR5 := Lib.hid hf5
        have H5 := Lib.hid h5
        have K5 := Lib.hid (show wr.grownBy w5 (some g) from ⟨k5.os, k5.tape, k5.output, k5.size, k5.block⟩)
        have ROW5 := Lib.hid ((K5.out.block gn HGR.out.1 (by simp; have := HGG.out; omega)).trans ST.out.row)
        clear hr5 hf5 h5 k5
        try go_wp2_with fail
        refine hK.out _ _ trivial (fun hHeld => ?_)
        clear hK K
        try simp only [Act.put, List.setIfInBounds_toArray, List.set_cons_zero, List.set_cons_succ]
        refine wpAnyH_ready (rs := [1, 4]) (by kernel_rfl) (by simp) ?_
        refine AllReadyH.cons (o := ⟨some 18, .load 24 (.tmp 17), _, _, _, _⟩) rfl (fun K hK => ?_) (AllReadyH.cons (o := ⟨some 21, .buildSlice 24 1 #[(0, (.tmp 20))], _, _, _, _⟩) rfl (fun K hK => ?_) AllReadyH.nil)
        ·
          have t1 : w5.cell? ⟨gn, 1, none⟩ = some (.slice qv k cv) := cell_of_row w5 gn 1 _ _ _ ROW5.out
          go_simp
          refine hK.out _ _ trivial (fun hHeld => ?_)
          clear hK K
          try simp only [Act.put, List.setIfInBounds_toArray, List.set_cons_zero, List.set_cons_succ]
          refine wpAnyH_ready (rs := [4]) (by kernel_rfl) (by simp) ?_
          refine AllReadyH.cons (o := ⟨some 21, .buildSlice 24 1 #[(0, (.tmp 20))], _, _, _, _⟩) rfl (fun K hK => ?_) AllReadyH.nil
          refine wp_ent_one (.tmp 20) (by rfl) (by rfl) ?_
          have hb6 : Below w5.heap.size w5 (w5.alloc (.cells #[.slice r5.p r5.n r5.c, .bool s.truthV] 55)) := (Below.refl _ _).alloc (Nat.le_refl _) _
          have ROW6 := Lib.hid ((hb6.block gn (Array.getElem?_eq_some_iff.1 ROW5.out).1).trans ROW5.out)
          have OWN6 := Lib.hid ((ST.out.ents.grown K5.out (by have := HGL.out; have := HGG.out; omega)).own.alloc (.cells #[.slice r5.p r5.n r5.c, .bool s.truthV] 55))
          clear hb6
          refine hK.out _ _ trivial (fun hHeld => ?_)
          clear hK K
          try simp only [Act.put, List.setIfInBounds_toArray, List.set_cons_zero, List.set_cons_succ]
          refine wpAnyH_ready (rs := [5]) (by kernel_rfl) (by simp) ?_
          refine AllReadyH.cons (o := ⟨some 22, .call ⟨.builtin .append, #[.tmp 18, .tmp 21], #[24, 24]⟩, _, _, _, _⟩) rfl (fun K hK => ?_) AllReadyH.nil
          refine wp_append_at (.tmp 18) (.tmp 21) 24 (by rfl) wL.heap.size 55 ie (.agg #[.slice none 0 0, .bool false]) 2 32 UEs HI.out HI0.out HI1.out HI2.out (by rfl) (by decide) _ k _ (by rfl) OWN6.out ⟨w5.heap.size, 0, none⟩ 1 1 (En.cells ⟨r5, s.truthV⟩) (by rfl) (by rfl) (ent_news w5 ⟨r5, s.truthV⟩) En.one (by unfold maxLen; omega) (by omega) (by have h1 := HGR.out; have h2 := K5.out.size; simp; omega) ?_
          intro v7 w7 hown7 hgrow7 hat7
          have hv7 := fun y e => ST.out.ents.own.lt y e
          have row7 := (hgrow7.block gn (Array.getElem?_eq_some_iff.1 ROW6.out).1 (fun e => by have := (hv7 _ e.symm).1; have := HGL.out; omega)).trans ROW6.out
          have t7 := cell_of_row w7 gn 1 _ _ _ row7
          have f7 := frozen_of_row w7 gn 1 _ _ row7
          obtain ⟨q7, c7, rfl⟩ := lst_form hown7
          have HO7 := Lib.hid hown7
          have HG7 := Lib.hid hgrow7
          have HT7 := Lib.hid hat7
          clear hown7 hgrow7 hat7 hv7 row7
          refine hK.out _ _ trivial (fun hHeld => ?_)
          clear hK K
          try simp only [Act.put, List.setIfInBounds_toArray, List.set_cons_zero, List.set_cons_succ]
          refine wpAnyH_take (i := 6) (oi := ⟨some 23, .fieldAddr 27 (.tmp 7) 1, _, _, _, _⟩) (v := ?_) rfl (by kernel_rfl) (by kernel_rfl) (by kernel_rfl) (fun _ _ _ h => h) (Or.inl ⟨by rfl, ?_⟩) (by assumption) ?_
          rotate_left
          · intro w' hSw
            go_simp
            try with_reducible rfl
          try simp only [Act.put, List.setIfInBounds_toArray, List.set_cons_zero, List.set_cons_succ]
          refine wpAnyH_ready (rs := [7]) (by kernel_rfl) (by simp) ?_
          refine AllReadyH.cons (o := ⟨none, .store 24 (.tmp 23) (.tmp 22), _, _, _, _⟩) rfl (fun K hK => ?_) AllReadyH.nil
          go_simp
          try go_wp2_with fail
          refine hK.out _ _ trivial (fun hHeld => ?_)
          clear hK K
          try simp only [Act.put, List.setIfInBounds_toArray, List.set_cons_zero, List.set_cons_succ]
          refine wpAnyH_done (by kernel_rfl) ?_ _
          have ST9 := Lib.hid (ST.out.step hlt HGL.out HGG.out.2 RR5.out rfl FR5.out H5.out K5.out HO7.out HG7.out HT7.out HNL.out)
          clear HO7 HG7 HT7 t7 f7 OWN6 ROW6 ROW5 K5 H5 FR5 hHeld
          generalize w7.setCell ⟨gn, 1, none⟩ (.slice q7 (k + 1) c7) = w9 at *
          go_wp2_with fail
          go_roundw
          case rel => exact ⟨k + 1, _, _, _, by go_num, ST9.out⟩
          case measure => simp [intOf]; omega
        ·
          refine wp_ent_one (.tmp 20) (by rfl) (by rfl) ?_
          have hb6 : Below w5.heap.size w5 (w5.alloc (.cells #[.slice r5.p r5.n r5.c, .bool s.truthV] 55)) := (Below.refl _ _).alloc (Nat.le_refl _) _
          have ROW6 := Lib.hid ((hb6.block gn (Array.getElem?_eq_some_iff.1 ROW5.out).1).trans ROW5.out)
          have OWN6 := Lib.hid ((ST.out.ents.grown K5.out (by have := HGL.out; have := HGG.out; omega)).own.alloc (.cells #[.slice r5.p r5.n r5.c, .bool s.truthV] 55))
          clear hb6
          refine hK.out _ _ trivial (fun hHeld => ?_)
          clear hK K
          try simp only [Act.put, List.setIfInBounds_toArray, List.set_cons_zero, List.set_cons_succ]
          refine wpAnyH_ready (rs := [1]) (by kernel_rfl) (by simp) ?_
          refine AllReadyH.cons (o := ⟨some 18, .load 24 (.tmp 17), _, _, _, _⟩) rfl (fun K hK => ?_) AllReadyH.nil
          have t1 : (w5.alloc (.cells #[.slice r5.p r5.n r5.c, .bool s.truthV] 55)).cell? ⟨gn, 1, none⟩ = some (.slice qv k cv) := cell_of_row (w5.alloc (.cells #[.slice r5.p r5.n r5.c, .bool s.truthV] 55)) gn 1 _ _ _ ROW6.out
          go_simp
          refine hK.out _ _ trivial (fun hHeld => ?_)
          clear hK K
          try simp only [Act.put, List.setIfInBounds_toArray, List.set_cons_zero, List.set_cons_succ]
          refine wpAnyH_ready (rs := [5]) (by kernel_rfl) (by simp) ?_
          refine AllReadyH.cons (o := ⟨some 22, .call ⟨.builtin .append, #[.tmp 18, .tmp 21], #[24, 24]⟩, _, _, _, _⟩) rfl (fun K hK => ?_) AllReadyH.nil
          refine wp_append_at (.tmp 18) (.tmp 21) 24 (by rfl) wL.heap.size 55 ie (.agg #[.slice none 0 0, .bool false]) 2 32 UEs HI.out HI0.out HI1.out HI2.out (by rfl) (by decide) _ k _ (by rfl) OWN6.out ⟨w5.heap.size, 0, none⟩ 1 1 (En.cells ⟨r5, s.truthV⟩) (by rfl) (by rfl) (ent_news w5 ⟨r5, s.truthV⟩) En.one (by unfold maxLen; omega) (by omega) (by have h1 := HGR.out; have h2 := K5.out.size; simp; omega) ?_
          intro v7 w7 hown7 hgrow7 hat7
          have hv7 := fun y e => ST.out.ents.own.lt y e
          have row7 := (hgrow7.block gn (Array.getElem?_eq_some_iff.1 ROW6.out).1 (fun e => by have := (hv7 _ e.symm).1; have := HGL.out; omega)).trans ROW6.out
          have t7 := cell_of_row w7 gn 1 _ _ _ row7
          have f7 := frozen_of_row w7 gn 1 _ _ row7
          obtain ⟨q7, c7, rfl⟩ := lst_form hown7
          have HO7 := Lib.hid hown7
          have HG7 := Lib.hid hgrow7
          have HT7 := Lib.hid hat7
          clear hown7 hgrow7 hat7 hv7 row7
          refine hK.out _ _ trivial (fun hHeld => ?_)
          clear hK K
          try simp only [Act.put, List.setIfInBounds_toArray, List.set_cons_zero, List.set_cons_succ]
          refine wpAnyH_take (i := 6) (oi := ⟨some 23, .fieldAddr 27 (.tmp 7) 1, _, _, _, _⟩) (v := ?_) rfl (by kernel_rfl) (by kernel_rfl) (by kernel_rfl) (fun _ _ _ h => h) (Or.inl ⟨by rfl, ?_⟩) (by assumption) ?_
          rotate_left
          · intro w' hSw
            go_simp
            try with_reducible rfl
          try simp only [Act.put, List.setIfInBounds_toArray, List.set_cons_zero, List.set_cons_succ]
          refine wpAnyH_ready (rs := [7]) (by kernel_rfl) (by simp) ?_
          refine AllReadyH.cons (o := ⟨none, .store 24 (.tmp 23) (.tmp 22), _, _, _, _⟩) rfl (fun K hK => ?_) AllReadyH.nil
          go_simp
          try go_wp2_with fail
          refine hK.out _ _ trivial (fun hHeld => ?_)
          clear hK K
          try simp only [Act.put, List.setIfInBounds_toArray, List.set_cons_zero, List.set_cons_succ]
          refine wpAnyH_done (by kernel_rfl) ?_ _
          have ST9 := Lib.hid (ST.out.step hlt HGL.out HGG.out.2 RR5.out rfl FR5.out H5.out K5.out HO7.out HG7.out HT7.out HNL.out)
          clear HO7 HG7 HT7 t7 f7 OWN6 ROW6 ROW5 K5 H5 FR5 hHeld
          generalize w7.setCell ⟨gn, 1, none⟩ (.slice q7 (k + 1) c7) = w9 at *
          go_wp2_with fail
          go_roundw
          case rel => exact ⟨k + 1, _, _, _, by go_num, ST9.out⟩
          case measure => simp [intOf]; omega
    · obtain rfl : k = x.n1 := by omega
      have hrun := ST.out.run
      rw [Nat.sub_self] at hrun
      have hrun : (E.map En.pe, s) = x.T1 := hrun
      have HE1 := Lib.hid (show x.T1.1 = E.map En.pe from by rw [← hrun])
      have hs2 : s = x.T1.2 := by rw [← hrun]
      subst hs2
      have HT1L := Lib.hid (show x.T1.2.R.length < 1099511627776 from ST.out.len)
      have A0 := Lib.hid (rbyte_any x.T1.2 g wr ST.out.rd ST.out.len)
      rw [HK4.out, HK5.out] at A0
      have hn1k : x.n1 < 256 := hn1
      clear hrun hlt hle hn1
      go_upto_region 8 with (go_at_call 26; refine A0.out.mono ?_; rintro e w6 ⟨rfl, h3, k3⟩; have HR6 := Lib.hid h3; have K6 := Lib.hid k3; clear h3 k3)
      have RN6 := Lib.hid ((K6.out.block gn (Array.getElem?_eq_some_iff.1 ST.out.row).1 (by simp; have := HGG.out; omega)).trans ST.out.row)
      have HEN := Lib.hid (ST.out.ents.grown K6.out (by have := HGL.out; have := HGG.out; omega))
      have HON := Lib.hid (ST.out.only.trans (show Only (fun j => j = gn ∨ j = g) wr w6 from ⟨K6.out.os, K6.out.tape, K6.out.output, K6.out.size, fun j hj hn => K6.out.block j hj (by simp; intro e; exact hn (Or.inr e))⟩))
      have HGM := Lib.hid (show gn < w6.heap.size from (Array.getElem?_eq_some_iff.1 RN6.out).1)
      have HLS := Lib.hid (show x.s4.R.length < 1099511627776 from Nat.lt_of_le_of_lt HBD.out.2.2.2.2.2.2.2.2.1 HBL.out)
      have hn2 := HBD.out.2.2.1
      clear A0 ST K6
      clear wr
      generalize x.n1 = n1 at *
      obtain ⟨v1, hv1⟩ : ∃ v1 : Value, v1 = .slice qv n1 cv := ⟨_, rfl⟩
      rw [← hv1] at RN6 HEN
      have HV1 := Lib.hid hv1
      clear hv1
      go_loopw [27] (fun i wr => De2R w6 gn g x.kind x.n2 v1 x.T2 i wr) (fun i _ => x.n2 - (intOf i).toNat)
      case atStart => exact ⟨0, [], .slice none 0 0, x.s4, rfl, by omega, RN6.out, ⟨Lst.nil _, fun k hk => by cases hk⟩, HR6.out, Only.refl _ _, by rw [Nat.sub_zero]; exact HK6.out, HLS.out⟩
      case round =>
        obtain ⟨k, K, v, s, rfl, hst⟩ := hrel
        have ST := Lib.hid hst
        obtain ⟨qv2, cv2, rfl, -⟩ := hst.kids.lst.form
        have hle := hst.le
        clear hst RN6 HR6 HLS
        by_cases hlt : k < x.n2
        · have b1 : (k : Int) < x.n2 := by omega
          have HT := Lib.hid (readKid_any s g wr.drew (ST.out.rd.later (Below.refl _ _).drew) ST.out.len)
          have HNL := Lib.hid (show (s.kidN 8).R.length < 1099511627776 from by
            have hok : Sm.allB s.R := by obtain ⟨p, n, c, h⟩ := ST.out.rd; exact h.tx.ok
            exact Nat.lt_of_le_of_lt (kid_R (m := 8) hok).2 ST.out.len)
          have HGR := Lib.hid (show gn < wr.heap.size ∧ w6.heap.size ≤ wr.heap.size from ⟨(Array.getElem?_eq_some_iff.1 ST.out.row).1, ST.out.only.size⟩)
          have hk256 : k < 255 := by omega
          go_upto_region 9 with fail
          refine wp_region_held_drew (S := fun _ => True) (by kernel_rfl) trivial (fun hHeld => ?_)
          refine wpAnyH_take (i := 0) (oi := ⟨some 29, .fieldAddr 27 (.tmp 7) 2, _, _, _, _⟩) (v := ?_) rfl (by kernel_rfl) (by kernel_rfl) (by kernel_rfl) (fun _ _ _ h => h) (Or.inl ⟨by rfl, ?_⟩) (by assumption) ?_
          rotate_left
          · intro w' hSw
            go_simp
            try with_reducible rfl
          try simp only [Act.put, List.setIfInBounds_toArray, List.set_cons_zero, List.set_cons_succ]
          refine wpAnyH_take (i := 2) (oi := ⟨some 31, .move (.tmp 6), _, _, _, _⟩) (v := ?_) rfl (by kernel_rfl) (by kernel_rfl) (by kernel_rfl) (fun _ _ _ h => h) (Or.inl ⟨by rfl, ?_⟩) (by assumption) ?_
          rotate_left
          · intro w' hSw
            go_simp
            try with_reducible rfl
          try simp only [Act.put, List.setIfInBounds_toArray, List.set_cons_zero, List.set_cons_succ]
          refine wpAnyH_ready (rs := [1, 3]) (by kernel_rfl) (by simp) ?_
          refine AllReadyH.cons (o := ⟨some 30, .load 25 (.tmp 29), _, _, _, _⟩) rfl (fun K hK => ?_) (AllReadyH.cons (o := ⟨some 32, .call ⟨.value (.func 28), #[.tmp 31], #[62]⟩, _, _, _, _⟩) rfl (fun K hK => ?_) AllReadyH.nil)
          ·
            have t1 : wr.drew.cell? ⟨gn, 2, none⟩ = some (.slice qv2 k cv2) := cell_of_row wr.drew gn 2 _ _ _ (show wr.drew.heap[gn]? = _ from ST.out.row)
            go_simp
            refine hK.out _ _ trivial (fun hHeld => ?_)
            clear hK K
            try simp only [Act.put, List.setIfInBounds_toArray, List.set_cons_zero, List.set_cons_succ]
            refine wpAnyH_ready (rs := [3]) (by kernel_rfl) (by simp) ?_
            refine AllReadyH.cons (o := ⟨some 32, .call ⟨.value (.func 28), #[.tmp 31], #[62]⟩, _, _, _, _⟩) rfl (fun K hK => ?_) AllReadyH.nil
            go_simp
            refine HT.out.mono ?_
            rintro _ w5 ⟨kd, rfl, hpk, hok5, f1, f2, f3, h5, k5⟩
            have RR5 := Lib.hid hpk
            have OK5 := Lib.hid hok5
            have FR5 := Lib.hid (show FrRw w5 wr.heap.size kd.lo ∧ FrRw w5 wr.heap.size kd.hi ∧ FrRw w5 wr.heap.size kd.key from ⟨f1, f2, f3⟩)
            have H5 := Lib.hid h5
            have K5 := Lib.hid (show wr.grownBy w5 (some g) from ⟨k5.os, k5.tape, k5.output, k5.size, k5.block⟩)
            have ROW5 := Lib.hid ((K5.out.block gn HGR.out.1 (by simp; have := HGG.out; omega)).trans ST.out.row)
            clear hpk hok5 f1 f2 f3 h5 k5
            try go_wp2_with fail
            refine hK.out _ _ trivial (fun hHeld => ?_)
            clear hK K
            try simp only [Act.put, List.setIfInBounds_toArray, List.set_cons_zero, List.set_cons_succ]
            refine wpAnyH_ready (rs := [4]) (by kernel_rfl) (by simp) ?_
            refine AllReadyH.cons (o := ⟨some 33, .buildSlice 25 1 #[(0, (.tmp 32))], _, _, _, _⟩) rfl (fun K hK => ?_) AllReadyH.nil
            refine wp_kid_one (.tmp 32) (by rfl) OK5.out.len (by rfl) ?_
            have hb6 : Below w5.heap.size w5 (w5.alloc (.cells kd.cells.toArray 43)) := (Below.refl _ _).alloc (Nat.le_refl _) _
            have ROW6 := Lib.hid ((hb6.block gn (Array.getElem?_eq_some_iff.1 ROW5.out).1).trans ROW5.out)
            have OWN6 := Lib.hid ((ST.out.kids.lst.grown K5.out (by have := HGM.out; have := HGG.out; omega)).own.alloc (.cells kd.cells.toArray 43))
            clear hb6
            refine hK.out _ _ trivial (fun hHeld => ?_)
            clear hK K
            try simp only [Act.put, List.setIfInBounds_toArray, List.set_cons_zero, List.set_cons_succ]
            refine wpAnyH_ready (rs := [5]) (by kernel_rfl) (by simp) ?_
            refine AllReadyH.cons (o := ⟨some 34, .call ⟨.builtin .append, #[.tmp 30, .tmp 33], #[25, 25]⟩, _, _, _, _⟩) rfl (fun K hK => ?_) AllReadyH.nil
            refine wp_append_at (.tmp 30) (.tmp 33) 25 (by rfl) w6.heap.size 43 ik (.agg kd0.cells.toArray) 37 120 UKs KI.out KI0.out KI1.out KI2.out (by rfl) (by decide) _ k _ (by rfl) OWN6.out ⟨w5.heap.size, 0, none⟩ 1 1 kd.cells (by rfl) (by rw [Kd.cells_length OK5.out.len]) (kid_news w5 kd) Kd.one (by unfold maxLen; omega) (by omega) (by have h1 := HGR.out; have h2 := K5.out.size; simp; omega) ?_
            intro v7 w7 hown7 hgrow7 hat7
            have hv7 := fun y e => ST.out.kids.lst.own.lt y e
            have row7 := (hgrow7.block gn (Array.getElem?_eq_some_iff.1 ROW6.out).1 (fun e => by have := (hv7 _ e.symm).1; have := HGM.out; omega)).trans ROW6.out
            have t7 := cell_of_row w7 gn 2 _ _ _ row7
            have f7 := frozen_of_row w7 gn 2 _ _ row7
            obtain ⟨q7, c7, rfl⟩ := lst_form hown7
            have HO7 := Lib.hid hown7
            have HG7 := Lib.hid hgrow7
            have HT7 := Lib.hid hat7
            clear hown7 hgrow7 hat7 hv7 row7
            refine hK.out _ _ trivial (fun hHeld => ?_)
            clear hK K
            try simp only [Act.put, List.setIfInBounds_toArray, List.set_cons_zero, List.set_cons_succ]
            refine wpAnyH_take (i := 6) (oi := ⟨some 35, .fieldAddr 27 (.tmp 7) 2, _, _, _, _⟩) (v := ?_) rfl (by kernel_rfl) (by kernel_rfl) (by kernel_rfl) (fun _ _ _ h => h) (Or.inl ⟨by rfl, ?_⟩) (by assumption) ?_
            rotate_left
            · intro w' hSw
              go_simp
              try with_reducible rfl
            try simp only [Act.put, List.setIfInBounds_toArray, List.set_cons_zero, List.set_cons_succ]
            refine wpAnyH_ready (rs := [7]) (by kernel_rfl) (by simp) ?_
            refine AllReadyH.cons (o := ⟨none, .store 25 (.tmp 35) (.tmp 34), _, _, _, _⟩) rfl (fun K hK => ?_) AllReadyH.nil
            go_simp
            try go_wp2_with fail
            refine hK.out _ _ trivial (fun hHeld => ?_)
            clear hK K
            try simp only [Act.put, List.setIfInBounds_toArray, List.set_cons_zero, List.set_cons_succ]
            refine wpAnyH_done (by kernel_rfl) ?_ _
            have ST9 := Lib.hid (ST.out.step hlt HGM.out HGG.out.2 RR5.out OK5.out FR5.out.1 FR5.out.2.1 FR5.out.2.2 H5.out K5.out HO7.out HG7.out HT7.out HNL.out)
            clear HO7 HG7 HT7 t7 f7 OWN6 ROW6 ROW5 K5 H5 FR5 hHeld
            generalize w7.setCell ⟨gn, 2, none⟩ (.slice q7 (k + 1) c7) = w9 at *
            go_wp2_with fail
            go_roundw
            case rel => exact ⟨k + 1, _, _, _, by go_num, ST9.out⟩
            case measure => simp [intOf]; omega
          ·
            go_simp
            refine HT.out.mono ?_
            rintro _ w5 ⟨kd, rfl, hpk, hok5, f1, f2, f3, h5, k5⟩
            have RR5 := Lib.hid hpk
            have OK5 := Lib.hid hok5
            have FR5 := Lib.hid (show FrRw w5 wr.heap.size kd.lo ∧ FrRw w5 wr.heap.size kd.hi ∧ FrRw w5 wr.heap.size kd.key from ⟨f1, f2, f3⟩)
            have H5 := Lib.hid h5
            have K5 := Lib.hid (show wr.grownBy w5 (some g) from ⟨k5.os, k5.tape, k5.output, k5.size, k5.block⟩)
            have ROW5 := Lib.hid ((K5.out.block gn HGR.out.1 (by simp; have := HGG.out; omega)).trans ST.out.row)
            clear hpk hok5 f1 f2 f3 h5 k5
            try go_wp2_with fail
            refine hK.out _ _ trivial (fun hHeld => ?_)
            clear hK K
            try simp only [Act.put, List.setIfInBounds_toArray, List.set_cons_zero, List.set_cons_succ]
            refine wpAnyH_ready (rs := [1, 4]) (by kernel_rfl) (by simp) ?_
            refine AllReadyH.cons (o := ⟨some 30, .load 25 (.tmp 29), _, _, _, _⟩) rfl (fun K hK => ?_) (AllReadyH.cons (o := ⟨some 33, .buildSlice 25 1 #[(0, (.tmp 32))], _, _, _, _⟩) rfl (fun K hK => ?_) AllReadyH.nil)
            ·
              have t1 : w5.cell? ⟨gn, 2, none⟩ = some (.slice qv2 k cv2) := cell_of_row w5 gn 2 _ _ _ ROW5.out
              go_simp
              refine hK.out _ _ trivial (fun hHeld => ?_)
              clear hK K
              try simp only [Act.put, List.setIfInBounds_toArray, List.set_cons_zero, List.set_cons_succ]
              refine wpAnyH_ready (rs := [4]) (by kernel_rfl) (by simp) ?_
              refine AllReadyH.cons (o := ⟨some 33, .buildSlice 25 1 #[(0, (.tmp 32))], _, _, _, _⟩) rfl (fun K hK => ?_) AllReadyH.nil
              refine wp_kid_one (.tmp 32) (by rfl) OK5.out.len (by rfl) ?_
              have hb6 : Below w5.heap.size w5 (w5.alloc (.cells kd.cells.toArray 43)) := (Below.refl _ _).alloc (Nat.le_refl _) _
              have ROW6 := Lib.hid ((hb6.block gn (Array.getElem?_eq_some_iff.1 ROW5.out).1).trans ROW5.out)
              have OWN6 := Lib.hid ((ST.out.kids.lst.grown K5.out (by have := HGM.out; have := HGG.out; omega)).own.alloc (.cells kd.cells.toArray 43))
              clear hb6
              refine hK.out _ _ trivial (fun hHeld => ?_)
              clear hK K
              try simp only [Act.put, List.setIfInBounds_toArray, List.set_cons_zero, List.set_cons_succ]
              refine wpAnyH_ready (rs := [5]) (by kernel_rfl) (by simp) ?_
              refine AllReadyH.cons (o := ⟨some 34, .call ⟨.builtin .append, #[.tmp 30, .tmp 33], #[25, 25]⟩, _, _, _, _⟩) rfl (fun K hK => ?_) AllReadyH.nil
              refine wp_append_at (.tmp 30) (.tmp 33) 25 (by rfl) w6.heap.size 43 ik (.agg kd0.cells.toArray) 37 120 UKs KI.out KI0.out KI1.out KI2.out (by rfl) (by decide) _ k _ (by rfl) OWN6.out ⟨w5.heap.size, 0, none⟩ 1 1 kd.cells (by rfl) (by rw [Kd.cells_length OK5.out.len]) (kid_news w5 kd) Kd.one (by unfold maxLen; omega) (by omega) (by have h1 := HGR.out; have h2 := K5.out.size; simp; omega) ?_
              intro v7 w7 hown7 hgrow7 hat7
              have hv7 := fun y e => ST.out.kids.lst.own.lt y e
              have row7 := (hgrow7.block gn (Array.getElem?_eq_some_iff.1 ROW6.out).1 (fun e => by have := (hv7 _ e.symm).1; have := HGM.out; omega)).trans ROW6.out
              have t7 := cell_of_row w7 gn 2 _ _ _ row7
              have f7 := frozen_of_row w7 gn 2 _ _ row7
              obtain ⟨q7, c7, rfl⟩ := lst_form hown7
              have HO7 := Lib.hid hown7
              have HG7 := Lib.hid hgrow7
              have HT7 := Lib.hid hat7
              clear hown7 hgrow7 hat7 hv7 row7
              refine hK.out _ _ trivial (fun hHeld => ?_)
              clear hK K
              try simp only [Act.put, List.setIfInBounds_toArray, List.set_cons_zero, List.set_cons_succ]
              refine wpAnyH_take (i := 6) (oi := ⟨some 35, .fieldAddr 27 (.tmp 7) 2, _, _, _, _⟩) (v := ?_) rfl (by kernel_rfl) (by kernel_rfl) (by kernel_rfl) (fun _ _ _ h => h) (Or.inl ⟨by rfl, ?_⟩) (by assumption) ?_
              rotate_left
              · intro w' hSw
                go_simp
                try with_reducible rfl
              try simp only [Act.put, List.setIfInBounds_toArray, List.set_cons_zero, List.set_cons_succ]
              refine wpAnyH_ready (rs := [7]) (by kernel_rfl) (by simp) ?_
              refine AllReadyH.cons (o := ⟨none, .store 25 (.tmp 35) (.tmp 34), _, _, _, _⟩) rfl (fun K hK => ?_) AllReadyH.nil
              go_simp
              try go_wp2_with fail
              refine hK.out _ _ trivial (fun hHeld => ?_)
              clear hK K
              try simp only [Act.put, List.setIfInBounds_toArray, List.set_cons_zero, List.set_cons_succ]
              refine wpAnyH_done (by kernel_rfl) ?_ _
              have ST9 := Lib.hid (ST.out.step hlt HGM.out HGG.out.2 RR5.out OK5.out FR5.out.1 FR5.out.2.1 FR5.out.2.2 H5.out K5.out HO7.out HG7.out HT7.out HNL.out)
              clear HO7 HG7 HT7 t7 f7 OWN6 ROW6 ROW5 K5 H5 FR5 hHeld
              generalize w7.setCell ⟨gn, 2, none⟩ (.slice q7 (k + 1) c7) = w9 at *
              go_wp2_with fail
              go_roundw
              case rel => exact ⟨k + 1, _, _, _, by go_num, ST9.out⟩
              case measure => simp [intOf]; omega
            ·
              refine wp_kid_one (.tmp 32) (by rfl) OK5.out.len (by rfl) ?_
              have hb6 : Below w5.heap.size w5 (w5.alloc (.cells kd.cells.toArray 43)) := (Below.refl _ _).alloc (Nat.le_refl _) _
              have ROW6 := Lib.hid ((hb6.block gn (Array.getElem?_eq_some_iff.1 ROW5.out).1).trans ROW5.out)
              have OWN6 := Lib.hid ((ST.out.kids.lst.grown K5.out (by have := HGM.out; have := HGG.out; omega)).own.alloc (.cells kd.cells.toArray 43))
              clear hb6
              refine hK.out _ _ trivial (fun hHeld => ?_)
              clear hK K
              try simp only [Act.put, List.setIfInBounds_toArray, List.set_cons_zero, List.set_cons_succ]
              refine wpAnyH_ready (rs := [1]) (by kernel_rfl) (by simp) ?_
              refine AllReadyH.cons (o := ⟨some 30, .load 25 (.tmp 29), _, _, _, _⟩) rfl (fun K hK => ?_) AllReadyH.nil
              have t1 : (w5.alloc (.cells kd.cells.toArray 43)).cell? ⟨gn, 2, none⟩ = some (.slice qv2 k cv2) := cell_of_row (w5.alloc (.cells kd.cells.toArray 43)) gn 2 _ _ _ ROW6.out
              go_simp
              refine hK.out _ _ trivial (fun hHeld => ?_)
              clear hK K
              try simp only [Act.put, List.setIfInBounds_toArray, List.set_cons_zero, List.set_cons_succ]
              refine wpAnyH_ready (rs := [5]) (by kernel_rfl) (by simp) ?_
              refine AllReadyH.cons (o := ⟨some 34, .call ⟨.builtin .append, #[.tmp 30, .tmp 33], #[25, 25]⟩, _, _, _, _⟩) rfl (fun K hK => ?_) AllReadyH.nil
              refine wp_append_at (.tmp 30) (.tmp 33) 25 (by rfl) w6.heap.size 43 ik (.agg kd0.cells.toArray) 37 120 UKs KI.out KI0.out KI1.out KI2.out (by rfl) (by decide) _ k _ (by rfl) OWN6.out ⟨w5.heap.size, 0, none⟩ 1 1 kd.cells (by rfl) (by rw [Kd.cells_length OK5.out.len]) (kid_news w5 kd) Kd.one (by unfold maxLen; omega) (by omega) (by have h1 := HGR.out; have h2 := K5.out.size; simp; omega) ?_
              intro v7 w7 hown7 hgrow7 hat7
              have hv7 := fun y e => ST.out.kids.lst.own.lt y e
              have row7 := (hgrow7.block gn (Array.getElem?_eq_some_iff.1 ROW6.out).1 (fun e => by have := (hv7 _ e.symm).1; have := HGM.out; omega)).trans ROW6.out
              have t7 := cell_of_row w7 gn 2 _ _ _ row7
              have f7 := frozen_of_row w7 gn 2 _ _ row7
              obtain ⟨q7, c7, rfl⟩ := lst_form hown7
              have HO7 := Lib.hid hown7
              have HG7 := Lib.hid hgrow7
              have HT7 := Lib.hid hat7
              clear hown7 hgrow7 hat7 hv7 row7
              refine hK.out _ _ trivial (fun hHeld => ?_)
              clear hK K
              try simp only [Act.put, List.setIfInBounds_toArray, List.set_cons_zero, List.set_cons_succ]
              refine wpAnyH_take (i := 6) (oi := ⟨some 35, .fieldAddr 27 (.tmp 7) 2, _, _, _, _⟩) (v := ?_) rfl (by kernel_rfl) (by kernel_rfl) (by kernel_rfl) (fun _ _ _ h => h) (Or.inl ⟨by rfl, ?_⟩) (by assumption) ?_
              rotate_left
              · intro w' hSw
                go_simp
                try with_reducible rfl
              try simp only [Act.put, List.setIfInBounds_toArray, List.set_cons_zero, List.set_cons_succ]
              refine wpAnyH_ready (rs := [7]) (by kernel_rfl) (by simp) ?_
              refine AllReadyH.cons (o := ⟨none, .store 25 (.tmp 35) (.tmp 34), _, _, _, _⟩) rfl (fun K hK => ?_) AllReadyH.nil
              go_simp
              try go_wp2_with fail
              refine hK.out _ _ trivial (fun hHeld => ?_)
              clear hK K
              try simp only [Act.put, List.setIfInBounds_toArray, List.set_cons_zero, List.set_cons_succ]
              refine wpAnyH_done (by kernel_rfl) ?_ _
              have ST9 := Lib.hid (ST.out.step hlt HGM.out HGG.out.2 RR5.out OK5.out FR5.out.1 FR5.out.2.1 FR5.out.2.2 H5.out K5.out HO7.out HG7.out HT7.out HNL.out)
              clear HO7 HG7 HT7 t7 f7 OWN6 ROW6 ROW5 K5 H5 FR5 hHeld
              generalize w7.setCell ⟨gn, 2, none⟩ (.slice q7 (k + 1) c7) = w9 at *
              go_wp2_with fail
              go_roundw
              case rel => exact ⟨k + 1, _, _, _, by go_num, ST9.out⟩
              case measure => simp [intOf]; omega
        · obtain rfl : k = x.n2 := by omega
          have hrun := ST.out.run
          rw [Nat.sub_self] at hrun
          have hrun : (K.map Kd.pk, s) = x.T2 := hrun
          have HK1 := Lib.hid (show x.T2.1 = K.map Kd.pk from by rw [← hrun])
          have hs2 : s = x.T2.2 := by rw [← hrun]
          subst hs2
          have hn2k : x.n2 < 256 := hn2
          have HKN := Lib.hid (show ⟨x.kind, E.map En.pe, K.map Kd.pk⟩ = x.node from by unfold RdN.node; rw [HE1.out, HK1.out])
          have hkd256 := HBD.out.1
          have HGOOD := Lib.hid (show x.good d ↔ x.T2.2.end.e = 0 ∧ x.node.right d = true from by
            rw [end_e]
            unfold RdN.good
            exact ⟨fun h => ⟨⟨h.1, h.2.1⟩, h.2.2⟩, fun h => ⟨h.1.1, h.1.2, h.2⟩⟩)
          have A0 := Lib.hid (rend_any x.T2.2 g wr ST.out.rd)
          have HENS := Lib.hid (HEN.out.keep (w' := wr) (fun j hj hl => ST.out.only.block j hl (by have := HGL.out; have := HGG.out; omega)))
          have RGR := Lib.hid (show wr.heap[w.heap.size]? = some (.cells #[.int .u8 0, .slice none 0 0, .slice none 0 0] 27 (0, 0)) from
            (ST.out.only.block _ (by have := HGM.out; have := HGG.out; omega) (by have := HGG.out; omega)).trans ((HON.out.block _ (by have := HGL.out; have := HGG.out; omega) (by have := HGG.out; omega)).trans RG5.out))
          have HBR := Lib.hid (show Below w.heap.size w wr from (HB5.out.trans ((HON.out.trans (ST.out.only.mono fun j e => e)).below HB5.out.size (fun j e => by have := HGG.out; omega))))
          have HGB := Lib.hid (show wL.heap.size ≤ w6.heap.size from HON.out.size)
          generalize x.T2.2.end = sE at *
          clear hrun hlt hle hn2 HEN HON HB5 RG5 HK6 HK5 HK4 HK3 HBD
          have hEq : ∀ w9 : World, wr.grownBy w9 (some g) → w9.heap[gn]? = some (.cells #[.int .u8 x.kind, v1, .slice qv2 x.n2 cv2] 27 (0, 0)) ∧ w9.heap[w.heap.size]? = some (.cells #[.int .u8 0, .slice none 0 0, .slice none 0 0] 27 (0, 0)) ∧ Ens wL.heap.size w9 v1 n1 E ∧ Kds w6.heap.size w9 (.slice qv2 x.n2 cv2) x.n2 K ∧ Below w.heap.size w w9 := fun w9 k9 =>
            ⟨(k9.block gn (Array.getElem?_eq_some_iff.1 ST.out.row).1 (by simp; have := HGG.out; omega)).trans ST.out.row, (k9.block _ (Array.getElem?_eq_some_iff.1 RGR.out).1 (by simp; have := HGG.out; omega)).trans RGR.out, HENS.out.grown k9 (by have := HGL.out; have := HGG.out; omega), ⟨ST.out.kids.lst.grown k9 (by have := HGM.out; have := HGG.out; omega), ST.out.kids.good⟩, HBR.out.trans (below_grown k9 (by have := HGG.out; omega) HBR.out.size)⟩
          have HEQ := Lib.hid hEq
          clear hEq RGR HBR HENS ST
          have hv1 := HV1.out
          obtain ⟨du, hdu, hdr⟩ := UNo
          have HD := Lib.hid hdu
          have HDR := Lib.hid hdr
          clear hdu hdr
          by_cases he : sE.e = 0
          case neg =>
            have b2 : ((sE.e : Int) != 0) = true := by simp; omega
            have HNG := Lib.hid (show ¬ x.good d from fun h => he (HGOOD.out.1 h).1)
            clear he
            go_upto_region 12 with (go_at_call 29; refine A0.out.mono ?_; rintro e w9 ⟨rfl, h3, k3⟩; have H9 := Lib.hid (HEQ.out w9 k3); clear h3 k3)
            obtain ⟨rn, rg, -, -, hb⟩ := H9.out
            have a0 := cell_of_row w9 w.heap.size 0 _ _ _ rg
            have a1 := cell_of_row w9 w.heap.size 1 _ _ _ rg
            have a2 := cell_of_row w9 w.heap.size 2 _ _ _ rg
            have f0 := frozen_of_row w9 w.heap.size 0 _ _ rg
            have f1 := frozen_of_row w9 w.heap.size 1 _ _ rg
            have f2 := frozen_of_row w9 w.heap.size 2 _ _ rg
            clear rn rg hb
            go_wp2_with fail
            obtain ⟨r1, r2⟩ := res_set (a' := .int .u8 0) (b' := .slice none 0 0) (c' := .slice none 0 0) H9.out.2.1
            refine ret_str2 4 5 (by kernel_rfl) w.heap.size _ #[.int .u8 0, .slice none 0 0, .slice none 0 0] _ HD.out HDR.out SNo (by rfl) (by rfl) r1 ⟨H9.out.2.2.2.2.trans (r2.below H9.out.2.2.2.2.size (fun j e => by omega)), Or.inr ⟨by rw [HXX.out]; exact HNG.out, rfl⟩⟩
          have HE0 := Lib.hid he
          rw [he] at A0
          clear he
          subst hv1
          cases hX : x.node.right d with
          | false =>
            have HNG := Lib.hid (show ¬ x.good d from fun h => by have := (HGOOD.out.1 h).2; rw [hX] at this; cases this)
            have HXR := Lib.hid hX
            clear hX
            go_upto_region 12 with (first
              | (go_at_call 29; refine A0.out.mono ?_; rintro e w9 ⟨rfl, h3, k3⟩; have H9 := Lib.hid (HEQ.out w9 k3); have t0 := cell_of_row w9 gn 0 _ _ _ H9.out.1; have t1 := cell_of_row w9 gn 1 _ _ _ H9.out.1; have t2 := cell_of_row w9 gn 2 _ _ _ H9.out.1; have hrt := nright_any x.kind qv n1 cv qv2 x.n2 cv2 E K d w9 (H9.out.2.2.1.ents (by omega)) (H9.out.2.2.2.1.kids (by omega)); rw [show pnOf x.kind E K = x.node from HKN.out, HXR.out] at hrt; have HRT := Lib.hid hrt; clear h3 k3 hrt)
              | (go_at_call 30; refine HRT.out.mono ?_; rintro e w10 ⟨rfl, b10⟩; have R10 := Lib.hid ((b10.block _ (Array.getElem?_eq_some_iff.1 H9.out.2.1).1).trans H9.out.2.1); have B10 := Lib.hid (H9.out.2.2.2.2.trans (b10.mono H9.out.2.2.2.2.size)); clear b10))
            have a0 := cell_of_row w10 w.heap.size 0 _ _ _ R10.out
            have a1 := cell_of_row w10 w.heap.size 1 _ _ _ R10.out
            have a2 := cell_of_row w10 w.heap.size 2 _ _ _ R10.out
            have f0 := frozen_of_row w10 w.heap.size 0 _ _ R10.out
            have f1 := frozen_of_row w10 w.heap.size 1 _ _ R10.out
            have f2 := frozen_of_row w10 w.heap.size 2 _ _ R10.out
            go_wp2_with fail
            obtain ⟨r1, r2⟩ := res_set (a' := .int .u8 0) (b' := .slice none 0 0) (c' := .slice none 0 0) R10.out
            refine ret_str2 4 5 (by kernel_rfl) w.heap.size _ #[.int .u8 0, .slice none 0 0, .slice none 0 0] _ HD.out HDR.out SNo (by rfl) (by rfl) r1 ⟨B10.out.trans (r2.below B10.out.size (fun j e => by omega)), Or.inr ⟨by rw [HXX.out]; exact HNG.out, rfl⟩⟩
          | true =>
            have HYG := Lib.hid (show x.good d from HGOOD.out.2 ⟨HE0.out, hX⟩)
            have HXR := Lib.hid hX
            clear hX
            go_upto_region 13 with (first
              | (go_at_call 29; refine A0.out.mono ?_; rintro e w9 ⟨rfl, h3, k3⟩; have H9 := Lib.hid (HEQ.out w9 k3); have t0 := cell_of_row w9 gn 0 _ _ _ H9.out.1; have t1 := cell_of_row w9 gn 1 _ _ _ H9.out.1; have t2 := cell_of_row w9 gn 2 _ _ _ H9.out.1; have hrt := nright_any x.kind qv n1 cv qv2 x.n2 cv2 E K d w9 (H9.out.2.2.1.ents (by omega)) (H9.out.2.2.2.1.kids (by omega)); rw [show pnOf x.kind E K = x.node from HKN.out, HXR.out] at hrt; have HRT := Lib.hid hrt; clear h3 k3 hrt)
              | (go_at_call 30; refine HRT.out.mono ?_; rintro e w10 ⟨rfl, b10⟩; have R10 := Lib.hid ((b10.block _ (Array.getElem?_eq_some_iff.1 H9.out.2.1).1).trans H9.out.2.1); have B10 := Lib.hid (H9.out.2.2.2.2.trans (b10.mono H9.out.2.2.2.2.size)); have RN10 := Lib.hid ((b10.block _ (Array.getElem?_eq_some_iff.1 H9.out.1).1).trans H9.out.1); have E10 := Lib.hid (H9.out.2.2.1.later b10); have K10 := Lib.hid (show Kds w6.heap.size w10 (.slice qv2 x.n2 cv2) x.n2 K from ⟨H9.out.2.2.2.1.lst.later b10, H9.out.2.2.2.1.good⟩); clear b10 t0 t1 t2))
            have t0 := cell_of_row w10 gn 0 _ _ _ RN10.out
            have t1 := cell_of_row w10 gn 1 _ _ _ RN10.out
            have t2 := cell_of_row w10 gn 2 _ _ _ RN10.out
            have a0 := cell_of_row w10 w.heap.size 0 _ _ _ R10.out
            have a1 := cell_of_row w10 w.heap.size 1 _ _ _ R10.out
            have a2 := cell_of_row w10 w.heap.size 2 _ _ _ R10.out
            have f0 := frozen_of_row w10 w.heap.size 0 _ _ R10.out
            have f1 := frozen_of_row w10 w.heap.size 1 _ _ R10.out
            have f2 := frozen_of_row w10 w.heap.size 2 _ _ R10.out
            go_wp2_with fail
            obtain ⟨r1, r2⟩ := res_set (a' := .int .u8 x.kind) (b' := .slice qv n1 cv) (c' := .slice qv2 x.n2 cv2) R10.out
            have e11 := E10.out.keep (fun j hj hl => r2.block j hl (by have := HGL.out; have := HGG.out; omega))
            have k11 := K10.out.lst.keep (fun j hj hl => r2.block j hl (by have := HGM.out; have := HGG.out; omega))
            refine ret_str2 4 5 (by kernel_rfl) w.heap.size _ #[.int .u8 x.kind, .slice qv n1 cv, .slice qv2 x.n2 cv2] _ HD.out HDR.out SNo (by rfl) (by rfl) r1 ⟨B10.out.trans (r2.below B10.out.size (fun j e => by omega)), Or.inl ⟨by rw [HXX.out]; exact HYG.out, x.kind, qv, n1, cv, qv2, x.n2, cv2, E, K, rfl, (fun w'' hk => ⟨Ens.ents (e11.keep (fun j hj hl => hk j (by have := HGL.out; have := HGG.out; omega) hl)) (by omega), Kds.kids ⟨k11.keep (fun j hj hl => hk j (by have := HGM.out; have := HGG.out; omega) hl), K10.out.good⟩ (by omega)⟩), by rw [HXX.out]; exact HKN.out, hkd256⟩⟩
end Go.Proofs.YtfkpgildeddhaaaGreat.Nd

/- slices.Clone of a row that isn't empty. -/
namespace Go.Proofs.YtfkpgildeddhaaaGreat
open Go.RowKit

set_option maxRecDepth 100000 in
set_option maxHeartbeats 1000000 in
theorem rowclone_any (p : Option Addr) (n c : Nat) (R : List Int) (w : World) (h : Ints w p n c R) (h1 : 1 ≤ n) (h8 : n ≤ 8) :
    Calls Tryz.prog 98 #[.slice p n c] w fun e w' => ∃ g cap, e = .returned (.slice (some ⟨g, 0, none⟩) n cap) ∧ OwnRow w' w.heap.size g n cap R ∧ w.heap.size ≤ g ∧ Below w.heap.size w w' := by
  obtain ⟨gR, oR, rfl, -⟩ := h.cell 0 (by omega)
  obtain ⟨i2, hi0, hi1, hi2, hi3⟩ := info_parts I2n
  have HI := Lib.hid hi0
  have HI0 := Lib.hid hi1
  have HI1 := Lib.hid hi2
  have HI2 := Lib.hid hi3
  clear hi0 hi1 hi2 hi3
  have hal : Below w.heap.size w (w.alloc (.cells #[] 2)) := (Below.refl _ _).alloc (Nat.le_refl _) _
  have HOE := Lib.hid (own_empty w)
  have HAL := Lib.hid hal
  have HNW := Lib.hid ((h.later hal).news)
  have HRL := Lib.hid (show (ivs R).length = n * 1 by rw [ivs_length, ← h.size, Nat.mul_one])
  have qn : ∀ w', (binOp .eql 39 (.slice (some ⟨gR, oR, none⟩) n c) (.slice none 0 0)).run Tryz.prog w' = .ok (.bool false) w' := fun w' => Go.Lib.run_eql_slice_nil w' _ _ _ _ _ _ _ URn
  clear hal h
  go_enter Tryz.func98, Tryz.ntmps98
  go_wp2_with ((at_builtin; (refine wpList_append_own_at _ (by rfl) (.tmp 5) (.tmp 6) 39 (by rfl) w.heap.size 2 i2 (.int .i64 0) 1 8 URn HI.out HI0.out HI1.out HI2.out (by rfl) (by decide) _ 0 [] (by rfl) HOE.out ⟨gR, oR, none⟩ n c (ivs R) (by rfl) HRL.out HNW.out (ivs_one R) (by unfold maxLen; omega) (by omega) (by simp) ?_); intro v7 w7 hown7 hgrow7 _ _; have O7 := Lib.hid hown7; have G7 := Lib.hid hgrow7; clear hown7 hgrow7))
  obtain ⟨gn, cn, rfl, hn7, hn8⟩ := own_form (w := w7) (base := w.heap.size) (n := n) (N := R) (by have h := O7.out; rw [Nat.zero_add, List.nil_append] at h; exact h) h1
  have hb7 : Below w.heap.size w w7 := HAL.out.grown G7.out (by simp) (fun k hk => by simp [Value.ownBlock] at hk; omega)
  go_ret
  exact ⟨gn, cn, rfl, hn7, hn8, hb7⟩
end Go.Proofs.YtfkpgildeddhaaaGreat

/- The contract of codec.Writer.Row. -/
namespace Go.Proofs.YtfkpgildeddhaaaGreat
open Go.RowKit

def St.row' (s : St) (R : List Int) : St := if R.length ≤ 255 then s.put (rowB R) else .no
def WRowRel (w : World) (base g : Nat) (v : Value) (s : St) (R : List Int) (i : Value) (wr : World) : Prop :=
  ∃ (k : Nat) (v' : Value), k ≤ R.length ∧ i = .int .i64 k ∧ WS wr base g v' (s.put (R.length :: nums (R.take k))) ∧ WStep w wr g v v'
set_option maxRecDepth 100000 in
set_option maxHeartbeats 1000000 in
theorem roww_any (s : St) (R : List Int) (p : Option Addr) (n c : Nat) (base g : Nat) (v : Value) (w : World) (hs : WS w base g v s) (hR : Ints w p n c R) (hl : s.B.length + (1 + 8 * R.length) < 1099511627776) (hbw : base ≤ w.heap.size)
    (hg : ∀ x, p = some x → R ≠ [] → x.block ≠ g ∧ v.ownBlock ≠ some x.block) :
    Calls Tryz.prog 81 #[.pointer (some ⟨g, 0, none⟩), .slice p n c] w (WPost w base g v (s.row' R)) := by
  have HS := Lib.hid hs
  have HR := Lib.hid hR
  have HL := Lib.hid hl
  have HG := Lib.hid hg
  have HN := Lib.hid hR.size
  have HBW := Lib.hid hbw
  have hn : n < 1099511627776 := by have := hR.size; omega
  clear hs hR hl hg hbw
  go_enter Tryz.func81, Tryz.ntmps81
  by_cases h : 255 < n
  · have b1 : (255 : Int) < n := by omega
    go_wp2_with fail
    refine (refuse_any s base g v _ HS.out).mono ?_
    rintro e w1 hp
    obtain ⟨rfl, v2, h3, h4⟩ := hp
    have H3 := Lib.hid h3
    have H4 := Lib.hid h4
    clear h3 h4
    go_wp2_with fail
    go_end0
    refine ⟨rfl, v2, ?_, H4.out⟩
    unfold St.row'
    rw [if_neg (by have := HN.out; omega)]
    exact H3.out
  · have b1 : ¬ (255 : Int) < n := by omega
    go_wp2_with fail
    refine (byte_any s n (by omega) base g v _ HS.out (by have := HL.out; omega) HBW.out).mono ?_
    rintro e w1 hp
    obtain ⟨rfl, v2, h3, h4⟩ := hp
    have H3 := Lib.hid h3
    have H4 := Lib.hid h4
    clear h3 h4
    go_wp2_with fail
    go_loopw [18] (fun i wr => WRowRel w base g v s R i wr) (fun i _ => n - (intOf i).toNat)
    case atStart => exact ⟨0, v2, by omega, rfl, by rw [← HN.out]; exact H3.out, H4.out⟩
    case round =>
      obtain ⟨k, v1, hk, rfl, h1, h2⟩ := hrel
      rw [← HN.out] at hk
      have H1 := Lib.hid h1
      have H2 := Lib.hid h2
      clear h1 h2 H3 H4
      by_cases hlt : k < n
      · have hkR : k < R.length := by rw [← HN.out]; exact hlt
        have hx := HR.out.get k hlt
        rcases HR.out.at' with h0 | ⟨gx, o, hp, hc⟩
        · rw [h0] at hkR; exact absurd hkR (by simp)
        · have hne : R ≠ [] := by rintro rfl; exact absurd hkR (by simp)
          obtain ⟨e1, e2⟩ := HG.out _ hp hne
          subst hp
          have hc1 := hc k hkR
          have hcell : wr.cell? ⟨gx, o + k, none⟩ = some (.int .i64 (R.getD k 0)) := by
            rw [World.cell?_of_block (w := w) (w' := wr) (a := ⟨gx, o + k, none⟩) (H2.out.block gx (block_lt_of_cell hc1) e1 e2)]
            exact hc1
          obtain ⟨x, hxx⟩ : ∃ x, x = R.getD k 0 := ⟨_, rfl⟩
          rw [← hxx] at hcell hx
          have hlen := St.put_len s (R.length :: nums (R.take k))
          rw [List.length_cons, nums_length, List.length_take_of_le (Nat.le_of_lt hkR)] at hlen
          have HXX := Lib.hid hxx
          have HLN := Lib.hid hlen
          have HX := Lib.hid hx
          have HLE := Lib.hid HR.out.le
          clear hc hc1 hne e1 e2 hxx hlen hx
          have hle := HLE.out
          go_wp2_with fail
          refine (num_any _ x HX.out.1 HX.out.2 base g v1 _ H1.out (by have := HLN.out; have := HL.out; omega) (Nat.le_trans HBW.out H2.out.size)).mono ?_
          rintro e w3 hp
          obtain ⟨rfl, v3, h5, h6⟩ := hp
          have H5 := Lib.hid h5
          have H6 := Lib.hid (H2.out.trans h6)
          clear h5 h6
          go_wp2_with fail
          go_roundw
          case rel =>
            refine ⟨k + 1, v3, by omega, by go_num, ?_, H6.out⟩
            have := H5.out
            rw [St.put_put, HXX.out, List.cons_append, ← nums_step R k hkR] at this
            exact this
          case measure => simp [intOf]; omega
      · obtain rfl : k = n := by omega
        go_wp2_with fail
        go_end0
        refine ⟨rfl, v1, ?_, H2.out⟩
        have := H1.out
        rw [List.take_of_length_le (by have := HN.out; omega)] at this
        unfold St.row'
        rw [if_pos (by have := HN.out; omega)]
        exact this
end Go.Proofs.YtfkpgildeddhaaaGreat

/- The contract of codec.Writer.Truth. -/
namespace Go.Proofs.YtfkpgildeddhaaaGreat
open Go.RowKit

set_option maxRecDepth 100000 in
set_option maxHeartbeats 1000000 in
theorem truth_any (s : St) (x : Bool) (base g : Nat) (v : Value) (w : World) (hs : WS w base g v s) (hl : s.B.length + 1 < 1099511627776) (hbw : base ≤ w.heap.size) :
    Calls Tryz.prog 80 #[.pointer (some ⟨g, 0, none⟩), .bool x] w (WPost w base g v (s.truth x)) := by
  have HS := Lib.hid hs
  clear hs
  unfold St.truth
  cases x
  · go_enter Tryz.func80, Tryz.ntmps80
    go_wp2_with fail
    refine (byte_any s 0 (by omega) base g v _ HS.out hl hbw).mono ?_
    rintro e w1 hp
    obtain ⟨rfl, v2, h3, h4⟩ := hp
    have H3 := Lib.hid h3
    have H4 := Lib.hid h4
    clear h3 h4
    go_wp2_with fail
    go_end0
    exact ⟨rfl, v2, H3.out, H4.out⟩
  · go_enter Tryz.func80, Tryz.ntmps80
    go_wp2_with fail
    refine (byte_any s 1 (by omega) base g v _ HS.out hl hbw).mono ?_
    rintro e w1 hp
    obtain ⟨rfl, v2, h3, h4⟩ := hp
    have H3 := Lib.hid h3
    have H4 := Lib.hid h4
    clear h3 h4
    go_wp2_with fail
    go_end0
    exact ⟨rfl, v2, H3.out, H4.out⟩
end Go.Proofs.YtfkpgildeddhaaaGreat

/- The contract of codec.Writer.Bytes. -/
namespace Go.Proofs.YtfkpgildeddhaaaGreat
open Go.RowKit

set_option maxHeartbeats 1000000 in
theorem wbytes_any (s : St) (base g : Nat) (v : Value) (w : World) (hs : WS w base g v s) (hl : s.B.length < 1099511627776) :
    Calls Tryz.prog 83 #[.pointer (some ⟨g, 0, none⟩)] w (ClonePost w s.B) := by
  obtain ⟨q0, c0, hv0, hb⟩ := owns_form hs.own hs.ok
  subst hv0
  have h0 := hs.out
  have HB := Lib.hid hb.tx
  clear hs hb
  go_enter Tryz.func83, Tryz.ntmps83
  go_wp2_with fail
  refine (clone_any s.B q0 _ c0 _ HB.out hl).mono ?_
  rintro e w1 hp
  obtain ⟨q, c, rfl, ho, hb⟩ := hp
  have HO := Lib.hid ho
  have HB1 := Lib.hid hb
  clear ho hb
  go_wp2_with fail
  go_ret
  exact ⟨q, c, rfl, HO.out, HB1.out⟩
end Go.Proofs.YtfkpgildeddhaaaGreat

/- node.writeKid. -/
namespace Go.Proofs.YtfkpgildeddhaaaGreat.Nd
open Go.RowKit

/-- What a kid holds that may be written. -/
structure PK.Fit (k : PK) : Prop where
  live : 0 ≤ k.live ∧ k.live ≤ 1048576
  size : 0 ≤ k.size ∧ k.size ≤ 1048576
  lo : k.lo.length ≤ 8
  hi : k.hi.length ≤ 8
  key : k.key.length ≤ 8
theorem rintsLt {w : World} {x : Addr} {p : Option Addr} {n c : Nat} {R : List Int} (h : Ints w p n c R) (hx : p = some x) (hR : R ≠ []) : x.block < w.heap.size := by
  rcases h.at' with h0 | ⟨g, o, hp, hc⟩
  · exact absurd h0 hR
  · rw [hx] at hp
    obtain rfl : x = ⟨g, o, Option.none⟩ := by simpa using hp
    have := hc 0 (List.length_pos_iff.2 hR)
    exact block_lt_of_cell this
theorem rowBs_eq {R : List Int} (h : R.length ≤ 8) : rowB R = rowBs R := by
  unfold rowB rowBs
  rw [Nat.mod_eq_of_lt (by omega)]
theorem put_row {s : St} {R : List Int} (h : R.length ≤ 8) : s.row' R = s.put (rowBs R) := by
  unfold St.row'
  rw [if_pos (by omega), rowBs_eq h]
theorem put_count {s : St} {n : Int} (h : 0 ≤ n ∧ n ≤ 1048576) : s.count n = s.put (Cm.be n.toNat 3) := by
  unfold St.count
  rw [if_pos h]
/-- A writer under way, and a kid in a block of its own. -/
structure WkSt (w0 : World) (gx : Nat) (kd : Kd) (w : World) (g : Nat) (v : Value) (s : St) : Prop where
  ws : WS w w0.heap.size g v s
  row : w.heap[gx]? = some (.cells kd.cells.toArray 43 (0, 0))
  ne : v.ownBlock ≠ some gx
  ng : gx ≠ g
  low : Below w0.heap.size w0 w
  lg : w0.heap.size ≤ g
theorem WkSt.step {w0 w w' : World} {gx g : Nat} {kd : Kd} {v v' : Value} {s s' : St} (h : WkSt w0 gx kd w g v s) (hs : WS w' w0.heap.size g v' s') (k : WStep w w' g v v') : WkSt w0 gx kd w' g v' s' :=
  ⟨hs, (k.block _ (Array.getElem?_eq_some_iff.1 h.row).1 h.ng h.ne).trans h.row, fun e => by
    rcases k.own _ e with h1 | h1
    · exact h.ne h1
    · have := (Array.getElem?_eq_some_iff.1 h.row).1
      omega, h.ng, h.low.trans (k.below h.lg (fun j hj => (h.ws.own.lt j hj).1) h.low.size), h.lg⟩
theorem WkSt.start {w0 w : World} {g : Nat} {kd : Kd} {v : Value} {s : St} (h : WS w w0.heap.size g v s) (hl : Below w0.heap.size w0 w) (hg : w0.heap.size ≤ g) : WkSt w0 w.heap.size kd (w.alloc (.cells kd.cells.toArray 43)) g v s :=
  ⟨h.later ((Below.refl _ _).alloc (Nat.le_refl _) _), heap_alloc_new w _, (fun e => by have := (h.own.lt _ e).2; omega), (fun e => by have := h.lt; omega), hl.alloc hl.size _, hg⟩
set_option maxRecDepth 100000 in
set_option maxHeartbeats 2000000 in
theorem wkid_any (w0 : World) (kd : Kd) (hk : kd.Ok w0) (hf : kd.pk.Fit) (s : St) (g : Nat) (v : Value) (w : World) (hs : WS w w0.heap.size g v s) (hl : s.B.length + 2000 < 1099511627776) (hlow : Below w0.heap.size w0 w) (hg : w0.heap.size ≤ g) :
    Calls Tryz.prog 82 #[.pointer (some ⟨g, 0, Option.none⟩), .agg kd.cells.toArray] w (WPost w w0.heap.size g v (s.put kd.pk.bytes)) := by
  have hst := WkSt.start (kd := kd) hs hlow hg
  have HSL := Lib.hid hk.len
  have HSO := Lib.hid hk.ok
  have HOK := Lib.hid hk
  have HF := Lib.hid hf
  have HL := Lib.hid hl
  have HA := Lib.hid (WStep.alloc w g v (.cells kd.cells.toArray 43))
  have hgx : w.heap.size = w.heap.size := rfl
  have HLV := Lib.hid hk.live
  have HSV := Lib.hid hk.size
  clear hk hf hl hs hlow hg
  go_enter Tryz.func82, Tryz.ntmps82
  go_upto_region 1 with fail
  generalize w.alloc (.cells kd.cells.toArray 43) = w1 at *
  generalize w.heap.size = gx at *
  have HB0 := Lib.hid hst
  clear hst hgx
  have hlen9 : s.B.length ≤ s.B.length + 0 := by omega
  have K9 := Lib.hid (kat_row HB0.out.row HSL.out)
  have HC9 := Lib.hid (digestw_any s kd.sum HSL.out HSO.out w0.heap.size g v w1 HB0.out.ws (by have := HL.out; omega) HB0.out.low.size)
  clear hlen9
  go_upto_region 2 with (first
    | (refine wpList_load_mid (by rfl) 37 _ (by rfl) _ 0 (by rfl) (vals kd.sum) _ K9.out.sum A25 (by rfl) (by rw [vals_length, HSL.out]; exact S25) ?_; rw [vals_toArray])
    | (go_at_call 96; refine HC9.out.mono ?_; rintro _ w2 ⟨rfl, v1, h9, k9⟩; have HB1 := Lib.hid (HB0.out.step h9 k9); have HW1 := Lib.hid ((WStep.refl _ _ _).trans k9); clear h9 k9))
  have hn9 := St.put_len s kd.sum
  rw [HSL.out] at hn9
  have hl9 : (s.put kd.sum).B.length ≤ s.B.length + 32 := by omega
  have HLN1 := Lib.hid hl9
  obtain ⟨s1, hs9⟩ : ∃ s1, s.put kd.sum = s1 := ⟨_, rfl⟩
  rw [hs9] at HB1 HLN1
  have HS1 := Lib.hid hs9
  clear hs9 hn9 hl9 HC9 K9
  have hlen9 : s1.B.length ≤ s.B.length + 32 := HLN1.out
  have c9 := (kat_row HB1.out.row HSL.out).live
  rw [Nat.zero_add] at c9
  have hc9 := count_any s1 kd.live HLV.out.1 HLV.out.2 w0.heap.size g v1 w2 HB1.out.ws (by have := HL.out; omega) HB1.out.low.size
  rw [put_count (n := kd.live) HF.out.live] at hc9
  have HC9 := Lib.hid hc9
  clear hc9
  clear hlen9
  go_upto_region 3 with (go_at_call 97; refine HC9.out.mono ?_; rintro _ w3 ⟨rfl, v2, h9, k9⟩; have HB2 := Lib.hid (HB1.out.step h9 k9); have HW2 := Lib.hid ((WStep.refl _ _ _).trans k9); clear h9 k9)
  have hn9 := St.put_len s1 (Cm.be kd.live.toNat 3)
  rw [Cm.be_length] at hn9
  have hl9 : (s1.put (Cm.be kd.live.toNat 3)).B.length ≤ s.B.length + 35 := by have := HLN1.out; omega
  have HLN2 := Lib.hid hl9
  obtain ⟨s2, hs9⟩ : ∃ s2, s1.put (Cm.be kd.live.toNat 3) = s2 := ⟨_, rfl⟩
  rw [hs9] at HB2 HLN2
  have HS2 := Lib.hid hs9
  clear hs9 hn9 hl9 HC9 c9
  have hlen9 : s2.B.length ≤ s.B.length + 35 := HLN2.out
  have c9 := (kat_row HB2.out.row HSL.out).size
  rw [Nat.zero_add] at c9
  have hc9 := count_any s2 kd.size HSV.out.1 HSV.out.2 w0.heap.size g v2 w3 HB2.out.ws (by have := HL.out; omega) HB2.out.low.size
  rw [put_count (n := kd.size) HF.out.size] at hc9
  have HC9 := Lib.hid hc9
  clear hc9
  clear hlen9
  go_upto_region 4 with (go_at_call 97; refine HC9.out.mono ?_; rintro _ w4 ⟨rfl, v3, h9, k9⟩; have HB3 := Lib.hid (HB2.out.step h9 k9); have HW3 := Lib.hid ((WStep.refl _ _ _).trans k9); clear h9 k9)
  have hn9 := St.put_len s2 (Cm.be kd.size.toNat 3)
  rw [Cm.be_length] at hn9
  have hl9 : (s2.put (Cm.be kd.size.toNat 3)).B.length ≤ s.B.length + 38 := by have := HLN2.out; omega
  have HLN3 := Lib.hid hl9
  obtain ⟨s3, hs9⟩ : ∃ s3, s2.put (Cm.be kd.size.toNat 3) = s3 := ⟨_, rfl⟩
  rw [hs9] at HB3 HLN3
  have HS3 := Lib.hid hs9
  clear hs9 hn9 hl9 HC9 c9
  have hlen9 : s3.B.length ≤ s.B.length + 38 := HLN3.out
  have c9 := (kat_row HB3.out.row HSL.out).lo
  rw [Nat.zero_add] at c9
  unfold Rw.val at c9
  have hok9 := HOK.out.lo.later HB3.out.low
  have hl9 : kd.lo.R.length ≤ 8 := HF.out.lo
  have hc9 := roww_any s3 kd.lo.R _ _ _ w0.heap.size g v3 w4 HB3.out.ws hok9.ints (by have := HL.out; omega) HB3.out.low.size (fun x hx hR => by have h8 := rintsLt HOK.out.lo.ints hx hR; exact ⟨fun e => by have := HB3.out.lg; omega, fun e => by have := (HB3.out.ws.own.lt _ e).1; omega⟩)
  rw [put_row hl9] at hc9
  have HC9 := Lib.hid hc9
  have HL9 := Lib.hid hl9
  clear hc9 hok9 hl9
  clear hlen9
  go_upto_region 5 with (go_at_call 81; refine HC9.out.mono ?_; rintro _ w5 ⟨rfl, v4, h9, k9⟩; have HB4 := Lib.hid (HB3.out.step h9 k9); have HW4 := Lib.hid ((WStep.refl _ _ _).trans k9); clear h9 k9)
  have hn9 := St.put_len s3 (rowBs kd.lo.R)
  rw [rowBs_length] at hn9
  have hl9 : (s3.put (rowBs kd.lo.R)).B.length ≤ s.B.length + 103 := by have := HLN3.out; have := HL9.out; omega
  have HLN4 := Lib.hid hl9
  obtain ⟨s4, hs9⟩ : ∃ s4, s3.put (rowBs kd.lo.R) = s4 := ⟨_, rfl⟩
  rw [hs9] at HB4 HLN4
  have HS4 := Lib.hid hs9
  clear hs9 hn9 hl9 HC9 c9 HL9
  have hlen9 : s4.B.length ≤ s.B.length + 103 := HLN4.out
  have c9 := (kat_row HB4.out.row HSL.out).hi
  rw [Nat.zero_add] at c9
  unfold Rw.val at c9
  have hok9 := HOK.out.hi.later HB4.out.low
  have hl9 : kd.hi.R.length ≤ 8 := HF.out.hi
  have hc9 := roww_any s4 kd.hi.R _ _ _ w0.heap.size g v4 w5 HB4.out.ws hok9.ints (by have := HL.out; omega) HB4.out.low.size (fun x hx hR => by have h8 := rintsLt HOK.out.hi.ints hx hR; exact ⟨fun e => by have := HB4.out.lg; omega, fun e => by have := (HB4.out.ws.own.lt _ e).1; omega⟩)
  rw [put_row hl9] at hc9
  have HC9 := Lib.hid hc9
  have HL9 := Lib.hid hl9
  clear hc9 hok9 hl9
  clear hlen9
  go_upto_region 6 with (go_at_call 81; refine HC9.out.mono ?_; rintro _ w6 ⟨rfl, v5, h9, k9⟩; have HB5 := Lib.hid (HB4.out.step h9 k9); have HW5 := Lib.hid ((WStep.refl _ _ _).trans k9); clear h9 k9)
  have hn9 := St.put_len s4 (rowBs kd.hi.R)
  rw [rowBs_length] at hn9
  have hl9 : (s4.put (rowBs kd.hi.R)).B.length ≤ s.B.length + 168 := by have := HLN4.out; have := HL9.out; omega
  have HLN5 := Lib.hid hl9
  obtain ⟨s5, hs9⟩ : ∃ s5, s4.put (rowBs kd.hi.R) = s5 := ⟨_, rfl⟩
  rw [hs9] at HB5 HLN5
  have HS5 := Lib.hid hs9
  clear hs9 hn9 hl9 HC9 c9 HL9
  have hlen9 : s5.B.length ≤ s.B.length + 168 := HLN5.out
  have c9 := (kat_row HB5.out.row HSL.out).key
  rw [Nat.zero_add] at c9
  unfold Rw.val at c9
  have hok9 := HOK.out.key.later HB5.out.low
  have hl9 : kd.key.R.length ≤ 8 := HF.out.key
  have hc9 := roww_any s5 kd.key.R _ _ _ w0.heap.size g v5 w6 HB5.out.ws hok9.ints (by have := HL.out; omega) HB5.out.low.size (fun x hx hR => by have h8 := rintsLt HOK.out.key.ints hx hR; exact ⟨fun e => by have := HB5.out.lg; omega, fun e => by have := (HB5.out.ws.own.lt _ e).1; omega⟩)
  rw [put_row hl9] at hc9
  have HC9 := Lib.hid hc9
  have HL9 := Lib.hid hl9
  clear hc9 hok9 hl9
  clear hlen9
  go_wp2_with (go_at_call 81; refine HC9.out.mono ?_; rintro _ w7 ⟨rfl, v6, h9, k9⟩; have HB6 := Lib.hid (HB5.out.step h9 k9); have HW6 := Lib.hid ((WStep.refl _ _ _).trans k9); clear h9 k9)
  have hn9 := St.put_len s5 (rowBs kd.key.R)
  rw [rowBs_length] at hn9
  have hl9 : (s5.put (rowBs kd.key.R)).B.length ≤ s.B.length + 233 := by have := HLN5.out; have := HL9.out; omega
  have HLN6 := Lib.hid hl9
  obtain ⟨s6, hs9⟩ : ∃ s6, s5.put (rowBs kd.key.R) = s6 := ⟨_, rfl⟩
  rw [hs9] at HB6 HLN6
  have HS6 := Lib.hid hs9
  clear hs9 hn9 hl9 HC9 c9 HL9
  go_end0
  refine ⟨rfl, v6, ?_, ((((((HA.out.trans HW1.out).trans HW2.out).trans HW3.out).trans HW4.out).trans HW5.out).trans HW6.out)⟩
  have h := HB6.out.ws
  rw [← HS6.out, ← HS5.out, ← HS4.out, ← HS3.out, ← HS2.out, ← HS1.out] at h
  simp only [St.put_put] at h
  have e : kd.pk.bytes = kd.sum ++ Cm.be kd.live.toNat 3 ++ Cm.be kd.size.toNat 3 ++ rowBs kd.lo.R ++ rowBs kd.hi.R ++ rowBs kd.key.R := by
    show kd.sum ++ (Cm.be kd.live.toNat 3 ++ (Cm.be kd.size.toNat 3 ++ (rowBs kd.lo.R ++ (rowBs kd.hi.R ++ rowBs kd.key.R)))) = _
    simp only [List.append_assoc]
  rw [e]
  simpa only [List.append_assoc] using h
end Go.Proofs.YtfkpgildeddhaaaGreat.Nd
