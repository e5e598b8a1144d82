/- NlSaySum, NlSay, PgKey, PgPe, PgMap, PgLand, PgNew, PgLook, PgClone, PgGet, NlGet, PgAdd, PgBEq. -/
import Derived.Test.YtfkpgildeddhaaaGreatM7
import Derived.Maps.RangeWalk
import Derived.DeepKeys4
import Derived.Maps.OwnSet
import Derived.Maps.AppendAt
import Derived.Lib.SliceRun
import Derived.Laws.OwnMore
import Derived.Carry
/- node.say, where the page's sum is told alone. -/
namespace Go.Proofs.YtfkpgildeddhaaaGreat.Nd
open Go.RowKit Go.Proofs.YtfkpgildeddhaaaGreat.Dk Go.Proofs.YtfkpgildeddhaaaGreat.Pg

def SaySum (w : World) (N : PN) (d : Int) (e : Ending) (w' : World) : Prop :=
  Below w.heap.size w w' ∧
  (((N.right d = true ∧ N.size ≤ 1048576) ∧ ∃ kd : Kd, e = .returned (.tuple #[.agg kd.cells.toArray, .int .i64 0]) ∧ kd.pk = N.says ∧ kd.Ok w' ∧ Fsh w kd) ∨
   (¬ (N.right d = true ∧ N.size ≤ 1048576) ∧ e = .returned (.tuple #[.agg kd0.cells.toArray, .int .i64 1])))
theorem saysum_bad {w w' : World} {N : PN} {d : Int} (h : ¬ (N.right d = true ∧ N.size ≤ 1048576)) (hb : Below w.heap.size w w') : SaySum w N d (.returned (.tuple #[.agg kd0.cells.toArray, .int .i64 1])) w' := ⟨hb, Or.inr ⟨h, rfl⟩⟩
set_option maxRecDepth 100000 in
set_option maxHeartbeats 4000000 in
theorem say_sum (kind : Nat) (hkd : kind < 256) (p : Option Addr) (n c : Nat) (q : Option Addr) (m f : Nat) (E : List En) (K : List Kd) (d : Int) (w : World) (hE : EntsIn w p n c E) (hK : KidsIn w q m f K) :
    Calls Tryz.prog 43 #[.agg #[.int .u8 kind, .slice p n c, .slice q m f], .int .i64 d, .func (.func 44) #[] #[]] w (SaySum w (pnOf kind E K) d) := by
  have hb1 : Below w.heap.size w (w.alloc (.cells #[.int .u8 kind, .slice p n c, .slice q m f] 27)) := (Below.refl _ _).alloc (Nat.le_refl _) _
  have hn1 := NodeAt.start w kind p n c q m f
  have z1 : (w.alloc (.cells #[.int .u8 kind, .slice p n c, .slice q m f] 27)).heap.size = w.heap.size + 1 := by simp
  have HKD := Lib.hid hkd
  have HE := Lib.hid hE
  have HK := Lib.hid hK
  obtain ⟨du, hdu, hdr⟩ := UKd
  have HDU := Lib.hid hdu
  have HDR := Lib.hid hdr
  have HZ := Lib.hid (zero_of_info kz)
  clear hkd hE hK hdu hdr
  have hz0 := HZ.out.1
  go_enter Tryz.func43, Tryz.ntmps43
  go_upto_region 1 with fail
  have hb2 : Below (w.heap.size + 1) (w.alloc (.cells #[.int .u8 kind, .slice p n c, .slice q m f] 27)) ((w.alloc (.cells #[.int .u8 kind, .slice p n c, .slice q m f] 27)).alloc (.cells kd0.cells.toArray 43)) := (Below.refl _ _).alloc (by omega) _
  have r2 := heap_alloc_new (w.alloc (.cells #[.int .u8 kind, .slice p n c, .slice q m f] 27)) (.cells kd0.cells.toArray 43)
  rw [z1] at r2
  have HN2 := Lib.hid (hn1.later (by rw [z1]; exact hb2))
  have HB2 := Lib.hid (hb1.trans (hb2.mono (by omega)))
  have HR2 := Lib.hid r2
  clear hb1 hn1 z1 hb2 r2
  generalize (w.alloc (.cells #[.int .u8 kind, .slice p n c, .slice q m f] 27)).alloc (.cells kd0.cells.toArray 43) = w2 at *
  have HENC := Lib.hid (encode_any kind HKD.out p n c q m f E K d w2 (HE.out.later HB2.out) (HK.out.later HB2.out))
  have HTAL := Lib.hid (fun w3 (h : Below w.heap.size w w3) (hr : (pnOf kind E K).right d = true) => tally_any kind p n c q m f E K d w3 (HE.out.later h) (HK.out.later h) hr)
  have HLN := Lib.hid (fun (hr : (pnOf kind E K).right d = true) => node_bytes_len (PN.fit hr) (fun k hk => by obtain ⟨y, hy, rfl⟩ := List.mem_map.1 hk; exact (HK.out.each y hy).len))
  generalize pnOf kind E K = N at *
  obtain ⟨t0, t1, t2⟩ := HN2.out.cells
  cases hr : N.right d with
  | false =>
    have HNR := Lib.hid (show ¬ (N.right d = true ∧ N.size ≤ 1048576) from fun h => by rw [hr] at h; exact absurd h.1 (by simp))
    have HRR := Lib.hid hr
    clear hr
    go_wp2_with (first
      | (go_at_call 67; refine HENC.out.mono ?_; rintro e w3 ⟨b3, h3⟩; obtain rfl : e = .returned (.tuple #[.slice Option.none 0 0, .int .i64 1]) := (h3.elim (fun h => by rw [HRR.out] at h; exact absurd h.1 (by simp)) (fun h => h.2)); have HR3 := Lib.hid ((b3.block _ (Array.getElem?_eq_some_iff.1 HR2.out).1).trans HR2.out); have HB3 := Lib.hid (HB2.out.trans (b3.mono HB2.out.size)); clear b3 h3)
      | (refine wpList_build (by rfl) (by rfl) kd0_built ?_)
      | (refine wpList_store_row (by rfl) 43 _ _ (by rfl) (w.heap.size + 1) kd0.cells.toArray (by rfl) (by rfl) _ _ HR3.out (by rw [List.size_toArray, kd0_size]; exact SKd) rfl (all_oneCell_toArray Kd.one) ?_))
    have r9 := setRow_heap _ (w.heap.size + 1) _ kd0.cells.toArray _ _ HR3.out
    have hb9 : Below (w.heap.size + 1) w3 (w3.setRow (w.heap.size + 1) kd0.cells.toArray) := Below.setRow (Below.refl _ _) (Nat.le_refl _) _
    refine ret_str2 6 7 (by kernel_rfl) (w.heap.size + 1) _ kd0.cells.toArray _ HDU.out HDR.out (by rw [List.size_toArray, kd0_size]; exact SKd) (by rfl) (by rfl) r9 ?_
    exact saysum_bad HNR.out (HB3.out.trans (hb9.mono (by omega)))
  | true =>
    have HRR := Lib.hid hr
    have HLB := Lib.hid (HLN.out hr)
    clear hr
    go_upto_region 5 with (first
      | (go_at_call 67; refine HENC.out.mono ?_; rintro e w3 ⟨b3, h3⟩; obtain ⟨q9, c9, rfl, o9, ok9⟩ := (h3.elim (fun h => h.2) (fun h => by rw [HRR.out] at h; exact absurd h.1 (by simp))); have HT3 := Lib.hid (tx_of_owns o9 ok9); have HN3 := Lib.hid (HN2.out.later b3); have HR3 := Lib.hid ((b3.block _ (Array.getElem?_eq_some_iff.1 HR2.out).1).trans HR2.out); have HB3 := Lib.hid (HB2.out.trans (b3.mono HB2.out.size)); obtain ⟨t0, t1, t2⟩ := HN3.out.cells; have HTL := Lib.hid (HTAL.out w3 HB3.out HRR.out); clear b3 h3 o9 ok9)
      | (go_at_call 68; refine HTL.out.mono ?_; rintro e w4 ⟨kd, rfl, hpk, hok4, hfs, b4⟩; have HPK := Lib.hid hpk; have HOK4 := Lib.hid hok4; have HFS := Lib.hid hfs; have HT4 := Lib.hid (HT3.out.later b4); have HR4 := Lib.hid ((b4.block _ (Array.getElem?_eq_some_iff.1 HR3.out).1).trans HR3.out); have HB4 := Lib.hid (HB3.out.trans (b4.mono HB3.out.size)); have HS34 := Lib.hid b4.size; clear hpk hok4 hfs b4)
      | (refine wpList_store_row (by rfl) 43 (.tmp 10) (.tmp 22) (by rfl) w4.heap.size kd.cells.toArray (by rfl) (by rfl) _ _ (heap_alloc_new w4 _) (by rw [List.size_toArray, Kd.cells_length HOK4.out.len]; exact SKd) (by simp only [List.size_toArray, Kd.cells_length HOK4.out.len, kd0_size]) (all_oneCell_toArray Kd.one) ?_; rw [setRow_alloc]))
    have hrx := heap_alloc_new w4 (.cells kd.cells.toArray 43)
    have hba : Below w4.heap.size w4 (w4.alloc (.cells kd.cells.toArray 43)) := (Below.refl _ _).alloc (Nat.le_refl _) _
    have HT5 := Lib.hid (HT4.out.later hba)
    have HR5 := Lib.hid ((hba.block _ (Array.getElem?_eq_some_iff.1 HR4.out).1).trans HR4.out)
    have HB5 := Lib.hid (HB4.out.trans (hba.mono HB4.out.size))
    have HOK5 := Lib.hid (HOK4.out.later hba)
    have HXR := Lib.hid hrx
    have HGX := Lib.hid (show w.heap.size + 1 < w3.heap.size ∧ w3.heap.size ≤ w4.heap.size from ⟨(Array.getElem?_eq_some_iff.1 HR3.out).1, HS34.out⟩)
    have HFX := Lib.hid (show ∀ r ∈ kd.rows, r.Ok w4 ∧ (∀ x, r.p = some x → r.R ≠ [] → w3.heap.size ≤ x.block ∧ x.block < w4.heap.size) from fun r hr => by
      have hro : r.Ok w4 := by
        simp only [Kd.rows, List.mem_cons, List.not_mem_nil, or_false] at hr
        rcases hr with rfl | rfl | rfl
        · exact HOK4.out.lo
        · exact HOK4.out.hi
        · exact HOK4.out.key
      exact ⟨hro, fun x hx hR => ⟨HFS.out r hr x hx hR, rintsLt hro.ints hx hR⟩⟩)
    have hsz : w4.heap.size < (w4.alloc (.cells kd.cells.toArray 43)).heap.size := by simp
    have HSZ := Lib.hid hsz
    generalize w4.alloc (.cells kd.cells.toArray 43) = w5 at *
    clear hrx hba hsz HT4 HR4 HT3 HR3 HN3 HTL HENC HTAL HR2 HN2 HB2 t0 t1 t2 HB3 HB4
    generalize w4.heap.size = gk at *
    have c35 := (kat_row HXR.out HOK5.out.len).size
    rw [Nat.zero_add] at c35
    have hks : kd.size = N.size := congrArg PK.size HPK.out
    by_cases hz : 1048576 < kd.size
    · have HNR := Lib.hid (show ¬ (N.right d = true ∧ N.size ≤ 1048576) from fun h => by have := h.2; omega)
      clear hks
      go_wp2_with (first
        | (refine wpList_build (by rfl) (by rfl) kd0_built ?_)
        | (refine wpList_store_row (by rfl) 43 _ _ (by rfl) (w.heap.size + 1) kd0.cells.toArray (by rfl) (by rfl) _ _ HR5.out (by rw [List.size_toArray, kd0_size]; exact SKd) rfl (all_oneCell_toArray Kd.one) ?_))
      have r9 := setRow_heap _ (w.heap.size + 1) _ kd0.cells.toArray _ _ HR5.out
      have hb9 : Below (w.heap.size + 1) w5 (w5.setRow (w.heap.size + 1) kd0.cells.toArray) := Below.setRow (Below.refl _ _) (Nat.le_refl _) _
      refine ret_str2 6 7 (by kernel_rfl) (w.heap.size + 1) _ kd0.cells.toArray _ HDU.out HDR.out (by rw [List.size_toArray, kd0_size]; exact SKd) (by rfl) (by rfl) r9 ?_
      exact saysum_bad HNR.out (HB5.out.trans (hb9.mono (by omega)))
    · have HGD := Lib.hid (show N.right d = true ∧ N.size ≤ 1048576 from ⟨HRR.out, by omega⟩)
      obtain ⟨D, hD⟩ : ∃ D, D = sumOf N.bytes := ⟨_, rfl⟩
      have HDE := Lib.hid hD
      have HDL := Lib.hid (show D.length = 32 from by rw [hD]; rfl)
      have HDO := Lib.hid (show Sm.allB D from by rw [hD]; exact sumOf_ok _)
      clear hks hD
      have HRO5 := Lib.hid (kd_rows_ok HOK5.out)
      have hsm := sum_any' N.bytes q9 N.bytes.length c9 w5 HT5.out HLB.out
      rw [← HDE.out] at hsm
      have HSM := Lib.hid hsm
      clear hsm
      go_upto_region 8 with (first
        | (go_at_call 44; refine HSM.out.mono ?_; rintro e w6 ⟨rfl, b6⟩; have HX6 := Lib.hid ((b6.block _ (Array.getElem?_eq_some_iff.1 HXR.out).1).trans HXR.out); have HR6 := Lib.hid ((b6.block _ (Array.getElem?_eq_some_iff.1 HR5.out).1).trans HR5.out); have HRW6 := Lib.hid (show ∀ r ∈ kd.rows, r.Ok w6 from fun r hr => (HRO5.out r hr).later b6); have HB6 := Lib.hid (HB5.out.trans (b6.mono HB5.out.size)); clear b6)
        | (refine wpList_store_mid (by rfl) 37 _ _ (by rfl) gk 0 (u8s D) (by rfl) (by rfl) (by rw [u8s_size, HDL.out]; exact kd_there HX6.out HOK5.out.len) (by rw [u8s_size, HDL.out]; exact S25) (u8s_one _) ?_))
      have r7 := kd_sum (D := D) HX6.out HOK5.out.len HDL.out
      have o7 := only_cells w6 gk 0 (vals D)
      rw [show (u8s D).toList = vals D from rfl]
      have HO7 := Lib.hid o7
      have HX7 := Lib.hid r7
      have HR7 := Lib.hid ((o7.block _ (Array.getElem?_eq_some_iff.1 HR6.out).1 (by have := HGX.out; omega)).trans HR6.out)
      clear o7 r7
      generalize w6.setCells gk 0 (vals D) = w7 at *
      have HCL := Lib.hid (show ({ kd with sum := D } : Kd).cells.length = 37 from Kd.cells_length HDL.out)
      have HRG := Lib.hid (range_kd HX7.out)
      clear c35
      go_wp2_with (first
        | (refine wpList_load_mid (by rfl) 43 _ (by rfl) gk 0 (by rfl) ({ kd with sum := D } : Kd).cells du HRG.out HDU.out HDR.out (by rw [HCL.out]; exact SKd) ?_)
        | (refine wpList_store_row (by rfl) 43 _ _ (by rfl) (w.heap.size + 1) ({ kd with sum := D } : Kd).cells.toArray (by rfl) (by rfl) _ _ HR7.out (by rw [List.size_toArray, HCL.out]; exact SKd) (by simp only [List.size_toArray, HCL.out, kd0_size]) (all_oneCell_toArray Kd.one) ?_))
      have r9 := setRow_heap _ (w.heap.size + 1) _ ({ kd with sum := D } : Kd).cells.toArray _ _ HR7.out
      have hrow : ∀ r ∈ kd.rows, r.Ok (w7.setRow (w.heap.size + 1) ({ kd with sum := D } : Kd).cells.toArray) := fun r hr => rw_keep (HRW6.out r hr) (fun x hx hR => by
        have h9 := (HFX.out r hr).2 x hx hR
        have hs6 : x.block < w6.heap.size := rintsLt (HRW6.out r hr).ints hx hR
        rw [setRow_other _ _ _ _ (by have := HGX.out; omega)]
        exact HO7.out.block _ hs6 (by omega))
      refine ret_str2 6 7 (by kernel_rfl) (w.heap.size + 1) _ ({ kd with sum := D } : Kd).cells.toArray _ HDU.out HDR.out (by rw [List.size_toArray, HCL.out]; exact SKd) (by rfl) (by rfl) r9 ?_
      have hkok : ({ kd with sum := D } : Kd).Ok (w7.setRow (w.heap.size + 1) ({ kd with sum := D } : Kd).cells.toArray) := ⟨HDL.out, HDO.out, hrow _ (by simp [Kd.rows]), hrow _ (by simp [Kd.rows]), hrow _ (by simp [Kd.rows]), HOK5.out.live, HOK5.out.size⟩
      have hkpk : ({ kd with sum := D } : Kd).pk = N.says := by
        have e4 := HPK.out
        unfold PN.says
        rw [← e4, ← HDE.out]
        rfl
      have hkf : Fsh w ({ kd with sum := D } : Kd) := fun r hr x hx hR => by have := ((HFX.out r hr).2 x hx hR).1; have := HGX.out; omega
      have hb7 : Below w.heap.size w w7 := HB6.out.trans (HO7.out.below HB6.out.size (fun j e => by have := HGX.out; omega))
      exact ⟨Below.setRow hb7 (by omega) _, Or.inl ⟨HGD.out, _, rfl, hkpk, hkok, hkf⟩⟩
end Go.Proofs.YtfkpgildeddhaaaGreat.Nd

/- node.Say. -/
namespace Go.Proofs.YtfkpgildeddhaaaGreat.Nd
open Go.RowKit Go.Proofs.YtfkpgildeddhaaaGreat.Dk Go.Proofs.YtfkpgildeddhaaaGreat.Pg

set_option maxRecDepth 100000 in
set_option maxHeartbeats 2000000 in
theorem Say_any (kind : Nat) (hkd : kind < 256) (p : Option Addr) (n c : Nat) (q : Option Addr) (m f : Nat) (E : List En) (K : List Kd) (d : Int) (w : World) (hE : EntsIn w p n c E) (hK : KidsIn w q m f K) :
    Calls Tryz.prog 17 #[.agg #[.int .u8 kind, .slice p n c, .slice q m f], .int .i64 d] w (SaySum w (pnOf kind E K) d) := by
  have hb1 : Below w.heap.size w (w.alloc (.cells #[.int .u8 kind, .slice p n c, .slice q m f] 27)) := (Below.refl _ _).alloc (Nat.le_refl _) _
  have hn1 := NodeAt.start w kind p n c q m f
  have z1 : (w.alloc (.cells #[.int .u8 kind, .slice p n c, .slice q m f] 27)).heap.size = w.heap.size + 1 := by simp
  have HKD := Lib.hid hkd
  have HE := Lib.hid hE
  have HK := Lib.hid hK
  obtain ⟨du, hdu, hdr⟩ := UKd
  have HDU := Lib.hid hdu
  have HDR := Lib.hid hdr
  have HZ := Lib.hid (zero_of_info kz)
  clear hkd hE hK hdu hdr
  have hz0 := HZ.out.1
  go_enter Tryz.func17, Tryz.ntmps17
  go_upto_region 1 with fail
  have hb2 : Below (w.heap.size + 1) (w.alloc (.cells #[.int .u8 kind, .slice p n c, .slice q m f] 27)) ((w.alloc (.cells #[.int .u8 kind, .slice p n c, .slice q m f] 27)).alloc (.cells kd0.cells.toArray 43)) := (Below.refl _ _).alloc (by omega) _
  have r2 := heap_alloc_new (w.alloc (.cells #[.int .u8 kind, .slice p n c, .slice q m f] 27)) (.cells kd0.cells.toArray 43)
  rw [z1] at r2
  have HN2 := Lib.hid (hn1.later (by rw [z1]; exact hb2))
  have HB2 := Lib.hid (hb1.trans (hb2.mono (by omega)))
  have HR2 := Lib.hid r2
  clear hb1 hn1 z1 hb2 r2
  generalize (w.alloc (.cells #[.int .u8 kind, .slice p n c, .slice q m f] 27)).alloc (.cells kd0.cells.toArray 43) = w2 at *
  have HSAY := Lib.hid (say_sum kind HKD.out p n c q m f E K d w2 (HE.out.later HB2.out) (HK.out.later HB2.out))
  generalize pnOf kind E K = N at *
  obtain ⟨t0, t1, t2⟩ := HN2.out.cells
  have HS2 := Lib.hid (show w.heap.size + 1 < w2.heap.size from (Array.getElem?_eq_some_iff.1 HR2.out).1)
  by_cases hg : N.right d = true ∧ N.size ≤ 1048576
  · have HG := Lib.hid hg
    clear hg
    go_wp2_with (first
      | (go_at_call 43; refine HSAY.out.mono ?_; rintro e w3 ⟨b3, h3⟩; obtain ⟨kd, rfl, hpk, hok, hfs⟩ := (h3.elim (fun h => h.2) (fun h => absurd HG.out h.1)); have HR3 := Lib.hid ((b3.block _ (Array.getElem?_eq_some_iff.1 HR2.out).1).trans HR2.out); have HB3 := Lib.hid (HB2.out.trans (b3.mono HB2.out.size)); clear b3; have HCL := Lib.hid (Kd.cells_length hok.len); have HPK := Lib.hid hpk; have HOK := Lib.hid hok; have HFS := Lib.hid hfs; clear hpk hok hfs)
      | (refine wpList_store_row (by rfl) 43 _ _ (by rfl) (w.heap.size + 1) kd.cells.toArray (by rfl) (by rfl) _ _ HR3.out (by rw [List.size_toArray, HCL.out]; exact SKd) (by simp only [List.size_toArray, HCL.out, kd0_size]) (all_oneCell_toArray Kd.one) ?_))
    have r9 := setRow_heap _ (w.heap.size + 1) _ kd.cells.toArray _ _ HR3.out
    have hrow : ∀ r ∈ kd.rows, r.Ok (w3.setRow (w.heap.size + 1) kd.cells.toArray) := fun r hr => rw_keep (kd_rows_ok HOK.out r hr) (fun x hx hR => setRow_other _ _ _ _ (by have := HFS.out r hr x hx hR; have := HS2.out; omega))
    refine ret_str2 4 5 (by kernel_rfl) (w.heap.size + 1) _ kd.cells.toArray _ HDU.out HDR.out (by rw [List.size_toArray, HCL.out]; exact SKd) (by rfl) (by rfl) r9 ?_
    have hkok : kd.Ok (w3.setRow (w.heap.size + 1) kd.cells.toArray) := ⟨HOK.out.len, HOK.out.ok, hrow _ (by simp [Kd.rows]), hrow _ (by simp [Kd.rows]), hrow _ (by simp [Kd.rows]), HOK.out.live, HOK.out.size⟩
    have hkf : Fsh w kd := fun r hr x hx hR => by have := HFS.out r hr x hx hR; have := HS2.out; omega
    exact ⟨Below.setRow HB3.out (by omega) _, Or.inl ⟨HG.out, kd, rfl, HPK.out, hkok, hkf⟩⟩
  · have HG := Lib.hid hg
    clear hg
    go_wp2_with (first
      | (go_at_call 43; refine HSAY.out.mono ?_; rintro e w3 ⟨b3, h3⟩; obtain rfl : e = .returned (.tuple #[.agg kd0.cells.toArray, .int .i64 1]) := (h3.elim (fun h => absurd h.1 HG.out) (fun h => h.2)); have HR3 := Lib.hid ((b3.block _ (Array.getElem?_eq_some_iff.1 HR2.out).1).trans HR2.out); have HB3 := Lib.hid (HB2.out.trans (b3.mono HB2.out.size)); clear b3)
      | (refine wpList_store_row (by rfl) 43 _ _ (by rfl) (w.heap.size + 1) kd0.cells.toArray (by rfl) (by rfl) _ _ HR3.out (by rw [List.size_toArray, kd0_size]; exact SKd) rfl (all_oneCell_toArray Kd.one) ?_))
    have r9 := setRow_heap _ (w.heap.size + 1) _ kd0.cells.toArray _ _ HR3.out
    have hb9 : Below (w.heap.size + 1) w3 (w3.setRow (w.heap.size + 1) kd0.cells.toArray) := Below.setRow (Below.refl _ _) (Nat.le_refl _) _
    refine ret_str2 4 5 (by kernel_rfl) (w.heap.size + 1) _ kd0.cells.toArray _ HDU.out HDR.out (by rw [List.size_toArray, kd0_size]; exact SKd) (by rfl) (by rfl) r9 ?_
    exact saysum_bad HG.out (HB3.out.trans (hb9.mono (by omega)))
end Go.Proofs.YtfkpgildeddhaaaGreat.Nd

/- A digest as a key of a map. -/
namespace Go.Proofs.YtfkpgildeddhaaaGreat.Pg
open Go.RowKit

theorem laidOut : laidOutB Tryz.prog = true := by kernel_rfl
/-- Digests are keys. -/
theorem keyD : Go.Maps.Keyed Tryz.prog 37 :=
  Go.Maps.Keyed.of_law (deep_law_laid laidOut (m := 2) (by decide) (of_decide_eq_true (by kernel_rfl)) (by kernel_rfl) (by kernel_rfl))
/-- What a digest reads as, as a key. -/
def klit (d : List Nat) : Lit := .string (keyBytes (d.map fun x : Nat => Lit.int .u8 (x : Int)))
theorem mapM_some {α β : Type} (f : α → Option β) (g : α → β) : ∀ l : List α, (∀ x ∈ l, f x = some (g x)) → l.mapM f = some (l.map g)
  | [], _ => rfl
  | a :: l, h => by
    rw [List.mapM_cons, h a List.mem_cons_self, mapM_some f g l (fun x hx => h x (List.mem_cons_of_mem _ hx))]
    rfl
theorem cells5 : Tryz.prog.cellsOf 5 = 1 := by kernel_rfl
theorem cells32 : Tryz.prog.cellsOf 37 = 32 := by kernel_rfl
theorem lits_u8 (m : Nat) {x : Nat} (hx : x < 256) : Tryz.prog.keyLits (m + 1) 5 [.int .u8 (x : Int)] = some [.int .u8 (x : Int)] := by
  have hw : (Lit.int .u8 (x : Int)).wf = true := by simp [Lit.wf, IntKind.min, IntKind.max, IntKind.bits, IntKind.signed]; omega
  unfold Program.keyLits
  rw [U5]
  simp [hw]
theorem lits_d (m : Nat) {d : List Nat} (hd : d.length = 32) (ho : Sm.allB d) : Tryz.prog.keyLits (m + 2) 37 (vals d) = some (d.map fun x : Nat => Lit.int .u8 (x : Int)) := by
  unfold Program.keyLits
  rw [A25]
  simp only [cells32, cells5, vals_length, hd, if_true, Nat.mul_one]
  rw [mapM_some _ (fun i => [Lit.int .u8 ((d.getD i 0 : Nat) : Int)]) _ (fun i hi => by
    have hi : i < 32 := List.mem_range.1 hi
    have h1 : ((vals d).drop i).take 1 = [.int .u8 ((d.getD i 0 : Nat) : Int)] := by
      rw [List.drop_eq_getElem_cons (by rw [vals_length]; omega), List.take_succ_cons, List.take_zero]
      simp [vals, List.getD_eq_getElem?_getD, hd, hi]
    rw [h1]
    refine lits_u8 m (ho _ ?_)
    rw [List.getD_eq_getElem?_getD, List.getElem?_eq_getElem (by omega), Option.getD_some]
    exact List.getElem_mem _)]
  simp only [Option.map_some, Option.some.injEq]
  rw [← hd]
  clear ho hd
  induction d with
  | nil => rfl
  | cons x d ih => rw [List.length_cons, List.range_succ_eq_map]; simp [List.map_map] at ih ⊢; simpa [Function.comp_def] using ih
theorem klit_of {d : List Nat} (hd : d.length = 32) (ho : Sm.allB d) : keyOf Tryz.prog 37 (.agg (u8s d)) = some (klit d) := by
  have h1 : Tryz.prog.keyType 37 = true := by kernel_rfl
  have h2 : (Value.agg (u8s d)).formed Tryz.prog 37 = true := by simp [Value.formed, cells32, u8s_size, hd]
  have h3 : (Value.agg (u8s d)).cells.toList = vals d := by simp [Value.cells, u8s_toList]
  obtain ⟨m, hm⟩ : ∃ m, Tryz.prog.types.size + 1 = m + 2 := ⟨Tryz.prog.types.size - 1, by have : 0 < Tryz.prog.types.size := of_decide_eq_true (by kernel_rfl); omega⟩
  unfold keyOf
  rw [A25, h3, hm, lits_d m hd ho]
  simp [h1, h2, klit]
theorem klit_inj {a b : List Nat} (ha : a.length = 32) (hao : Sm.allB a) (hb : b.length = 32) (hbo : Sm.allB b) (h : klit a = klit b) : a = b := by
  have h1 := keyD.inj (klit_of ha hao) (h ▸ klit_of hb hbo)
  have h2 : vals a = vals b := by
    have := congrArg (fun v : Value => v.cells.toList) h1
    simpa [Value.cells, u8s_toList] using this
  have h3 : ∀ x y : Nat, Value.int .u8 (x : Int) = Value.int .u8 (y : Int) → x = y := fun x y e => by cases e; rfl
  exact (List.map_inj_right h3).1 h2
theorem klit_key (d : List Nat) : WideAt.IsKeyLit (klit d) := trivial
end Go.Proofs.YtfkpgildeddhaaaGreat.Pg

/- A page in memory. -/
namespace Go.Proofs.YtfkpgildeddhaaaGreat.Pg
open Go.RowKit

/-- A page in memory: its sum, where its text lies, the text. -/
structure Pe where
  d : List Nat
  q : Option Addr
  (m c : Nat)
  b : List Nat
instance : Inhabited Pe := ⟨⟨[], none, 0, 0, []⟩⟩
def Pe.cells (e : Pe) : List Value := vals e.d ++ [.slice e.q e.m e.c]
def flatP (L : List Pe) : List Value := L.flatMap Pe.cells
def pagesOf (L : List Pe) : Pages := L.map fun e => (e.d, e.b)
theorem pagesOf_length (L : List Pe) : (pagesOf L).length = L.length := by simp [pagesOf]
theorem pagesOf_at (L : List Pe) {i : Nat} (h : i < L.length) : (pagesOf L).getD i default = ((L.getD i default).d, (L.getD i default).b) := by
  simp [pagesOf, List.getD_eq_getElem?_getD, h]
theorem cells_length {e : Pe} (h : e.d.length = 32) : e.cells.length = 33 := by simp [Pe.cells, vals_length, h]
theorem flatP_length {L : List Pe} (h : ∀ e ∈ L, e.d.length = 32) : (flatP L).length = 33 * L.length := by
  induction L with
  | nil => rfl
  | cons e L ih =>
    rw [flatP, List.flatMap_cons, List.length_append, cells_length (h e List.mem_cons_self), List.length_cons]
    have := ih (fun x hx => h x (List.mem_cons_of_mem _ hx))
    unfold flatP at this
    omega
theorem flatP_append (L M : List Pe) : flatP (L ++ M) = flatP L ++ flatP M := by simp [flatP]
theorem flatP_one (e : Pe) : flatP [e] = e.cells := by simp [flatP]
theorem flatP_at {L : List Pe} (h : ∀ e ∈ L, e.d.length = 32) {i j : Nat} (hi : i < L.length) (hj : j < 33) : (flatP L)[i * 33 + j]? = (L.getD i default).cells[j]? := by
  induction L generalizing i with
  | nil => simp at hi
  | cons e L ih =>
    have hl := cells_length (h e List.mem_cons_self)
    show (e.cells ++ flatP L)[i * 33 + j]? = _
    cases i with
    | zero =>
      rw [List.getElem?_append_left (by omega), Nat.zero_mul, Nat.zero_add]
      rfl
    | succ i =>
      rw [List.getElem?_append_right (by omega), hl, show (i + 1) * 33 + j - 33 = i * 33 + j from by omega, ih (fun x hx => h x (List.mem_cons_of_mem _ hx)) (by simpa using hi)]
      simp
end Go.Proofs.YtfkpgildeddhaaaGreat.Pg

/- A map of pages, plainly: what it reads as. -/
namespace Go.Proofs.YtfkpgildeddhaaaGreat.Pg
open Go.RowKit

/-- A text's header reads as itself. -/
def sliceR : Value → Option (DataW Value × List MemPlace)
  | .slice p n c => some (.held (.slice p n c), [])
  | _ => none
theorem sliceR_inv {v : Value} {z : DataW Value × List MemPlace} (h : sliceR v = some z) : ∃ p n c, v = .slice p n c ∧ z = (.held (.slice p n c), []) := by
  unfold sliceR at h
  split at h
  · cases h; exact ⟨_, _, _, rfl, rfl⟩
  · cases h
def Pe.hd (e : Pe) : Value := .slice e.q e.m e.c
/-- The datum D has just the pages of L. -/
structure Reads (D : DataW Value) (L : List Pe) : Prop where
  tidy : Go.Maps.Tidy D
  len : ∀ e ∈ L, e.d.length = 32 ∧ Sm.allB e.d
  one : (L.map (·.d)).Nodup
  at' : ∀ e ∈ L, ∀ z, D.atKey (klit e.d) z = .held e.hd
  key : ∀ kl, Go.Maps.has D kl = true → ∃ e ∈ L, kl = klit e.d
  size : Go.Maps.size D = L.length
theorem Reads.nil : Reads (.map []) [] := ⟨Go.Maps.tidy_empty, (fun e he => by cases he), List.nodup_nil, (fun e he => by cases he), (fun kl h => by cases h), rfl⟩
theorem pagesOf_fst (L : List Pe) : (pagesOf L).map (·.1) = L.map (·.d) := by simp [pagesOf, Function.comp_def]
theorem Reads.has_mem {D : DataW Value} {L : List Pe} (h : Reads D L) {d : List Nat} (hd : d.length = 32) (ho : Sm.allB d) : Go.Maps.has D (klit d) = true ↔ d ∈ L.map (·.d) := by
  constructor
  · intro hh
    obtain ⟨e, he, hk⟩ := h.key _ hh
    rw [klit_inj hd ho (h.len e he).1 (h.len e he).2 hk]
    exact List.mem_map_of_mem he
  · intro hm
    obtain ⟨e, he, rfl⟩ := List.mem_map.1 hm
    exact Go.Maps.has_true_of_atKey (h.at' e he)
theorem Reads.has {D : DataW Value} {L : List Pe} (h : Reads D L) {d : List Nat} (hd : d.length = 32) (ho : Sm.allB d) : Go.Maps.has D (klit d) = decide (idx d (pagesOf L) < (pagesOf L).length) := by
  rw [Bool.eq_iff_iff, h.has_mem hd ho, decide_eq_true_iff, idx_mem, pagesOf_fst]
theorem Reads.got {D : DataW Value} {L : List Pe} (h : Reads D L) {d : List Nat} (hi : idx d (pagesOf L) < (pagesOf L).length) : ∃ e ∈ L, e.d = d ∧ (∀ z, D.atKey (klit d) z = .held e.hd) ∧ textAt (pagesOf L) d = some e.b := by
  have h1 : idx d (pagesOf L) < L.length := by rwa [pagesOf_length] at hi
  have h2 := idx_at hi
  rw [pagesOf_at L h1] at h2
  have hm : L.getD (idx d (pagesOf L)) default ∈ L := by
    rw [List.getD_eq_getElem?_getD, List.getElem?_eq_getElem h1]
    exact List.getElem_mem _
  refine ⟨_, hm, h2, ?_, ?_⟩
  · have := h.at' _ hm
    simp only at h2
    rwa [h2] at this
  · rw [textAt_some hi, pagesOf_at L h1]
theorem Reads.put {D : DataW Value} {L : List Pe} (h : Reads D L) {e : Pe} (hd : e.d.length = 32) (ho : Sm.allB e.d) (hn : e.d ∉ L.map (·.d)) : Reads (D.put (klit e.d) (.held e.hd)) (L ++ [e]) := by
  have hno : Go.Maps.has D (klit e.d) = false := by
    rw [← Bool.not_eq_true, h.has_mem hd ho]
    exact hn
  have hne : ∀ x ∈ L, klit x.d ≠ klit e.d := fun x hx he => hn (by rw [← klit_inj (h.len x hx).1 (h.len x hx).2 hd ho he]; exact List.mem_map_of_mem hx)
  refine ⟨h.tidy.put (klit_key _) _, ?_, ?_, ?_, ?_, ?_⟩
  · intro x hx
    rcases List.mem_append.1 hx with hx | hx
    · exact h.len x hx
    · rw [List.mem_singleton.1 hx]; exact ⟨hd, ho⟩
  · rw [List.map_append, List.nodup_append]
    refine ⟨h.one, by simp, fun a ha c hc hac => hn ?_⟩
    simp only [List.map_cons, List.map_nil, List.mem_singleton] at hc
    rw [← hc, ← hac]
    exact ha
  · intro x hx z
    rcases List.mem_append.1 hx with hx | hx
    · rw [Go.Maps.atKey_put_other (hne x hx), h.at' x hx]
    · rw [List.mem_singleton.1 hx, Go.Maps.atKey_put_same h.tidy.isMap (klit_key _)]
  · intro kl hk
    by_cases he : kl = klit e.d
    · exact ⟨e, by simp, he⟩
    · rw [Go.Maps.has_put_other he] at hk
      obtain ⟨x, hx, hxe⟩ := h.key kl hk
      exact ⟨x, List.mem_append_left _ hx, hxe⟩
  · rw [Go.Maps.size_put h.tidy, hno, h.size, List.length_append]
    rfl
/-- One page given up. -/
def but (L : List Pe) (d : List Nat) : List Pe := L.filter fun x => decide (x.d ≠ d)
theorem but_length {L : List Pe} (hn : (L.map (·.d)).Nodup) {e : Pe} (he : e ∈ L) : (but L e.d).length + 1 = L.length := by
  induction L with
  | nil => cases he
  | cons x L ih =>
    rw [List.map_cons, List.nodup_cons] at hn
    rcases List.mem_cons.1 he with rfl | he
    · have : but (e :: L) e.d = L := by
        unfold but
        rw [List.filter_cons_of_neg (by simp), List.filter_eq_self]
        intro y hy
        refine decide_eq_true (fun h => hn.1 ?_)
        rw [← h]
        exact List.mem_map_of_mem (f := (·.d)) hy
      rw [this, List.length_cons]
    · have hx : x.d ≠ e.d := fun h => hn.1 (by rw [h]; exact List.mem_map_of_mem (f := (·.d)) he)
      unfold but at ih ⊢
      rw [List.filter_cons_of_pos (by simpa using hx), List.length_cons, List.length_cons, ih hn.2 he]
theorem Reads.del {D : DataW Value} {L : List Pe} (h : Reads D L) {e : Pe} (he : e ∈ L) : Reads (D.del (klit e.d)) (but L e.d) := by
  have hm : ∀ x, x ∈ but L e.d ↔ x ∈ L ∧ x.d ≠ e.d := fun x => by rw [but, List.mem_filter, decide_eq_true_iff]
  have hne : ∀ x ∈ L, x.d ≠ e.d → klit x.d ≠ klit e.d := fun x hx hxe h2 => hxe (klit_inj (h.len x hx).1 (h.len x hx).2 (h.len e he).1 (h.len e he).2 h2)
  refine ⟨h.tidy.del _, ?_, ?_, ?_, ?_, ?_⟩
  · intro x hx
    exact h.len x ((hm x).1 hx).1
  · exact List.Nodup.sublist (List.Sublist.map _ List.filter_sublist) h.one
  · intro x hx z
    rw [Go.Maps.atKey_del_other (hne x ((hm x).1 hx).1 ((hm x).1 hx).2), h.at' x ((hm x).1 hx).1]
  · intro kl hk
    have hkl : kl ≠ klit e.d := by
      rintro rfl
      rw [Go.Maps.has_del_same] at hk
      cases hk
    rw [Go.Maps.has_del_other hkl] at hk
    obtain ⟨x, hx, rfl⟩ := h.key kl hk
    exact ⟨x, (hm x).2 ⟨hx, fun h2 => hkl (by rw [h2])⟩, rfl⟩
  · have h1 := Go.Maps.size_del (k := klit e.d) h.tidy
    rw [Go.Maps.has_true_of_atKey (h.at' e he), if_pos rfl, h.size] at h1
    have := but_length h.one he
    omega
/-- The key that a range over the map comes to is a page's. -/
theorem Reads.next {D : DataW Value} {L : List Pe} (h : Reads D L) {v : Value} {kl : Lit} (hk : keyOf Tryz.prog 37 v = some kl) {y : DataW Value} (ha : ∀ z, D.atKey kl z = y) : ∃ e ∈ L, v = .agg (u8s e.d) ∧ kl = klit e.d := by
  obtain ⟨e, he, rfl⟩ := h.key kl (Go.Maps.has_true_of_atKey ha)
  exact ⟨e, he, keyD.inj hk (klit_of (h.len e he).1 (h.len e he).2), rfl⟩
theorem sameKey_klit {a b : List Nat} (ha : a.length = 32) (hao : Sm.allB a) (hb : b.length = 32) (hbo : Sm.allB b) : (klit a).sameKey (klit b) = decide (a = b) := by
  by_cases h : a = b
  · subst h
    rw [WideAt.sameKey_self (klit_key _)]
    simp
  · rw [Go.Maps.sameKey_ne (fun e => h (klit_inj ha hao hb hbo e))]
    simp [h]
end Go.Proofs.YtfkpgildeddhaaaGreat.Pg

/- Package page, as it landed: how a store lies in memory. -/
namespace Go.Proofs.YtfkpgildeddhaaaGreat.Pg
open Go.RowKit

/-- A text that a store has: its block is one of Q. -/
structure TQ (Q : Nat → Prop) (w : World) (p : Option Addr) (m c : Nat) (b : List Nat) : Prop where
  tx : Tx w p m c b
  own : ∀ x, p = some x → b ≠ [] → Q x.block
  le : b.length ≤ 100000
theorem TQ.keep {Q : Nat → Prop} {w w' : World} {p : Option Addr} {m c : Nat} {b : List Nat} (h : TQ Q w p m c b) (hk : ∀ k, Q k → w'.heap[k]? = w.heap[k]?) : TQ Q w' p m c b :=
  ⟨Dk.tx_keep h.tx (fun x hx hb => hk _ (h.own x hx hb)), h.own, h.le⟩
theorem TQ.wide {Q Q' : Nat → Prop} {w : World} {p : Option Addr} {m c : Nat} {b : List Nat} (h : TQ Q w p m c b) (hq : ∀ k, Q k → Q' k) : TQ Q' w p m c b := ⟨h.tx, fun x hx hb => hq _ (h.own x hx hb), h.le⟩
/-- The map of the pages L in the block b. -/
structure MapAt (Q : Nat → Prop) (w : World) (b : Nat) (L : List Pe) : Prop where
  mine : Q b
  map : ∃ D, w.ownsMap Tryz.prog 37 sliceR b L.length D ∧ Reads D L
  text : ∀ e ∈ L, TQ Q w e.q e.m e.c e.b
theorem map_keep {w w' : World} {b n : Nat} {D : DataW Value} (h : w.ownsMap Tryz.prog 37 sliceR b n D) (hk : w'.heap[b]? = w.heap[b]?) : w'.ownsMap Tryz.prog 37 sliceR b n D := by
  obtain ⟨es, clock, hb, r⟩ := h
  exact ⟨es, clock, hk.trans hb, r⟩
/-- A map has no more entries than it reads as. -/
theorem map_tight {w : World} {b n : Nat} {D : DataW Value} {L : List Pe} (h : w.ownsMap Tryz.prog 37 sliceR b n D) (hr : Reads D L) : w.ownsMap Tryz.prog 37 sliceR b L.length D := by
  have hs := hr.size
  obtain ⟨es, clock, hb, F, _, rfl⟩ := h
  refine ⟨es, clock, hb, F, ?_, rfl⟩
  rw [← hs]
  simp [Go.Maps.size, length_sorted]
theorem MapAt.keep {Q : Nat → Prop} {w w' : World} {b : Nat} {L : List Pe} (h : MapAt Q w b L) (hk : ∀ k, Q k → w'.heap[k]? = w.heap[k]?) : MapAt Q w' b L := by
  obtain ⟨D, hm, hr⟩ := h.map
  exact ⟨h.mine, ⟨D, map_keep hm (hk _ h.mine), hr⟩, fun e he => (h.text e he).keep hk⟩
theorem MapAt.wide {Q Q' : Nat → Prop} {w : World} {b : Nat} {L : List Pe} (h : MapAt Q w b L) (hq : ∀ k, Q k → Q' k) : MapAt Q' w b L := ⟨hq _ h.mine, h.map, fun e he => (h.text e he).wide hq⟩
/-- Two texts that clash, in the block c. -/
structure PairAt (Q : Nat → Prop) (w : World) (c : Nat) (x y : List Nat) : Prop where
  mine : Q c
  row : ∃ p m k q n l, w.heap[c]? = some (.cells #[.slice p m k, .slice q n l] 109 (0, 0)) ∧ TQ Q w p m k x ∧ TQ Q w q n l y
theorem PairAt.keep {Q : Nat → Prop} {w w' : World} {c : Nat} {x y : List Nat} (h : PairAt Q w c x y) (hk : ∀ k, Q k → w'.heap[k]? = w.heap[k]?) : PairAt Q w' c x y := by
  obtain ⟨p, m, k, q, n, l, h1, h2, h3⟩ := h.row
  exact ⟨h.mine, p, m, k, q, n, l, (hk _ h.mine).trans h1, h2.keep hk, h3.keep hk⟩
theorem PairAt.wide {Q Q' : Nat → Prop} {w : World} {c : Nat} {x y : List Nat} (h : PairAt Q w c x y) (hq : ∀ k, Q k → Q' k) : PairAt Q' w c x y := by
  obtain ⟨p, m, k, q, n, l, h1, h2, h3⟩ := h.row
  exact ⟨hq _ h.mine, p, m, k, q, n, l, h1, h2.wide hq, h3.wide hq⟩
/-- The store's pages: no map as long as nothing was put. -/
def MapsAt (Q : Nat → Prop) (w : World) (mp : Option Nat) (W : Pages) : Prop := (mp = none ∧ W = []) ∨ ∃ b L, mp = some b ∧ pagesOf L = W ∧ MapAt Q w b L
def ClashAt (Q : Nat → Prop) (w : World) (cl : Option Addr) (x : Option (List Nat × List Nat)) : Prop := (cl = none ∧ x = none) ∨ ∃ c a b, cl = some ⟨c, 0, none⟩ ∧ x = some (a, b) ∧ PairAt Q w c a b
theorem MapsAt.keep {Q : Nat → Prop} {w w' : World} {mp : Option Nat} {W : Pages} (h : MapsAt Q w mp W) (hk : ∀ k, Q k → w'.heap[k]? = w.heap[k]?) : MapsAt Q w' mp W :=
  h.imp id fun ⟨b, L, h1, h2, h3⟩ => ⟨b, L, h1, h2, h3.keep hk⟩
theorem MapsAt.wide {Q Q' : Nat → Prop} {w : World} {mp : Option Nat} {W : Pages} (h : MapsAt Q w mp W) (hq : ∀ k, Q k → Q' k) : MapsAt Q' w mp W :=
  h.imp id fun ⟨b, L, h1, h2, h3⟩ => ⟨b, L, h1, h2, h3.wide hq⟩
theorem ClashAt.keep {Q : Nat → Prop} {w w' : World} {cl : Option Addr} {x : Option (List Nat × List Nat)} (h : ClashAt Q w cl x) (hk : ∀ k, Q k → w'.heap[k]? = w.heap[k]?) : ClashAt Q w' cl x :=
  h.imp id fun ⟨c, a, b, h1, h2, h3⟩ => ⟨c, a, b, h1, h2, h3.keep hk⟩
theorem ClashAt.wide {Q Q' : Nat → Prop} {w : World} {cl : Option Addr} {x : Option (List Nat × List Nat)} (h : ClashAt Q w cl x) (hq : ∀ k, Q k → Q' k) : ClashAt Q' w cl x :=
  h.imp id fun ⟨c, a, b, h1, h2, h3⟩ => ⟨c, a, b, h1, h2, h3.wide hq⟩
/-- The store s in the block g: its map, its clash. -/
structure SAt (Q : Nat → Prop) (w : World) (g : Nat) (mp : Option Nat) (cl : Option Addr) (s : S) : Prop where
  row : w.heap[g]? = some (.cells #[.map mp, .pointer cl] 84 (0, 0))
  pages : MapsAt Q w mp s.W
  clash : ClashAt Q w cl s.cl
  mine : Q g
  lt : ∀ k, Q k → k < w.heap.size
  ok : s.ok
def PL (w : World) (g : Nat) (Q : Nat → Prop) (s : S) : Prop := ∃ mp cl, SAt Q w g mp cl s
section
variable {Q Q' X : Nat → Prop} {w w' : World} {g : Nat} {mp : Option Nat} {cl : Option Addr} {s : S}
theorem SAt.c0 (h : SAt Q w g mp cl s) : w.cell? ⟨g, 0, none⟩ = some (.map mp) := (cell_of_row w g 0 _ _ _ h.row).trans rfl
theorem SAt.c1 (h : SAt Q w g mp cl s) : w.cell? ⟨g, 1, none⟩ = some (.pointer cl) := (cell_of_row w g 1 _ _ _ h.row).trans rfl
theorem SAt.keep (h : SAt Q w g mp cl s) (hs : w.heap.size ≤ w'.heap.size) (hk : ∀ k, Q k → w'.heap[k]? = w.heap[k]?) : SAt Q w' g mp cl s :=
  ⟨(hk _ h.mine).trans h.row, h.pages.keep hk, h.clash.keep hk, h.mine, fun k hq => Nat.lt_of_lt_of_le (h.lt k hq) hs, h.ok⟩
theorem SAt.later (h : SAt Q w g mp cl s) (hb : Below w.heap.size w w') : SAt Q w' g mp cl s := h.keep hb.size (fun k hq => hb.block k (h.lt k hq))
theorem SAt.only (h : SAt Q w g mp cl s) (ho : Dk.Only X w w') (hx : ∀ k, Q k → ¬ X k) : SAt Q w' g mp cl s := h.keep ho.size (fun k hq => ho.block k (h.lt k hq) (hx k hq))
theorem PL.okay (h : PL w g Q s) : s.ok := by obtain ⟨_, _, h⟩ := h; exact h.ok
theorem PL.lt (h : PL w g Q s) : ∀ k, Q k → k < w.heap.size := by obtain ⟨_, _, h⟩ := h; exact h.lt
theorem PL.keep (X : Nat → Prop) (h : PL w g Q s) (ho : Dk.Only X w w') (hx : ∀ k, Q k → ¬ X k) : PL w' g Q s := by
  obtain ⟨mp, cl, h⟩ := h
  exact ⟨mp, cl, h.only ho hx⟩
/-- A text's block is no store's, and no map's. -/
theorem text_not_row {p : Option Addr} {m c : Nat} {b : List Nat} (h : Tx w p m c b) {x : Addr} (hx : p = some x) (hb : b ≠ []) {k : Nat} {a1 : Option Nat} {a2 : Option Addr} {t : TypeId} {fr : Nat × Nat} (hk : w.heap[k]? = some (.cells #[.map a1, .pointer a2] t fr)) : x.block ≠ k := by
  rintro rfl
  obtain ⟨g, o, hp, hc⟩ := h.bytes.ne hb
  rw [hx] at hp
  cases hp
  have h1 := hc 0 (List.length_pos_iff.2 hb)
  rw [Nat.add_zero, cell_of_row w g o _ _ _ hk] at h1
  rcases o with _ | _ | o <;> simp at h1
theorem text_not_map {p : Option Addr} {m c : Nat} {b : List Nat} (h : Tx w p m c b) {x : Addr} (hx : p = some x) (hb : b ≠ []) {k : Nat} {es : Array MapEntry} {cl : Nat} (hk : w.heap[k]? = some (.map es cl)) : x.block ≠ k := by
  rintro rfl
  obtain ⟨g, o, hp, hc⟩ := h.bytes.ne hb
  rw [hx] at hp
  cases hp
  have h1 := hc 0 (List.length_pos_iff.2 hb)
  simp [World.cell?, hk] at h1
/-- A text, with one block turned that isn't its own. -/
theorem TQ.turn {k : Nat} {p : Option Addr} {m c : Nat} {b : List Nat} (h : TQ Q w p m c b) (ho : Dk.Only (fun j => j = k) w w') (hne : ∀ x, p = some x → b ≠ [] → x.block ≠ k) : TQ Q w' p m c b :=
  ⟨Dk.tx_keep h.tx (fun x hx hb => ho.block _ (by
    obtain ⟨g', o', hp, hc⟩ := h.tx.bytes.ne hb
    rw [hx] at hp
    cases hp
    exact block_lt_of_cell (hc 0 (List.length_pos_iff.2 hb))) (hne x hx hb)), h.own, h.le⟩
theorem PairAt.turn_map {k c : Nat} {x y : List Nat} {es : Array MapEntry} {ck : Nat} (h : PairAt Q w c x y) (hk : w.heap[k]? = some (.map es ck)) (ho : Dk.Only (fun j => j = k) w w') : PairAt Q w' c x y := by
  obtain ⟨p, m, l, q, n, d, h1, h2, h3⟩ := h.row
  have hc : c < w.heap.size := (Array.getElem?_eq_some_iff.1 h1).1
  refine ⟨h.mine, p, m, l, q, n, d, (ho.block c hc (fun e => ?_)).trans h1, h2.turn ho (fun z hz hb => text_not_map h2.tx hz hb hk), h3.turn ho (fun z hz hb => text_not_map h3.tx hz hb hk)⟩
  rw [e, hk] at h1
  cases h1
theorem PairAt.turn_row {k c : Nat} {x y : List Nat} {a1 : Option Nat} {a2 : Option Addr} {t : TypeId} {fr : Nat × Nat} (h : PairAt Q w c x y) (hk : w.heap[k]? = some (.cells #[.map a1, .pointer a2] t fr)) (ho : Dk.Only (fun j => j = k) w w') : PairAt Q w' c x y := by
  obtain ⟨p, m, l, q, n, d, h1, h2, h3⟩ := h.row
  have hc : c < w.heap.size := (Array.getElem?_eq_some_iff.1 h1).1
  refine ⟨h.mine, p, m, l, q, n, d, (ho.block c hc (fun e => ?_)).trans h1, h2.turn ho (fun z hz hb => text_not_row h2.tx hz hb hk), h3.turn ho (fun z hz hb => text_not_row h3.tx hz hb hk)⟩
  rw [e, hk] at h1
  simp at h1
theorem ClashAt.turn_map {k : Nat} {es : Array MapEntry} {ck : Nat} {cx : Option (List Nat × List Nat)} (h : ClashAt Q w cl cx) (hk : w.heap[k]? = some (.map es ck)) (ho : Dk.Only (fun j => j = k) w w') : ClashAt Q w' cl cx :=
  h.imp id fun ⟨c, a, b, h1, h2, h3⟩ => ⟨c, a, b, h1, h2, h3.turn_map hk ho⟩
theorem ClashAt.turn_row {k : Nat} {a1 : Option Nat} {a2 : Option Addr} {t : TypeId} {fr : Nat × Nat} {cx : Option (List Nat × List Nat)} (h : ClashAt Q w cl cx) (hk : w.heap[k]? = some (.cells #[.map a1, .pointer a2] t fr)) (ho : Dk.Only (fun j => j = k) w w') : ClashAt Q w' cl cx :=
  h.imp id fun ⟨c, a, b, h1, h2, h3⟩ => ⟨c, a, b, h1, h2, h3.turn_row hk ho⟩
theorem MapAt.turn_row {k b : Nat} {L : List Pe} {a1 : Option Nat} {a2 : Option Addr} {t : TypeId} {fr : Nat × Nat} (h : MapAt Q w b L) (hk : w.heap[k]? = some (.cells #[.map a1, .pointer a2] t fr)) (ho : Dk.Only (fun j => j = k) w w') : MapAt Q w' b L := by
  obtain ⟨D, hm, hr⟩ := h.map
  refine ⟨h.mine, ⟨D, map_keep hm (ho.block b hm.lt (fun e => ?_)), hr⟩, fun e he => (h.text e he).turn ho (fun z hz hb => text_not_row (h.text e he).tx hz hb hk)⟩
  obtain ⟨es, ck, h1, _⟩ := hm
  rw [e, hk] at h1
  cases h1
theorem MapsAt.turn_row {k : Nat} {a1 : Option Nat} {a2 : Option Addr} {t : TypeId} {fr : Nat × Nat} {W : Pages} (h : MapsAt Q w mp W) (hk : w.heap[k]? = some (.cells #[.map a1, .pointer a2] t fr)) (ho : Dk.Only (fun j => j = k) w w') : MapsAt Q w' mp W :=
  h.imp id fun ⟨b, L, h1, h2, h3⟩ => ⟨b, L, h1, h2, h3.turn_row hk ho⟩
end
end Go.Proofs.YtfkpgildeddhaaaGreat.Pg

/- Package page, as it landed: New. -/
namespace Go.Proofs.YtfkpgildeddhaaaGreat.Pg
open Go.RowKit

theorem UST : Tryz.prog.underlying 81 = some (.map 37 22) := by kernel_rfl
theorem SAt.made (w : World) : SAt (fun k => k = w.heap.size) (w.alloc (.cells #[.map none, .pointer none] 84)) w.heap.size none none ⟨[], none⟩ :=
  ⟨heap_alloc_new w _, Or.inl ⟨rfl, rfl⟩, Or.inl ⟨rfl, rfl⟩, rfl, (fun k hk => by subst hk; simp), S.new_ok⟩
set_option maxRecDepth 100000 in
set_option maxHeartbeats 1000000 in
theorem new_any (w : World) : Calls Tryz.prog 20 #[] w fun e w' => ∃ g Q, e = .returned (.pointer (some ⟨g, 0, none⟩)) ∧ PL w' g Q ⟨[], none⟩ ∧ (∀ k, Q k → w.heap.size ≤ k) ∧ Below w.heap.size w w' := by
  have hm := SAt.made w
  have hb := (Below.refl w.heap.size w).alloc (Nat.le_refl _) (.cells #[.map none, .pointer none] 84)
  go_enter Tryz.func20, Tryz.ntmps20
  go_wp2_with fail
  go_ret
  exact ⟨_, _, rfl, ⟨_, _, hm⟩, (fun k hk => by omega), hb⟩
end Go.Proofs.YtfkpgildeddhaaaGreat.Pg

/- Package page, as it landed: a look-up. -/
namespace Go.Proofs.YtfkpgildeddhaaaGreat.Pg
open Go.RowKit

theorem zeroTx (w : World) : (zeroValue 22).run Tryz.prog w = .ok (.slice none 0 0) w := by kernel_rfl
/-- 'b, ok := s.pages[d]'. -/
theorem look_any {Q : Nat → Prop} {w : World} {mp : Option Nat} {W : Pages} (h : MapsAt Q w mp W) {d : List Nat} (hd : d.length = 32) (ho : Sm.allB d) :
    ∃ p m c, (∀ w', w'.heap = w.heap → (Instr.lookup 81 (.map mp) (.agg (u8s d)) true).run Tryz.prog w' = .ok (.tuple #[.slice p m c, .bool (decide (idx d W < W.length))]) w') ∧
      (textAt W d = none → p = none ∧ m = 0 ∧ c = 0) ∧ ∀ t, textAt W d = some t → TQ Q w p m c t := by
  rcases h with ⟨rfl, rfl⟩ | ⟨b, L, rfl, rfl, hM⟩
  · refine ⟨none, 0, 0, fun w' _ => ?_, fun _ => ⟨rfl, rfl, rfl⟩, fun t ht => by simp [textAt] at ht⟩
    have := Go.Maps.look_nil (w := w') true keyD UST (zeroTx w') (klit_of hd ho)
    simpa using this
  · obtain ⟨D, hm, hr⟩ := hM.map
    have hh := hr.has hd ho
    by_cases hi : idx d (pagesOf L) < (pagesOf L).length
    · obtain ⟨e, he, hed, ha, ht⟩ := hr.got hi
      refine ⟨e.q, e.m, e.c, fun w' hw => ?_, fun h0 => (by rw [ht] at h0; cases h0), fun t h0 => ?_⟩
      · obtain ⟨v, ps, hrun, hv⟩ := (map_keep (w' := w') hm (by rw [hw])).look_ok keyD UST (zeroTx w') (zd := .held (.slice none 0 0)) rfl (klit_of hd ho)
        rw [ha] at hv
        obtain ⟨p, m, c, rfl, hz⟩ := sliceR_inv hv
        have h1 : DataW.held e.hd = DataW.held (.slice p m c) := congrArg Prod.fst hz
        have h2 : e.hd = .slice p m c := DataW.held.inj h1
        rw [hrun, hh, ← h2]
        rfl
      · rw [ht] at h0
        cases h0
        exact hM.text e he
    · refine ⟨none, 0, 0, fun w' hw => ?_, fun _ => ⟨rfl, rfl, rfl⟩, fun t h0 => (by rw [textAt_none hi] at h0; cases h0)⟩
      obtain ⟨v, ps, hrun, hv⟩ := (map_keep (w' := w') hm (by rw [hw])).look_ok keyD UST (zeroTx w') (zd := .held (.slice none 0 0)) rfl (klit_of hd ho)
      rw [Go.Maps.atKey_of_not_has (by rw [hh]; exact decide_eq_false hi)] at hv
      obtain ⟨p, m, c, rfl, hz⟩ := sliceR_inv hv
      have h1 : DataW.held (Value.slice none 0 0) = DataW.held (.slice p m c) := congrArg Prod.fst hz
      have h2 : Value.slice none 0 0 = .slice p m c := DataW.held.inj h1
      rw [hrun, hh, ← h2]
theorem op_look {ρ : Operand → Value} {o : Oper} {m x : Operand} {w : World} {mp : Option Nat} {d : List Nat} {u : Value} (ho : o.op = .lookup 81 m x true) (hm : ρ m = .map mp) (hx : ρ x = .agg (u8s d))
    (hr : (Instr.lookup 81 (.map mp) (.agg (u8s d)) true).run Tryz.prog w = .ok u w) : (execOp ρ o).run Tryz.prog w = .ok (.value u) w := by
  unfold execOp
  simp only [ho, hm, hx, hr, Sem.run_bind, Sem.run_pure, Result.andThen_ok]
end Go.Proofs.YtfkpgildeddhaaaGreat.Pg

/- bytes.Clone. -/
namespace Go.Proofs.YtfkpgildeddhaaaGreat.Pg
open Go.RowKit

set_option maxRecDepth 100000 in
set_option maxHeartbeats 1000000 in
theorem bclone_any {w : World} {p : Option Addr} {n c : Nat} {B : List Nat} (h : Tx w p n c B) (hn : n ≤ 100000) :
    Calls Tryz.prog 49 #[.slice p n c] w fun e w' => ∃ q d, e = .returned (.slice q n d) ∧ w'.ownsRow w.heap.size 5 1 (.slice q n d) n (vals B) ∧ Below w.heap.size w w' := by
  cases p with
  | none =>
    have hc : c = 0 := by
      rcases h.at' with ⟨_, h0⟩ | ⟨y, hy, _⟩
      · exact h0
      · cases hy
    have hm0 : n = 0 := by have := h.le; omega
    have hb : B = [] := List.eq_nil_of_length_eq_zero (by have := h.size; omega)
    subst hc hm0 hb
    have qn : ∀ w', (binOp .eql 22 (.slice none 0 0) (.slice none 0 0)).run Tryz.prog w' = .ok (.bool true) w' := fun w' => Go.Lib.run_eql_slice_nil w' _ _ _ _ _ _ _ A22
    clear h
    go_enter Tryz.func49, Tryz.ntmps49
    go_wp2_with fail
    go_ret
    exact ⟨none, 0, rfl, World.ownsRow_nil _ _ _ _, Below.refl _ _⟩
  | some ad =>
    have qn : ∀ w', (binOp .eql 22 (.slice (some ad) n c) (.slice none 0 0)).run Tryz.prog w' = .ok (.bool false) w' := fun w' => Go.Lib.run_eql_slice_nil w' _ _ _ _ _ _ _ A22
    obtain ⟨i5, hi, hi0, hi1, hi2⟩ := info_parts I5
    have HI := Lib.hid hi
    have HI0 := Lib.hid hi0
    have HI1 := Lib.hid hi1
    have HI2 := Lib.hid hi2
    clear hi hi0 hi1 hi2
    have hba := (Below.refl w.heap.size w).alloc (Nat.le_refl _) (.cells #[] 5)
    have B15 := Lib.hid hba
    have O15 := Lib.hid (show (w.alloc (.cells #[] 5)).ownsRow w.heap.size 5 1 (.slice (some ⟨w.heap.size, 0, none⟩) 0 0) 0 [] from owns_mk (L := []) (cap := 0) (n := 0) (heap_alloc_new w (.cells (u8s []) 5)) rfl (Nat.le_refl _) (Nat.zero_le _) (Nat.le_refl _))
    have HNW := Lib.hid ((h.later hba).cells)
    have HL := Lib.hid (show (vals B).length = n * 1 from by rw [vals_length, ← h.size, Nat.mul_one])
    clear hba h
    go_enter Tryz.func49, Tryz.ntmps49
    go_wp2_with ((at_builtin; (refine wpList_append_own_at _ (by rfl) (.tmp 5) (.tmp 6) 22 (by rfl) w.heap.size 5 i5 (.int .u8 0) 1 1 A22 HI.out HI0.out HI1.out HI2.out (by rfl) (by decide) _ 0 [] (by rfl) O15.out ad n c (vals B) (by rfl) HL.out HNW.out (vals_one _) (by unfold maxLen; omega) (by omega) B15.out.size ?_); intro v7 w7 hown7 hgrow7 _ _; have O7 := Lib.hid hown7; have G7 := Lib.hid hgrow7; clear hown7 hgrow7))
    have hb7 : Below w.heap.size w w7 := B15.out.grown G7.out B15.out.size (fun k hk => (O15.out.lt k hk).1)
    have ho := O7.out
    rw [Nat.zero_add, List.nil_append] at ho
    obtain ⟨q7, c7, rfl⟩ : ∃ q7 c7, v7 = .slice q7 n c7 := by
      rcases ho.2 with ⟨h1, h2⟩ | ⟨gb, cap, cur, h1, _⟩
      · exact ⟨none, 0, by rw [h1, h2]⟩
      · exact ⟨_, _, h1⟩
    go_ret
    exact ⟨q7, c7, rfl, ho, hb7⟩
end Go.Proofs.YtfkpgildeddhaaaGreat.Pg

/- Package page, as it landed: Get. -/
namespace Go.Proofs.YtfkpgildeddhaaaGreat.Pg
open Go.RowKit

theorem textAt_lt {W : Pages} {d t : List Nat} (h : textAt W d = some t) : idx d W < W.length := by
  unfold textAt at h
  split at h
  · assumption
  · cases h
theorem textAt_ge {W : Pages} {d : List Nat} (h : textAt W d = none) : ¬ idx d W < W.length := by
  unfold textAt at h
  split at h
  · cases h
  · assumption
set_option maxRecDepth 100000 in
set_option maxHeartbeats 1000000 in
theorem get_any {w : World} {g : Nat} {Q : Nat → Prop} {s : S} (t d : List Nat) (h : PL w g Q s) (hd : d.length = 32) (ho : Sm.allB d) (ht : textAt s.W d = some t) :
    Calls Tryz.prog 48 #[.pointer (some ⟨g, 0, none⟩), .agg (u8s d)] w fun e w' => ∃ q c, e = .returned (.tuple #[.slice q t.length c, .int .i64 0]) ∧ w'.ownsRow w.heap.size 5 1 (.slice q t.length c) t.length (vals t) ∧ Below w.heap.size w w' := by
  obtain ⟨mp, cl, h⟩ := h
  have hb := (Below.refl w.heap.size w).alloc (Nat.le_refl _) (.cells (u8s d) 37)
  obtain ⟨pp, mm, cc, hl, -, hq⟩ := look_any (h.later hb).pages hd ho
  rw [decide_eq_true (textAt_lt ht)] at hl
  have hT := hq t ht
  obtain rfl : mm = t.length := hT.tx.size
  have HB := Lib.hid hb
  have R1 := Lib.hid (heap_alloc_new w (.cells (u8s d) 37))
  have C0 := Lib.hid (h.later hb).c0
  have HL := Lib.hid hl
  have HD := Lib.hid hd
  have HT := Lib.hid hT
  clear h hb hl hd hq hT ht
  go_enter Tryz.func48, Tryz.ntmps48
  go_wp2_with fail
  generalize w.alloc (.cells (u8s d) 37) = w1 at *
  generalize hbk : w.heap.size = bk at *
  go_upto_region 1 with fail
  refine wp_region_held_drew (S := fun w' => w'.heap = w1.heap) (by kernel_rfl) rfl (fun hHeld => ?_)
  refine wpAnyH_take (i := 0) (oi := ⟨some 9, .move (.tmp 0), _, _, _, _⟩) (v := ?_) rfl (by kernel_rfl) (by kernel_rfl) (by kernel_rfl) (fun _ _ _ h => h) (Or.inl ⟨by rfl, ?_⟩) (by assumption) ?_
  rotate_left
  · intro w' hSw
    go_simp
    try with_reducible rfl
  try simp only [Act.put, List.setIfInBounds_toArray, List.set_cons_zero, List.set_cons_succ]
  refine wpAnyH_take (i := 1) (oi := ⟨some 10, .nilCheck (.tmp 9), _, _, _, _⟩) (v := ?_) rfl (by kernel_rfl) (by kernel_rfl) (by kernel_rfl) (fun _ _ _ h => h) (Or.inl ⟨by rfl, ?_⟩) (by assumption) ?_
  rotate_left
  · intro w' hSw
    go_simp
    try with_reducible rfl
  try simp only [Act.put, List.setIfInBounds_toArray, List.set_cons_zero, List.set_cons_succ]
  refine wpAnyH_take (i := 2) (oi := ⟨some 11, .fieldAddr 84 (.tmp 10) 0, _, _, _, _⟩) (v := ?_) rfl (by kernel_rfl) (by kernel_rfl) (by kernel_rfl) (fun _ _ _ h => h) (Or.inl ⟨by rfl, ?_⟩) (by assumption) ?_
  rotate_left
  · intro w' hSw
    go_simp
    try with_reducible rfl
  try simp only [Act.put, List.setIfInBounds_toArray, List.set_cons_zero, List.set_cons_succ]
  refine wpAnyH_take (i := 3) (oi := ⟨some 12, .load 81 (.tmp 11), _, _, _, _⟩) (v := ?_) rfl (by kernel_rfl) (by kernel_rfl) (by kernel_rfl) (fun _ _ _ h => h) (Or.inl ⟨by rfl, ?_⟩) (by assumption) ?_
  rotate_left
  · intro w' hSw
    have c0 := (World.cell?_of_block (w := w1) (a := ⟨g, 0, none⟩) (by rw [hSw])).trans C0.out
    go_simp
    try with_reducible rfl
  try simp only [Act.put, List.setIfInBounds_toArray, List.set_cons_zero, List.set_cons_succ]
  refine wpAnyH_take (i := 4) (oi := ⟨some 13, .load 37 (.tmp 3), _, _, _, _⟩) (v := ?_) rfl (by kernel_rfl) (by kernel_rfl) (by kernel_rfl) (fun _ _ _ h => h) (Or.inl ⟨by rfl, ?_⟩) (by assumption) ?_
  rotate_left
  · intro w' hSw
    refine Eq.trans (b := Result.ok (Next.value (.agg (u8s d))) w') ?_ ?_
    · exact op_load_dig (by rfl) (by rfl) HD.out (range_of_row' ((congrArg (fun h => h[bk]?) hSw).trans R1.out))
    · with_reducible rfl
  try simp only [Act.put, List.setIfInBounds_toArray, List.set_cons_zero, List.set_cons_succ]
  refine wpAnyH_take (i := 5) (oi := ⟨some 14, .lookup 81 (.tmp 12) (.tmp 13) true, _, _, _, _⟩) (v := ?_) rfl (by kernel_rfl) (by kernel_rfl) (by kernel_rfl) (fun _ _ _ h => h) (Or.inl ⟨by rfl, ?_⟩) (by assumption) ?_
  rotate_left
  · intro w' hSw
    refine Eq.trans (b := Result.ok (Next.value (.tuple #[.slice pp t.length cc, .bool true])) w') ?_ ?_
    · exact op_look (by rfl) (by rfl) (by rfl) (HL.out w' hSw)
    · with_reducible rfl
  try simp only [Act.put, List.setIfInBounds_toArray, List.set_cons_zero, List.set_cons_succ]
  refine wpAnyH_take (i := 6) (oi := ⟨some 8, .move (.tmp 14), _, _, _, _⟩) (v := ?_) rfl (by kernel_rfl) (by kernel_rfl) (by kernel_rfl) (fun _ _ _ h => h) (Or.inl ⟨by rfl, ?_⟩) (by assumption) ?_
  rotate_left
  · intro w' hSw
    go_simp
    try with_reducible rfl
  try simp only [Act.put, List.setIfInBounds_toArray, List.set_cons_zero, List.set_cons_succ]
  refine wpAnyH_take (i := 7) (oi := ⟨some 15, .extract (.tmp 8) 0, _, _, _, _⟩) (v := ?_) rfl (by kernel_rfl) (by kernel_rfl) (by kernel_rfl) (fun _ _ _ h => h) (Or.inl ⟨by rfl, ?_⟩) (by assumption) ?_
  rotate_left
  · intro w' hSw
    go_simp
    try with_reducible rfl
  try simp only [Act.put, List.setIfInBounds_toArray, List.set_cons_zero, List.set_cons_succ]
  refine wpAnyH_take (i := 8) (oi := ⟨some 16, .extract (.tmp 8) 1, _, _, _, _⟩) (v := ?_) rfl (by kernel_rfl) (by kernel_rfl) (by kernel_rfl) (fun _ _ _ h => h) (Or.inl ⟨by rfl, ?_⟩) (by assumption) ?_
  rotate_left
  · intro w' hSw
    go_simp
    try with_reducible rfl
  try simp only [Act.put, List.setIfInBounds_toArray, List.set_cons_zero, List.set_cons_succ]
  refine wpAnyH_take (i := 9) (oi := ⟨some 6, .assign (.tmp 15), _, _, _, _⟩) (v := ?_) rfl (by kernel_rfl) (by kernel_rfl) (by kernel_rfl) (fun _ _ _ h => h) (Or.inl ⟨by rfl, ?_⟩) (by assumption) ?_
  rotate_left
  · intro w' hSw
    go_simp
    try with_reducible rfl
  try simp only [Act.put, List.setIfInBounds_toArray, List.set_cons_zero, List.set_cons_succ]
  refine wpAnyH_take (i := 10) (oi := ⟨some 7, .assign (.tmp 16), _, _, _, _⟩) (v := ?_) rfl (by kernel_rfl) (by kernel_rfl) (by kernel_rfl) (fun _ _ _ h => h) (Or.inl ⟨by rfl, ?_⟩) (by assumption) ?_
  rotate_left
  · intro w' hSw
    go_simp
    try with_reducible rfl
  try simp only [Act.put, List.setIfInBounds_toArray, List.set_cons_zero, List.set_cons_succ]
  refine wpAnyH_done (by kernel_rfl) ?_ _
  have HB2 := Lib.hid (HB.out.drew)
  have T2 := Lib.hid (HT.out.tx.later (Below.refl _ _).drew)
  have HN := HT.out.le
  clear hHeld
  generalize w1.drew = w2 at *
  go_wp2_with (go_at_call 49; with_reducible refine (bclone_any T2.out ?hx).mono ?_; (case hx => exact HN); rintro _ w3 ⟨q3, c3, rfl, o3, b3⟩)
  go_ret2
  rw [hbk]
  have hsz : bk ≤ w2.heap.size := by rw [← hbk]; exact HB2.out.size
  refine ⟨q3, c3, rfl, ⟨o3.1, ?_⟩, HB2.out.trans (b3.mono hsz)⟩
  rcases o3.2 with h3 | ⟨ga, ca, cu, h4, h5, h6⟩
  · exact Or.inl h3
  · exact Or.inr ⟨ga, ca, cu, h4, Nat.le_trans hsz h5, h6⟩
set_option maxRecDepth 100000 in
set_option maxHeartbeats 1000000 in
theorem get_none {w : World} {g : Nat} {Q : Nat → Prop} {s : S} (d : List Nat) (h : PL w g Q s) (hd : d.length = 32) (ho : Sm.allB d) (ht : textAt s.W d = none) :
    Calls Tryz.prog 48 #[.pointer (some ⟨g, 0, none⟩), .agg (u8s d)] w fun e w' => ∃ q c, e = .returned (.tuple #[.slice q 0 c, .int .i64 9]) ∧ Below w.heap.size w w' := by
  obtain ⟨mp, cl, h⟩ := h
  have hb := (Below.refl w.heap.size w).alloc (Nat.le_refl _) (.cells (u8s d) 37)
  obtain ⟨pp, mm, cc, hl, -, -⟩ := look_any (h.later hb).pages hd ho
  rw [decide_eq_false (textAt_ge ht)] at hl
  have HB := Lib.hid hb
  have R1 := Lib.hid (heap_alloc_new w (.cells (u8s d) 37))
  have C0 := Lib.hid (h.later hb).c0
  have HL := Lib.hid hl
  have HD := Lib.hid hd
  clear h hb hl hd ht
  go_enter Tryz.func48, Tryz.ntmps48
  go_wp2_with fail
  generalize w.alloc (.cells (u8s d) 37) = w1 at *
  generalize hbk : w.heap.size = bk at *
  go_upto_region 1 with fail
  refine wp_region_held_drew (S := fun w' => w'.heap = w1.heap) (by kernel_rfl) rfl (fun hHeld => ?_)
  refine wpAnyH_take (i := 0) (oi := ⟨some 9, .move (.tmp 0), _, _, _, _⟩) (v := ?_) rfl (by kernel_rfl) (by kernel_rfl) (by kernel_rfl) (fun _ _ _ h => h) (Or.inl ⟨by rfl, ?_⟩) (by assumption) ?_
  rotate_left
  · intro w' hSw
    go_simp
    try with_reducible rfl
  try simp only [Act.put, List.setIfInBounds_toArray, List.set_cons_zero, List.set_cons_succ]
  refine wpAnyH_take (i := 1) (oi := ⟨some 10, .nilCheck (.tmp 9), _, _, _, _⟩) (v := ?_) rfl (by kernel_rfl) (by kernel_rfl) (by kernel_rfl) (fun _ _ _ h => h) (Or.inl ⟨by rfl, ?_⟩) (by assumption) ?_
  rotate_left
  · intro w' hSw
    go_simp
    try with_reducible rfl
  try simp only [Act.put, List.setIfInBounds_toArray, List.set_cons_zero, List.set_cons_succ]
  refine wpAnyH_take (i := 2) (oi := ⟨some 11, .fieldAddr 84 (.tmp 10) 0, _, _, _, _⟩) (v := ?_) rfl (by kernel_rfl) (by kernel_rfl) (by kernel_rfl) (fun _ _ _ h => h) (Or.inl ⟨by rfl, ?_⟩) (by assumption) ?_
  rotate_left
  · intro w' hSw
    go_simp
    try with_reducible rfl
  try simp only [Act.put, List.setIfInBounds_toArray, List.set_cons_zero, List.set_cons_succ]
  refine wpAnyH_take (i := 3) (oi := ⟨some 12, .load 81 (.tmp 11), _, _, _, _⟩) (v := ?_) rfl (by kernel_rfl) (by kernel_rfl) (by kernel_rfl) (fun _ _ _ h => h) (Or.inl ⟨by rfl, ?_⟩) (by assumption) ?_
  rotate_left
  · intro w' hSw
    have c0 := (World.cell?_of_block (w := w1) (a := ⟨g, 0, none⟩) (by rw [hSw])).trans C0.out
    go_simp
    try with_reducible rfl
  try simp only [Act.put, List.setIfInBounds_toArray, List.set_cons_zero, List.set_cons_succ]
  refine wpAnyH_take (i := 4) (oi := ⟨some 13, .load 37 (.tmp 3), _, _, _, _⟩) (v := ?_) rfl (by kernel_rfl) (by kernel_rfl) (by kernel_rfl) (fun _ _ _ h => h) (Or.inl ⟨by rfl, ?_⟩) (by assumption) ?_
  rotate_left
  · intro w' hSw
    refine Eq.trans (b := Result.ok (Next.value (.agg (u8s d))) w') ?_ ?_
    · exact op_load_dig (by rfl) (by rfl) HD.out (range_of_row' ((congrArg (fun h => h[bk]?) hSw).trans R1.out))
    · with_reducible rfl
  try simp only [Act.put, List.setIfInBounds_toArray, List.set_cons_zero, List.set_cons_succ]
  refine wpAnyH_take (i := 5) (oi := ⟨some 14, .lookup 81 (.tmp 12) (.tmp 13) true, _, _, _, _⟩) (v := ?_) rfl (by kernel_rfl) (by kernel_rfl) (by kernel_rfl) (fun _ _ _ h => h) (Or.inl ⟨by rfl, ?_⟩) (by assumption) ?_
  rotate_left
  · intro w' hSw
    refine Eq.trans (b := Result.ok (Next.value (.tuple #[.slice pp mm cc, .bool false])) w') ?_ ?_
    · exact op_look (by rfl) (by rfl) (by rfl) (HL.out w' hSw)
    · with_reducible rfl
  try simp only [Act.put, List.setIfInBounds_toArray, List.set_cons_zero, List.set_cons_succ]
  refine wpAnyH_take (i := 6) (oi := ⟨some 8, .move (.tmp 14), _, _, _, _⟩) (v := ?_) rfl (by kernel_rfl) (by kernel_rfl) (by kernel_rfl) (fun _ _ _ h => h) (Or.inl ⟨by rfl, ?_⟩) (by assumption) ?_
  rotate_left
  · intro w' hSw
    go_simp
    try with_reducible rfl
  try simp only [Act.put, List.setIfInBounds_toArray, List.set_cons_zero, List.set_cons_succ]
  refine wpAnyH_take (i := 7) (oi := ⟨some 15, .extract (.tmp 8) 0, _, _, _, _⟩) (v := ?_) rfl (by kernel_rfl) (by kernel_rfl) (by kernel_rfl) (fun _ _ _ h => h) (Or.inl ⟨by rfl, ?_⟩) (by assumption) ?_
  rotate_left
  · intro w' hSw
    go_simp
    try with_reducible rfl
  try simp only [Act.put, List.setIfInBounds_toArray, List.set_cons_zero, List.set_cons_succ]
  refine wpAnyH_take (i := 8) (oi := ⟨some 16, .extract (.tmp 8) 1, _, _, _, _⟩) (v := ?_) rfl (by kernel_rfl) (by kernel_rfl) (by kernel_rfl) (fun _ _ _ h => h) (Or.inl ⟨by rfl, ?_⟩) (by assumption) ?_
  rotate_left
  · intro w' hSw
    go_simp
    try with_reducible rfl
  try simp only [Act.put, List.setIfInBounds_toArray, List.set_cons_zero, List.set_cons_succ]
  refine wpAnyH_take (i := 9) (oi := ⟨some 6, .assign (.tmp 15), _, _, _, _⟩) (v := ?_) rfl (by kernel_rfl) (by kernel_rfl) (by kernel_rfl) (fun _ _ _ h => h) (Or.inl ⟨by rfl, ?_⟩) (by assumption) ?_
  rotate_left
  · intro w' hSw
    go_simp
    try with_reducible rfl
  try simp only [Act.put, List.setIfInBounds_toArray, List.set_cons_zero, List.set_cons_succ]
  refine wpAnyH_take (i := 10) (oi := ⟨some 7, .assign (.tmp 16), _, _, _, _⟩) (v := ?_) rfl (by kernel_rfl) (by kernel_rfl) (by kernel_rfl) (fun _ _ _ h => h) (Or.inl ⟨by rfl, ?_⟩) (by assumption) ?_
  rotate_left
  · intro w' hSw
    go_simp
    try with_reducible rfl
  try simp only [Act.put, List.setIfInBounds_toArray, List.set_cons_zero, List.set_cons_succ]
  refine wpAnyH_done (by kernel_rfl) ?_ _
  go_wp2_with fail
  go_ret2
  exact ⟨none, 0, rfl, by rw [hbk]; exact HB.out.drew⟩
end Go.Proofs.YtfkpgildeddhaaaGreat.Pg

/- node.Get, where the page is there and says what the kid says. -/
namespace Go.Proofs.YtfkpgildeddhaaaGreat.Nd
open Go.RowKit Go.Proofs.YtfkpgildeddhaaaGreat.Dk Go.Proofs.YtfkpgildeddhaaaGreat.Pg

theorem kd_same (k : Kd) : (⟨k.sum, k.lo, k.hi, k.live, k.size, k.key⟩ : Kd) = k := rfl
set_option maxRecDepth 100000 in
set_option maxHeartbeats 4000000 in
theorem Get_good {g : Nat} {Q : Nat → Prop} {s : Pg.S} (k : Kd) (d : Int) (t : List Nat) (w : World) (hp : PL w g Q s) (hk : k.Ok w) (ht : textAt s.W k.sum = some t) (hto : Sm.allB t) (htl : t.length ≤ 100000) (hgood : (rdN 8 t).good d) (hz : (rdN 8 t).node.size ≤ 1048576) (hsay : (rdN 8 t).node.says = k.pk) :
    Calls Tryz.prog 22 #[.pointer (some ⟨g, 0, none⟩), .agg k.cells.toArray, .int .i64 d] w fun e w' => Below w.heap.size w w' ∧ ∃ kind p n c q m f E K, e = .returned (.tuple #[.agg #[.int .u8 (kind : Nat), .slice p n c, .slice q m f], .int .i64 0]) ∧ EntsIn w' p n c E ∧ KidsIn w' q m f K ∧ pnOf kind E K = (rdN 8 t).node := by
  have hb1 : Below w.heap.size w (w.alloc (.cells k.cells.toArray 43)) := (Below.refl _ _).alloc (Nat.le_refl _) _
  have r1 := heap_alloc_new w (.cells k.cells.toArray 43)
  have z1 : (w.alloc (.cells k.cells.toArray 43)).heap.size = w.heap.size + 1 := by simp
  have hb2 : Below (w.heap.size + 1) (w.alloc (.cells k.cells.toArray 43)) ((w.alloc (.cells k.cells.toArray 43)).alloc (.cells #[.int .u8 0, .slice none 0 0, .slice none 0 0] 27)) := (Below.refl _ _).alloc (by omega) _
  have r2 := heap_alloc_new (w.alloc (.cells k.cells.toArray 43)) (.cells #[.int .u8 0, .slice none 0 0, .slice none 0 0] 27)
  rw [z1] at r2
  have HR1 := Lib.hid ((hb2.block _ (by omega)).trans r1)
  have HR2 := Lib.hid r2
  have HB2 := Lib.hid (hb1.trans (hb2.mono (by omega)))
  have HP := Lib.hid hp
  have HSL := Lib.hid hk.len
  have HSO := Lib.hid hk.ok
  have HKO := Lib.hid hk
  have HT := Lib.hid ht
  have HTO := Lib.hid hto
  have HTL := Lib.hid htl
  have HGD := Lib.hid hgood
  have HZZ := Lib.hid (show (rdN 8 t).node.right d = true ∧ (rdN 8 t).node.size ≤ 1048576 from ⟨hgood.2.2, hz⟩)
  have HSY := Lib.hid hsay
  obtain ⟨N, hN⟩ : ∃ N, (rdN 8 t).node = N := ⟨_, rfl⟩
  rw [hN] at HZZ HSY ⊢
  have HNN := Lib.hid hN
  clear hN
  obtain ⟨du, hdu, hdr⟩ := UKd
  have HDU := Lib.hid hdu
  have HDR := Lib.hid hdr
  obtain ⟨dn, hdn, hdnr⟩ := UNo
  have HDN := Lib.hid hdn
  have HDNR := Lib.hid hdnr
  have HZ := Lib.hid (zero_of_info kz)
  clear hb1 r1 z1 hb2 r2 hp hk ht hto htl hgood hz hsay hdu hdr hdn hdnr
  have hz0 := HZ.out.1
  go_enter Tryz.func22, Tryz.ntmps22
  go_upto_region 1 with fail
  generalize (w.alloc (.cells k.cells.toArray 43)).alloc (.cells #[.int .u8 0, .slice none 0 0, .slice none 0 0] 27) = w2 at *
  have K2 := Lib.hid (kat_row HR1.out HSL.out)
  have HPL2 := Lib.hid (HP.out.keep (fun _ => False) (Only.of_below _ HB2.out) (fun _ _ e => e))
  have HGET := Lib.hid (get_any t k.sum HPL2.out HSL.out HSO.out HT.out)
  clear HP HPL2
  go_upto_region 4 with (first
    | (refine wpList_load_mid (by rfl) 37 _ (by rfl) _ 0 (by rfl) (vals k.sum) _ K2.out.sum A25 (by rfl) (by rw [vals_length, HSL.out]; exact S25) ?_; rw [vals_toArray])
    | (go_at_call 48; refine HGET.out.mono ?_; rintro e w3 ⟨q3, c3, rfl, o3, b3⟩; have HT3 := Lib.hid (tx_of_owns o3 HTO.out); have HR13 := Lib.hid ((b3.block _ (Array.getElem?_eq_some_iff.1 HR1.out).1).trans HR1.out); have HR23 := Lib.hid ((b3.block _ (Array.getElem?_eq_some_iff.1 HR2.out).1).trans HR2.out); have HB3 := Lib.hid (HB2.out.trans (b3.mono HB2.out.size)); clear o3 b3))
  have HDEC := Lib.hid (decode_any t q3 t.length c3 d w3 HT3.out (by have := HTL.out; omega))
  clear K2 HGET HR1 HR2 HB2
  go_upto_region 7 with (go_at_call 6; refine HDEC.out.mono ?_; rintro e w4 ⟨b4, h4⟩; obtain ⟨kind, p, n, c, q, m, f, E, K, rfl, hfr, hpn, hk256⟩ := (h4.elim (fun h => h.2) (fun h => absurd HGD.out h.1)); rw [HNN.out] at hpn; have HFR := Lib.hid hfr; have HPN := Lib.hid hpn; have HK256 := Lib.hid hk256; have HR14 := Lib.hid ((b4.block _ (Array.getElem?_eq_some_iff.1 HR13.out).1).trans HR13.out); have HR24 := Lib.hid ((b4.block _ (Array.getElem?_eq_some_iff.1 HR23.out).1).trans HR23.out); have HB4 := Lib.hid (HB3.out.trans (b4.mono HB3.out.size)); have HS4 := Lib.hid b4.size; have HLT3 := Lib.hid (show w.heap.size + 1 < w3.heap.size from (Array.getElem?_eq_some_iff.1 HR23.out).1); clear b4 h4 hfr hpn hk256)
  have hba : Below w4.heap.size w4 (w4.alloc (.cells #[.int .u8 (kind : Nat), .slice p n c, .slice q m f] 27)) := (Below.refl _ _).alloc (Nat.le_refl _) _
  have HN5 := Lib.hid (NodeAt.start w4 kind p n c q m f)
  have HR15 := Lib.hid ((hba.block _ (Array.getElem?_eq_some_iff.1 HR14.out).1).trans HR14.out)
  have HR25 := Lib.hid ((hba.block _ (Array.getElem?_eq_some_iff.1 HR24.out).1).trans HR24.out)
  have HB5 := Lib.hid (HB4.out.trans (hba.mono HB4.out.size))
  have HE5 := Lib.hid (HFR.out (w4.alloc (.cells #[.int .u8 (kind : Nat), .slice p n c, .slice q m f] 27)) (fun j _ hj => hba.block j hj))
  have HW5 := Lib.hid (show ∀ j, j < w4.heap.size → (w4.alloc (.cells #[.int .u8 (kind : Nat), .slice p n c, .slice q m f] 27)).heap[j]? = w4.heap[j]? from fun j hj => hba.block j hj)
  have hs5 : w4.heap.size < (w4.alloc (.cells #[.int .u8 (kind : Nat), .slice p n c, .slice q m f] 27)).heap.size := by simp
  have HS5 := Lib.hid hs5
  generalize w4.alloc (.cells #[.int .u8 (kind : Nat), .slice p n c, .slice q m f] 27) = w5 at *
  clear hba hs5 HR14 HR24 HR13 HR23 HB4 HT3 HDEC HB3
  obtain ⟨t0, t1, t2⟩ := HN5.out.cells
  have hsay := Say_any kind HK256.out p n c q m f E K d w5 HE5.out.1 HE5.out.2
  rw [HPN.out] at hsay
  have HSAY := Lib.hid hsay
  clear hsay
  go_upto_region 8 with (first
    | (go_at_call 17; refine HSAY.out.mono ?_; rintro e w6 ⟨b6, h6⟩; obtain ⟨kd, rfl, hpk, hok, -⟩ := (h6.elim (fun h => h.2) (fun h => absurd HZZ.out h.1)); have HPK := Lib.hid hpk; have HOK := Lib.hid hok; have HCL := Lib.hid (Kd.cells_length hok.len); have HN6 := Lib.hid (HN5.out.later b6); have HR16 := Lib.hid ((b6.block _ (Array.getElem?_eq_some_iff.1 HR15.out).1).trans HR15.out); have HR26 := Lib.hid ((b6.block _ (Array.getElem?_eq_some_iff.1 HR25.out).1).trans HR25.out); have HB6 := Lib.hid (HB5.out.trans (b6.mono HB5.out.size)); have HW6 := Lib.hid (show w5.heap.size ≤ w6.heap.size ∧ ∀ j, j < w5.heap.size → w6.heap[j]? = w5.heap[j]? from ⟨b6.size, fun j hj => b6.block j hj⟩); clear b6 h6 hpk hok)
    | (refine wpList_store_row (by rfl) 43 (.tmp 11) (.tmp 35) (by rfl) w6.heap.size kd.cells.toArray (by rfl) (by rfl) _ _ (heap_alloc_new w6 _) (by rw [List.size_toArray, HCL.out]; exact SKd) (by simp only [List.size_toArray, HCL.out, kd0_size]) (all_oneCell_toArray Kd.one) ?_; rw [setRow_alloc]))
  have hba : Below w6.heap.size w6 (w6.alloc (.cells kd.cells.toArray 43)) := (Below.refl _ _).alloc (Nat.le_refl _) _
  have hrx := heap_alloc_new w6 (.cells kd.cells.toArray 43)
  have HN7 := Lib.hid (HN6.out.later hba)
  have HR17 := Lib.hid (range_kd ((hba.block _ (Array.getElem?_eq_some_iff.1 HR16.out).1).trans HR16.out))
  have HRX := Lib.hid (range_kd hrx)
  have HR27 := Lib.hid ((hba.block _ (Array.getElem?_eq_some_iff.1 HR26.out).1).trans HR26.out)
  have HB7 := Lib.hid (HB6.out.trans (hba.mono HB6.out.size))
  have HOK7 := Lib.hid (HOK.out.later hba)
  have HKO7 := Lib.hid (HKO.out.later HB7.out)
  have HW7 := Lib.hid (show w6.heap.size ≤ (w6.alloc (.cells kd.cells.toArray 43)).heap.size ∧ ∀ j, j < w6.heap.size → (w6.alloc (.cells kd.cells.toArray 43)).heap[j]? = w6.heap[j]? from ⟨hba.size, fun j hj => hba.block j hj⟩)
  generalize w6.alloc (.cells kd.cells.toArray 43) = w7 at *
  generalize w6.heap.size = g6 at *
  have HCK := Lib.hid (Kd.cells_length HSL.out)
  have HSM := Lib.hid (decide_eq_true (show kd.pk = k.pk from by rw [HPK.out, HSY.out]))
  clear hba hrx HN6 HR16 HR26 HB6 HOK HB5 HR15 HR25 HN5 HSAY t0 t1 t2 hz0
  go_upto_region 10 with (first
    | (refine wpList_load_midG (by rfl) 43 _ (by rfl) g6 0 (by rfl) kd.cells du HRX.out HDU.out HDR.out (by rw [HCL.out]; exact SKd) ?_)
    | (refine wpList_load_midG (by rfl) 43 _ (by rfl) w.heap.size 0 (by rfl) k.cells du HR17.out HDU.out HDR.out (by rw [HCK.out]; exact SKd) ?_)
    | (go_at_call 13; refine (nsame_any kd k w7 HOK7.out HKO7.out).mono ?_; rintro e w8 ⟨rfl, b8⟩; rw [HSM.out]; have HN8 := Lib.hid (HN7.out.later b8); have HR28 := Lib.hid ((b8.block _ (Array.getElem?_eq_some_iff.1 HR27.out).1).trans HR27.out); have HB8 := Lib.hid (HB7.out.trans (b8.mono HB7.out.size)); have HW8 := Lib.hid (show w7.heap.size ≤ w8.heap.size ∧ ∀ j, j < w7.heap.size → w8.heap[j]? = w7.heap[j]? from ⟨b8.size, fun j hj => b8.block j hj⟩); clear b8))
  obtain ⟨t0, t1, t2⟩ := HN8.out.cells
  have a0 := cell_of_row w8 (w.heap.size + 1) 0 _ _ _ HR28.out
  have a1 := cell_of_row w8 (w.heap.size + 1) 1 _ _ _ HR28.out
  have a2 := cell_of_row w8 (w.heap.size + 1) 2 _ _ _ HR28.out
  have f0 := frozen_of_row w8 (w.heap.size + 1) 0 _ _ HR28.out
  have f1 := frozen_of_row w8 (w.heap.size + 1) 1 _ _ HR28.out
  have f2 := frozen_of_row w8 (w.heap.size + 1) 2 _ _ HR28.out
  go_wp2_with fail
  obtain ⟨r1, r2⟩ := res_set (a' := .int .u8 (kind : Nat)) (b' := .slice p n c) (c' := .slice q m f) HR28.out
  have hfin := HFR.out _ (fun j hj hj4 => by
    have h5 := HS5.out
    have h6 := HW6.out.1
    have h7 := HW7.out.1
    have h8 := HW8.out.1
    have h3 := HLT3.out
    rw [r2.block j (by omega) (by omega), HW8.out.2 j (by omega), HW7.out.2 j (by omega), HW6.out.2 j (by omega)]
    exact HW5.out j hj4)
  exact ret_str2 6 7 (by kernel_rfl) (w.heap.size + 1) _ #[.int .u8 (kind : Nat), .slice p n c, .slice q m f] _ HDN.out HDNR.out SNo (by rfl) (by rfl) r1 ⟨HB8.out.trans (r2.below HB8.out.size (fun j e => by omega)), kind, p, n, c, q, m, f, E, K, rfl, hfin.1, hfin.2, HPN.out⟩
end Go.Proofs.YtfkpgildeddhaaaGreat.Nd

/- Package page, as it landed: add. -/
namespace Go.Proofs.YtfkpgildeddhaaaGreat.Pg
open Go.RowKit

theorem only_turned {w w' : World} {b : Nat} (h : w.mapTurned w' b) : Dk.Only (fun j => j = b) w w' := by
  have hg := h.grown
  exact ⟨hg.os, hg.tape, hg.output, hg.size, fun k hk hn => hg.block k hk (fun e => hn (Option.some.inj e))⟩
theorem wp_mapStore {w : World} {o : Oper} {a : Act} {K : Act → World → Prop} {Q : Exit → Act → World → Prop} (m x v : Operand) (ho : o.op = .mapUpdate 81 m x v) {b n : Nat} {D : DataW Value} (hm : a.eval m = .map (some b))
    (hown : w.ownsMap Tryz.prog 37 sliceR b n D) (hn : n < maxLen) {d : List Nat} {p : Option Addr} {l c : Nat} (hx : a.eval x = .agg (u8s d)) (hv : a.eval v = .slice p l c) (hd : d.length = 32) (hdo : Sm.allB d)
    (h : ∀ w', w'.ownsMap Tryz.prog 37 sliceR b (n + 1) (D.put (klit d) (.held (.slice p l c))) → w.mapTurned w' b → K (a.put o.dst undef) w') : o.wp Tryz.prog a w K Q := by
  obtain ⟨w', hrun, r1, r2⟩ := hown.store keyD UST hn (klit_of hd hdo) (val := .slice p l c) rfl
  unfold Oper.wp
  simp [execOp, ho, hm, hx, hv, hrun, Result.andThen]
  exact h w' r1 r2
theorem run_eql_map_nil (mp : Option Nat) (w : World) : (binOp .eql 81 (.map mp) (.map none)).run Tryz.prog w = .ok (.bool mp.isNone) w := by
  cases mp <;> kernel_rfl
section
variable {Q QX : Nat → Prop} {w w' : World} {g b : Nat} {cl : Option Addr} {s : S} {L : List Pe} {D : DataW Value} {e : Pe}
theorem SAt.stored (h : SAt Q w g (some b) cl s) (hM : MapAt Q w b L) (hW : pagesOf L = s.W) (hr : Reads D L) (hown : w.ownsMap Tryz.prog 37 sliceR b L.length D)
    (hown' : w'.ownsMap Tryz.prog 37 sliceR b (L.length + 1) (D.put (klit e.d) (.held e.hd))) (ho : Dk.Only (fun j => j = b) w w') (hd : e.d.length = 32) (hdo : Sm.allB e.d) (hn : e.d ∉ L.map (·.d))
    (ht : TQ QX w e.q e.m e.c e.b) (hlt : ∀ k, QX k → k < w.heap.size) (hok : S.ok ⟨s.W ++ [(e.d, e.b)], s.cl⟩) : SAt (fun k => Q k ∨ QX k) w' g (some b) cl ⟨s.W ++ [(e.d, e.b)], s.cl⟩ := by
  obtain ⟨es, ck, hb, -⟩ := hown
  have hg : g < w.heap.size := h.lt g h.mine
  refine ⟨(ho.block g hg (fun e => ?_)).trans h.row, Or.inr ⟨b, L ++ [e], rfl, by rw [← hW]; simp [pagesOf], ⟨Or.inl hM.mine, ⟨_, ?_, hr.put hd hdo hn⟩, fun x hx => ?_⟩⟩, (h.clash.turn_map hb ho).wide (fun _ k => Or.inl k), Or.inl h.mine, fun k hk => ?_, hok⟩
  · have := h.row
    rw [e, hb] at this
    cases this
  · rw [List.length_append]
    exact hown'
  · rcases List.mem_append.1 hx with hx | hx
    · exact ((hM.text x hx).turn ho (fun z hz hz' => text_not_map (hM.text x hx).tx hz hz' hb)).wide (fun _ k => Or.inl k)
    · rw [List.mem_singleton.1 hx]
      exact (ht.turn ho (fun z hz hz' => text_not_map ht.tx hz hz' hb)).wide (fun _ k => Or.inr k)
  · exact Nat.lt_of_lt_of_le (hk.elim (h.lt k) (hlt k)) ho.size
theorem SAt.f0 {mp : Option Nat} (h : SAt Q w g mp cl s) : w.frozen? ⟨g, 0, none⟩ = false := frozen_of_row w g 0 _ _ h.row
/-- The map is made. -/
theorem SAt.mapped (h : SAt Q w g none cl s) : s.W = [] ∧ SAt (fun k => Q k ∨ k = w.heap.size) ((w.alloc (.map #[] 0)).setCell ⟨g, 0, none⟩ (.map (some w.heap.size))) g (some w.heap.size) cl s ∧
    MapAt (fun k => Q k ∨ k = w.heap.size) ((w.alloc (.map #[] 0)).setCell ⟨g, 0, none⟩ (.map (some w.heap.size))) w.heap.size [] ∧
    ((w.alloc (.map #[] 0)).setCell ⟨g, 0, none⟩ (.map (some w.heap.size))).ownsMap Tryz.prog 37 sliceR w.heap.size 0 (.map []) ∧
    Dk.Only (fun j => j = g) w ((w.alloc (.map #[] 0)).setCell ⟨g, 0, none⟩ (.map (some w.heap.size))) := by
  have hg : g < w.heap.size := h.lt g h.mine
  have hW : s.W = [] := by
    rcases h.pages with ⟨_, h1⟩ | ⟨b, L, h1, _⟩
    · exact h1
    · cases h1
  have hb := (Below.refl w.heap.size w).alloc (Nat.le_refl _) (.map #[] 0)
  have h1 := h.later hb
  have hset := Dk.Only.setCell (P := fun j => j = g) (w.alloc (.map #[] 0)) (a := ⟨g, 0, none⟩) rfl (.map (some w.heap.size))
  have hsz := hset.size
  rw [World.size_alloc] at hsz
  have hrow := heap_setCell_same (w.alloc (.map #[] 0)) g 0 _ _ (.map (some w.heap.size)) h1.row
  have hown := map_keep (World.ownsMap_made w Tryz.prog 37 sliceR) (hset.block w.heap.size (by simp) (by omega))
  have hM : MapAt (fun k => Q k ∨ k = w.heap.size) ((w.alloc (.map #[] 0)).setCell ⟨g, 0, none⟩ (.map (some w.heap.size))) w.heap.size [] := ⟨Or.inr rfl, ⟨_, hown, Reads.nil⟩, fun e he => by cases he⟩
  refine ⟨hW, ⟨hrow, Or.inr ⟨_, _, rfl, by rw [hW]; rfl, hM⟩, ?_, Or.inl h.mine, ?_, h.ok⟩, hM, hown, (Dk.Only.of_below _ hb).trans hset⟩
  · exact (h1.clash.turn_row h1.row hset).wide (fun _ k => Or.inl k)
  · intro k hk
    rcases hk with hk | rfl
    · have := h.lt k hk; omega
    · omega
end
theorem only_old {P Q : Nat → Prop} {w w' : World} (h : Dk.Only P w w') (hp : ∀ k, P k → Q k ∨ w.heap.size ≤ k) : Dk.Only Q w w' :=
  ⟨h.os, h.tape, h.output, h.size, fun k hk hn => h.block k hk (fun e => (hp k e).elim hn (fun h2 => absurd hk (Nat.not_lt.2 h2)))⟩
/-- What add leaves. -/
def AddPost (Q QX : Nat → Prop) (w : World) (g : Nat) (cl : Option Addr) (s : S) (d b : List Nat) (w' : World) : Prop :=
  (∃ mp', SAt (fun k => Q k ∨ QX k ∨ w.heap.size ≤ k ∧ k < w'.heap.size) w' g mp' cl ⟨s.W ++ [(d, b)], s.cl⟩) ∧ Dk.Only Q w w'
theorem SAt.wide {Q Q' : Nat → Prop} {w : World} {g : Nat} {mp : Option Nat} {cl : Option Addr} {s : S} (h : SAt Q w g mp cl s) (hq : ∀ k, Q k → Q' k) (hl : ∀ k, Q' k → k < w.heap.size) : SAt Q' w g mp cl s :=
  ⟨h.row, h.pages.wide hq, h.clash.wide hq, hq _ h.mine, hl, h.ok⟩
set_option maxRecDepth 100000 in
set_option maxHeartbeats 1000000 in
theorem add_any {Q QX : Nat → Prop} {w : World} {g : Nat} {mp : Option Nat} {cl : Option Addr} {s : S} (h : SAt Q w g mp cl s) {d b : List Nat} (hd : d.length = 32) (hdo : Sm.allB d) (hn : ¬ idx d s.W < s.W.length) {q : Option Addr} {m c : Nat} (ht : TQ QX w q m c b)
    (hlt : ∀ k, QX k → k < w.heap.size) (hok : S.ok ⟨s.W ++ [(d, b)], s.cl⟩) (hsm : s.W.length < 100000) :
    Calls Tryz.prog 72 #[.pointer (some ⟨g, 0, none⟩), .agg (u8s d), .slice q m c] w fun e w' => e = .returned (.tuple #[]) ∧ AddPost Q QX w g cl s d b w' := by
  have hb0 := (Below.refl w.heap.size w).alloc (Nat.le_refl _) (.cells (u8s d) 37)
  have h1 := h.later hb0
  have HB := Lib.hid hb0
  have R1 := Lib.hid (heap_alloc_new w (.cells (u8s d) 37))
  have HD := Lib.hid hd
  have HT := Lib.hid (TQ.keep (w' := w.alloc (.cells (u8s d) 37)) ht (fun k hk => hb0.block k (hlt k hk)))
  have HGB := Lib.hid (show g < w.heap.size from h.lt g h.mine)
  have HLT := Lib.hid hlt
  have HQL := Lib.hid h.lt
  have HOK := Lib.hid hok
  have HQG := Lib.hid h.mine
  clear hb0 hd ht hlt hok
  cases mp with
  | some bm =>
    obtain ⟨L, hW, hM⟩ : ∃ L, pagesOf L = s.W ∧ MapAt Q (w.alloc (.cells (u8s d) 37)) bm L := by
      rcases h1.pages with ⟨h2, _⟩ | ⟨b', L, h2, h3, h4⟩
      · cases h2
      · cases h2; exact ⟨L, h3, h4⟩
    obtain ⟨D, hown, hr⟩ := hM.map
    have hln : L.length < 100000 := by rw [← hW, pagesOf_length] at hsm; exact hsm
    have HN := Lib.hid (show d ∉ L.map (·.d) from fun hm => hn (by rw [idx_mem, ← hW, pagesOf_fst]; exact hm))
    have C0 := Lib.hid h1.c0
    have c0 := h1.c0
    have H1 := Lib.hid h1
    have HM := Lib.hid hM
    have HW := Lib.hid hW
    have HR := Lib.hid hr
    have HO := Lib.hid hown
    clear h h1 hM hW hr hown hn
    have qn := fun w' => run_eql_map_nil (some bm) w'
    simp only [Option.isNone_some] at qn
    go_enter Tryz.func72, Tryz.ntmps72
    go_wp2_with fail
    generalize w.alloc (.cells (u8s d) 37) = w1 at *
    generalize hbk : w.heap.size = bk at *
    go_upto_region 3 with fail
    refine wp_region_held_drew (S := fun w' => w'.cell? ⟨g, 0, none⟩ = some (.map (some bm)) ∧ w'.heap[bk]? = some (.cells (u8s d) 37 (0, 0))) (by kernel_rfl) ⟨C0.out, R1.out⟩ (fun hHeld => ?_)
    refine wpAnyH_take (i := 0) (oi := ⟨some 15, .move (.tmp 0), _, _, _, _⟩) (v := ?_) rfl (by kernel_rfl) (by kernel_rfl) (by kernel_rfl) (fun _ _ _ h => h) (Or.inl ⟨by rfl, ?_⟩) (by assumption) ?_
    rotate_left
    · intro w' hSw
      go_simp
      try with_reducible rfl
    try simp only [Act.put, List.setIfInBounds_toArray, List.set_cons_zero, List.set_cons_succ]
    refine wpAnyH_take (i := 1) (oi := ⟨some 16, .nilCheck (.tmp 15), _, _, _, _⟩) (v := ?_) rfl (by kernel_rfl) (by kernel_rfl) (by kernel_rfl) (fun _ _ _ h => h) (Or.inl ⟨by rfl, ?_⟩) (by assumption) ?_
    rotate_left
    · intro w' hSw
      go_simp
      try with_reducible rfl
    try simp only [Act.put, List.setIfInBounds_toArray, List.set_cons_zero, List.set_cons_succ]
    refine wpAnyH_take (i := 2) (oi := ⟨some 17, .fieldAddr 84 (.tmp 16) 0, _, _, _, _⟩) (v := ?_) rfl (by kernel_rfl) (by kernel_rfl) (by kernel_rfl) (fun _ _ _ h => h) (Or.inl ⟨by rfl, ?_⟩) (by assumption) ?_
    rotate_left
    · intro w' hSw
      go_simp
      try with_reducible rfl
    try simp only [Act.put, List.setIfInBounds_toArray, List.set_cons_zero, List.set_cons_succ]
    refine wpAnyH_take (i := 3) (oi := ⟨some 18, .load 81 (.tmp 17), _, _, _, _⟩) (v := ?_) rfl (by kernel_rfl) (by kernel_rfl) (by kernel_rfl) (fun _ _ _ h => h) (Or.inl ⟨by rfl, ?_⟩) (by assumption) ?_
    rotate_left
    · intro w' hSw
      have c0 := hSw.1
      go_simp
      try with_reducible rfl
    try simp only [Act.put, List.setIfInBounds_toArray, List.set_cons_zero, List.set_cons_succ]
    refine wpAnyH_take (i := 4) (oi := ⟨some 19, .load 37 (.tmp 4), _, _, _, _⟩) (v := ?_) rfl (by kernel_rfl) (by kernel_rfl) (by kernel_rfl) (fun _ _ _ h => h) (Or.inl ⟨by rfl, ?_⟩) (by assumption) ?_
    rotate_left
    · intro w' hSw
      refine Eq.trans (b := Result.ok (Next.value (.agg (u8s d))) w') ?_ ?_
      · exact op_load_dig (by rfl) (by rfl) HD.out (range_of_row' hSw.2)
      · with_reducible rfl
    try simp only [Act.put, List.setIfInBounds_toArray, List.set_cons_zero, List.set_cons_succ]
    refine wpAnyH_take (i := 5) (oi := ⟨some 20, .move (.tmp 2), _, _, _, _⟩) (v := ?_) rfl (by kernel_rfl) (by kernel_rfl) (by kernel_rfl) (fun _ _ _ h => h) (Or.inl ⟨by rfl, ?_⟩) (by assumption) ?_
    rotate_left
    · intro w' hSw
      go_simp
      try with_reducible rfl
    try simp only [Act.put, List.setIfInBounds_toArray, List.set_cons_zero, List.set_cons_succ]
    refine wpAnyH_ready (rs := [6]) (by kernel_rfl) (by simp) ?_
    refine AllReadyH.cons (o := ⟨none, .mapUpdate 81 (.tmp 18) (.tmp 19) (.tmp 20), _, _, _, _⟩) rfl (fun K hK => ?_) AllReadyH.nil
    refine wp_mapStore (.tmp 18) (.tmp 19) (.tmp 20) (by rfl) (by rfl) HO.out (by unfold maxLen; omega) (by rfl) (by rfl) HD.out hdo (fun w3 hown3 hturn3 => ?_)
    have hot := only_turned hturn3
    have O3 := Lib.hid (show Dk.Only (fun j => j = bm) w1 w3 from ⟨hot.os, hot.tape, hot.output, hot.size, hot.block⟩)
    clear hot
    have HO3 := Lib.hid hown3
    obtain ⟨es0, ck0, hb0, -⟩ := HO.out
    have S3 : w3.cell? ⟨g, 0, none⟩ = some (.map (some bm)) ∧ w3.heap[bk]? = some (.cells (u8s d) 37 (0, 0)) := by
      have hgr := H1.out.row
      have e1 : g ≠ bm := fun e => by rw [e, hb0] at hgr; cases hgr
      have e2 : bk ≠ bm := fun e => by have h := R1.out; rw [e, hb0] at h; cases h
      exact ⟨(World.cell?_of_block (w := w1) (a := ⟨g, 0, none⟩) (O3.out.block g (Array.getElem?_eq_some_iff.1 hgr).1 e1)).trans C0.out, (O3.out.block bk (Array.getElem?_eq_some_iff.1 R1.out).1 e2).trans R1.out⟩
    clear hown3 hturn3 hb0
    refine hK.out _ _ S3 (fun hHeld => ?_)
    clear hK K
    try simp only [Act.put]
    refine wpAnyH_done (by kernel_rfl) ?_ _
    go_wp2_with fail
    go_end0
    have SS := H1.out.stored (e := ⟨d, q, m, c, b⟩) HM.out HW.out HR.out HO.out HO3.out O3.out HD.out hdo HN.out HT.out (fun k hk => Nat.lt_of_lt_of_le (HLT.out k hk) (hbk ▸ HB.out.size)) HOK.out
    have hz3 := O3.out.size
    exact ⟨rfl, ⟨_, SS.wide (fun k hk => hk.elim Or.inl (fun e => Or.inr (Or.inl e))) (fun k hk => by
      have h0 := HB.out.size
      rcases hk with hk | hk | hk
      · have := HQL.out k hk; omega
      · have := HLT.out k hk; omega
      · exact hk.2)⟩, ((Dk.Only.of_below _ (by rw [hbk]; exact HB.out)).trans (O3.out.mono (fun k e => by rw [e]; exact HM.out.mine)))⟩
  | none =>
    have hbg : (w.alloc (.cells (u8s d) 37)).heap.size = w.heap.size + 1 := by simp
    obtain ⟨hW, h2, hM, hown, ho2⟩ := h1.mapped
    have hN : d ∉ ([] : List Pe).map (·.d) := by simp
    have c0 := h1.c0
    have cA := (h1.later ((Below.refl _ _).alloc (Nat.le_refl _) (.map #[] 0))).c0
    have fA := (h1.later ((Below.refl _ _).alloc (Nat.le_refl _) (.map #[] 0))).f0
    have C0 := Lib.hid h2.c0
    have H1 := Lib.hid h2
    have HM := Lib.hid hM
    have HW := Lib.hid (show pagesOf [] = s.W from by rw [hW]; rfl)
    have HR := Lib.hid Reads.nil
    have HO := Lib.hid hown
    have HN := Lib.hid hN
    have R2 := Lib.hid ((ho2.block w.heap.size (by rw [hbg]; omega) (by have := HGB.out; omega)).trans R1.out)
    have HT2 := Lib.hid (HT.out.turn ho2 (fun z hz hz' => text_not_row HT.out.tx hz hz' h1.row))
    have HZ2 := Lib.hid (show w.heap.size + 1 ≤ _ from by rw [← hbg]; exact ho2.size)
    have HOW := Lib.hid ((Dk.Only.of_below _ HB.out).trans ho2)
    have hmm := @run_makeMap Tryz.prog
    have qn := fun w' => run_eql_map_nil none w'
    simp only [Option.isNone_none] at qn
    clear h h1 h2 hM hown hn hW hN ho2 R1 HT
    go_enter Tryz.func72, Tryz.ntmps72
    go_upto_region 3 with fail
    rw [hbg] at C0 H1 HM HO R2 HT2 HZ2 HOW
    have R1 := R2
    clear R2 hmm cA fA c0
    generalize ((w.alloc (.cells (u8s d) 37)).alloc (.map #[] 0)).setCell ⟨g, 0, none⟩ (.map (some (w.heap.size + 1))) = w2 at *
    generalize hbk : w.heap.size = bk at *
    refine wp_region_held_drew (S := fun w' => w'.cell? ⟨g, 0, none⟩ = some (.map (some (bk + 1))) ∧ w'.heap[bk]? = some (.cells (u8s d) 37 (0, 0))) (by kernel_rfl) ⟨C0.out, R1.out⟩ (fun hHeld => ?_)
    refine wpAnyH_take (i := 0) (oi := ⟨some 15, .move (.tmp 0), _, _, _, _⟩) (v := ?_) rfl (by kernel_rfl) (by kernel_rfl) (by kernel_rfl) (fun _ _ _ h => h) (Or.inl ⟨by rfl, ?_⟩) (by assumption) ?_
    rotate_left
    · intro w' hSw
      go_simp
      try with_reducible rfl
    try simp only [Act.put, List.setIfInBounds_toArray, List.set_cons_zero, List.set_cons_succ]
    refine wpAnyH_take (i := 1) (oi := ⟨some 16, .nilCheck (.tmp 15), _, _, _, _⟩) (v := ?_) rfl (by kernel_rfl) (by kernel_rfl) (by kernel_rfl) (fun _ _ _ h => h) (Or.inl ⟨by rfl, ?_⟩) (by assumption) ?_
    rotate_left
    · intro w' hSw
      go_simp
      try with_reducible rfl
    try simp only [Act.put, List.setIfInBounds_toArray, List.set_cons_zero, List.set_cons_succ]
    refine wpAnyH_take (i := 2) (oi := ⟨some 17, .fieldAddr 84 (.tmp 16) 0, _, _, _, _⟩) (v := ?_) rfl (by kernel_rfl) (by kernel_rfl) (by kernel_rfl) (fun _ _ _ h => h) (Or.inl ⟨by rfl, ?_⟩) (by assumption) ?_
    rotate_left
    · intro w' hSw
      go_simp
      try with_reducible rfl
    try simp only [Act.put, List.setIfInBounds_toArray, List.set_cons_zero, List.set_cons_succ]
    refine wpAnyH_take (i := 3) (oi := ⟨some 18, .load 81 (.tmp 17), _, _, _, _⟩) (v := ?_) rfl (by kernel_rfl) (by kernel_rfl) (by kernel_rfl) (fun _ _ _ h => h) (Or.inl ⟨by rfl, ?_⟩) (by assumption) ?_
    rotate_left
    · intro w' hSw
      have c0 := hSw.1
      go_simp
      try with_reducible rfl
    try simp only [Act.put, List.setIfInBounds_toArray, List.set_cons_zero, List.set_cons_succ]
    refine wpAnyH_take (i := 4) (oi := ⟨some 19, .load 37 (.tmp 4), _, _, _, _⟩) (v := ?_) rfl (by kernel_rfl) (by kernel_rfl) (by kernel_rfl) (fun _ _ _ h => h) (Or.inl ⟨by rfl, ?_⟩) (by assumption) ?_
    rotate_left
    · intro w' hSw
      refine Eq.trans (b := Result.ok (Next.value (.agg (u8s d))) w') ?_ ?_
      · exact op_load_dig (by rfl) (by rfl) HD.out (range_of_row' hSw.2)
      · with_reducible rfl
    try simp only [Act.put, List.setIfInBounds_toArray, List.set_cons_zero, List.set_cons_succ]
    refine wpAnyH_take (i := 5) (oi := ⟨some 20, .move (.tmp 2), _, _, _, _⟩) (v := ?_) rfl (by kernel_rfl) (by kernel_rfl) (by kernel_rfl) (fun _ _ _ h => h) (Or.inl ⟨by rfl, ?_⟩) (by assumption) ?_
    rotate_left
    · intro w' hSw
      go_simp
      try with_reducible rfl
    try simp only [Act.put, List.setIfInBounds_toArray, List.set_cons_zero, List.set_cons_succ]
    refine wpAnyH_ready (rs := [6]) (by kernel_rfl) (by simp) ?_
    refine AllReadyH.cons (o := ⟨none, .mapUpdate 81 (.tmp 18) (.tmp 19) (.tmp 20), _, _, _, _⟩) rfl (fun K hK => ?_) AllReadyH.nil
    refine wp_mapStore (.tmp 18) (.tmp 19) (.tmp 20) (by rfl) (by rfl) HO.out (by unfold maxLen; omega) (by rfl) (by rfl) HD.out hdo (fun w3 hown3 hturn3 => ?_)
    have hot := only_turned hturn3
    have O3 := Lib.hid (show Dk.Only (fun j => j = (bk + 1)) w2 w3 from ⟨hot.os, hot.tape, hot.output, hot.size, hot.block⟩)
    clear hot
    have HO3 := Lib.hid hown3
    obtain ⟨es0, ck0, hb0, -⟩ := HO.out
    have S3 : w3.cell? ⟨g, 0, none⟩ = some (.map (some (bk + 1))) ∧ w3.heap[bk]? = some (.cells (u8s d) 37 (0, 0)) := by
      have hgr := H1.out.row
      have e1 : g ≠ (bk + 1) := fun e => by rw [e, hb0] at hgr; cases hgr
      have e2 : bk ≠ (bk + 1) := fun e => by have h := R1.out; rw [e, hb0] at h; cases h
      exact ⟨(World.cell?_of_block (w := w2) (a := ⟨g, 0, none⟩) (O3.out.block g (Array.getElem?_eq_some_iff.1 hgr).1 e1)).trans C0.out, (O3.out.block bk (Array.getElem?_eq_some_iff.1 R1.out).1 e2).trans R1.out⟩
    clear hown3 hturn3 hb0
    refine hK.out _ _ S3 (fun hHeld => ?_)
    clear hK K
    try simp only [Act.put]
    refine wpAnyH_done (by kernel_rfl) ?_ _
    go_wp2_with fail
    go_end0
    have SS := H1.out.stored (e := ⟨d, q, m, c, b⟩) HM.out HW.out HR.out HO.out HO3.out O3.out HD.out hdo HN.out HT2.out (fun k hk => Nat.lt_of_lt_of_le (HLT.out k hk) (Nat.le_of_succ_le HZ2.out)) HOK.out
    have hz3 := O3.out.size
    have hz2 := H1.out.lt (bk + 1) (Or.inr rfl)
    exact ⟨rfl, ⟨_, SS.wide (fun k hk => by
      rcases hk with (hk | hk) | hk
      · exact Or.inl hk
      · exact Or.inr (Or.inr ⟨by omega, by omega⟩)
      · exact Or.inr (Or.inl hk)) (fun k hk => by
      rcases hk with hk | hk | hk
      · have := HQL.out k hk; omega
      · have := HLT.out k hk; omega
      · exact hk.2)⟩, only_old ((HOW.out.mono (Q := fun k => Q k ∨ k = bk + 1) (fun k e => Or.inl (by rw [e]; exact HQG.out))).trans (O3.out.mono (fun k e => Or.inr e))) (fun k e => e.imp id (fun e => by omega))⟩
end Go.Proofs.YtfkpgildeddhaaaGreat.Pg

/- bytes.Equal. -/
namespace Go.Proofs.YtfkpgildeddhaaaGreat.Pg
open Go.RowKit

set_option maxRecDepth 100000 in
set_option maxHeartbeats 1000000 in
theorem bequal_any {a b : List Nat} {p q : Option Addr} {n c m d : Nat} {w : World} (ha : Tx w p n c a) (hb : Tx w q m d b) :
    Calls Tryz.prog 73 #[.slice p n c, .slice q m d] w fun e w' => e = .returned (.bool (decide (a = b))) ∧ w = w' := by
  have h1 := convert_tx ha
  have h2 := convert_tx hb
  have HE := Lib.hid (str_eq ha.ok hb.ok)
  rw [← HE.out]
  clear ha hb
  go_enter Tryz.func73, Tryz.ntmps73
  go_wp2_with fail
  go_ret
  exact ⟨rfl, rfl⟩
end Go.Proofs.YtfkpgildeddhaaaGreat.Pg
