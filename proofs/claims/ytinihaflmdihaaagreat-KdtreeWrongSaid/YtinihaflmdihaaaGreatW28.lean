/- NlGetUn, KdGet, KtSee. -/
import Derived.BigRegion
import Derived.Deep.MidRow
import Derived.Test.YtinihaflmdihaaaGreatW1
import Derived.Test.YtinihaflmdihaaaGreatW12
import Derived.Test.YtinihaflmdihaaaGreatW17
import Derived.Test.YtinihaflmdihaaaGreatW23
import Derived.Test.YtinihaflmdihaaaGreatW24
import Derived.Test.YtinihaflmdihaaaGreatW26
import Derived.Test.YtinihaflmdihaaaGreatW27
set_option maxRecDepth 100000
set_option maxHeartbeats 8000000
set_option linter.unusedVariables false
set_option linter.unusedSimpArgs false
namespace Go.Proofs.YtinihaflmdihaaaGreat.Nd
open Go.RowKit Go.Proofs.YtinihaflmdihaaaGreat.Dk Go.Proofs.YtinihaflmdihaaaGreat.Pg
open List renaming setIfInBounds_toArray → sA, set_cons_zero → sZ, set_cons_succ → sS
theorem Get_unlike {g:Nat} {Q:Nat→Prop} {s:Pg.S} (k:Kd) (d:Int) (t:List Nat) (w:World) (hp:PL w g Q s) (hk:k.Ok w) (ht:textAt s.W k.sum=some t) (hto:Sm.allB t) (htl:t.length≤100000) (hgood:(rdN 8 t).good d) (hz:(rdN 8 t).node.size≤1048576) (hsay:(rdN 8 t).node.says≠k.pk):
  Calls Tryz.prog 52 #[.pointer (some ⟨g,0,none⟩),.agg k.cells.toArray,.int .i64 d] w fun e w'=>e= .returned (.tuple #[.agg #[.int .u8 0,.slice none 0 0,.slice none 0 0],.int .i64 21])∧Below w.heap.size w w':=by
 have hb1:Below w.heap.size w (w.alloc (.cells k.cells.toArray 34)):=(Below.refl _ _).alloc (Nat.le_refl _) _
 have r1:=heap_alloc_new w (.cells k.cells.toArray 34)
 have z1:(w.alloc (.cells k.cells.toArray 34)).heap.size=w.heap.size+1:=by simp
 have hb2:Below (w.heap.size+1) (w.alloc (.cells k.cells.toArray 34)) ((w.alloc (.cells k.cells.toArray 34)).alloc (.cells #[.int .u8 0,.slice none 0 0,.slice none 0 0] 81)):=(Below.refl _ _).alloc (by omega) _
 have r2:=heap_alloc_new (w.alloc (.cells k.cells.toArray 34)) (.cells #[.int .u8 0,.slice none 0 0,.slice none 0 0] 81)
 rw [z1] at r2
 have HR1:=Lib.hid ((hb2.block _ (by omega)).trans r1)
 have HR2:=Lib.hid r2
 have HB2:=Lib.hid (hb1.trans (hb2.mono (by omega)))
 have HP:=Lib.hid hp
 have HSL:=Lib.hid hk.len
 have HSO:=Lib.hid hk.ok
 have HKO:=Lib.hid hk
 have HT:=Lib.hid ht
 have HTO:=Lib.hid hto
 have HTL:=Lib.hid htl
 have HGD:=Lib.hid hgood
 have HZZ:=Lib.hid (show (rdN 8 t).node.right d=true∧(rdN 8 t).node.size≤1048576 from ⟨hgood.2.2,hz⟩)
 have HSY:=Lib.hid hsay
 obtain ⟨N,hN⟩:∃N,(rdN 8 t).node=N:=⟨_,rfl⟩
 rw [hN] at HZZ HSY
 have HNN:=Lib.hid hN
 clear hN
 obtain ⟨du,hdu,hdr⟩:=UKd
 have HDU:=Lib.hid hdu
 have HDR:=Lib.hid hdr
 obtain ⟨dn,hdn,hdnr⟩:=UNo
 have HDN:=Lib.hid hdn
 have HDNR:=Lib.hid hdnr
 have HZ:=Lib.hid (zero_of_info kz)
 clear hb1 r1 z1 hb2 r2 hp hk ht hto htl hgood hz hsay hdu hdr hdn hdnr
 have hz0:=HZ.out.1
 go_enter Tryz.func52,Tryz.ntmps52
 go_upto_region 1 with fail
 generalize (w.alloc (.cells k.cells.toArray 34)).alloc (.cells #[.int .u8 0,.slice none 0 0,.slice none 0 0] 81)=w2 at *
 have K2:=Lib.hid (kat_row HR1.out HSL.out)
 have HPL2:=Lib.hid (HP.out.keep (fun _=>False) (Only.of_below _ HB2.out) (fun _ _ e=>e))
 have HGET:=Lib.hid (get_any t k.sum HPL2.out HSL.out HSO.out HT.out)
 clear HP HPL2
 go_upto_region 4 with (first
  | (refine wpList_load_mid (by rfl) 30 _ (by rfl) _ 0 (by rfl) (vals k.sum) _ K2.out.sum A25 (by rfl) (by rw [vals_length,HSL.out];exact S25) ?_;rw [vals_toArray])
  | (go_at_call 103;refine HGET.out.mono ?_;rintro e w3 ⟨q3,c3,rfl,o3,b3⟩;have HT3:=Lib.hid (tx_of_owns o3 HTO.out);have HR13:=Lib.hid ((b3.block _ (Array.getElem?_eq_some_iff.1 HR1.out).1).trans HR1.out);have HR23:=Lib.hid ((b3.block _ (Array.getElem?_eq_some_iff.1 HR2.out).1).trans HR2.out);have HB3:=Lib.hid (HB2.out.trans (b3.mono HB2.out.size));clear o3 b3))
 have HDEC:=Lib.hid (decode_any t q3 t.length c3 d w3 HT3.out (by have:=HTL.out;omega))
 clear K2 HGET HR1 HR2 HB2
 go_upto_region 7 with (go_at_call 104;refine HDEC.out.mono ?_;rintro e w4 ⟨b4,h4⟩;obtain ⟨kind,p,n,c,q,m,f,E,K,rfl,hfr,hpn,hk256,mid,hmid⟩:=(h4.elim (fun h=>h.2) (fun h=>absurd HGD.out h.1));rw [HNN.out] at hpn;have HFR:=Lib.hid hfr;have HPN:=Lib.hid hpn;have HK256:=Lib.hid hk256;have HMID:=Lib.hid hmid;have HR14:=Lib.hid ((b4.block _ (Array.getElem?_eq_some_iff.1 HR13.out).1).trans HR13.out);have HR24:=Lib.hid ((b4.block _ (Array.getElem?_eq_some_iff.1 HR23.out).1).trans HR23.out);have HB4:=Lib.hid (HB3.out.trans (b4.mono HB3.out.size));have HS4:=Lib.hid b4.size;have HLT3:=Lib.hid (show w.heap.size+1<w3.heap.size from (Array.getElem?_eq_some_iff.1 HR23.out).1);clear b4 h4 hfr hpn hk256 hmid)
 have hba:Below w4.heap.size w4 (w4.alloc (.cells #[.int .u8 (kind:Nat),.slice p n c,.slice q m f] 81)):=(Below.refl _ _).alloc (Nat.le_refl _) _
 have HN5:=Lib.hid (NodeAt.start w4 kind p n c q m f)
 have HR15:=Lib.hid ((hba.block _ (Array.getElem?_eq_some_iff.1 HR14.out).1).trans HR14.out)
 have HR25:=Lib.hid ((hba.block _ (Array.getElem?_eq_some_iff.1 HR24.out).1).trans HR24.out)
 have HB5:=Lib.hid (HB4.out.trans (hba.mono HB4.out.size))
 have HE5:=Lib.hid (HFR.out (w4.alloc (.cells #[.int .u8 (kind:Nat),.slice p n c,.slice q m f] 81)) (fun j _ hj=>hba.block j hj))
 have HW5:=Lib.hid (show ∀j,j<w4.heap.size→(w4.alloc (.cells #[.int .u8 (kind:Nat),.slice p n c,.slice q m f] 81)).heap[j]? =w4.heap[j]? from fun j hj=>hba.block j hj)
 have hs5:w4.heap.size<(w4.alloc (.cells #[.int .u8 (kind:Nat),.slice p n c,.slice q m f] 81)).heap.size:=by simp
 have HS5:=Lib.hid hs5
 generalize w4.alloc (.cells #[.int .u8 (kind:Nat),.slice p n c,.slice q m f] 81)=w5 at *
 clear hba hs5 HR14 HR24 HR13 HR23 HB4 HT3 HDEC HB3
 obtain ⟨t0,t1,t2⟩:=HN5.out.cells
 have hsay:=Say_any kind HK256.out p n c q m f E K d w5 HE5.out.1 HE5.out.2
 rw [HPN.out] at hsay
 have HSAY:=Lib.hid hsay
 clear hsay
 go_upto_region 8 with (first
  | (go_at_call 105;refine HSAY.out.mono ?_;rintro e w6 ⟨b6,h6⟩;obtain ⟨kd,rfl,hpk,hok,-⟩:=(h6.elim (fun h=>h.2) (fun h=>absurd HZZ.out h.1));have HPK:=Lib.hid hpk;have HOK:=Lib.hid hok;have HCL:=Lib.hid (Kd.cells_length hok.len);have HN6:=Lib.hid (HN5.out.later b6);have HR16:=Lib.hid ((b6.block _ (Array.getElem?_eq_some_iff.1 HR15.out).1).trans HR15.out);have HR26:=Lib.hid ((b6.block _ (Array.getElem?_eq_some_iff.1 HR25.out).1).trans HR25.out);have HB6:=Lib.hid (HB5.out.trans (b6.mono HB5.out.size));have HW6:=Lib.hid (show w5.heap.size≤w6.heap.size∧∀j,j<w5.heap.size→w6.heap[j]? =w5.heap[j]? from ⟨b6.size,fun j hj=>b6.block j hj⟩);clear b6 h6 hpk hok)
  | (refine wpList_store_row (by rfl) 34 (.tmp 11) (.tmp 35) (by rfl) w6.heap.size kd.cells.toArray (by rfl) (by rfl) _ _ (heap_alloc_new w6 _) (by rw [List.size_toArray,HCL.out];exact SKd) (by simp only [List.size_toArray,HCL.out,kd0_size]) (all_oneCell_toArray Kd.one) ?_;rw [setRow_alloc]))
 have hba:Below w6.heap.size w6 (w6.alloc (.cells kd.cells.toArray 34)):=(Below.refl _ _).alloc (Nat.le_refl _) _
 have hrx:=heap_alloc_new w6 (.cells kd.cells.toArray 34)
 have HN7:=Lib.hid (HN6.out.later hba)
 have HR17:=Lib.hid (range_kd ((hba.block _ (Array.getElem?_eq_some_iff.1 HR16.out).1).trans HR16.out))
 have HRX:=Lib.hid (range_kd hrx)
 have HR27:=Lib.hid ((hba.block _ (Array.getElem?_eq_some_iff.1 HR26.out).1).trans HR26.out)
 have HB7:=Lib.hid (HB6.out.trans (hba.mono HB6.out.size))
 have HOK7:=Lib.hid (HOK.out.later hba)
 have HKO7:=Lib.hid (HKO.out.later HB7.out)
 have HW7:=Lib.hid (show w6.heap.size≤(w6.alloc (.cells kd.cells.toArray 34)).heap.size∧∀j,j<w6.heap.size→(w6.alloc (.cells kd.cells.toArray 34)).heap[j]? =w6.heap[j]? from ⟨hba.size,fun j hj=>hba.block j hj⟩)
 generalize w6.alloc (.cells kd.cells.toArray 34)=w7 at *
 generalize w6.heap.size=g6 at *
 have HCK:=Lib.hid (Kd.cells_length HSL.out)
 have HSM:=Lib.hid (decide_eq_false (show ¬kd.pk=k.pk from by rw [HPK.out];exact HSY.out))
 clear hba hrx HN6 HR16 HR26 HB6 HOK HB5 HR15 HR25 HN5 HSAY t0 t1 t2 hz0
 go_upto_region 9 with (first
  | (refine wpList_load_midG (by rfl) 34 _ (by rfl) g6 0 (by rfl) kd.cells du HRX.out HDU.out HDR.out (by rw [HCL.out];exact SKd) ?_)
  | (refine wpList_load_midG (by rfl) 34 _ (by rfl) w.heap.size 0 (by rfl) k.cells du HR17.out HDU.out HDR.out (by rw [HCK.out];exact SKd) ?_)
  | (go_at_call 68;refine (nsame_any kd k w7 HOK7.out HKO7.out).mono ?_;rintro e w8 ⟨rfl,b8⟩;rw [HSM.out];have HN8:=Lib.hid (HN7.out.later b8);have HR28:=Lib.hid ((b8.block _ (Array.getElem?_eq_some_iff.1 HR27.out).1).trans HR27.out);have HB8:=Lib.hid (HB7.out.trans (b8.mono HB7.out.size));have HW8:=Lib.hid (show w7.heap.size≤w8.heap.size∧∀j,j<w7.heap.size→w8.heap[j]? =w7.heap[j]? from ⟨b8.size,fun j hj=>b8.block j hj⟩);clear b8))
 clear HN8
 have a0:=cell_of_row w8 (w.heap.size+1) 0 _ _ _ HR28.out
 have a1:=cell_of_row w8 (w.heap.size+1) 1 _ _ _ HR28.out
 have a2:=cell_of_row w8 (w.heap.size+1) 2 _ _ _ HR28.out
 have f0:=frozen_of_row w8 (w.heap.size+1) 0 _ _ HR28.out
 have f1:=frozen_of_row w8 (w.heap.size+1) 1 _ _ HR28.out
 have f2:=frozen_of_row w8 (w.heap.size+1) 2 _ _ HR28.out
 go_wp2_with (refine wpList_build (by rfl) (by rfl) nd0_built ?_)
 obtain ⟨r1,r2⟩:=res_set (a':=.int .u8 0) (b':=.slice none 0 0) (c':=.slice none 0 0) HR28.out
 exact ret_str2 6 7 (by kernel_rfl) (w.heap.size+1) _ #[.int .u8 0,.slice none 0 0,.slice none 0 0] _ HDN.out HDNR.out SNo (by rfl) (by rfl) r1 ⟨rfl,HB8.out.trans (r2.below HB8.out.size (fun j e=>by omega))⟩
end Go.Proofs.YtinihaflmdihaaaGreat.Nd
namespace Go.Proofs.YtinihaflmdihaaaGreat.Kt
open Go.RowKit Go.Proofs.YtinihaflmdihaaaGreat.Nd Go.Proofs.YtinihaflmdihaaaGreat.Dk Go.Proofs.YtinihaflmdihaaaGreat.Pg
open List renaming setIfInBounds_toArray → sA, set_cons_zero → sZ, set_cons_succ → sS
theorem two_alloc (w:World) (A B:Obj):∃W,(w.alloc A).alloc B=W∧W.heap[w.heap.size]? =some A∧W.heap[w.heap.size+1]? =some B∧Below w.heap.size w W:=by
 have hA:=heap_alloc_new w A
 have hB:=heap_alloc_new (w.alloc A) B
 have sA:(w.alloc A).heap.size=w.heap.size+1:=by simp
 have b1:Below w.heap.size w (w.alloc A):=(Below.refl _ _).alloc (Nat.le_refl _) _
 have b2:Below (w.alloc A).heap.size (w.alloc A) ((w.alloc A).alloc B):=(Below.refl _ _).alloc (Nat.le_refl _) _
 rw [sA] at hB
 exact ⟨_,rfl,(b2.block _ (by rw [sA];omega)).trans hA,hB,b1.trans (b2.mono b1.size)⟩
def GetZero (w:World) (err:Int) (e:Ending) (w':World):Prop:=e= .returned (.tuple #[.agg #[.int .u8 0,.slice none 0 0,.slice none 0 0],.int .i64 err])∧Below w.heap.size w w'
theorem kget_empty (sp:Option Addr) (d:Int) (k:Kd) (ga oa:Nat) (w:World) (hk:k.Ok w) (hr:w.rangeAt ga oa k.cells) (he:k.pk=PK.none):
  Calls Tryz.prog 120 #[.agg #[.pointer sp,.int .i64 d],.pointer (some ⟨ga,oa,none⟩)] w (GetZero w 0):=by
 obtain ⟨W,hW,r0,r1,b1⟩:=two_alloc w (.cells #[.pointer sp,.int .i64 d] 91) (.cells #[.int .u8 0,.slice none 0 0,.slice none 0 0] 81)
 have HEM:=Lib.hid (nempty_any k W (hk.later b1))
 rw [decide_eq_true he] at HEM
 have RK:=Lib.hid (range_later hr b1)
 have HCL:=Lib.hid (Kd.cells_length hk.len)
 have R1:=Lib.hid r1
 have B1:=Lib.hid b1
 obtain ⟨du,hdu,hdr⟩:=UKd
 obtain ⟨dn,hdn,hdnr⟩:=UNo
 have HDU:=Lib.hid hdu
 have HDR:=Lib.hid hdr
 have HDN:=Lib.hid hdn
 have HDNR:=Lib.hid hdnr
 clear hk hr he r0 r1 b1 hdu hdr hdn hdnr
 go_enter Tryz.func120,Tryz.ntmps120
 go_upto_region 1 with fail
 clear hW
 go_wp2_with (first
  | (refine wpList_load_mid (by rfl) 34 _ (by rfl) ga oa (by rfl) k.cells du RK.out HDU.out HDR.out (by rw [HCL.out];exact SKd) ?_)
  | (go_at_call 20;refine HEM.out.mono ?_;rintro _ w3 ⟨rfl,b3⟩;have R3:=Lib.hid ((b3.block _ (Array.getElem?_eq_some_iff.1 R1.out).1).trans R1.out);have B3:=Lib.hid (B1.out.trans (b3.mono B1.out.size));clear b3)
  | (refine wpList_build (by rfl) (by rfl) nd0_built ?_)
  | (refine wpList_store_row (by rfl) 81 _ _ (by rfl) (w.heap.size+1) #[.int .u8 0,.slice none 0 0,.slice none 0 0] (by rfl) (by rfl) _ _ R3.out SNo rfl nd0_one ?_))
 refine ret_str2 4 5 (by kernel_rfl) (w.heap.size+1) _ #[.int .u8 0,.slice none 0 0,.slice none 0 0] _ HDN.out HDNR.out SNo (by rfl) (by rfl) (setRow_heap _ _ _ _ _ _ R3.out) ?_
 exact ⟨rfl,B3.out.trans (Below.setRow (Below.refl _ _) (by omega) _)⟩
theorem kget_none {g:Nat} {Q:Nat→Prop} {s:Pg.S} (d:Int) (k:Kd) (ga oa:Nat) (w:World) (hp:PL w g Q s) (hk:k.Ok w) (hr:w.rangeAt ga oa k.cells) (he:k.pk≠PK.none) (ht:textAt s.W k.sum=none):
  Calls Tryz.prog 120 #[.agg #[.pointer (some ⟨g,0,none⟩),.int .i64 d],.pointer (some ⟨ga,oa,none⟩)] w (GetZero w 21):=by
 obtain ⟨W,hW,r0,r1,b1⟩:=two_alloc w (.cells #[.pointer (some ⟨g,0,none⟩),.int .i64 d] 91) (.cells #[.int .u8 0,.slice none 0 0,.slice none 0 0] 81)
 have HEM:=Lib.hid (nempty_any k W (hk.later b1))
 rw [decide_eq_false he] at HEM
 have RK:=Lib.hid (range_later hr b1)
 have HGET:=Lib.hid (show ∀w',Below W.heap.size W w'→Calls Tryz.prog 52 #[.pointer (some ⟨g,0,none⟩),.agg k.cells.toArray,.int .i64 d] w' _ from fun w' hb=>Get_none k d w' ((hp.keep (fun _=>False) (Only.of_below _ b1) (fun _ _ e=>e)).keep (fun _=>False) (Only.of_below _ hb) (fun _ _ e=>e)) ((hk.later b1).later hb) ht)
 have HCL:=Lib.hid (Kd.cells_length hk.len)
 have R0:=Lib.hid r0
 have R1:=Lib.hid r1
 have B1:=Lib.hid b1
 obtain ⟨du,hdu,hdr⟩:=UKd
 obtain ⟨dn,hdn,hdnr⟩:=UNo
 have HDU:=Lib.hid hdu
 have HDR:=Lib.hid hdr
 have HDN:=Lib.hid hdn
 have HDNR:=Lib.hid hdnr
 clear hp hk hr he ht r0 r1 b1 hdu hdr hdn hdnr
 go_enter Tryz.func120,Tryz.ntmps120
 go_upto_region 1 with fail
 clear hW
 go_upto_region 3 with (first
  | (refine wpList_load_mid (by rfl) 34 _ (by rfl) ga oa (by rfl) k.cells du RK.out HDU.out HDR.out (by rw [HCL.out];exact SKd) ?_)
  | (go_at_call 20;refine HEM.out.mono ?_;rintro _ w1 ⟨rfl,b3⟩;have B2:=Lib.hid b3;clear b3))
 have c0:=(B2.out.cell (block_lt_of_cell (cell_of_row W w.heap.size 0 _ _ _ R0.out))).trans (cell_of_row W w.heap.size 0 _ _ _ R0.out)
 have c1:=(B2.out.cell (block_lt_of_cell (cell_of_row W w.heap.size 1 _ _ _ R0.out))).trans (cell_of_row W w.heap.size 1 _ _ _ R0.out)
 have RK1:=Lib.hid (range_later RK.out B2.out)
 have HG1:=Lib.hid (fun w' (hb:Below w1.heap.size w1 w')=>HGET.out w' (B2.out.trans (hb.mono B2.out.size)))
 have RS:=Lib.hid ((B2.out.block _ (Array.getElem?_eq_some_iff.1 R1.out).1).trans R1.out)
 have BW:=Lib.hid (B1.out.trans (B2.out.mono B1.out.size))
 have SW:=Lib.hid (show w.heap.size+2≤w1.heap.size from (Array.getElem?_eq_some_iff.1 RS.out).1)
 clear HGET HEM RK R0 R1 B1 B2
 refine wp_region_held_drew (S:=fun w'=>Below w1.heap.size w1 w') (by kernel_rfl) (Below.refl _ _).drew (fun hHeld=>?_)
 generalize w1.drew=x0 at *
 refine tK 0 ?_
 refine tQ 1 ?_ ?_ ?_
 rotate_left
 ·intro w' hSw
  have y:=(hSw.cell (block_lt_of_cell c0)).trans c0
  go_simp
  try with_reducible rfl
 refine tK 2 ?_
 refine tK 3 ?_
 refine tK 5 ?_
 refine tQ 6 ?_ ?_ ?_
 rotate_left
 ·intro w' hSw
  have y:=(hSw.cell (block_lt_of_cell c1)).trans c1
  go_simp
  try with_reducible rfl
 refine rY [4,11] ?_
 refine rC (fun K hK=>?_) (rC (fun K hK=>?_) AllReadyH.nil)
 ·
  refine wp_load_mid 34 (.tmp 17) (by rfl) ga oa (by rfl) k.cells du (range_later RK1.out hHeld) HDU.out HDR.out (by rw [HCL.out];exact SKd) ?_
  refine hK.out _ _ hHeld (fun hHeld=>?_)
  clear hK K
  try simp only [Act.put,sA,sZ,sS]
  refine rY [7,11] ?_
  refine rC (fun K hK=>?_) (rC (fun K hK=>?_) AllReadyH.nil)
  ·
   go_simp
   refine (HG1.out _ hHeld).mono ?_
   rintro _ x1 ⟨rfl,b1⟩
   have hB1:=hHeld.trans (b1.mono hHeld.size)
   try go_wp2_with fail
   refine hK.out _ _ hB1 (fun hHeld=>?_)
   clear hK K
   try simp only [Act.put,sA,sZ,sS]
   refine tK 8 ?_
   refine tK 9 ?_
   refine tK 10 ?_
   refine rY [11] ?_
   refine rC (fun K hK=>?_) AllReadyH.nil
   go_simp
   have b2:Below x1.heap.size x1 (x1.alloc (.cells #[.int .u8 0,.slice none 0 0,.slice none 0 0] 81)):=(Below.refl _ _).alloc (Nat.le_refl _) _
   have hB2:=hHeld.trans (b2.mono hHeld.size)
   have AN2:=Lib.hid (heap_alloc_new x1 (.cells #[.int .u8 0,.slice none 0 0,.slice none 0 0] 81))
   have AS:=Lib.hid hHeld.size
   try go_wp2_with fail
   refine hK.out _ _ hB2 (fun hHeld=>?_)
   clear hK K
   try simp only [Act.put,sA,sZ,sS]
   generalize x1.alloc (.cells #[.int .u8 0,.slice none 0 0,.slice none 0 0] 81)=x2 at *
   refine rY [12] ?_
   refine rC (fun K hK=>?_) AllReadyH.nil
   refine wp_store_row 81 (.tmp 6) (.tmp 22) (by rfl) x1.heap.size #[.int .u8 0,.slice none 0 0,.slice none 0 0] (by rfl) (by rfl) _ _ AN2.out SNo rfl nd0_one ?_
   have hS:=Below.setRow hHeld AS.out #[.int .u8 0,.slice none 0 0,.slice none 0 0]
   refine hK.out _ _ hS (fun hHeld=>?_)
   clear hK K
   try simp only [Act.put,sA,sZ,sS]
   generalize x2.setRow x1.heap.size #[.int .u8 0,.slice none 0 0,.slice none 0 0]=y1 at *
   refine tK 13 ?_
   refine wpAnyH_done (by kernel_rfl) ?_ _
   have R9:=Lib.hid ((hS.block _ (Array.getElem?_eq_some_iff.1 RS.out).1).trans RS.out)
   go_wp2_with (first
    | (refine wpList_build (by rfl) (by rfl) nd0_built ?_)
    | (refine wpList_store_row (by rfl) 81 _ _ (by rfl) (w.heap.size+1) #[.int .u8 0,.slice none 0 0,.slice none 0 0] (by rfl) (by rfl) _ _ R9.out SNo rfl nd0_one ?_))
   refine ret_str2 4 5 (by kernel_rfl) (w.heap.size+1) _ #[.int .u8 0,.slice none 0 0,.slice none 0 0] _ HDN.out HDNR.out SNo (by rfl) (by rfl) (setRow_heap _ _ _ _ _ _ R9.out) ?_
   exact ⟨rfl,(BW.out.trans (hS.mono BW.out.size)).trans (Below.setRow (Below.refl _ _) (by omega) _)⟩
  ·
   go_simp
   have b1:Below x0.heap.size x0 (x0.alloc (.cells #[.int .u8 0,.slice none 0 0,.slice none 0 0] 81)):=(Below.refl _ _).alloc (Nat.le_refl _) _
   have hB1:=hHeld.trans (b1.mono hHeld.size)
   have AN1:=Lib.hid (heap_alloc_new x0 (.cells #[.int .u8 0,.slice none 0 0,.slice none 0 0] 81))
   have AS:=Lib.hid hHeld.size
   try go_wp2_with fail
   refine hK.out _ _ hB1 (fun hHeld=>?_)
   clear hK K
   try simp only [Act.put,sA,sZ,sS]
   generalize x0.alloc (.cells #[.int .u8 0,.slice none 0 0,.slice none 0 0] 81)=x1 at *
   refine rY [7] ?_
   refine rC (fun K hK=>?_) AllReadyH.nil
   go_simp
   refine (HG1.out _ hHeld).mono ?_
   rintro _ x2 ⟨rfl,b2⟩
   have hB2:=hHeld.trans (b2.mono hHeld.size)
   have AN2:=Lib.hid ((b2.block _ (Array.getElem?_eq_some_iff.1 AN1.out).1).trans AN1.out)
   try go_wp2_with fail
   refine hK.out _ _ hB2 (fun hHeld=>?_)
   clear hK K
   try simp only [Act.put,sA,sZ,sS]
   refine tK 8 ?_
   refine tK 9 ?_
   refine tK 10 ?_
   refine rY [12] ?_
   refine rC (fun K hK=>?_) AllReadyH.nil
   refine wp_store_row 81 (.tmp 6) (.tmp 22) (by rfl) x0.heap.size #[.int .u8 0,.slice none 0 0,.slice none 0 0] (by rfl) (by rfl) _ _ AN2.out SNo rfl nd0_one ?_
   have hS:=Below.setRow hHeld AS.out #[.int .u8 0,.slice none 0 0,.slice none 0 0]
   refine hK.out _ _ hS (fun hHeld=>?_)
   clear hK K
   try simp only [Act.put,sA,sZ,sS]
   generalize x2.setRow x0.heap.size #[.int .u8 0,.slice none 0 0,.slice none 0 0]=y1 at *
   refine tK 13 ?_
   refine wpAnyH_done (by kernel_rfl) ?_ _
   have R9:=Lib.hid ((hS.block _ (Array.getElem?_eq_some_iff.1 RS.out).1).trans RS.out)
   go_wp2_with (first
    | (refine wpList_build (by rfl) (by rfl) nd0_built ?_)
    | (refine wpList_store_row (by rfl) 81 _ _ (by rfl) (w.heap.size+1) #[.int .u8 0,.slice none 0 0,.slice none 0 0] (by rfl) (by rfl) _ _ R9.out SNo rfl nd0_one ?_))
   refine ret_str2 4 5 (by kernel_rfl) (w.heap.size+1) _ #[.int .u8 0,.slice none 0 0,.slice none 0 0] _ HDN.out HDNR.out SNo (by rfl) (by rfl) (setRow_heap _ _ _ _ _ _ R9.out) ?_
   exact ⟨rfl,(BW.out.trans (hS.mono BW.out.size)).trans (Below.setRow (Below.refl _ _) (by omega) _)⟩
 ·
  go_simp
  have b1:Below x0.heap.size x0 (x0.alloc (.cells #[.int .u8 0,.slice none 0 0,.slice none 0 0] 81)):=(Below.refl _ _).alloc (Nat.le_refl _) _
  have hB1:=hHeld.trans (b1.mono hHeld.size)
  have AN1:=Lib.hid (heap_alloc_new x0 (.cells #[.int .u8 0,.slice none 0 0,.slice none 0 0] 81))
  have AS:=Lib.hid hHeld.size
  try go_wp2_with fail
  refine hK.out _ _ hB1 (fun hHeld=>?_)
  clear hK K
  try simp only [Act.put,sA,sZ,sS]
  generalize x0.alloc (.cells #[.int .u8 0,.slice none 0 0,.slice none 0 0] 81)=x1 at *
  refine rY [4] ?_
  refine rC (fun K hK=>?_) AllReadyH.nil
  refine wp_load_mid 34 (.tmp 17) (by rfl) ga oa (by rfl) k.cells du (range_later RK1.out hHeld) HDU.out HDR.out (by rw [HCL.out];exact SKd) ?_
  refine hK.out _ _ hHeld (fun hHeld=>?_)
  clear hK K
  try simp only [Act.put,sA,sZ,sS]
  refine rY [7] ?_
  refine rC (fun K hK=>?_) AllReadyH.nil
  go_simp
  refine (HG1.out _ hHeld).mono ?_
  rintro _ x2 ⟨rfl,b2⟩
  have hB2:=hHeld.trans (b2.mono hHeld.size)
  have AN2:=Lib.hid ((b2.block _ (Array.getElem?_eq_some_iff.1 AN1.out).1).trans AN1.out)
  try go_wp2_with fail
  refine hK.out _ _ hB2 (fun hHeld=>?_)
  clear hK K
  try simp only [Act.put,sA,sZ,sS]
  refine tK 8 ?_
  refine tK 9 ?_
  refine tK 10 ?_
  refine rY [12] ?_
  refine rC (fun K hK=>?_) AllReadyH.nil
  refine wp_store_row 81 (.tmp 6) (.tmp 22) (by rfl) x0.heap.size #[.int .u8 0,.slice none 0 0,.slice none 0 0] (by rfl) (by rfl) _ _ AN2.out SNo rfl nd0_one ?_
  have hS:=Below.setRow hHeld AS.out #[.int .u8 0,.slice none 0 0,.slice none 0 0]
  refine hK.out _ _ hS (fun hHeld=>?_)
  clear hK K
  try simp only [Act.put,sA,sZ,sS]
  generalize x2.setRow x0.heap.size #[.int .u8 0,.slice none 0 0,.slice none 0 0]=y1 at *
  refine tK 13 ?_
  refine wpAnyH_done (by kernel_rfl) ?_ _
  have R9:=Lib.hid ((hS.block _ (Array.getElem?_eq_some_iff.1 RS.out).1).trans RS.out)
  go_wp2_with (first
   | (refine wpList_build (by rfl) (by rfl) nd0_built ?_)
   | (refine wpList_store_row (by rfl) 81 _ _ (by rfl) (w.heap.size+1) #[.int .u8 0,.slice none 0 0,.slice none 0 0] (by rfl) (by rfl) _ _ R9.out SNo rfl nd0_one ?_))
  refine ret_str2 4 5 (by kernel_rfl) (w.heap.size+1) _ #[.int .u8 0,.slice none 0 0,.slice none 0 0] _ HDN.out HDNR.out SNo (by rfl) (by rfl) (setRow_heap _ _ _ _ _ _ R9.out) ?_
  exact ⟨rfl,(BW.out.trans (hS.mono BW.out.size)).trans (Below.setRow (Below.refl _ _) (by omega) _)⟩
end Go.Proofs.YtinihaflmdihaaaGreat.Kt
namespace Go.Proofs.YtinihaflmdihaaaGreat.Kt
open Go.RowKit Go.Proofs.YtinihaflmdihaaaGreat.Nd Go.Proofs.YtinihaflmdihaaaGreat.Pg
open List renaming setIfInBounds_toArray → sA, set_cons_zero → sZ, set_cons_succ → sS
inductive V where
 | nil:V
 | bad (k:PK):V
 | fork (row:List Int) (live:Bool) (l r:V):V
def V.kid:V→PK
 | .nil=>PK.none
 | .bad k=>k
 | .fork p v l r=>(forkN p v l.kid r.kid).says
def V.of:T→V
 | .nil=>.nil
 | .fork p v l r=>.fork p v (V.of l) (V.of r)
def V.whole:V→Bool
 | .nil=>true
 | .bad _=>false
 | .fork _ _ l r=>l.whole&&r.whole
theorem of_whole:∀u:T,(V.of u).whole=true
 | .nil=>rfl
 | .fork p v l r=>by
  show ((V.of l).whole&&(V.of r).whole)=true
  rw [of_whole l,of_whole r]
  rfl
def V.tree:V→T
 | .nil=>.nil
 | .bad _=>.nil
 | .fork p v l r=>.fork p v l.tree r.tree
theorem of_kid:∀ {u:T},u.size≤1048576→(V.of u).kid=u.kid
 | .nil,_=>rfl
 | .fork p v l r,h=>by
  have hz:(T.fork p v l r).size=1+l.size+r.size:=rfl
  rw [fork_kid h]
  show (forkN p v (V.of l).kid (V.of r).kid).says=_
  rw [of_kid (show l.size≤1048576 by omega),of_kid (show r.size≤1048576 by omega)]
def Sees (W:Pages) (d:Nat):V→Prop
 | .nil=>True
 | .bad k=>k≠PK.none∧k.right d=true∧k.key=[]∧∀t N,textAt W k.sum=some t→Txt d t N→N.says≠k
 | .fork p v l r=>Txt d (forkN p v l.kid r.kid).bytes (forkN p v l.kid r.kid)∧textAt W (sumOf (forkN p v l.kid r.kid).bytes)=some (forkN p v l.kid r.kid).bytes∧Sees W d l∧Sees W d r
def Forks (d:Nat) (W:Pages):Prop:=∀x∈W,∃N,Txt d x.2 N∧N.kind=1
theorem kid_zero {k:PK} {d:Int} (h:k.right d=true):0≤k.size∧k.size≤1048576:=by
 unfold PK.right at h
 split at h
 ·rename_i e
  rw [e]
  exact ⟨Int.le_refl _,by decide⟩
 ·split at h
  ·cases h
  ·omega
theorem text_stays {W:Pages} {d t:List Nat} (b:List Nat) (h:textAt W d=some t):textAt (putW W b) d=some t:=by
 unfold putW
 split
 ·exact h
 ·unfold textAt at h ⊢
  split at h
  ·rename_i hi
   have e:idx d (W++[(sumOf b,b)])=idx d W:=by
    refine idx_is (by rw [List.length_append];omega) ?_ fun j hj=>?_
    ·rw [List.getD_eq_getElem?_getD,List.getElem?_append_left hi,← List.getD_eq_getElem?_getD]
     exact idx_at hi
    ·rw [List.getD_eq_getElem?_getD,List.getElem?_append_left (by omega),← List.getD_eq_getElem?_getD]
     exact idx_before hj
   rw [e,if_pos (by rw [List.length_append];omega),List.getD_eq_getElem?_getD,List.getElem?_append_left hi,← List.getD_eq_getElem?_getD]
   exact h
  ·cases h
theorem text_puts {d t:List Nat}:∀(L:List (List Nat)) {s:Pg.S},textAt s.W d=some t→textAt (L.foldl Pg.S.put s).W d=some t
 |[],_,h=>h
 | b::L,s,h=>text_puts L (s:=s.put b) (text_stays b h)
theorem clean_put {s:Pg.S} {b:List Nat} (h:(s.put b).cl=none):s.cl=none:=by
 unfold Pg.S.put at h
 cases hc:s.cl with
 | none=>rfl
 | some x=>rw [hc] at h;cases h
theorem clean_puts:∀(L:List (List Nat)) {s:Pg.S},(L.foldl Pg.S.put s).cl=none→s.cl=none
 |[],_,h=>h
 | b::L,s,h=>clean_put (clean_puts L (s:=s.put b) h)
theorem puts_got:∀(L:List (List Nat)) {s:Pg.S},(L.foldl Pg.S.put s).cl=none→∀b∈L,textAt (L.foldl Pg.S.put s).W (sumOf b)=some b
 |[],_,_,b,hb=>by cases hb
 | a::L,s,h,b,hb=>by
  rcases List.mem_cons.1 hb with rfl | hb
  ·exact text_puts L (s:=s.put b) (put_got (clean_puts L (s:=s.put b) h))
  ·exact puts_got L (s:=s.put a) h b hb
theorem forks_puts {d:Nat}:∀(L:List (List Nat)) {s:Pg.S},Forks d s.W→(∀b∈L,∃N,Txt d b N∧N.kind=1)→Forks d (L.foldl Pg.S.put s).W
 |[],_,h,_=>h
 | b::L,s,h,hL=>by
  refine forks_puts L (s:=s.put b) (fun x hx=>?_) fun c hc=>hL c (by simp [hc])
  have hx:x∈putW s.W b:=hx
  unfold putW at hx
  split at hx
  ·exact h x hx
  ·rcases List.mem_append.1 hx with hx | hx
   ·exact h x hx
   ·rw [List.mem_singleton.1 hx]
    exact hL b (by simp)
theorem sees_right {d:Nat} {W:Pages}:∀ {u:V},Sees W d u→u.kid.right d=true∧u.kid.key=[]
 | .nil,_=>⟨rfl,rfl⟩
 | .bad k,h=>⟨h.2.1,h.2.2.1⟩
 | .fork p v l r,h=>by
  refine ⟨says_right h.1.right ?_ h.1.size,rfl⟩
  have hl:=kid_zero (sees_right h.2.2.1).1
  have hr:=kid_zero (sees_right h.2.2.2).1
  rw [fork_size]
  omega
end Go.Proofs.YtinihaflmdihaaaGreat.Kt
