/- NlSaySum, NlSay, NlGetNone, NlGet. -/
import Derived.Test.YtinihaflmdihaaaGreatW1
import Derived.Test.YtinihaflmdihaaaGreatW7
import Derived.Test.YtinihaflmdihaaaGreatW10
import Derived.Test.YtinihaflmdihaaaGreatW15
import Derived.Test.YtinihaflmdihaaaGreatW17
import Derived.Test.YtinihaflmdihaaaGreatW22
import Derived.Test.YtinihaflmdihaaaGreatW26
set_option maxRecDepth 100000
set_option maxHeartbeats 8000000
set_option linter.unusedVariables false
set_option linter.unusedSimpArgs false
namespace Go.Proofs.YtinihaflmdihaaaGreat.Nd
open Go.RowKit Go.Proofs.YtinihaflmdihaaaGreat.Dk Go.Proofs.YtinihaflmdihaaaGreat.Pg
open List renaming setIfInBounds_toArray → sA, set_cons_zero → sZ, set_cons_succ → sS
def SaySum (w:World) (N:PN) (d:Int) (e:Ending) (w':World):Prop:=
 Below w.heap.size w w'∧
 (((N.right d=true∧N.size≤1048576)∧∃kd:Kd,e= .returned (.tuple #[.agg kd.cells.toArray,.int .i64 0])∧kd.pk=N.says∧kd.Ok w'∧Fsh w kd)∨
  (¬(N.right d=true∧N.size≤1048576)∧e= .returned (.tuple #[.agg kd0.cells.toArray,.int .i64 1])))
theorem saysum_bad {w w':World} {N:PN} {d:Int} (h:¬(N.right d=true∧N.size≤1048576)) (hb:Below w.heap.size w w'):SaySum w N d (.returned (.tuple #[.agg kd0.cells.toArray,.int .i64 1])) w':=⟨hb,Or.inr ⟨h,rfl⟩⟩
theorem say_sum (kind:Nat) (hkd:kind<256) (p:Option Addr) (n c:Nat) (q:Option Addr) (m f:Nat) (E:List En) (K:List Kd) (d:Int) (w:World) (hE:EntsIn w p n c E) (hK:KidsIn w q m f K):
  Calls Tryz.prog 150 #[.agg #[.int .u8 kind,.slice p n c,.slice q m f],.int .i64 d,.func (.func 151) #[] #[]] w (SaySum w (pnOf kind E K) d):=by
 have hb1:Below w.heap.size w (w.alloc (.cells #[.int .u8 kind,.slice p n c,.slice q m f] 81)):=(Below.refl _ _).alloc (Nat.le_refl _) _
 have hn1:=NodeAt.start w kind p n c q m f
 have z1:(w.alloc (.cells #[.int .u8 kind,.slice p n c,.slice q m f] 81)).heap.size=w.heap.size+1:=by simp
 have HKD:=Lib.hid hkd
 have HE:=Lib.hid hE
 have HK:=Lib.hid hK
 obtain ⟨du,hdu,hdr⟩:=UKd
 have HDU:=Lib.hid hdu
 have HDR:=Lib.hid hdr
 have HZ:=Lib.hid (zero_of_info kz)
 clear hkd hE hK hdu hdr
 have hz0:=HZ.out.1
 go_enter Tryz.func150,Tryz.ntmps150
 go_upto_region 1 with fail
 have hb2:Below (w.heap.size+1) (w.alloc (.cells #[.int .u8 kind,.slice p n c,.slice q m f] 81)) ((w.alloc (.cells #[.int .u8 kind,.slice p n c,.slice q m f] 81)).alloc (.cells kd0.cells.toArray 34)):=(Below.refl _ _).alloc (by omega) _
 have r2:=heap_alloc_new (w.alloc (.cells #[.int .u8 kind,.slice p n c,.slice q m f] 81)) (.cells kd0.cells.toArray 34)
 rw [z1] at r2
 have HN2:=Lib.hid (hn1.later (by rw [z1];exact hb2))
 have HB2:=Lib.hid (hb1.trans (hb2.mono (by omega)))
 have HR2:=Lib.hid r2
 clear hb1 hn1 z1 hb2 r2
 generalize (w.alloc (.cells #[.int .u8 kind,.slice p n c,.slice q m f] 81)).alloc (.cells kd0.cells.toArray 34)=w2 at *
 have HENC:=Lib.hid (encode_any kind HKD.out p n c q m f E K d w2 (HE.out.later HB2.out) (HK.out.later HB2.out))
 have HTAL:=Lib.hid (fun w3 (h:Below w.heap.size w w3) (hr:(pnOf kind E K).right d=true)=>tally_any kind p n c q m f E K d w3 (HE.out.later h) (HK.out.later h) hr)
 have HLN:=Lib.hid (fun (hr:(pnOf kind E K).right d=true)=>node_bytes_len (PN.fit hr) (fun k hk=>by obtain ⟨y,hy,rfl⟩:=List.mem_map.1 hk;exact (HK.out.each y hy).len))
 generalize pnOf kind E K=N at *
 obtain ⟨t0,t1,t2⟩:=HN2.out.cells
 cases hr:N.right d with
 | false=>
  have HNR:=Lib.hid (show ¬(N.right d=true∧N.size≤1048576) from fun h=>by rw [hr] at h;exact absurd h.1 (by simp))
  have HRR:=Lib.hid hr
  clear hr
  go_wp2_with (first
   | (go_at_call 205;refine HENC.out.mono ?_;rintro e w3 ⟨b3,h3⟩;obtain rfl:e= .returned (.tuple #[.slice Option.none 0 0,.int .i64 1]):=(h3.elim (fun h=>by rw [HRR.out] at h;exact absurd h.1 (by simp)) (fun h=>h.2));have HR3:=Lib.hid ((b3.block _ (Array.getElem?_eq_some_iff.1 HR2.out).1).trans HR2.out);have HB3:=Lib.hid (HB2.out.trans (b3.mono HB2.out.size));clear b3 h3)
   | (refine wpList_build (by rfl) (by rfl) kd0_built ?_)
   | (refine wpList_store_row (by rfl) 34 _ _ (by rfl) (w.heap.size+1) kd0.cells.toArray (by rfl) (by rfl) _ _ HR3.out (by rw [List.size_toArray,kd0_size];exact SKd) rfl (all_oneCell_toArray Kd.one) ?_))
  have r9:=setRow_heap _ (w.heap.size+1) _ kd0.cells.toArray _ _ HR3.out
  have hb9:Below (w.heap.size+1) w3 (w3.setRow (w.heap.size+1) kd0.cells.toArray):=Below.setRow (Below.refl _ _) (Nat.le_refl _) _
  refine ret_str2 6 7 (by kernel_rfl) (w.heap.size+1) _ kd0.cells.toArray _ HDU.out HDR.out (by rw [List.size_toArray,kd0_size];exact SKd) (by rfl) (by rfl) r9 ?_
  exact saysum_bad HNR.out (HB3.out.trans (hb9.mono (by omega)))
 | true=>
  have HRR:=Lib.hid hr
  have HLB:=Lib.hid (HLN.out hr)
  clear hr
  go_upto_region 5 with (first
   | (go_at_call 205;refine HENC.out.mono ?_;rintro e w3 ⟨b3,h3⟩;obtain ⟨q9,c9,rfl,o9,ok9⟩:=(h3.elim (fun h=>h.2) (fun h=>by rw [HRR.out] at h;exact absurd h.1 (by simp)));have HT3:=Lib.hid (tx_of_owns o9 ok9);have HN3:=Lib.hid (HN2.out.later b3);have HR3:=Lib.hid ((b3.block _ (Array.getElem?_eq_some_iff.1 HR2.out).1).trans HR2.out);have HB3:=Lib.hid (HB2.out.trans (b3.mono HB2.out.size));obtain ⟨t0,t1,t2⟩:=HN3.out.cells;have HTL:=Lib.hid (HTAL.out w3 HB3.out HRR.out);clear b3 h3 o9 ok9)
   | (go_at_call 206;refine HTL.out.mono ?_;rintro e w4 ⟨kd,rfl,hpk,hok4,hfs,b4⟩;have HPK:=Lib.hid hpk;have HOK4:=Lib.hid hok4;have HFS:=Lib.hid hfs;have HT4:=Lib.hid (HT3.out.later b4);have HR4:=Lib.hid ((b4.block _ (Array.getElem?_eq_some_iff.1 HR3.out).1).trans HR3.out);have HB4:=Lib.hid (HB3.out.trans (b4.mono HB3.out.size));have HS34:=Lib.hid b4.size;clear hpk hok4 hfs b4)
   | (refine wpList_store_row (by rfl) 34 (.tmp 10) (.tmp 22) (by rfl) w4.heap.size kd.cells.toArray (by rfl) (by rfl) _ _ (heap_alloc_new w4 _) (by rw [List.size_toArray,Kd.cells_length HOK4.out.len];exact SKd) (by simp only [List.size_toArray,Kd.cells_length HOK4.out.len,kd0_size]) (all_oneCell_toArray Kd.one) ?_;rw [setRow_alloc]))
  have hrx:=heap_alloc_new w4 (.cells kd.cells.toArray 34)
  have hba:Below w4.heap.size w4 (w4.alloc (.cells kd.cells.toArray 34)):=(Below.refl _ _).alloc (Nat.le_refl _) _
  have HT5:=Lib.hid (HT4.out.later hba)
  have HR5:=Lib.hid ((hba.block _ (Array.getElem?_eq_some_iff.1 HR4.out).1).trans HR4.out)
  have HB5:=Lib.hid (HB4.out.trans (hba.mono HB4.out.size))
  have HOK5:=Lib.hid (HOK4.out.later hba)
  have HXR:=Lib.hid hrx
  have HGX:=Lib.hid (show w.heap.size+1<w3.heap.size∧w3.heap.size≤w4.heap.size from ⟨(Array.getElem?_eq_some_iff.1 HR3.out).1,HS34.out⟩)
  have HFX:=Lib.hid (show ∀r∈kd.rows,r.Ok w4∧(∀x,r.p=some x→r.R≠[]→w3.heap.size≤x.block∧x.block<w4.heap.size) from fun r hr=>by
   have hro:r.Ok w4:=by
    simp only [Kd.rows,List.mem_cons,List.not_mem_nil,or_false] at hr
    rcases hr with rfl | rfl | rfl
    ·exact HOK4.out.lo
    ·exact HOK4.out.hi
    ·exact HOK4.out.key
   exact ⟨hro,fun x hx hR=>⟨HFS.out r hr x hx hR,rintsLt hro.ints hx hR⟩⟩)
  have hsz:w4.heap.size<(w4.alloc (.cells kd.cells.toArray 34)).heap.size:=by simp
  have HSZ:=Lib.hid hsz
  generalize w4.alloc (.cells kd.cells.toArray 34)=w5 at *
  clear hrx hba hsz HT4 HR4 HT3 HR3 HN3 HTL HENC HTAL HR2 HN2 HB2 t0 t1 t2 HB3 HB4
  generalize w4.heap.size=gk at *
  have c35:=(kat_row HXR.out HOK5.out.len).size
  rw [Nat.zero_add] at c35
  have hks:kd.size=N.size:=congrArg PK.size HPK.out
  by_cases hz:1048576<kd.size
  ·have HNR:=Lib.hid (show ¬(N.right d=true∧N.size≤1048576) from fun h=>by have:=h.2;omega)
   clear hks
   go_wp2_with (first
    | (refine wpList_build (by rfl) (by rfl) kd0_built ?_)
    | (refine wpList_store_row (by rfl) 34 _ _ (by rfl) (w.heap.size+1) kd0.cells.toArray (by rfl) (by rfl) _ _ HR5.out (by rw [List.size_toArray,kd0_size];exact SKd) rfl (all_oneCell_toArray Kd.one) ?_))
   have r9:=setRow_heap _ (w.heap.size+1) _ kd0.cells.toArray _ _ HR5.out
   have hb9:Below (w.heap.size+1) w5 (w5.setRow (w.heap.size+1) kd0.cells.toArray):=Below.setRow (Below.refl _ _) (Nat.le_refl _) _
   refine ret_str2 6 7 (by kernel_rfl) (w.heap.size+1) _ kd0.cells.toArray _ HDU.out HDR.out (by rw [List.size_toArray,kd0_size];exact SKd) (by rfl) (by rfl) r9 ?_
   exact saysum_bad HNR.out (HB5.out.trans (hb9.mono (by omega)))
  ·have HGD:=Lib.hid (show N.right d=true∧N.size≤1048576 from ⟨HRR.out,by omega⟩)
   obtain ⟨D,hD⟩:∃D,D=sumOf N.bytes:=⟨_,rfl⟩
   have HDE:=Lib.hid hD
   have HDL:=Lib.hid (show D.length=32 from by rw [hD];rfl)
   have HDO:=Lib.hid (show Sm.allB D from by rw [hD];exact sumOf_ok _)
   clear hks hD
   have HRO5:=Lib.hid (kd_rows_ok HOK5.out)
   have hsm:=sum_any' N.bytes q9 N.bytes.length c9 w5 HT5.out HLB.out
   rw [← HDE.out] at hsm
   have HSM:=Lib.hid hsm
   clear hsm
   go_upto_region 8 with (first
    | (go_at_call 151;refine HSM.out.mono ?_;rintro e w6 ⟨rfl,b6⟩;have HX6:=Lib.hid ((b6.block _ (Array.getElem?_eq_some_iff.1 HXR.out).1).trans HXR.out);have HR6:=Lib.hid ((b6.block _ (Array.getElem?_eq_some_iff.1 HR5.out).1).trans HR5.out);have HRW6:=Lib.hid (show ∀r∈kd.rows,r.Ok w6 from fun r hr=>(HRO5.out r hr).later b6);have HB6:=Lib.hid (HB5.out.trans (b6.mono HB5.out.size));clear b6)
    | (refine wpList_store_mid (by rfl) 30 _ _ (by rfl) gk 0 (u8s D) (by rfl) (by rfl) (by rw [u8s_size,HDL.out];exact kd_there HX6.out HOK5.out.len) (by rw [u8s_size,HDL.out];exact S25) (u8s_one _) ?_))
   have r7:=kd_sum (D:=D) HX6.out HOK5.out.len HDL.out
   have o7:=only_cells w6 gk 0 (vals D)
   rw [show (u8s D).toList=vals D from rfl]
   have HO7:=Lib.hid o7
   have HX7:=Lib.hid r7
   have HR7:=Lib.hid ((o7.block _ (Array.getElem?_eq_some_iff.1 HR6.out).1 (by have:=HGX.out;omega)).trans HR6.out)
   clear o7 r7
   generalize w6.setCells gk 0 (vals D)=w7 at *
   have HCL:=Lib.hid (show ({kd with sum:=D}:Kd).cells.length=37 from Kd.cells_length HDL.out)
   have HRG:=Lib.hid (range_kd HX7.out)
   clear c35
   go_wp2_with (first
    | (refine wpList_load_mid (by rfl) 34 _ (by rfl) gk 0 (by rfl) ({kd with sum:=D}:Kd).cells du HRG.out HDU.out HDR.out (by rw [HCL.out];exact SKd) ?_)
    | (refine wpList_store_row (by rfl) 34 _ _ (by rfl) (w.heap.size+1) ({kd with sum:=D}:Kd).cells.toArray (by rfl) (by rfl) _ _ HR7.out (by rw [List.size_toArray,HCL.out];exact SKd) (by simp only [List.size_toArray,HCL.out,kd0_size]) (all_oneCell_toArray Kd.one) ?_))
   have r9:=setRow_heap _ (w.heap.size+1) _ ({kd with sum:=D}:Kd).cells.toArray _ _ HR7.out
   have hrow:∀r∈kd.rows,r.Ok (w7.setRow (w.heap.size+1) ({kd with sum:=D}:Kd).cells.toArray):=fun r hr=>rw_keep (HRW6.out r hr) (fun x hx hR=>by
    have h9:=(HFX.out r hr).2 x hx hR
    have hs6:x.block<w6.heap.size:=rintsLt (HRW6.out r hr).ints hx hR
    rw [setRow_other _ _ _ _ (by have:=HGX.out;omega)]
    exact HO7.out.block _ hs6 (by omega))
   refine ret_str2 6 7 (by kernel_rfl) (w.heap.size+1) _ ({kd with sum:=D}:Kd).cells.toArray _ HDU.out HDR.out (by rw [List.size_toArray,HCL.out];exact SKd) (by rfl) (by rfl) r9 ?_
   have hkok:({kd with sum:=D}:Kd).Ok (w7.setRow (w.heap.size+1) ({kd with sum:=D}:Kd).cells.toArray):=⟨HDL.out,HDO.out,hrow _ (by simp [Kd.rows]),hrow _ (by simp [Kd.rows]),hrow _ (by simp [Kd.rows]),HOK5.out.live,HOK5.out.size⟩
   have hkpk:({kd with sum:=D}:Kd).pk=N.says:=by
    have e4:=HPK.out
    unfold PN.says
    rw [← e4,← HDE.out]
    rfl
   have hkf:Fsh w ({kd with sum:=D}:Kd):=fun r hr x hx hR=>by have:=((HFX.out r hr).2 x hx hR).1;have:=HGX.out;omega
   have hb7:Below w.heap.size w w7:=HB6.out.trans (HO7.out.below HB6.out.size (fun j e=>by have:=HGX.out;omega))
   exact ⟨Below.setRow hb7 (by omega) _,Or.inl ⟨HGD.out,_,rfl,hkpk,hkok,hkf⟩⟩
theorem Say_any (kind:Nat) (hkd:kind<256) (p:Option Addr) (n c:Nat) (q:Option Addr) (m f:Nat) (E:List En) (K:List Kd) (d:Int) (w:World) (hE:EntsIn w p n c E) (hK:KidsIn w q m f K):
  Calls Tryz.prog 105 #[.agg #[.int .u8 kind,.slice p n c,.slice q m f],.int .i64 d] w (SaySum w (pnOf kind E K) d):=by
 have hb1:Below w.heap.size w (w.alloc (.cells #[.int .u8 kind,.slice p n c,.slice q m f] 81)):=(Below.refl _ _).alloc (Nat.le_refl _) _
 have hn1:=NodeAt.start w kind p n c q m f
 have z1:(w.alloc (.cells #[.int .u8 kind,.slice p n c,.slice q m f] 81)).heap.size=w.heap.size+1:=by simp
 have HKD:=Lib.hid hkd
 have HE:=Lib.hid hE
 have HK:=Lib.hid hK
 obtain ⟨du,hdu,hdr⟩:=UKd
 have HDU:=Lib.hid hdu
 have HDR:=Lib.hid hdr
 have HZ:=Lib.hid (zero_of_info kz)
 clear hkd hE hK hdu hdr
 have hz0:=HZ.out.1
 go_enter Tryz.func105,Tryz.ntmps105
 go_upto_region 1 with fail
 have hb2:Below (w.heap.size+1) (w.alloc (.cells #[.int .u8 kind,.slice p n c,.slice q m f] 81)) ((w.alloc (.cells #[.int .u8 kind,.slice p n c,.slice q m f] 81)).alloc (.cells kd0.cells.toArray 34)):=(Below.refl _ _).alloc (by omega) _
 have r2:=heap_alloc_new (w.alloc (.cells #[.int .u8 kind,.slice p n c,.slice q m f] 81)) (.cells kd0.cells.toArray 34)
 rw [z1] at r2
 have HN2:=Lib.hid (hn1.later (by rw [z1];exact hb2))
 have HB2:=Lib.hid (hb1.trans (hb2.mono (by omega)))
 have HR2:=Lib.hid r2
 clear hb1 hn1 z1 hb2 r2
 generalize (w.alloc (.cells #[.int .u8 kind,.slice p n c,.slice q m f] 81)).alloc (.cells kd0.cells.toArray 34)=w2 at *
 have HSAY:=Lib.hid (say_sum kind HKD.out p n c q m f E K d w2 (HE.out.later HB2.out) (HK.out.later HB2.out))
 generalize pnOf kind E K=N at *
 obtain ⟨t0,t1,t2⟩:=HN2.out.cells
 have HS2:=Lib.hid (show w.heap.size+1<w2.heap.size from (Array.getElem?_eq_some_iff.1 HR2.out).1)
 by_cases hg:N.right d=true∧N.size≤1048576
 ·have HG:=Lib.hid hg
  clear hg
  go_wp2_with (first
   | (go_at_call 150;refine HSAY.out.mono ?_;rintro e w3 ⟨b3,h3⟩;obtain ⟨kd,rfl,hpk,hok,hfs⟩:=(h3.elim (fun h=>h.2) (fun h=>absurd HG.out h.1));have HR3:=Lib.hid ((b3.block _ (Array.getElem?_eq_some_iff.1 HR2.out).1).trans HR2.out);have HB3:=Lib.hid (HB2.out.trans (b3.mono HB2.out.size));clear b3;have HCL:=Lib.hid (Kd.cells_length hok.len);have HPK:=Lib.hid hpk;have HOK:=Lib.hid hok;have HFS:=Lib.hid hfs;clear hpk hok hfs)
   | (refine wpList_store_row (by rfl) 34 _ _ (by rfl) (w.heap.size+1) kd.cells.toArray (by rfl) (by rfl) _ _ HR3.out (by rw [List.size_toArray,HCL.out];exact SKd) (by simp only [List.size_toArray,HCL.out,kd0_size]) (all_oneCell_toArray Kd.one) ?_))
  have r9:=setRow_heap _ (w.heap.size+1) _ kd.cells.toArray _ _ HR3.out
  have hrow:∀r∈kd.rows,r.Ok (w3.setRow (w.heap.size+1) kd.cells.toArray):=fun r hr=>rw_keep (kd_rows_ok HOK.out r hr) (fun x hx hR=>setRow_other _ _ _ _ (by have:=HFS.out r hr x hx hR;have:=HS2.out;omega))
  refine ret_str2 4 5 (by kernel_rfl) (w.heap.size+1) _ kd.cells.toArray _ HDU.out HDR.out (by rw [List.size_toArray,HCL.out];exact SKd) (by rfl) (by rfl) r9 ?_
  have hkok:kd.Ok (w3.setRow (w.heap.size+1) kd.cells.toArray):=⟨HOK.out.len,HOK.out.ok,hrow _ (by simp [Kd.rows]),hrow _ (by simp [Kd.rows]),hrow _ (by simp [Kd.rows]),HOK.out.live,HOK.out.size⟩
  have hkf:Fsh w kd:=fun r hr x hx hR=>by have:=HFS.out r hr x hx hR;have:=HS2.out;omega
  exact ⟨Below.setRow HB3.out (by omega) _,Or.inl ⟨HG.out,kd,rfl,HPK.out,hkok,hkf⟩⟩
 ·have HG:=Lib.hid hg
  clear hg
  go_wp2_with (first
   | (go_at_call 150;refine HSAY.out.mono ?_;rintro e w3 ⟨b3,h3⟩;obtain rfl:e= .returned (.tuple #[.agg kd0.cells.toArray,.int .i64 1]):=(h3.elim (fun h=>absurd h.1 HG.out) (fun h=>h.2));have HR3:=Lib.hid ((b3.block _ (Array.getElem?_eq_some_iff.1 HR2.out).1).trans HR2.out);have HB3:=Lib.hid (HB2.out.trans (b3.mono HB2.out.size));clear b3)
   | (refine wpList_store_row (by rfl) 34 _ _ (by rfl) (w.heap.size+1) kd0.cells.toArray (by rfl) (by rfl) _ _ HR3.out (by rw [List.size_toArray,kd0_size];exact SKd) rfl (all_oneCell_toArray Kd.one) ?_))
  have r9:=setRow_heap _ (w.heap.size+1) _ kd0.cells.toArray _ _ HR3.out
  have hb9:Below (w.heap.size+1) w3 (w3.setRow (w.heap.size+1) kd0.cells.toArray):=Below.setRow (Below.refl _ _) (Nat.le_refl _) _
  refine ret_str2 4 5 (by kernel_rfl) (w.heap.size+1) _ kd0.cells.toArray _ HDU.out HDR.out (by rw [List.size_toArray,kd0_size];exact SKd) (by rfl) (by rfl) r9 ?_
  exact saysum_bad HG.out (HB3.out.trans (hb9.mono (by omega)))
theorem nd0_built:Tryz.prog.built 81 []=some #[.int .u8 0,.slice none 0 0,.slice none 0 0]:=by kernel_rfl
theorem nd0_one:(#[.int .u8 0,.slice none 0 0,.slice none 0 0]:Array Value).all (·.oneCell')=true:=all_oneCell_toArray (cs:=[.int .u8 0,.slice none 0 0,.slice none 0 0]) fun u hu=>by
 simp only [List.mem_cons,List.not_mem_nil,or_false] at hu
 rcases hu with rfl | rfl | rfl<;>rfl
theorem Get_none {g:Nat} {Q:Nat→Prop} {s:Pg.S} (k:Kd) (d:Int) (w:World) (hp:PL w g Q s) (hk:k.Ok w) (ht:textAt s.W k.sum=none):
  Calls Tryz.prog 52 #[.pointer (some ⟨g,0,none⟩),.agg k.cells.toArray,.int .i64 d] w fun e w'=>e= .returned (.tuple #[.agg #[.int .u8 0,.slice none 0 0,.slice none 0 0],.int .i64 21])∧Below w.heap.size w w':=by
 have hb1:Below w.heap.size w (w.alloc (.cells k.cells.toArray 34)):=(Below.refl _ _).alloc (Nat.le_refl _) _
 have r1:=heap_alloc_new w (.cells k.cells.toArray 34)
 have z1:(w.alloc (.cells k.cells.toArray 34)).heap.size=w.heap.size+1:=by simp
 have hb2:Below (w.heap.size+1) (w.alloc (.cells k.cells.toArray 34)) ((w.alloc (.cells k.cells.toArray 34)).alloc (.cells #[.int .u8 0,.slice none 0 0,.slice none 0 0] 81)):=(Below.refl _ _).alloc (by omega) _
 have r2:=heap_alloc_new (w.alloc (.cells k.cells.toArray 34)) (.cells #[.int .u8 0,.slice none 0 0,.slice none 0 0] 81)
 rw [z1] at r2
 have HR1:=Lib.hid ((hb2.block _ (by omega)).trans r1)
 have HR2:=Lib.hid r2
 have HB2:=Lib.hid (hb1.trans (hb2.mono (by omega)))
 have HP:=Lib.hid hp
 have HSL:=Lib.hid hk.len
 have HSO:=Lib.hid hk.ok
 have HT:=Lib.hid ht
 obtain ⟨dn,hdn,hdnr⟩:=UNo
 have HDN:=Lib.hid hdn
 have HDNR:=Lib.hid hdnr
 clear hb1 r1 z1 hb2 r2 hp hk ht hdn hdnr
 go_enter Tryz.func52,Tryz.ntmps52
 go_upto_region 1 with fail
 generalize (w.alloc (.cells k.cells.toArray 34)).alloc (.cells #[.int .u8 0,.slice none 0 0,.slice none 0 0] 81)=w2 at *
 have K2:=Lib.hid (kat_row HR1.out HSL.out)
 have HPL2:=Lib.hid (HP.out.keep (fun _=>False) (Only.of_below _ HB2.out) (fun _ _ e=>e))
 have HGET:=Lib.hid (get_none k.sum HPL2.out HSL.out HSO.out HT.out)
 clear HP HPL2
 go_wp2_with (first
  | (refine wpList_load_mid (by rfl) 30 _ (by rfl) _ 0 (by rfl) (vals k.sum) _ K2.out.sum A25 (by rfl) (by rw [vals_length,HSL.out];exact S25) ?_;rw [vals_toArray])
  | (go_at_call 103;refine HGET.out.mono ?_;rintro e w3 ⟨q3,c3,rfl,b3⟩;have HR23:=Lib.hid ((b3.block _ (Array.getElem?_eq_some_iff.1 HR2.out).1).trans HR2.out);have HB3:=Lib.hid (HB2.out.trans (b3.mono HB2.out.size));clear b3)
  | (refine wpList_build (by rfl) (by rfl) nd0_built ?_)
  | (refine wpList_store_row (by rfl) 81 _ _ (by rfl) (w.heap.size+1) #[.int .u8 0,.slice none 0 0,.slice none 0 0] (by rfl) (by rfl) _ _ HR23.out SNo rfl nd0_one ?_))
 refine ret_str2 6 7 (by kernel_rfl) (w.heap.size+1) _ #[.int .u8 0,.slice none 0 0,.slice none 0 0] _ HDN.out HDNR.out SNo (by rfl) (by rfl) (setRow_heap _ _ _ _ _ _ HR23.out) ?_
 exact ⟨rfl,HB3.out.trans (Below.setRow (Below.refl _ _) (by omega) _)⟩
theorem Get_good {g:Nat} {Q:Nat→Prop} {s:Pg.S} (k:Kd) (d:Int) (t:List Nat) (w:World) (hp:PL w g Q s) (hk:k.Ok w) (ht:textAt s.W k.sum=some t) (hto:Sm.allB t) (htl:t.length≤100000) (hgood:(rdN 8 t).good d) (hz:(rdN 8 t).node.size≤1048576) (hsay:(rdN 8 t).node.says=k.pk):
  Calls Tryz.prog 52 #[.pointer (some ⟨g,0,none⟩),.agg k.cells.toArray,.int .i64 d] w fun e w'=>Below w.heap.size w w'∧∃kind p n c q m f E K,e= .returned (.tuple #[.agg #[.int .u8 (kind:Nat),.slice p n c,.slice q m f],.int .i64 0])∧EntsIn w' p n c E∧KidsIn w' q m f K∧pnOf kind E K=(rdN 8 t).node∧∃mid,Fresh w.heap.size mid w' p n c q m f E K:=by
 have hb1:Below w.heap.size w (w.alloc (.cells k.cells.toArray 34)):=(Below.refl _ _).alloc (Nat.le_refl _) _
 have r1:=heap_alloc_new w (.cells k.cells.toArray 34)
 have z1:(w.alloc (.cells k.cells.toArray 34)).heap.size=w.heap.size+1:=by simp
 have hb2:Below (w.heap.size+1) (w.alloc (.cells k.cells.toArray 34)) ((w.alloc (.cells k.cells.toArray 34)).alloc (.cells #[.int .u8 0,.slice none 0 0,.slice none 0 0] 81)):=(Below.refl _ _).alloc (by omega) _
 have r2:=heap_alloc_new (w.alloc (.cells k.cells.toArray 34)) (.cells #[.int .u8 0,.slice none 0 0,.slice none 0 0] 81)
 rw [z1] at r2
 have HR1:=Lib.hid ((hb2.block _ (by omega)).trans r1)
 have HR2:=Lib.hid r2
 have HB2:=Lib.hid (hb1.trans (hb2.mono (by omega)))
 have HP:=Lib.hid hp
 have HSL:=Lib.hid hk.len
 have HSO:=Lib.hid hk.ok
 have HKO:=Lib.hid hk
 have HT:=Lib.hid ht
 have HTO:=Lib.hid hto
 have HTL:=Lib.hid htl
 have HGD:=Lib.hid hgood
 have HZZ:=Lib.hid (show (rdN 8 t).node.right d=true∧(rdN 8 t).node.size≤1048576 from ⟨hgood.2.2,hz⟩)
 have HSY:=Lib.hid hsay
 obtain ⟨N,hN⟩:∃N,(rdN 8 t).node=N:=⟨_,rfl⟩
 rw [hN] at HZZ HSY ⊢
 have HNN:=Lib.hid hN
 clear hN
 obtain ⟨du,hdu,hdr⟩:=UKd
 have HDU:=Lib.hid hdu
 have HDR:=Lib.hid hdr
 obtain ⟨dn,hdn,hdnr⟩:=UNo
 have HDN:=Lib.hid hdn
 have HDNR:=Lib.hid hdnr
 have HZ:=Lib.hid (zero_of_info kz)
 clear hb1 r1 z1 hb2 r2 hp hk ht hto htl hgood hz hsay hdu hdr hdn hdnr
 have hz0:=HZ.out.1
 go_enter Tryz.func52,Tryz.ntmps52
 go_upto_region 1 with fail
 generalize (w.alloc (.cells k.cells.toArray 34)).alloc (.cells #[.int .u8 0,.slice none 0 0,.slice none 0 0] 81)=w2 at *
 have K2:=Lib.hid (kat_row HR1.out HSL.out)
 have HPL2:=Lib.hid (HP.out.keep (fun _=>False) (Only.of_below _ HB2.out) (fun _ _ e=>e))
 have HGET:=Lib.hid (get_any t k.sum HPL2.out HSL.out HSO.out HT.out)
 clear HP HPL2
 go_upto_region 4 with (first
  | (refine wpList_load_mid (by rfl) 30 _ (by rfl) _ 0 (by rfl) (vals k.sum) _ K2.out.sum A25 (by rfl) (by rw [vals_length,HSL.out];exact S25) ?_;rw [vals_toArray])
  | (go_at_call 103;refine HGET.out.mono ?_;rintro e w3 ⟨q3,c3,rfl,o3,b3⟩;have HT3:=Lib.hid (tx_of_owns o3 HTO.out);have HR13:=Lib.hid ((b3.block _ (Array.getElem?_eq_some_iff.1 HR1.out).1).trans HR1.out);have HR23:=Lib.hid ((b3.block _ (Array.getElem?_eq_some_iff.1 HR2.out).1).trans HR2.out);have HB3:=Lib.hid (HB2.out.trans (b3.mono HB2.out.size));clear o3 b3))
 have HDEC:=Lib.hid (decode_any t q3 t.length c3 d w3 HT3.out (by have:=HTL.out;omega))
 clear K2 HGET HR1 HR2 HB2
 go_upto_region 7 with (go_at_call 104;refine HDEC.out.mono ?_;rintro e w4 ⟨b4,h4⟩;obtain ⟨kind,p,n,c,q,m,f,E,K,rfl,hfr,hpn,hk256,mid,hmid⟩:=(h4.elim (fun h=>h.2) (fun h=>absurd HGD.out h.1));rw [HNN.out] at hpn;have HFR:=Lib.hid hfr;have HPN:=Lib.hid hpn;have HK256:=Lib.hid hk256;have HMID:=Lib.hid hmid;have HR14:=Lib.hid ((b4.block _ (Array.getElem?_eq_some_iff.1 HR13.out).1).trans HR13.out);have HR24:=Lib.hid ((b4.block _ (Array.getElem?_eq_some_iff.1 HR23.out).1).trans HR23.out);have HB4:=Lib.hid (HB3.out.trans (b4.mono HB3.out.size));have HS4:=Lib.hid b4.size;have HLT3:=Lib.hid (show w.heap.size+1<w3.heap.size from (Array.getElem?_eq_some_iff.1 HR23.out).1);clear b4 h4 hfr hpn hk256 hmid)
 have hba:Below w4.heap.size w4 (w4.alloc (.cells #[.int .u8 (kind:Nat),.slice p n c,.slice q m f] 81)):=(Below.refl _ _).alloc (Nat.le_refl _) _
 have HN5:=Lib.hid (NodeAt.start w4 kind p n c q m f)
 have HR15:=Lib.hid ((hba.block _ (Array.getElem?_eq_some_iff.1 HR14.out).1).trans HR14.out)
 have HR25:=Lib.hid ((hba.block _ (Array.getElem?_eq_some_iff.1 HR24.out).1).trans HR24.out)
 have HB5:=Lib.hid (HB4.out.trans (hba.mono HB4.out.size))
 have HE5:=Lib.hid (HFR.out (w4.alloc (.cells #[.int .u8 (kind:Nat),.slice p n c,.slice q m f] 81)) (fun j _ hj=>hba.block j hj))
 have HW5:=Lib.hid (show ∀j,j<w4.heap.size→(w4.alloc (.cells #[.int .u8 (kind:Nat),.slice p n c,.slice q m f] 81)).heap[j]? =w4.heap[j]? from fun j hj=>hba.block j hj)
 have hs5:w4.heap.size<(w4.alloc (.cells #[.int .u8 (kind:Nat),.slice p n c,.slice q m f] 81)).heap.size:=by simp
 have HS5:=Lib.hid hs5
 generalize w4.alloc (.cells #[.int .u8 (kind:Nat),.slice p n c,.slice q m f] 81)=w5 at *
 clear hba hs5 HR14 HR24 HR13 HR23 HB4 HT3 HDEC HB3
 obtain ⟨t0,t1,t2⟩:=HN5.out.cells
 have hsay:=Say_any kind HK256.out p n c q m f E K d w5 HE5.out.1 HE5.out.2
 rw [HPN.out] at hsay
 have HSAY:=Lib.hid hsay
 clear hsay
 go_upto_region 8 with (first
  | (go_at_call 105;refine HSAY.out.mono ?_;rintro e w6 ⟨b6,h6⟩;obtain ⟨kd,rfl,hpk,hok,-⟩:=(h6.elim (fun h=>h.2) (fun h=>absurd HZZ.out h.1));have HPK:=Lib.hid hpk;have HOK:=Lib.hid hok;have HCL:=Lib.hid (Kd.cells_length hok.len);have HN6:=Lib.hid (HN5.out.later b6);have HR16:=Lib.hid ((b6.block _ (Array.getElem?_eq_some_iff.1 HR15.out).1).trans HR15.out);have HR26:=Lib.hid ((b6.block _ (Array.getElem?_eq_some_iff.1 HR25.out).1).trans HR25.out);have HB6:=Lib.hid (HB5.out.trans (b6.mono HB5.out.size));have HW6:=Lib.hid (show w5.heap.size≤w6.heap.size∧∀j,j<w5.heap.size→w6.heap[j]? =w5.heap[j]? from ⟨b6.size,fun j hj=>b6.block j hj⟩);clear b6 h6 hpk hok)
  | (refine wpList_store_row (by rfl) 34 (.tmp 11) (.tmp 35) (by rfl) w6.heap.size kd.cells.toArray (by rfl) (by rfl) _ _ (heap_alloc_new w6 _) (by rw [List.size_toArray,HCL.out];exact SKd) (by simp only [List.size_toArray,HCL.out,kd0_size]) (all_oneCell_toArray Kd.one) ?_;rw [setRow_alloc]))
 have hba:Below w6.heap.size w6 (w6.alloc (.cells kd.cells.toArray 34)):=(Below.refl _ _).alloc (Nat.le_refl _) _
 have hrx:=heap_alloc_new w6 (.cells kd.cells.toArray 34)
 have HN7:=Lib.hid (HN6.out.later hba)
 have HR17:=Lib.hid (range_kd ((hba.block _ (Array.getElem?_eq_some_iff.1 HR16.out).1).trans HR16.out))
 have HRX:=Lib.hid (range_kd hrx)
 have HR27:=Lib.hid ((hba.block _ (Array.getElem?_eq_some_iff.1 HR26.out).1).trans HR26.out)
 have HB7:=Lib.hid (HB6.out.trans (hba.mono HB6.out.size))
 have HOK7:=Lib.hid (HOK.out.later hba)
 have HKO7:=Lib.hid (HKO.out.later HB7.out)
 have HW7:=Lib.hid (show w6.heap.size≤(w6.alloc (.cells kd.cells.toArray 34)).heap.size∧∀j,j<w6.heap.size→(w6.alloc (.cells kd.cells.toArray 34)).heap[j]? =w6.heap[j]? from ⟨hba.size,fun j hj=>hba.block j hj⟩)
 generalize w6.alloc (.cells kd.cells.toArray 34)=w7 at *
 generalize w6.heap.size=g6 at *
 have HCK:=Lib.hid (Kd.cells_length HSL.out)
 have HSM:=Lib.hid (decide_eq_true (show kd.pk=k.pk from by rw [HPK.out,HSY.out]))
 clear hba hrx HN6 HR16 HR26 HB6 HOK HB5 HR15 HR25 HN5 HSAY t0 t1 t2 hz0
 go_upto_region 10 with (first
  | (refine wpList_load_midG (by rfl) 34 _ (by rfl) g6 0 (by rfl) kd.cells du HRX.out HDU.out HDR.out (by rw [HCL.out];exact SKd) ?_)
  | (refine wpList_load_midG (by rfl) 34 _ (by rfl) w.heap.size 0 (by rfl) k.cells du HR17.out HDU.out HDR.out (by rw [HCK.out];exact SKd) ?_)
  | (go_at_call 68;refine (nsame_any kd k w7 HOK7.out HKO7.out).mono ?_;rintro e w8 ⟨rfl,b8⟩;rw [HSM.out];have HN8:=Lib.hid (HN7.out.later b8);have HR28:=Lib.hid ((b8.block _ (Array.getElem?_eq_some_iff.1 HR27.out).1).trans HR27.out);have HB8:=Lib.hid (HB7.out.trans (b8.mono HB7.out.size));have HW8:=Lib.hid (show w7.heap.size≤w8.heap.size∧∀j,j<w7.heap.size→w8.heap[j]? =w7.heap[j]? from ⟨b8.size,fun j hj=>b8.block j hj⟩);clear b8))
 obtain ⟨t0,t1,t2⟩:=HN8.out.cells
 have a0:=cell_of_row w8 (w.heap.size+1) 0 _ _ _ HR28.out
 have a1:=cell_of_row w8 (w.heap.size+1) 1 _ _ _ HR28.out
 have a2:=cell_of_row w8 (w.heap.size+1) 2 _ _ _ HR28.out
 have f0:=frozen_of_row w8 (w.heap.size+1) 0 _ _ HR28.out
 have f1:=frozen_of_row w8 (w.heap.size+1) 1 _ _ HR28.out
 have f2:=frozen_of_row w8 (w.heap.size+1) 2 _ _ HR28.out
 go_wp2_with fail
 obtain ⟨r1,r2⟩:=res_set (a':=.int .u8 (kind:Nat)) (b':=.slice p n c) (c':=.slice q m f) HR28.out
 have hag:∀j,w3.heap.size≤j→j<w4.heap.size→(((w8.setCell ⟨w.heap.size+1,0,none⟩ (.int .u8 (kind:Nat))).setCell ⟨w.heap.size+1,1,none⟩ (.slice p n c)).setCell ⟨w.heap.size+1,2,none⟩ (.slice q m f)).heap[j]? =w4.heap[j]? :=fun j hj hj4=>by
  have h5:=HS5.out
  have h6:=HW6.out.1
  have h7:=HW7.out.1
  have h8:=HW8.out.1
  have h3:=HLT3.out
  rw [r2.block j (by omega) (by omega),HW8.out.2 j (by omega),HW7.out.2 j (by omega),HW6.out.2 j (by omega)]
  exact HW5.out j hj4
 have hfin:=HFR.out _ hag
 exact ret_str2 6 7 (by kernel_rfl) (w.heap.size+1) _ #[.int .u8 (kind:Nat),.slice p n c,.slice q m f] _ HDN.out HDNR.out SNo (by rfl) (by rfl) r1 ⟨HB8.out.trans (r2.below HB8.out.size (fun j e=>by omega)),kind,p,n,c,q,m,f,E,K,rfl,hfin.1,hfin.2,HPN.out,mid,(HMID.out.keep hag).down (by have:=HLT3.out;omega)⟩
end Go.Proofs.YtinihaflmdihaaaGreat.Nd
