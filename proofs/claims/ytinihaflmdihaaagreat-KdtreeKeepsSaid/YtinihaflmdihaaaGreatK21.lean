/- NlSaySum, NlSay, NlGetNone, NlGet, NlGetUn, KdGet, KtSee. -/
import Derived.BigRegion
import Derived.Deep.MidRow
import Derived.Test.YtinihaflmdihaaaGreatK20
set_option maxRecDepth 100000
set_option maxHeartbeats 8000000
set_option linter.all false
namespace Go.Proofs.YtinihaflmdihaaaGreat.Nd
open Go.RowKit Go.Proofs.YtinihaflmdihaaaGreat.Dk Go.Proofs.YtinihaflmdihaaaGreat.Pg
def SaySum (w:World) (N:PN) (d:Int) (e:Ending) (w':World):Prop:=
 Below w.heap.size w w'∧
 (((N.right d=true∧N.size≤1048576)∧∃kd:Kd,e= .returned (.tuple #[.agg kd.cells.toArray,.int .i64 0])∧kd.pk=N.says∧kd.Ok w'∧Fsh w kd)∨
  (¬(N.right d=true∧N.size≤1048576)∧e= .returned (.tuple #[.agg kd0.cells.toArray,.int .i64 1])))
theorem saysum_bad {w w':World} {N:PN} {d:Int} (h:¬(N.right d=true∧N.size≤1048576)) (hb:Below w.heap.size w w'):SaySum w N d (.returned (.tuple #[.agg kd0.cells.toArray,.int .i64 1])) w':=⟨hb,Or.inr ⟨h,rfl⟩⟩
theorem say_sum (kind:Nat) (hkd:kind<256) (p:Option Addr) (n c:Nat) (q:Option Addr) (m f:Nat) (E:List En) (K:List Kd) (d:Int) (w:World) (hE:EntsIn w p n c E) (hK:KidsIn w q m f K):
  Calls Tryz.prog 150 #[.agg #[.int .u8 kind,.slice p n c,.slice q m f],.int .i64 d,.func (.func 151) #[] #[]] w (SaySum w (pnOf kind E K) d):=by
 have hb1:Below w.heap.size w (w.alloc (.cells #[.int .u8 kind,.slice p n c,.slice q m f] 81)):=(Below.refl _ _).alloc (Nat.le_refl _) _
 have hn1:=NodeAt.start w kind p n c q m f
 have z1:(w.alloc (.cells #[.int .u8 kind,.slice p n c,.slice q m f] 81)).heap.size=w.heap.size+1:=by simp
 have HKD:=yH hkd
 have HE:=yH hE
 have HK:=yH hK
 obtain ⟨du,hdu,hdr⟩:=UKd
 have HDU:=yH hdu
 have HDR:=yH hdr
 have HZ:=yH (zero_of_info kz)
 clear hkd hE hK hdu hdr
 have hz0:=HZ.out.1
 go_enter Tryz.func150,Tryz.ntmps150
 go_upto_region 1 with fail
 have hb2:Below (w.heap.size+1) (w.alloc (.cells #[.int .u8 kind,.slice p n c,.slice q m f] 81)) ((w.alloc (.cells #[.int .u8 kind,.slice p n c,.slice q m f] 81)).alloc (.cells kd0.cells.toArray 34)):=(Below.refl _ _).alloc (by omega) _
 have r2:=heap_alloc_new (w.alloc (.cells #[.int .u8 kind,.slice p n c,.slice q m f] 81)) (.cells kd0.cells.toArray 34)
 rw [z1] at r2
 have HN2:=yH (hn1.later (by rw [z1];exact hb2))
 have HB2:=yH (hb1.trans (hb2.mono (by omega)))
 have HR2:=yH r2
 clear hb1 hn1 z1 hb2 r2
 generalize (w.alloc (.cells #[.int .u8 kind,.slice p n c,.slice q m f] 81)).alloc (.cells kd0.cells.toArray 34)=w2 at *
 have HENC:=yH (encode_any kind HKD.out p n c q m f E K d w2 (HE.out.later HB2.out) (HK.out.later HB2.out))
 have HTAL:=yH (fun w3 (h:Below w.heap.size w w3) (hr:(pnOf kind E K).right d=true)=>tally_any kind p n c q m f E K d w3 (HE.out.later h) (HK.out.later h) hr)
 have HLN:=yH (fun (hr:(pnOf kind E K).right d=true)=>node_bytes_len (PN.fit hr) (fun k hk=>by obtain ⟨y,hy,rfl⟩:=List.mem_map.1 hk;exact (HK.out.each y hy).len))
 generalize pnOf kind E K=N at *
 obtain ⟨t0,t1,t2⟩:=HN2.out.cells
 cases hr:N.right d with
 | false=>
  have HNR:=yH (show ¬(N.right d=true∧N.size≤1048576) from fun h=>by rw [hr] at h;exact absurd h.1 (by simp))
  have HRR:=yH hr
  clear hr
  go_wp2_with (first
   | (go_at_call 205;refine HENC.out.mono ?_;rintro e w3 ⟨b3,h3⟩;obtain rfl:e= .returned (.tuple #[.slice Option.none 0 0,.int .i64 1]):=(h3.elim (fun h=>by rw [HRR.out] at h;exact absurd h.1 (by simp)) (fun h=>h.2));have HR3:=yH ((b3.block _ (yL HR2.out)).trans HR2.out);have HB3:=yH (HB2.out.trans (b3.mono HB2.out.size));clear b3 h3)
   | (refine wpList_build (by rfl) (by rfl) kd0_built ?_)
   | (refine wpList_store_row (by rfl) 34 _ _ (by rfl) (w.heap.size+1) kd0.cells.toArray (by rfl) (by rfl) _ _ HR3.out (by rw [List.size_toArray,kd0_size];exact SKd) rfl (all_oneCell_toArray Kd.one) ?_))
  have r9:=setRow_heap _ (w.heap.size+1) _ kd0.cells.toArray _ _ HR3.out
  have hb9:Below (w.heap.size+1) w3 (w3.setRow (w.heap.size+1) kd0.cells.toArray):=Below.setRow (Below.refl _ _) (Nat.le_refl _) _
  refine ret_str2 6 7 (by kernel_rfl) (w.heap.size+1) _ kd0.cells.toArray _ HDU.out HDR.out (by rw [List.size_toArray,kd0_size];exact SKd) (by rfl) (by rfl) r9 ?_
  exact saysum_bad HNR.out (HB3.out.trans (hb9.mono (by omega)))
 | true=>
  have HRR:=yH hr
  have HLB:=yH (HLN.out hr)
  clear hr
  go_upto_region 5 with (first
   | (go_at_call 205;refine HENC.out.mono ?_;rintro e w3 ⟨b3,h3⟩;obtain ⟨q9,c9,rfl,o9,ok9⟩:=(h3.elim (fun h=>h.2) (fun h=>by rw [HRR.out] at h;exact absurd h.1 (by simp)));have HT3:=yH (tx_of_owns o9 ok9);have HN3:=yH (HN2.out.later b3);have HR3:=yH ((b3.block _ (yL HR2.out)).trans HR2.out);have HB3:=yH (HB2.out.trans (b3.mono HB2.out.size));obtain ⟨t0,t1,t2⟩:=HN3.out.cells;have HTL:=yH (HTAL.out w3 HB3.out HRR.out);clear b3 h3 o9 ok9)
   | (go_at_call 206;refine HTL.out.mono ?_;rintro e w4 ⟨kd,rfl,hpk,hok4,hfs,b4⟩;have HPK:=yH hpk;have HOK4:=yH hok4;have HFS:=yH hfs;have HT4:=yH (HT3.out.later b4);have HR4:=yH ((b4.block _ (yL HR3.out)).trans HR3.out);have HB4:=yH (HB3.out.trans (b4.mono HB3.out.size));have HS34:=yH b4.size;clear hpk hok4 hfs b4)
   | (refine wpList_store_row (by rfl) 34 (.tmp 10) (.tmp 22) (by rfl) w4.heap.size kd.cells.toArray (by rfl) (by rfl) _ _ (heap_alloc_new w4 _) (by rw [List.size_toArray,Kd.cells_length HOK4.out.len];exact SKd) (by simp only [List.size_toArray,Kd.cells_length HOK4.out.len,kd0_size]) (all_oneCell_toArray Kd.one) ?_;rw [setRow_alloc]))
  have hrx:=heap_alloc_new w4 (.cells kd.cells.toArray 34)
  have hba:Below w4.heap.size w4 (w4.alloc (.cells kd.cells.toArray 34)):=(Below.refl _ _).alloc (Nat.le_refl _) _
  have HT5:=yH (HT4.out.later hba)
  have HR5:=yH ((hba.block _ (yL HR4.out)).trans HR4.out)
  have HB5:=yH (HB4.out.trans (hba.mono HB4.out.size))
  have HOK5:=yH (HOK4.out.later hba)
  have HXR:=yH hrx
  have HGX:=yH (show w.heap.size+1<w3.heap.size∧w3.heap.size≤w4.heap.size from ⟨(yL HR3.out),HS34.out⟩)
  have HFX:=yH (show ∀r∈kd.rows,r.Ok w4∧(∀x,r.p=some x→r.R≠[]→w3.heap.size≤x.block∧x.block<w4.heap.size) from fun r hr=>by
   have hro:r.Ok w4:=by
    simp only [Kd.rows,List.mem_cons,List.not_mem_nil,or_false] at hr
    rcases hr with rfl | rfl | rfl
    ·exact HOK4.out.lo
    ·exact HOK4.out.hi
    ·exact HOK4.out.key
   exact ⟨hro,fun x hx hR=>⟨HFS.out r hr x hx hR,rintsLt hro.ints hx hR⟩⟩)
  have hsz:w4.heap.size<(w4.alloc (.cells kd.cells.toArray 34)).heap.size:=by simp
  have HSZ:=yH hsz
  generalize w4.alloc (.cells kd.cells.toArray 34)=w5 at *
  clear hrx hba hsz HT4 HR4 HT3 HR3 HN3 HTL HENC HTAL HR2 HN2 HB2 t0 t1 t2 HB3 HB4
  generalize w4.heap.size=gk at *
  have c35:=(kat_row HXR.out HOK5.out.len).size
  rw [Nat.zero_add] at c35
  have hks:kd.size=N.size:=congrArg PK.size HPK.out
  by_cases hz:1048576<kd.size
  ·have HNR:=yH (show ¬(N.right d=true∧N.size≤1048576) from fun h=>by have:=h.2;omega)
   clear hks
   go_wp2_with (first
    | (refine wpList_build (by rfl) (by rfl) kd0_built ?_)
    | (refine wpList_store_row (by rfl) 34 _ _ (by rfl) (w.heap.size+1) kd0.cells.toArray (by rfl) (by rfl) _ _ HR5.out (by rw [List.size_toArray,kd0_size];exact SKd) rfl (all_oneCell_toArray Kd.one) ?_))
   have r9:=setRow_heap _ (w.heap.size+1) _ kd0.cells.toArray _ _ HR5.out
   have hb9:Below (w.heap.size+1) w5 (w5.setRow (w.heap.size+1) kd0.cells.toArray):=Below.setRow (Below.refl _ _) (Nat.le_refl _) _
   refine ret_str2 6 7 (by kernel_rfl) (w.heap.size+1) _ kd0.cells.toArray _ HDU.out HDR.out (by rw [List.size_toArray,kd0_size];exact SKd) (by rfl) (by rfl) r9 ?_
   exact saysum_bad HNR.out (HB5.out.trans (hb9.mono (by omega)))
  ·have HGD:=yH (show N.right d=true∧N.size≤1048576 from ⟨HRR.out,by omega⟩)
   obtain ⟨D,hD⟩:∃D,D=sumOf N.bytes:=⟨_,rfl⟩
   have HDE:=yH hD
   have HDL:=yH (show D.length=32 from by rw [hD];rfl)
   have HDO:=yH (show Sm.allB D from by rw [hD];exact sumOf_ok _)
   clear hks hD
   have HRO5:=yH (kd_rows_ok HOK5.out)
   have hsm:=sum_any' N.bytes q9 N.bytes.length c9 w5 HT5.out HLB.out
   rw [← HDE.out] at hsm
   have HSM:=yH hsm
   clear hsm
   go_upto_region 8 with (first
    | (go_at_call 151;refine HSM.out.mono ?_;rintro e w6 ⟨rfl,b6⟩;have HX6:=yH ((b6.block _ (yL HXR.out)).trans HXR.out);have HR6:=yH ((b6.block _ (yL HR5.out)).trans HR5.out);have HRW6:=yH (show ∀r∈kd.rows,r.Ok w6 from fun r hr=>(HRO5.out r hr).later b6);have HB6:=yH (HB5.out.trans (b6.mono HB5.out.size));clear b6)
    | (refine wpList_store_mid (by rfl) 30 _ _ (by rfl) gk 0 (u8s D) (by rfl) (by rfl) (by rw [u8s_size,HDL.out];exact kd_there HX6.out HOK5.out.len) (by rw [u8s_size,HDL.out];exact S25) (u8s_one _) ?_))
   have r7:=kd_sum (D:=D) HX6.out HOK5.out.len HDL.out
   have o7:=only_cells w6 gk 0 (vals D)
   rw [show (u8s D).toList=vals D from rfl]
   have HO7:=yH o7
   have HX7:=yH r7
   have HR7:=yH ((o7.block _ (yL HR6.out) (by have:=HGX.out;omega)).trans HR6.out)
   clear o7 r7
   generalize w6.setCells gk 0 (vals D)=w7 at *
   have HCL:=yH (show ({kd with sum:=D}:Kd).cells.length=37 from Kd.cells_length HDL.out)
   have HRG:=yH (range_kd HX7.out)
   clear c35
   go_wp2_with (first
    | (refine wpList_load_mid (by rfl) 34 _ (by rfl) gk 0 (by rfl) ({kd with sum:=D}:Kd).cells du HRG.out HDU.out HDR.out (by rw [HCL.out];exact SKd) ?_)
    | (refine wpList_store_row (by rfl) 34 _ _ (by rfl) (w.heap.size+1) ({kd with sum:=D}:Kd).cells.toArray (by rfl) (by rfl) _ _ HR7.out (by rw [List.size_toArray,HCL.out];exact SKd) (by simp only [List.size_toArray,HCL.out,kd0_size]) (all_oneCell_toArray Kd.one) ?_))
   have r9:=setRow_heap _ (w.heap.size+1) _ ({kd with sum:=D}:Kd).cells.toArray _ _ HR7.out
   have hrow:∀r∈kd.rows,r.Ok (w7.setRow (w.heap.size+1) ({kd with sum:=D}:Kd).cells.toArray):=fun r hr=>rw_keep (HRW6.out r hr) (fun x hx hR=>by
    have h9:=(HFX.out r hr).2 x hx hR
    have hs6:x.block<w6.heap.size:=rintsLt (HRW6.out r hr).ints hx hR
    rw [setRow_other _ _ _ _ (by have:=HGX.out;omega)]
    exact HO7.out.block _ hs6 (by omega))
   refine ret_str2 6 7 (by kernel_rfl) (w.heap.size+1) _ ({kd with sum:=D}:Kd).cells.toArray _ HDU.out HDR.out (by rw [List.size_toArray,HCL.out];exact SKd) (by rfl) (by rfl) r9 ?_
   have hkok:({kd with sum:=D}:Kd).Ok (w7.setRow (w.heap.size+1) ({kd with sum:=D}:Kd).cells.toArray):=⟨HDL.out,HDO.out,hrow _ (by simp [Kd.rows]),hrow _ (by simp [Kd.rows]),hrow _ (by simp [Kd.rows]),HOK5.out.live,HOK5.out.size⟩
   have hkpk:({kd with sum:=D}:Kd).pk=N.says:=by
    have e4:=HPK.out
    unfold PN.says
    rw [← e4,← HDE.out]
    rfl
   have hkf:Fsh w ({kd with sum:=D}:Kd):=fun r hr x hx hR=>by have:=((HFX.out r hr).2 x hx hR).1;have:=HGX.out;omega
   have hb7:Below w.heap.size w w7:=HB6.out.trans (HO7.out.below HB6.out.size (fun j e=>by have:=HGX.out;omega))
   exact ⟨Below.setRow hb7 (by omega) _,Or.inl ⟨HGD.out,_,rfl,hkpk,hkok,hkf⟩⟩
theorem Say_any (kind:Nat) (hkd:kind<256) (p:Option Addr) (n c:Nat) (q:Option Addr) (m f:Nat) (E:List En) (K:List Kd) (d:Int) (w:World) (hE:EntsIn w p n c E) (hK:KidsIn w q m f K):
  Calls Tryz.prog 105 #[.agg #[.int .u8 kind,.slice p n c,.slice q m f],.int .i64 d] w (SaySum w (pnOf kind E K) d):=by
 have hb1:Below w.heap.size w (w.alloc (.cells #[.int .u8 kind,.slice p n c,.slice q m f] 81)):=(Below.refl _ _).alloc (Nat.le_refl _) _
 have hn1:=NodeAt.start w kind p n c q m f
 have z1:(w.alloc (.cells #[.int .u8 kind,.slice p n c,.slice q m f] 81)).heap.size=w.heap.size+1:=by simp
 have HKD:=yH hkd
 have HE:=yH hE
 have HK:=yH hK
 obtain ⟨du,hdu,hdr⟩:=UKd
 have HDU:=yH hdu
 have HDR:=yH hdr
 have HZ:=yH (zero_of_info kz)
 clear hkd hE hK hdu hdr
 have hz0:=HZ.out.1
 go_enter Tryz.func105,Tryz.ntmps105
 go_upto_region 1 with fail
 have hb2:Below (w.heap.size+1) (w.alloc (.cells #[.int .u8 kind,.slice p n c,.slice q m f] 81)) ((w.alloc (.cells #[.int .u8 kind,.slice p n c,.slice q m f] 81)).alloc (.cells kd0.cells.toArray 34)):=(Below.refl _ _).alloc (by omega) _
 have r2:=heap_alloc_new (w.alloc (.cells #[.int .u8 kind,.slice p n c,.slice q m f] 81)) (.cells kd0.cells.toArray 34)
 rw [z1] at r2
 have HN2:=yH (hn1.later (by rw [z1];exact hb2))
 have HB2:=yH (hb1.trans (hb2.mono (by omega)))
 have HR2:=yH r2
 clear hb1 hn1 z1 hb2 r2
 generalize (w.alloc (.cells #[.int .u8 kind,.slice p n c,.slice q m f] 81)).alloc (.cells kd0.cells.toArray 34)=w2 at *
 have HSAY:=yH (say_sum kind HKD.out p n c q m f E K d w2 (HE.out.later HB2.out) (HK.out.later HB2.out))
 generalize pnOf kind E K=N at *
 obtain ⟨t0,t1,t2⟩:=HN2.out.cells
 have HS2:=yH (show w.heap.size+1<w2.heap.size from (yL HR2.out))
 by_cases hg:N.right d=true∧N.size≤1048576
 ·have HG:=yH hg
  clear hg
  go_wp2_with (first
   | (go_at_call 150;refine HSAY.out.mono ?_;rintro e w3 ⟨b3,h3⟩;obtain ⟨kd,rfl,hpk,hok,hfs⟩:=(h3.elim (fun h=>h.2) (fun h=>absurd HG.out h.1));have HR3:=yH ((b3.block _ (yL HR2.out)).trans HR2.out);have HB3:=yH (HB2.out.trans (b3.mono HB2.out.size));clear b3;have HCL:=yH (Kd.cells_length hok.len);have HPK:=yH hpk;have HOK:=yH hok;have HFS:=yH hfs;clear hpk hok hfs)
   | (refine wpList_store_row (by rfl) 34 _ _ (by rfl) (w.heap.size+1) kd.cells.toArray (by rfl) (by rfl) _ _ HR3.out (by rw [List.size_toArray,HCL.out];exact SKd) (by simp only [List.size_toArray,HCL.out,kd0_size]) (all_oneCell_toArray Kd.one) ?_))
  have r9:=setRow_heap _ (w.heap.size+1) _ kd.cells.toArray _ _ HR3.out
  have hrow:∀r∈kd.rows,r.Ok (w3.setRow (w.heap.size+1) kd.cells.toArray):=fun r hr=>rw_keep (kd_rows_ok HOK.out r hr) (fun x hx hR=>setRow_other _ _ _ _ (by have:=HFS.out r hr x hx hR;have:=HS2.out;omega))
  refine ret_str2 4 5 (by kernel_rfl) (w.heap.size+1) _ kd.cells.toArray _ HDU.out HDR.out (by rw [List.size_toArray,HCL.out];exact SKd) (by rfl) (by rfl) r9 ?_
  have hkok:kd.Ok (w3.setRow (w.heap.size+1) kd.cells.toArray):=⟨HOK.out.len,HOK.out.ok,hrow _ (by simp [Kd.rows]),hrow _ (by simp [Kd.rows]),hrow _ (by simp [Kd.rows]),HOK.out.live,HOK.out.size⟩
  have hkf:Fsh w kd:=fun r hr x hx hR=>by have:=HFS.out r hr x hx hR;have:=HS2.out;omega
  exact ⟨Below.setRow HB3.out (by omega) _,Or.inl ⟨HG.out,kd,rfl,HPK.out,hkok,hkf⟩⟩
 ·have HG:=yH hg
  clear hg
  go_wp2_with (first
   | (go_at_call 150;refine HSAY.out.mono ?_;rintro e w3 ⟨b3,h3⟩;obtain rfl:e= .returned (.tuple #[.agg kd0.cells.toArray,.int .i64 1]):=(h3.elim (fun h=>absurd h.1 HG.out) (fun h=>h.2));have HR3:=yH ((b3.block _ (yL HR2.out)).trans HR2.out);have HB3:=yH (HB2.out.trans (b3.mono HB2.out.size));clear b3)
   | (refine wpList_store_row (by rfl) 34 _ _ (by rfl) (w.heap.size+1) kd0.cells.toArray (by rfl) (by rfl) _ _ HR3.out (by rw [List.size_toArray,kd0_size];exact SKd) rfl (all_oneCell_toArray Kd.one) ?_))
  have r9:=setRow_heap _ (w.heap.size+1) _ kd0.cells.toArray _ _ HR3.out
  have hb9:Below (w.heap.size+1) w3 (w3.setRow (w.heap.size+1) kd0.cells.toArray):=Below.setRow (Below.refl _ _) (Nat.le_refl _) _
  refine ret_str2 4 5 (by kernel_rfl) (w.heap.size+1) _ kd0.cells.toArray _ HDU.out HDR.out (by rw [List.size_toArray,kd0_size];exact SKd) (by rfl) (by rfl) r9 ?_
  exact saysum_bad HG.out (HB3.out.trans (hb9.mono (by omega)))
theorem nd0_built:Tryz.prog.built 81 []=some #[.int .u8 0,.slice none 0 0,.slice none 0 0]:=by kernel_rfl
theorem nd0_one:(#[.int .u8 0,.slice none 0 0,.slice none 0 0]:Array Value).all (·.oneCell')=true:=all_oneCell_toArray (cs:=[.int .u8 0,.slice none 0 0,.slice none 0 0]) fun u hu=>by
 simp only [List.mem_cons,List.not_mem_nil,or_false] at hu
 rcases hu with rfl | rfl | rfl<;>rfl
theorem Get_none {g:Nat} {Q:Nat→Prop} {s:Pg.S} (k:Kd) (d:Int) (w:World) (hp:PL w g Q s) (hk:k.Ok w) (ht:textAt s.W k.sum=none):
  Calls Tryz.prog 52 #[.pointer (some ⟨g,0,none⟩),.agg k.cells.toArray,.int .i64 d] w fun e w'=>e= .returned (.tuple #[.agg #[.int .u8 0,.slice none 0 0,.slice none 0 0],.int .i64 21])∧Below w.heap.size w w':=by
 have hb1:Below w.heap.size w (w.alloc (.cells k.cells.toArray 34)):=(Below.refl _ _).alloc (Nat.le_refl _) _
 have r1:=heap_alloc_new w (.cells k.cells.toArray 34)
 have z1:(w.alloc (.cells k.cells.toArray 34)).heap.size=w.heap.size+1:=by simp
 have hb2:Below (w.heap.size+1) (w.alloc (.cells k.cells.toArray 34)) ((w.alloc (.cells k.cells.toArray 34)).alloc (.cells #[.int .u8 0,.slice none 0 0,.slice none 0 0] 81)):=(Below.refl _ _).alloc (by omega) _
 have r2:=heap_alloc_new (w.alloc (.cells k.cells.toArray 34)) (.cells #[.int .u8 0,.slice none 0 0,.slice none 0 0] 81)
 rw [z1] at r2
 have HR1:=yH ((hb2.block _ (by omega)).trans r1)
 have HR2:=yH r2
 have HB2:=yH (hb1.trans (hb2.mono (by omega)))
 have HP:=yH hp
 have HSL:=yH hk.len
 have HSO:=yH hk.ok
 have HT:=yH ht
 obtain ⟨dn,hdn,hdnr⟩:=UNo
 have HDN:=yH hdn
 have HDNR:=yH hdnr
 clear hb1 r1 z1 hb2 r2 hp hk ht hdn hdnr
 go_enter Tryz.func52,Tryz.ntmps52
 go_upto_region 1 with fail
 generalize (w.alloc (.cells k.cells.toArray 34)).alloc (.cells #[.int .u8 0,.slice none 0 0,.slice none 0 0] 81)=w2 at *
 have K2:=yH (kat_row HR1.out HSL.out)
 have HPL2:=yH (HP.out.keep (fun _=>False) (Only.of_below _ HB2.out) (fun _ _ e=>e))
 have HGET:=yH (get_none k.sum HPL2.out HSL.out HSO.out HT.out)
 clear HP HPL2
 go_wp2_with (first
  | (refine wpList_load_mid (by rfl) 30 _ (by rfl) _ 0 (by rfl) (vals k.sum) _ K2.out.sum A25 (by rfl) (by rw [vals_length,HSL.out];exact S25) ?_;rw [vals_toArray])
  | (go_at_call 103;refine HGET.out.mono ?_;rintro e w3 ⟨q3,c3,rfl,b3⟩;have HR23:=yH ((b3.block _ (yL HR2.out)).trans HR2.out);have HB3:=yH (HB2.out.trans (b3.mono HB2.out.size));clear b3)
  | (refine wpList_build (by rfl) (by rfl) nd0_built ?_)
  | (refine wpList_store_row (by rfl) 81 _ _ (by rfl) (w.heap.size+1) #[.int .u8 0,.slice none 0 0,.slice none 0 0] (by rfl) (by rfl) _ _ HR23.out SNo rfl nd0_one ?_))
 refine ret_str2 6 7 (by kernel_rfl) (w.heap.size+1) _ #[.int .u8 0,.slice none 0 0,.slice none 0 0] _ HDN.out HDNR.out SNo (by rfl) (by rfl) (setRow_heap _ _ _ _ _ _ HR23.out) ?_
 exact ⟨rfl,HB3.out.trans (Below.setRow (Below.refl _ _) (by omega) _)⟩
theorem Get_good {g:Nat} {Q:Nat→Prop} {s:Pg.S} (k:Kd) (d:Int) (t:List Nat) (w:World) (hp:PL w g Q s) (hk:k.Ok w) (ht:textAt s.W k.sum=some t) (hto:Sm.allB t) (htl:t.length≤100000) (hgood:(rdN 8 t).good d) (hz:(rdN 8 t).node.size≤1048576) (hsay:(rdN 8 t).node.says=k.pk):
  Calls Tryz.prog 52 #[.pointer (some ⟨g,0,none⟩),.agg k.cells.toArray,.int .i64 d] w fun e w'=>Below w.heap.size w w'∧∃kind p n c q m f E K,e= .returned (.tuple #[.agg #[.int .u8 (kind:Nat),.slice p n c,.slice q m f],.int .i64 0])∧EntsIn w' p n c E∧KidsIn w' q m f K∧pnOf kind E K=(rdN 8 t).node∧∃mid,Fresh w.heap.size mid w' p n c q m f E K:=by
 have hb1:Below w.heap.size w (w.alloc (.cells k.cells.toArray 34)):=(Below.refl _ _).alloc (Nat.le_refl _) _
 have r1:=heap_alloc_new w (.cells k.cells.toArray 34)
 have z1:(w.alloc (.cells k.cells.toArray 34)).heap.size=w.heap.size+1:=by simp
 have hb2:Below (w.heap.size+1) (w.alloc (.cells k.cells.toArray 34)) ((w.alloc (.cells k.cells.toArray 34)).alloc (.cells #[.int .u8 0,.slice none 0 0,.slice none 0 0] 81)):=(Below.refl _ _).alloc (by omega) _
 have r2:=heap_alloc_new (w.alloc (.cells k.cells.toArray 34)) (.cells #[.int .u8 0,.slice none 0 0,.slice none 0 0] 81)
 rw [z1] at r2
 have HR1:=yH ((hb2.block _ (by omega)).trans r1)
 have HR2:=yH r2
 have HB2:=yH (hb1.trans (hb2.mono (by omega)))
 have HP:=yH hp
 have HSL:=yH hk.len
 have HSO:=yH hk.ok
 have HKO:=yH hk
 have HT:=yH ht
 have HTO:=yH hto
 have HTL:=yH htl
 have HGD:=yH hgood
 have HZZ:=yH (show (rdN 8 t).node.right d=true∧(rdN 8 t).node.size≤1048576 from ⟨hgood.2.2,hz⟩)
 have HSY:=yH hsay
 obtain ⟨N,hN⟩:∃N,(rdN 8 t).node=N:=⟨_,rfl⟩
 rw [hN] at HZZ HSY ⊢
 have HNN:=yH hN
 clear hN
 obtain ⟨du,hdu,hdr⟩:=UKd
 have HDU:=yH hdu
 have HDR:=yH hdr
 obtain ⟨dn,hdn,hdnr⟩:=UNo
 have HDN:=yH hdn
 have HDNR:=yH hdnr
 have HZ:=yH (zero_of_info kz)
 clear hb1 r1 z1 hb2 r2 hp hk ht hto htl hgood hz hsay hdu hdr hdn hdnr
 have hz0:=HZ.out.1
 go_enter Tryz.func52,Tryz.ntmps52
 go_upto_region 1 with fail
 generalize (w.alloc (.cells k.cells.toArray 34)).alloc (.cells #[.int .u8 0,.slice none 0 0,.slice none 0 0] 81)=w2 at *
 have K2:=yH (kat_row HR1.out HSL.out)
 have HPL2:=yH (HP.out.keep (fun _=>False) (Only.of_below _ HB2.out) (fun _ _ e=>e))
 have HGET:=yH (get_any t k.sum HPL2.out HSL.out HSO.out HT.out)
 clear HP HPL2
 go_upto_region 4 with (first
  | (refine wpList_load_mid (by rfl) 30 _ (by rfl) _ 0 (by rfl) (vals k.sum) _ K2.out.sum A25 (by rfl) (by rw [vals_length,HSL.out];exact S25) ?_;rw [vals_toArray])
  | (go_at_call 103;refine HGET.out.mono ?_;rintro e w3 ⟨q3,c3,rfl,o3,b3⟩;have HT3:=yH (tx_of_owns o3 HTO.out);have HR13:=yH ((b3.block _ (yL HR1.out)).trans HR1.out);have HR23:=yH ((b3.block _ (yL HR2.out)).trans HR2.out);have HB3:=yH (HB2.out.trans (b3.mono HB2.out.size));clear o3 b3))
 have HDEC:=yH (decode_any t q3 t.length c3 d w3 HT3.out (by have:=HTL.out;omega))
 clear K2 HGET HR1 HR2 HB2
 go_upto_region 7 with (go_at_call 104;refine HDEC.out.mono ?_;rintro e w4 ⟨b4,h4⟩;obtain ⟨kind,p,n,c,q,m,f,E,K,rfl,hfr,hpn,hk256,mid,hmid⟩:=(h4.elim (fun h=>h.2) (fun h=>absurd HGD.out h.1));rw [HNN.out] at hpn;have HFR:=yH hfr;have HPN:=yH hpn;have HK256:=yH hk256;have HMID:=yH hmid;have HR14:=yH ((b4.block _ (yL HR13.out)).trans HR13.out);have HR24:=yH ((b4.block _ (yL HR23.out)).trans HR23.out);have HB4:=yH (HB3.out.trans (b4.mono HB3.out.size));have HS4:=yH b4.size;have HLT3:=yH (show w.heap.size+1<w3.heap.size from (yL HR23.out));clear b4 h4 hfr hpn hk256 hmid)
 have hba:Below w4.heap.size w4 (w4.alloc (.cells #[.int .u8 (kind:Nat),.slice p n c,.slice q m f] 81)):=(Below.refl _ _).alloc (Nat.le_refl _) _
 have HN5:=yH (NodeAt.start w4 kind p n c q m f)
 have HR15:=yH ((hba.block _ (yL HR14.out)).trans HR14.out)
 have HR25:=yH ((hba.block _ (yL HR24.out)).trans HR24.out)
 have HB5:=yH (HB4.out.trans (hba.mono HB4.out.size))
 have HE5:=yH (HFR.out (w4.alloc (.cells #[.int .u8 (kind:Nat),.slice p n c,.slice q m f] 81)) (fun j _ hj=>hba.block j hj))
 have HW5:=yH (show ∀j,j<w4.heap.size→(w4.alloc (.cells #[.int .u8 (kind:Nat),.slice p n c,.slice q m f] 81)).heap[j]? =w4.heap[j]? from fun j hj=>hba.block j hj)
 have hs5:w4.heap.size<(w4.alloc (.cells #[.int .u8 (kind:Nat),.slice p n c,.slice q m f] 81)).heap.size:=by simp
 have HS5:=yH hs5
 generalize w4.alloc (.cells #[.int .u8 (kind:Nat),.slice p n c,.slice q m f] 81)=w5 at *
 clear hba hs5 HR14 HR24 HR13 HR23 HB4 HT3 HDEC HB3
 obtain ⟨t0,t1,t2⟩:=HN5.out.cells
 have hsay:=Say_any kind HK256.out p n c q m f E K d w5 HE5.out.1 HE5.out.2
 rw [HPN.out] at hsay
 have HSAY:=yH hsay
 clear hsay
 go_upto_region 8 with (first
  | (go_at_call 105;refine HSAY.out.mono ?_;rintro e w6 ⟨b6,h6⟩;obtain ⟨kd,rfl,hpk,hok,-⟩:=(h6.elim (fun h=>h.2) (fun h=>absurd HZZ.out h.1));have HPK:=yH hpk;have HOK:=yH hok;have HCL:=yH (Kd.cells_length hok.len);have HN6:=yH (HN5.out.later b6);have HR16:=yH ((b6.block _ (yL HR15.out)).trans HR15.out);have HR26:=yH ((b6.block _ (yL HR25.out)).trans HR25.out);have HB6:=yH (HB5.out.trans (b6.mono HB5.out.size));have HW6:=yH (show w5.heap.size≤w6.heap.size∧∀j,j<w5.heap.size→w6.heap[j]? =w5.heap[j]? from ⟨b6.size,fun j hj=>b6.block j hj⟩);clear b6 h6 hpk hok)
  | (refine wpList_store_row (by rfl) 34 (.tmp 11) (.tmp 35) (by rfl) w6.heap.size kd.cells.toArray (by rfl) (by rfl) _ _ (heap_alloc_new w6 _) (by rw [List.size_toArray,HCL.out];exact SKd) (by simp only [List.size_toArray,HCL.out,kd0_size]) (all_oneCell_toArray Kd.one) ?_;rw [setRow_alloc]))
 have hba:Below w6.heap.size w6 (w6.alloc (.cells kd.cells.toArray 34)):=(Below.refl _ _).alloc (Nat.le_refl _) _
 have hrx:=heap_alloc_new w6 (.cells kd.cells.toArray 34)
 have HN7:=yH (HN6.out.later hba)
 have HR17:=yH (range_kd ((hba.block _ (yL HR16.out)).trans HR16.out))
 have HRX:=yH (range_kd hrx)
 have HR27:=yH ((hba.block _ (yL HR26.out)).trans HR26.out)
 have HB7:=yH (HB6.out.trans (hba.mono HB6.out.size))
 have HOK7:=yH (HOK.out.later hba)
 have HKO7:=yH (HKO.out.later HB7.out)
 have HW7:=yH (show w6.heap.size≤(w6.alloc (.cells kd.cells.toArray 34)).heap.size∧∀j,j<w6.heap.size→(w6.alloc (.cells kd.cells.toArray 34)).heap[j]? =w6.heap[j]? from ⟨hba.size,fun j hj=>hba.block j hj⟩)
 generalize w6.alloc (.cells kd.cells.toArray 34)=w7 at *
 generalize w6.heap.size=g6 at *
 have HCK:=yH (Kd.cells_length HSL.out)
 have HSM:=yH (decide_eq_true (show kd.pk=k.pk from by rw [HPK.out,HSY.out]))
 clear hba hrx HN6 HR16 HR26 HB6 HOK HB5 HR15 HR25 HN5 HSAY t0 t1 t2 hz0
 go_upto_region 10 with (first
  | (refine wpList_load_midG (by rfl) 34 _ (by rfl) g6 0 (by rfl) kd.cells du HRX.out HDU.out HDR.out (by rw [HCL.out];exact SKd) ?_)
  | (refine wpList_load_midG (by rfl) 34 _ (by rfl) w.heap.size 0 (by rfl) k.cells du HR17.out HDU.out HDR.out (by rw [HCK.out];exact SKd) ?_)
  | (go_at_call 68;refine (nsame_any kd k w7 HOK7.out HKO7.out).mono ?_;rintro e w8 ⟨rfl,b8⟩;rw [HSM.out];have HN8:=yH (HN7.out.later b8);have HR28:=yH ((b8.block _ (yL HR27.out)).trans HR27.out);have HB8:=yH (HB7.out.trans (b8.mono HB7.out.size));have HW8:=yH (show w7.heap.size≤w8.heap.size∧∀j,j<w7.heap.size→w8.heap[j]? =w7.heap[j]? from ⟨b8.size,fun j hj=>b8.block j hj⟩);clear b8))
 obtain ⟨t0,t1,t2⟩:=HN8.out.cells
 have a0:=cell_of_row w8 (w.heap.size+1) 0 _ _ _ HR28.out
 have a1:=cell_of_row w8 (w.heap.size+1) 1 _ _ _ HR28.out
 have a2:=cell_of_row w8 (w.heap.size+1) 2 _ _ _ HR28.out
 have f0:=frozen_of_row w8 (w.heap.size+1) 0 _ _ HR28.out
 have f1:=frozen_of_row w8 (w.heap.size+1) 1 _ _ HR28.out
 have f2:=frozen_of_row w8 (w.heap.size+1) 2 _ _ HR28.out
 go_wp2_with fail
 obtain ⟨r1,r2⟩:=res_set (a':=.int .u8 (kind:Nat)) (b':=.slice p n c) (c':=.slice q m f) HR28.out
 have hag:∀j,w3.heap.size≤j→j<w4.heap.size→(((w8.setCell ⟨w.heap.size+1,0,none⟩ (.int .u8 (kind:Nat))).setCell ⟨w.heap.size+1,1,none⟩ (.slice p n c)).setCell ⟨w.heap.size+1,2,none⟩ (.slice q m f)).heap[j]? =w4.heap[j]? :=fun j hj hj4=>by
  have h5:=HS5.out
  have h6:=HW6.out.1
  have h7:=HW7.out.1
  have h8:=HW8.out.1
  have h3:=HLT3.out
  rw [r2.block j (by omega) (by omega),HW8.out.2 j (by omega),HW7.out.2 j (by omega),HW6.out.2 j (by omega)]
  exact HW5.out j hj4
 have hfin:=HFR.out _ hag
 exact ret_str2 6 7 (by kernel_rfl) (w.heap.size+1) _ #[.int .u8 (kind:Nat),.slice p n c,.slice q m f] _ HDN.out HDNR.out SNo (by rfl) (by rfl) r1 ⟨HB8.out.trans (r2.below HB8.out.size (fun j e=>by omega)),kind,p,n,c,q,m,f,E,K,rfl,hfin.1,hfin.2,HPN.out,mid,(HMID.out.keep hag).down (by have:=HLT3.out;omega)⟩
theorem Get_unlike {g:Nat} {Q:Nat→Prop} {s:Pg.S} (k:Kd) (d:Int) (t:List Nat) (w:World) (hp:PL w g Q s) (hk:k.Ok w) (ht:textAt s.W k.sum=some t) (hto:Sm.allB t) (htl:t.length≤100000) (hgood:(rdN 8 t).good d) (hz:(rdN 8 t).node.size≤1048576) (hsay:(rdN 8 t).node.says≠k.pk):
  Calls Tryz.prog 52 #[.pointer (some ⟨g,0,none⟩),.agg k.cells.toArray,.int .i64 d] w fun e w'=>e= .returned (.tuple #[.agg #[.int .u8 0,.slice none 0 0,.slice none 0 0],.int .i64 21])∧Below w.heap.size w w':=by
 have hb1:Below w.heap.size w (w.alloc (.cells k.cells.toArray 34)):=(Below.refl _ _).alloc (Nat.le_refl _) _
 have r1:=heap_alloc_new w (.cells k.cells.toArray 34)
 have z1:(w.alloc (.cells k.cells.toArray 34)).heap.size=w.heap.size+1:=by simp
 have hb2:Below (w.heap.size+1) (w.alloc (.cells k.cells.toArray 34)) ((w.alloc (.cells k.cells.toArray 34)).alloc (.cells #[.int .u8 0,.slice none 0 0,.slice none 0 0] 81)):=(Below.refl _ _).alloc (by omega) _
 have r2:=heap_alloc_new (w.alloc (.cells k.cells.toArray 34)) (.cells #[.int .u8 0,.slice none 0 0,.slice none 0 0] 81)
 rw [z1] at r2
 have HR1:=yH ((hb2.block _ (by omega)).trans r1)
 have HR2:=yH r2
 have HB2:=yH (hb1.trans (hb2.mono (by omega)))
 have HP:=yH hp
 have HSL:=yH hk.len
 have HSO:=yH hk.ok
 have HKO:=yH hk
 have HT:=yH ht
 have HTO:=yH hto
 have HTL:=yH htl
 have HGD:=yH hgood
 have HZZ:=yH (show (rdN 8 t).node.right d=true∧(rdN 8 t).node.size≤1048576 from ⟨hgood.2.2,hz⟩)
 have HSY:=yH hsay
 obtain ⟨N,hN⟩:∃N,(rdN 8 t).node=N:=⟨_,rfl⟩
 rw [hN] at HZZ HSY
 have HNN:=yH hN
 clear hN
 obtain ⟨du,hdu,hdr⟩:=UKd
 have HDU:=yH hdu
 have HDR:=yH hdr
 obtain ⟨dn,hdn,hdnr⟩:=UNo
 have HDN:=yH hdn
 have HDNR:=yH hdnr
 have HZ:=yH (zero_of_info kz)
 clear hb1 r1 z1 hb2 r2 hp hk ht hto htl hgood hz hsay hdu hdr hdn hdnr
 have hz0:=HZ.out.1
 go_enter Tryz.func52,Tryz.ntmps52
 go_upto_region 1 with fail
 generalize (w.alloc (.cells k.cells.toArray 34)).alloc (.cells #[.int .u8 0,.slice none 0 0,.slice none 0 0] 81)=w2 at *
 have K2:=yH (kat_row HR1.out HSL.out)
 have HPL2:=yH (HP.out.keep (fun _=>False) (Only.of_below _ HB2.out) (fun _ _ e=>e))
 have HGET:=yH (get_any t k.sum HPL2.out HSL.out HSO.out HT.out)
 clear HP HPL2
 go_upto_region 4 with (first
  | (refine wpList_load_mid (by rfl) 30 _ (by rfl) _ 0 (by rfl) (vals k.sum) _ K2.out.sum A25 (by rfl) (by rw [vals_length,HSL.out];exact S25) ?_;rw [vals_toArray])
  | (go_at_call 103;refine HGET.out.mono ?_;rintro e w3 ⟨q3,c3,rfl,o3,b3⟩;have HT3:=yH (tx_of_owns o3 HTO.out);have HR13:=yH ((b3.block _ (yL HR1.out)).trans HR1.out);have HR23:=yH ((b3.block _ (yL HR2.out)).trans HR2.out);have HB3:=yH (HB2.out.trans (b3.mono HB2.out.size));clear o3 b3))
 have HDEC:=yH (decode_any t q3 t.length c3 d w3 HT3.out (by have:=HTL.out;omega))
 clear K2 HGET HR1 HR2 HB2
 go_upto_region 7 with (go_at_call 104;refine HDEC.out.mono ?_;rintro e w4 ⟨b4,h4⟩;obtain ⟨kind,p,n,c,q,m,f,E,K,rfl,hfr,hpn,hk256,mid,hmid⟩:=(h4.elim (fun h=>h.2) (fun h=>absurd HGD.out h.1));rw [HNN.out] at hpn;have HFR:=yH hfr;have HPN:=yH hpn;have HK256:=yH hk256;have HMID:=yH hmid;have HR14:=yH ((b4.block _ (yL HR13.out)).trans HR13.out);have HR24:=yH ((b4.block _ (yL HR23.out)).trans HR23.out);have HB4:=yH (HB3.out.trans (b4.mono HB3.out.size));have HS4:=yH b4.size;have HLT3:=yH (show w.heap.size+1<w3.heap.size from (yL HR23.out));clear b4 h4 hfr hpn hk256 hmid)
 have hba:Below w4.heap.size w4 (w4.alloc (.cells #[.int .u8 (kind:Nat),.slice p n c,.slice q m f] 81)):=(Below.refl _ _).alloc (Nat.le_refl _) _
 have HN5:=yH (NodeAt.start w4 kind p n c q m f)
 have HR15:=yH ((hba.block _ (yL HR14.out)).trans HR14.out)
 have HR25:=yH ((hba.block _ (yL HR24.out)).trans HR24.out)
 have HB5:=yH (HB4.out.trans (hba.mono HB4.out.size))
 have HE5:=yH (HFR.out (w4.alloc (.cells #[.int .u8 (kind:Nat),.slice p n c,.slice q m f] 81)) (fun j _ hj=>hba.block j hj))
 have HW5:=yH (show ∀j,j<w4.heap.size→(w4.alloc (.cells #[.int .u8 (kind:Nat),.slice p n c,.slice q m f] 81)).heap[j]? =w4.heap[j]? from fun j hj=>hba.block j hj)
 have hs5:w4.heap.size<(w4.alloc (.cells #[.int .u8 (kind:Nat),.slice p n c,.slice q m f] 81)).heap.size:=by simp
 have HS5:=yH hs5
 generalize w4.alloc (.cells #[.int .u8 (kind:Nat),.slice p n c,.slice q m f] 81)=w5 at *
 clear hba hs5 HR14 HR24 HR13 HR23 HB4 HT3 HDEC HB3
 obtain ⟨t0,t1,t2⟩:=HN5.out.cells
 have hsay:=Say_any kind HK256.out p n c q m f E K d w5 HE5.out.1 HE5.out.2
 rw [HPN.out] at hsay
 have HSAY:=yH hsay
 clear hsay
 go_upto_region 8 with (first
  | (go_at_call 105;refine HSAY.out.mono ?_;rintro e w6 ⟨b6,h6⟩;obtain ⟨kd,rfl,hpk,hok,-⟩:=(h6.elim (fun h=>h.2) (fun h=>absurd HZZ.out h.1));have HPK:=yH hpk;have HOK:=yH hok;have HCL:=yH (Kd.cells_length hok.len);have HN6:=yH (HN5.out.later b6);have HR16:=yH ((b6.block _ (yL HR15.out)).trans HR15.out);have HR26:=yH ((b6.block _ (yL HR25.out)).trans HR25.out);have HB6:=yH (HB5.out.trans (b6.mono HB5.out.size));have HW6:=yH (show w5.heap.size≤w6.heap.size∧∀j,j<w5.heap.size→w6.heap[j]? =w5.heap[j]? from ⟨b6.size,fun j hj=>b6.block j hj⟩);clear b6 h6 hpk hok)
  | (refine wpList_store_row (by rfl) 34 (.tmp 11) (.tmp 35) (by rfl) w6.heap.size kd.cells.toArray (by rfl) (by rfl) _ _ (heap_alloc_new w6 _) (by rw [List.size_toArray,HCL.out];exact SKd) (by simp only [List.size_toArray,HCL.out,kd0_size]) (all_oneCell_toArray Kd.one) ?_;rw [setRow_alloc]))
 have hba:Below w6.heap.size w6 (w6.alloc (.cells kd.cells.toArray 34)):=(Below.refl _ _).alloc (Nat.le_refl _) _
 have hrx:=heap_alloc_new w6 (.cells kd.cells.toArray 34)
 have HN7:=yH (HN6.out.later hba)
 have HR17:=yH (range_kd ((hba.block _ (yL HR16.out)).trans HR16.out))
 have HRX:=yH (range_kd hrx)
 have HR27:=yH ((hba.block _ (yL HR26.out)).trans HR26.out)
 have HB7:=yH (HB6.out.trans (hba.mono HB6.out.size))
 have HOK7:=yH (HOK.out.later hba)
 have HKO7:=yH (HKO.out.later HB7.out)
 have HW7:=yH (show w6.heap.size≤(w6.alloc (.cells kd.cells.toArray 34)).heap.size∧∀j,j<w6.heap.size→(w6.alloc (.cells kd.cells.toArray 34)).heap[j]? =w6.heap[j]? from ⟨hba.size,fun j hj=>hba.block j hj⟩)
 generalize w6.alloc (.cells kd.cells.toArray 34)=w7 at *
 generalize w6.heap.size=g6 at *
 have HCK:=yH (Kd.cells_length HSL.out)
 have HSM:=yH (decide_eq_false (show ¬kd.pk=k.pk from by rw [HPK.out];exact HSY.out))
 clear hba hrx HN6 HR16 HR26 HB6 HOK HB5 HR15 HR25 HN5 HSAY t0 t1 t2 hz0
 go_upto_region 9 with (first
  | (refine wpList_load_midG (by rfl) 34 _ (by rfl) g6 0 (by rfl) kd.cells du HRX.out HDU.out HDR.out (by rw [HCL.out];exact SKd) ?_)
  | (refine wpList_load_midG (by rfl) 34 _ (by rfl) w.heap.size 0 (by rfl) k.cells du HR17.out HDU.out HDR.out (by rw [HCK.out];exact SKd) ?_)
  | (go_at_call 68;refine (nsame_any kd k w7 HOK7.out HKO7.out).mono ?_;rintro e w8 ⟨rfl,b8⟩;rw [HSM.out];have HN8:=yH (HN7.out.later b8);have HR28:=yH ((b8.block _ (yL HR27.out)).trans HR27.out);have HB8:=yH (HB7.out.trans (b8.mono HB7.out.size));have HW8:=yH (show w7.heap.size≤w8.heap.size∧∀j,j<w7.heap.size→w8.heap[j]? =w7.heap[j]? from ⟨b8.size,fun j hj=>b8.block j hj⟩);clear b8))
 clear HN8
 have a0:=cell_of_row w8 (w.heap.size+1) 0 _ _ _ HR28.out
 have a1:=cell_of_row w8 (w.heap.size+1) 1 _ _ _ HR28.out
 have a2:=cell_of_row w8 (w.heap.size+1) 2 _ _ _ HR28.out
 have f0:=frozen_of_row w8 (w.heap.size+1) 0 _ _ HR28.out
 have f1:=frozen_of_row w8 (w.heap.size+1) 1 _ _ HR28.out
 have f2:=frozen_of_row w8 (w.heap.size+1) 2 _ _ HR28.out
 go_wp2_with (refine wpList_build (by rfl) (by rfl) nd0_built ?_)
 obtain ⟨r1,r2⟩:=res_set (a':=.int .u8 0) (b':=.slice none 0 0) (c':=.slice none 0 0) HR28.out
 exact ret_str2 6 7 (by kernel_rfl) (w.heap.size+1) _ #[.int .u8 0,.slice none 0 0,.slice none 0 0] _ HDN.out HDNR.out SNo (by rfl) (by rfl) r1 ⟨rfl,HB8.out.trans (r2.below HB8.out.size (fun j e=>by omega))⟩
end Go.Proofs.YtinihaflmdihaaaGreat.Nd
namespace Go.Proofs.YtinihaflmdihaaaGreat.Kt
open Go.RowKit Go.Proofs.YtinihaflmdihaaaGreat.Nd Go.Proofs.YtinihaflmdihaaaGreat.Dk Go.Proofs.YtinihaflmdihaaaGreat.Pg
theorem two_alloc (w:World) (A B:Obj):∃W,(w.alloc A).alloc B=W∧W.heap[w.heap.size]? =some A∧W.heap[w.heap.size+1]? =some B∧Below w.heap.size w W:=by
 have hA:=heap_alloc_new w A
 have hB:=heap_alloc_new (w.alloc A) B
 have sA:(w.alloc A).heap.size=w.heap.size+1:=by simp
 have b1:Below w.heap.size w (w.alloc A):=(Below.refl _ _).alloc (Nat.le_refl _) _
 have b2:Below (w.alloc A).heap.size (w.alloc A) ((w.alloc A).alloc B):=(Below.refl _ _).alloc (Nat.le_refl _) _
 rw [sA] at hB
 exact ⟨_,rfl,(b2.block _ (by rw [sA];omega)).trans hA,hB,b1.trans (b2.mono b1.size)⟩
def GetZero (w:World) (err:Int) (e:Ending) (w':World):Prop:=e= .returned (.tuple #[.agg #[.int .u8 0,.slice none 0 0,.slice none 0 0],.int .i64 err])∧Below w.heap.size w w'
theorem kget_empty (sp:Option Addr) (d:Int) (k:Kd) (ga oa:Nat) (w:World) (hk:k.Ok w) (hr:w.rangeAt ga oa k.cells) (he:k.pk=PK.none):
  Calls Tryz.prog 120 #[.agg #[.pointer sp,.int .i64 d],.pointer (some ⟨ga,oa,none⟩)] w (GetZero w 0):=by
 obtain ⟨W,hW,r0,r1,b1⟩:=two_alloc w (.cells #[.pointer sp,.int .i64 d] 91) (.cells #[.int .u8 0,.slice none 0 0,.slice none 0 0] 81)
 have HEM:=yH (nempty_any k W (hk.later b1))
 rw [decide_eq_true he] at HEM
 have RK:=yH (range_later hr b1)
 have HCL:=yH (Kd.cells_length hk.len)
 have R1:=yH r1
 have B1:=yH b1
 obtain ⟨du,hdu,hdr⟩:=UKd
 obtain ⟨dn,hdn,hdnr⟩:=UNo
 have HDU:=yH hdu
 have HDR:=yH hdr
 have HDN:=yH hdn
 have HDNR:=yH hdnr
 clear hk hr he r0 r1 b1 hdu hdr hdn hdnr
 go_enter Tryz.func120,Tryz.ntmps120
 go_upto_region 1 with fail
 clear hW
 go_wp2_with (first
  | (refine wpList_load_mid (by rfl) 34 _ (by rfl) ga oa (by rfl) k.cells du RK.out HDU.out HDR.out (by rw [HCL.out];exact SKd) ?_)
  | (go_at_call 20;refine HEM.out.mono ?_;rintro _ w3 ⟨rfl,b3⟩;have R3:=yH ((b3.block _ (yL R1.out)).trans R1.out);have B3:=yH (B1.out.trans (b3.mono B1.out.size));clear b3)
  | (refine wpList_build (by rfl) (by rfl) nd0_built ?_)
  | (refine wpList_store_row (by rfl) 81 _ _ (by rfl) (w.heap.size+1) #[.int .u8 0,.slice none 0 0,.slice none 0 0] (by rfl) (by rfl) _ _ R3.out SNo rfl nd0_one ?_))
 refine ret_str2 4 5 (by kernel_rfl) (w.heap.size+1) _ #[.int .u8 0,.slice none 0 0,.slice none 0 0] _ HDN.out HDNR.out SNo (by rfl) (by rfl) (setRow_heap _ _ _ _ _ _ R3.out) ?_
 exact ⟨rfl,B3.out.trans (Below.setRow (Below.refl _ _) (by omega) _)⟩
end Go.Proofs.YtinihaflmdihaaaGreat.Kt
namespace Go.Proofs.YtinihaflmdihaaaGreat.Kt
open Go.RowKit Go.Proofs.YtinihaflmdihaaaGreat.Nd Go.Proofs.YtinihaflmdihaaaGreat.Pg
inductive V where
 | nil:V
 | bad (k:PK):V
 | fork (row:List Int) (live:Bool) (l r:V):V
def V.kid:V→PK
 | .nil=>PK.none
 | .bad k=>k
 | .fork p v l r=>(forkN p v l.kid r.kid).says
def V.of:T→V
 | .nil=>.nil
 | .fork p v l r=>.fork p v (V.of l) (V.of r)
def V.whole:V→Bool
 | .nil=>true
 | .bad _=>false
 | .fork _ _ l r=>l.whole&&r.whole
theorem of_whole:∀u:T,(V.of u).whole=true
 | .nil=>rfl
 | .fork p v l r=>by
  show ((V.of l).whole&&(V.of r).whole)=true
  rw [of_whole l,of_whole r]
  rfl
theorem of_kid:∀ {u:T},u.size≤1048576→(V.of u).kid=u.kid
 | .nil,_=>rfl
 | .fork p v l r,h=>by
  have hz:(T.fork p v l r).size=1+l.size+r.size:=rfl
  rw [fork_kid h]
  show (forkN p v (V.of l).kid (V.of r).kid).says=_
  rw [of_kid (show l.size≤1048576 by omega),of_kid (show r.size≤1048576 by omega)]
def Sees (W:Pages) (d:Nat):V→Prop
 | .nil=>True
 | .bad k=>k≠PK.none∧k.right d=true∧k.key=[]∧∀t N,textAt W k.sum=some t→Txt d t N→N.says≠k
 | .fork p v l r=>Txt d (forkN p v l.kid r.kid).bytes (forkN p v l.kid r.kid)∧textAt W (sumOf (forkN p v l.kid r.kid).bytes)=some (forkN p v l.kid r.kid).bytes∧Sees W d l∧Sees W d r
def Forks (d:Nat) (W:Pages):Prop:=∀x∈W,∃N,Txt d x.2 N∧N.kind=1
theorem right_fork {n:PN} {d:Int} (h:n.right d=true) (hk:n.kind=1):∃p v a b,n=forkN p v a b∧(p.length:Int)=d∧a.right d=true∧b.right d=true∧a.key=[]∧b.key=[]:=by
 obtain ⟨h1,h2,h3,h4⟩:=right_split h
 obtain ⟨kind,rows,kids⟩:=n
 simp only at hk h3 h4
 subst hk
 unfold PN.right at h
 split at h
 ·cases h
 split at h
 ·cases h
 split at h
 ·cases h
 rw [if_pos rfl] at h
 split at h
 ·rename_i hl
  simp only at hl h
  match rows,kids,hl with
  |[e],[a,b],_=>
   refine ⟨e.row,e.live,a,b,rfl,h3 e (by simp),h4 a (by simp),h4 b (by simp),?_,?_⟩
   ·have:=List.all_eq_true.1 h a (by simp)
    exact List.length_eq_zero_iff.1 (of_decide_eq_true this)
   ·have:=List.all_eq_true.1 h b (by simp)
    exact List.length_eq_zero_iff.1 (of_decide_eq_true this)
 ·cases h
theorem kid_zero {k:PK} {d:Int} (h:k.right d=true):0≤k.size∧k.size≤1048576:=by
 unfold PK.right at h
 split at h
 ·rename_i e
  rw [e]
  exact ⟨Int.le_refl _,by decide⟩
 ·split at h
  ·cases h
  ·omega
theorem sees_any {d:Nat} {W:Pages} (hW:Forks d W):∀(n:Nat) (k:PK),k.size≤n→k.right d=true→k.key=[]→∃u:V,u.kid=k∧Sees W d u:=by
 intro n
 induction n with
 | zero=>
  intro k hn hk hy
  by_cases h0:k=PK.none
  ·exact ⟨.nil,h0.symm,trivial⟩
  ·refine ⟨.bad k,rfl,h0,hk,hy,fun t N ht hN e=>?_⟩
   have hz:=kid_zero hk
   unfold PK.right at hk
   rw [if_neg h0] at hk
   split at hk
   ·cases hk
   ·omega
 | succ n ih=>
  intro k hn hk hy
  by_cases h0:k=PK.none
  ·exact ⟨.nil,h0.symm,trivial⟩
  ·by_cases hg:∃t N,textAt W k.sum=some t∧Txt d t N∧N.says=k
   ·obtain ⟨t,N,ht,hN,he⟩:=hg
    obtain ⟨N',hN',hk1⟩:∃N',Txt d t N'∧N'.kind=1:=by
     unfold textAt at ht
     split at ht
     ·rename_i hi
      have:=hW _ (Pg.getD_mem hi)
      rw [Option.some.inj ht] at this
      exact this
     ·cases ht
    obtain rfl:N'=N:=hN'.node.symm.trans hN.node
    obtain ⟨p,v,a,b,rfl,hp,ha,hb,ka,kb⟩:=right_fork hN.right hk1
    have hs:k.size=1+(a.size+b.size):=by
     rw [← he]
     exact fork_size p v a b
    have za:=kid_zero ha
    have zb:=kid_zero hb
    obtain ⟨l,hl,sl⟩:=ih a (by omega) ha ka
    obtain ⟨r,hr,sr⟩:=ih b (by omega) hb kb
    refine ⟨.fork p v l r,?_,?_⟩
    ·show (forkN p v l.kid r.kid).says=k
     rw [hl,hr]
     exact he
    ·unfold Sees
     rw [hl,hr,hN.bytes]
     refine ⟨hN,?_,sl,sr⟩
     rw [← ht,← he,← hN.bytes]
     rfl
   ·exact ⟨.bad k,rfl,h0,hk,hy,fun t N ht hN e=>hg ⟨t,N,ht,hN,e⟩⟩
theorem text_stays {W:Pages} {d t:List Nat} (b:List Nat) (h:textAt W d=some t):textAt (putW W b) d=some t:=by
 unfold putW
 split
 ·exact h
 ·unfold textAt at h ⊢
  split at h
  ·rename_i hi
   have e:idx d (W++[(sumOf b,b)])=idx d W:=by
    refine idx_is (by rw [List.length_append];omega) ?_ fun j hj=>?_
    ·rw [List.getD_eq_getElem?_getD,List.getElem?_append_left hi,← List.getD_eq_getElem?_getD]
     exact idx_at hi
    ·rw [List.getD_eq_getElem?_getD,List.getElem?_append_left (by omega),← List.getD_eq_getElem?_getD]
     exact idx_before hj
   rw [e,if_pos (by rw [List.length_append];omega),List.getD_eq_getElem?_getD,List.getElem?_append_left hi,← List.getD_eq_getElem?_getD]
   exact h
  ·cases h
theorem text_puts {d t:List Nat}:∀(L:List (List Nat)) {s:Pg.S},textAt s.W d=some t→textAt (L.foldl Pg.S.put s).W d=some t
 |[],_,h=>h
 | b::L,s,h=>text_puts L (s:=s.put b) (text_stays b h)
theorem clean_put {s:Pg.S} {b:List Nat} (h:(s.put b).cl=none):s.cl=none:=by
 unfold Pg.S.put at h
 cases hc:s.cl with
 | none=>rfl
 | some x=>rw [hc] at h;cases h
theorem clean_puts:∀(L:List (List Nat)) {s:Pg.S},(L.foldl Pg.S.put s).cl=none→s.cl=none
 |[],_,h=>h
 | b::L,s,h=>clean_put (clean_puts L (s:=s.put b) h)
theorem puts_got:∀(L:List (List Nat)) {s:Pg.S},(L.foldl Pg.S.put s).cl=none→∀b∈L,textAt (L.foldl Pg.S.put s).W (sumOf b)=some b
 |[],_,_,b,hb=>by cases hb
 | a::L,s,h,b,hb=>by
  rcases List.mem_cons.1 hb with rfl | hb
  ·exact text_puts L (s:=s.put b) (put_got (clean_puts L (s:=s.put b) h))
  ·exact puts_got L (s:=s.put a) h b hb
theorem whole_stays {W W':Pages} {d:Nat} (h:∀x t,textAt W x=some t→textAt W' x=some t):∀ {u:V},u.whole=true→Sees W d u→Sees W' d u
 | .nil,_,_=>trivial
 | .bad _,hw,_=>by cases hw
 | .fork p v l r,hw,hs=>by
  have hw:(l.whole&&r.whole)=true:=hw
  rw [Bool.and_eq_true] at hw
  exact ⟨hs.1,h _ _ hs.2.1,whole_stays h hw.1 hs.2.2.1,whole_stays h hw.2 hs.2.2.2⟩
theorem forks_puts {d:Nat}:∀(L:List (List Nat)) {s:Pg.S},Forks d s.W→(∀b∈L,∃N,Txt d b N∧N.kind=1)→Forks d (L.foldl Pg.S.put s).W
 |[],_,h,_=>h
 | b::L,s,h,hL=>by
  refine forks_puts L (s:=s.put b) (fun x hx=>?_) fun c hc=>hL c (by simp [hc])
  have hx:x∈putW s.W b:=hx
  unfold putW at hx
  split at hx
  ·exact h x hx
  ·rcases List.mem_append.1 hx with hx | hx
   ·exact h x hx
   ·rw [List.mem_singleton.1 hx]
    exact hL b (by simp)
theorem sees_right {d:Nat} {W:Pages}:∀ {u:V},Sees W d u→u.kid.right d=true∧u.kid.key=[]
 | .nil,_=>⟨rfl,rfl⟩
 | .bad k,h=>⟨h.2.1,h.2.2.1⟩
 | .fork p v l r,h=>by
  refine ⟨says_right h.1.right ?_ h.1.size,rfl⟩
  have hl:=kid_zero (sees_right h.2.2.1).1
  have hr:=kid_zero (sees_right h.2.2.2).1
  rw [fork_size]
  omega
end Go.Proofs.YtinihaflmdihaaaGreat.Kt
