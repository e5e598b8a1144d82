/- NlSayPut, NlPut, KdPut, KtSizes, KtPages. -/
import Derived.Test.YtinihaflmdihaaaGreatW1
import Derived.Test.YtinihaflmdihaaaGreatW2
import Derived.Test.YtinihaflmdihaaaGreatW7
import Derived.Test.YtinihaflmdihaaaGreatW10
import Derived.Test.YtinihaflmdihaaaGreatW11
import Derived.Test.YtinihaflmdihaaaGreatW13
import Derived.Test.YtinihaflmdihaaaGreatW15
import Derived.Test.YtinihaflmdihaaaGreatW22
set_option maxRecDepth 100000
set_option maxHeartbeats 8000000
set_option linter.unusedVariables false
set_option linter.unusedSimpArgs false
namespace Go.Proofs.YtinihaflmdihaaaGreat.Nd
open Go.RowKit Go.Proofs.YtinihaflmdihaaaGreat.Dk Go.Proofs.YtinihaflmdihaaaGreat.Pg
open List renaming setIfInBounds_toArray → sA, set_cons_zero → sZ, set_cons_succ → sS
def Aw (Q:Nat→Prop) (kd:Kd):Prop:=∀r∈kd.rows,∀x,r.p=some x→r.R≠[]→¬Q x.block
def SayPut (w:World) (g:Nat) (Q:Nat→Prop) (s:Pg.S) (N:PN) (d:Int) (e:Ending) (w':World):Prop:=
 ((N.right d=true∧N.size≤1048576)∧∃kd:Kd,e= .returned (.tuple #[.agg kd.cells.toArray,.int .i64 0])∧kd.pk=N.says∧kd.Ok w'∧Fsh w kd∧(∃Q',PL w' g Q' (s.put N.bytes)∧(∀k,Q' k→Q k∨w.heap.size≤k)∧Aw Q' kd)∧Only Q w w'∧Mst g w w')∨
 (¬(N.right d=true∧N.size≤1048576)∧e= .returned (.tuple #[.agg kd0.cells.toArray,.int .i64 1])∧Below w.heap.size w w')
theorem sayput_bad {w w':World} {g:Nat} {Q:Nat→Prop} {s:Pg.S} {N:PN} {d:Int} (h:¬(N.right d=true∧N.size≤1048576)) (hb:Below w.heap.size w w'):SayPut w g Q s N d (.returned (.tuple #[.agg kd0.cells.toArray,.int .i64 1])) w':=Or.inr ⟨h,rfl,hb⟩
theorem say_put (kind:Nat) (hkd:kind<256) (p:Option Addr) (n c:Nat) (q:Option Addr) (m f:Nat) (E:List En) (K:List Kd) (d:Int) (w:World) (hE:EntsIn w p n c E) (hK:KidsIn w q m f K) {g:Nat} {Q:Nat→Prop} {s:Pg.S} (hp:PL w g Q s) (hsl:s.W.length<100000):
  Calls Tryz.prog 150 #[.agg #[.int .u8 kind,.slice p n c,.slice q m f],.int .i64 d,.func (.func 208) #[.pointer (some ⟨g,0,none⟩)] #[]] w (SayPut w g Q s (pnOf kind E K) d):=by
 have HPL:=Lib.hid hp
 have HQL:=Lib.hid (show ∀k,Q k→k<w.heap.size from hp.lt)
 have HSL:=Lib.hid hsl
 clear hp hsl
 have hb1:Below w.heap.size w (w.alloc (.cells #[.int .u8 kind,.slice p n c,.slice q m f] 81)):=(Below.refl _ _).alloc (Nat.le_refl _) _
 have hn1:=NodeAt.start w kind p n c q m f
 have z1:(w.alloc (.cells #[.int .u8 kind,.slice p n c,.slice q m f] 81)).heap.size=w.heap.size+1:=by simp
 have HKD:=Lib.hid hkd
 have HE:=Lib.hid hE
 have HK:=Lib.hid hK
 obtain ⟨du,hdu,hdr⟩:=UKd
 have HDU:=Lib.hid hdu
 have HDR:=Lib.hid hdr
 have HZ:=Lib.hid (zero_of_info kz)
 clear hkd hE hK hdu hdr
 have hz0:=HZ.out.1
 go_enter Tryz.func150,Tryz.ntmps150
 go_upto_region 1 with fail
 have hb2:Below (w.heap.size+1) (w.alloc (.cells #[.int .u8 kind,.slice p n c,.slice q m f] 81)) ((w.alloc (.cells #[.int .u8 kind,.slice p n c,.slice q m f] 81)).alloc (.cells kd0.cells.toArray 34)):=(Below.refl _ _).alloc (by omega) _
 have r2:=heap_alloc_new (w.alloc (.cells #[.int .u8 kind,.slice p n c,.slice q m f] 81)) (.cells kd0.cells.toArray 34)
 rw [z1] at r2
 have HN2:=Lib.hid (hn1.later (by rw [z1];exact hb2))
 have HB2:=Lib.hid (hb1.trans (hb2.mono (by omega)))
 have HR2:=Lib.hid r2
 clear hb1 hn1 z1 hb2 r2
 generalize (w.alloc (.cells #[.int .u8 kind,.slice p n c,.slice q m f] 81)).alloc (.cells kd0.cells.toArray 34)=w2 at *
 have HENC:=Lib.hid (encode_any kind HKD.out p n c q m f E K d w2 (HE.out.later HB2.out) (HK.out.later HB2.out))
 have HTAL:=Lib.hid (fun w3 (h:Below w.heap.size w w3) (hr:(pnOf kind E K).right d=true)=>tally_any kind p n c q m f E K d w3 (HE.out.later h) (HK.out.later h) hr)
 have HLN:=Lib.hid (fun (hr:(pnOf kind E K).right d=true)=>node_bytes_len (PN.fit hr) (fun k hk=>by obtain ⟨y,hy,rfl⟩:=List.mem_map.1 hk;exact (HK.out.each y hy).len))
 generalize pnOf kind E K=N at *
 obtain ⟨t0,t1,t2⟩:=HN2.out.cells
 cases hr:N.right d with
 | false=>
  have HNR:=Lib.hid (show ¬(N.right d=true∧N.size≤1048576) from fun h=>by rw [hr] at h;exact absurd h.1 (by simp))
  have HRR:=Lib.hid hr
  clear hr
  go_wp2_with (first
   | (go_at_call 205;refine HENC.out.mono ?_;rintro e w3 ⟨b3,h3⟩;obtain rfl:e= .returned (.tuple #[.slice Option.none 0 0,.int .i64 1]):=(h3.elim (fun h=>by rw [HRR.out] at h;exact absurd h.1 (by simp)) (fun h=>h.2));have HR3:=Lib.hid ((b3.block _ (Array.getElem?_eq_some_iff.1 HR2.out).1).trans HR2.out);have HB3:=Lib.hid (HB2.out.trans (b3.mono HB2.out.size));clear b3 h3)
   | (refine wpList_build (by rfl) (by rfl) kd0_built ?_)
   | (refine wpList_store_row (by rfl) 34 _ _ (by rfl) (w.heap.size+1) kd0.cells.toArray (by rfl) (by rfl) _ _ HR3.out (by rw [List.size_toArray,kd0_size];exact SKd) rfl (all_oneCell_toArray Kd.one) ?_))
  have r9:=setRow_heap _ (w.heap.size+1) _ kd0.cells.toArray _ _ HR3.out
  have hb9:Below (w.heap.size+1) w3 (w3.setRow (w.heap.size+1) kd0.cells.toArray):=Below.setRow (Below.refl _ _) (Nat.le_refl _) _
  refine ret_str2 6 7 (by kernel_rfl) (w.heap.size+1) _ kd0.cells.toArray _ HDU.out HDR.out (by rw [List.size_toArray,kd0_size];exact SKd) (by rfl) (by rfl) r9 ?_
  exact sayput_bad HNR.out (HB3.out.trans (hb9.mono (by omega)))
 | true=>
  have HRR:=Lib.hid hr
  have HLB:=Lib.hid (HLN.out hr)
  clear hr
  go_upto_region 5 with (first
   | (go_at_call 205;refine HENC.out.mono ?_;rintro e w3 ⟨b3,h3⟩;obtain ⟨q9,c9,rfl,o9,ok9⟩:=(h3.elim (fun h=>h.2) (fun h=>by rw [HRR.out] at h;exact absurd h.1 (by simp)));have HT3:=Lib.hid (tx_of_owns o9 ok9);have HN3:=Lib.hid (HN2.out.later b3);have HR3:=Lib.hid ((b3.block _ (Array.getElem?_eq_some_iff.1 HR2.out).1).trans HR2.out);have HB3:=Lib.hid (HB2.out.trans (b3.mono HB2.out.size));obtain ⟨t0,t1,t2⟩:=HN3.out.cells;have HTL:=Lib.hid (HTAL.out w3 HB3.out HRR.out);clear b3 h3 o9 ok9)
   | (go_at_call 206;refine HTL.out.mono ?_;rintro e w4 ⟨kd,rfl,hpk,hok4,hfs,b4⟩;have HPK:=Lib.hid hpk;have HOK4:=Lib.hid hok4;have HFS:=Lib.hid hfs;have HT4:=Lib.hid (HT3.out.later b4);have HR4:=Lib.hid ((b4.block _ (Array.getElem?_eq_some_iff.1 HR3.out).1).trans HR3.out);have HB4:=Lib.hid (HB3.out.trans (b4.mono HB3.out.size));have HS34:=Lib.hid b4.size;clear hpk hok4 hfs b4)
   | (refine wpList_store_row (by rfl) 34 (.tmp 10) (.tmp 22) (by rfl) w4.heap.size kd.cells.toArray (by rfl) (by rfl) _ _ (heap_alloc_new w4 _) (by rw [List.size_toArray,Kd.cells_length HOK4.out.len];exact SKd) (by simp only [List.size_toArray,Kd.cells_length HOK4.out.len,kd0_size]) (all_oneCell_toArray Kd.one) ?_;rw [setRow_alloc]))
  have hrx:=heap_alloc_new w4 (.cells kd.cells.toArray 34)
  have hba:Below w4.heap.size w4 (w4.alloc (.cells kd.cells.toArray 34)):=(Below.refl _ _).alloc (Nat.le_refl _) _
  have HT5:=Lib.hid (HT4.out.later hba)
  have HR5:=Lib.hid ((hba.block _ (Array.getElem?_eq_some_iff.1 HR4.out).1).trans HR4.out)
  have HB5:=Lib.hid (HB4.out.trans (hba.mono HB4.out.size))
  have HOK5:=Lib.hid (HOK4.out.later hba)
  have HXR:=Lib.hid hrx
  have HGX:=Lib.hid (show w.heap.size+1<w3.heap.size∧w3.heap.size≤w4.heap.size from ⟨(Array.getElem?_eq_some_iff.1 HR3.out).1,HS34.out⟩)
  have HFX:=Lib.hid (show ∀r∈kd.rows,r.Ok w4∧(∀x,r.p=some x→r.R≠[]→w3.heap.size≤x.block∧x.block<w4.heap.size) from fun r hr=>by
   have hro:r.Ok w4:=by
    simp only [Kd.rows,List.mem_cons,List.not_mem_nil,or_false] at hr
    rcases hr with rfl | rfl | rfl
    ·exact HOK4.out.lo
    ·exact HOK4.out.hi
    ·exact HOK4.out.key
   exact ⟨hro,fun x hx hR=>⟨HFS.out r hr x hx hR,rintsLt hro.ints hx hR⟩⟩)
  have hsz:w4.heap.size<(w4.alloc (.cells kd.cells.toArray 34)).heap.size:=by simp
  have HSZ:=Lib.hid hsz
  generalize w4.alloc (.cells kd.cells.toArray 34)=w5 at *
  clear hrx hba hsz HT4 HR4 HT3 HR3 HN3 HTL HENC HTAL HR2 HN2 HB2 t0 t1 t2 HB3 HB4
  generalize w4.heap.size=gk at *
  have c35:=(kat_row HXR.out HOK5.out.len).size
  rw [Nat.zero_add] at c35
  have hks:kd.size=N.size:=congrArg PK.size HPK.out
  by_cases hz:1048576<kd.size
  ·have HNR:=Lib.hid (show ¬(N.right d=true∧N.size≤1048576) from fun h=>by have:=h.2;omega)
   clear hks
   go_wp2_with (first
    | (refine wpList_build (by rfl) (by rfl) kd0_built ?_)
    | (refine wpList_store_row (by rfl) 34 _ _ (by rfl) (w.heap.size+1) kd0.cells.toArray (by rfl) (by rfl) _ _ HR5.out (by rw [List.size_toArray,kd0_size];exact SKd) rfl (all_oneCell_toArray Kd.one) ?_))
   have r9:=setRow_heap _ (w.heap.size+1) _ kd0.cells.toArray _ _ HR5.out
   have hb9:Below (w.heap.size+1) w5 (w5.setRow (w.heap.size+1) kd0.cells.toArray):=Below.setRow (Below.refl _ _) (Nat.le_refl _) _
   refine ret_str2 6 7 (by kernel_rfl) (w.heap.size+1) _ kd0.cells.toArray _ HDU.out HDR.out (by rw [List.size_toArray,kd0_size];exact SKd) (by rfl) (by rfl) r9 ?_
   exact sayput_bad HNR.out (HB5.out.trans (hb9.mono (by omega)))
  ·have HGD:=Lib.hid (show N.right d=true∧N.size≤1048576 from ⟨HRR.out,by omega⟩)
   obtain ⟨D,hD⟩:∃D,D=sumOf N.bytes:=⟨_,rfl⟩
   have HDE:=Lib.hid hD
   have HDL:=Lib.hid (show D.length=32 from by rw [hD];rfl)
   have HDO:=Lib.hid (show Sm.allB D from by rw [hD];exact sumOf_ok _)
   clear hks hD
   have HRO5:=Lib.hid (kd_rows_ok HOK5.out)
   have HPL5:=Lib.hid (HPL.out.keep (fun _=>False) (Only.of_below _ HB5.out) (fun _ _ e=>e))
   have hsm:=Pg.pput_any N.bytes q9 N.bytes.length c9 HPL5.out HT5.out HLB.out HSL.out
   rw [← HDE.out] at hsm
   have HSM:=Lib.hid hsm
   clear hsm
   go_upto_region 8 with (first
    | (go_at_call 208;refine HSM.out.mono ?_;rintro e w6 ⟨rfl,⟨Q6,hp6,hq6⟩,ho6,hms6⟩;have HMS6:=Lib.hid hms6;clear hms6;have HX6:=Lib.hid ((ho6.block _ (Array.getElem?_eq_some_iff.1 HXR.out).1 (fun h=>by have:=HQL.out _ h;have:=HGX.out;omega)).trans HXR.out);have HR6:=Lib.hid ((ho6.block _ (Array.getElem?_eq_some_iff.1 HR5.out).1 (fun h=>by have:=HQL.out _ h;omega)).trans HR5.out);have HRW6:=Lib.hid (show ∀r∈kd.rows,r.Ok w6 from fun r hr=>rw_keep (HRO5.out r hr) (fun x hx hR=>by have h9:=(HFX.out r hr).2 x hx hR;exact ho6.block _ (by have:=HSZ.out;omega) (fun h=>by have:=HQL.out _ h;have:=HGX.out;omega)));have HP6:=Lib.hid hp6;have HQ6:=Lib.hid hq6;have HOO6:=Lib.hid ho6;clear hp6 hq6 ho6)
    | (refine wpList_store_mid (by rfl) 30 _ _ (by rfl) gk 0 (u8s D) (by rfl) (by rfl) (by rw [u8s_size,HDL.out];exact kd_there HX6.out HOK5.out.len) (by rw [u8s_size,HDL.out];exact S25) (u8s_one _) ?_))
   have r7:=kd_sum (D:=D) HX6.out HOK5.out.len HDL.out
   have o7:=only_cells w6 gk 0 (vals D)
   rw [show (u8s D).toList=vals D from rfl]
   have HO7:=Lib.hid o7
   have HX7:=Lib.hid r7
   have HR7:=Lib.hid ((o7.block _ (Array.getElem?_eq_some_iff.1 HR6.out).1 (by have:=HGX.out;omega)).trans HR6.out)
   clear o7 r7
   generalize w6.setCells gk 0 (vals D)=w7 at *
   have HCL:=Lib.hid (show ({kd with sum:=D}:Kd).cells.length=37 from Kd.cells_length HDL.out)
   have HRG:=Lib.hid (range_kd HX7.out)
   clear c35
   go_wp2_with (first
    | (refine wpList_load_mid (by rfl) 34 _ (by rfl) gk 0 (by rfl) ({kd with sum:=D}:Kd).cells du HRG.out HDU.out HDR.out (by rw [HCL.out];exact SKd) ?_)
    | (refine wpList_store_row (by rfl) 34 _ _ (by rfl) (w.heap.size+1) ({kd with sum:=D}:Kd).cells.toArray (by rfl) (by rfl) _ _ HR7.out (by rw [List.size_toArray,HCL.out];exact SKd) (by simp only [List.size_toArray,HCL.out,kd0_size]) (all_oneCell_toArray Kd.one) ?_))
   have r9:=setRow_heap _ (w.heap.size+1) _ ({kd with sum:=D}:Kd).cells.toArray _ _ HR7.out
   have hrow:∀r∈kd.rows,r.Ok (w7.setRow (w.heap.size+1) ({kd with sum:=D}:Kd).cells.toArray):=fun r hr=>rw_keep (HRW6.out r hr) (fun x hx hR=>by
    have h9:=(HFX.out r hr).2 x hx hR
    have hs6:x.block<w6.heap.size:=rintsLt (HRW6.out r hr).ints hx hR
    rw [setRow_other _ _ _ _ (by have:=HGX.out;omega)]
    exact HO7.out.block _ hs6 (by omega))
   refine ret_str2 6 7 (by kernel_rfl) (w.heap.size+1) _ ({kd with sum:=D}:Kd).cells.toArray _ HDU.out HDR.out (by rw [List.size_toArray,HCL.out];exact SKd) (by rfl) (by rfl) r9 ?_
   have hkok:({kd with sum:=D}:Kd).Ok (w7.setRow (w.heap.size+1) ({kd with sum:=D}:Kd).cells.toArray):=⟨HDL.out,HDO.out,hrow _ (by simp [Kd.rows]),hrow _ (by simp [Kd.rows]),hrow _ (by simp [Kd.rows]),HOK5.out.live,HOK5.out.size⟩
   have hkpk:({kd with sum:=D}:Kd).pk=N.says:=by
    have e4:=HPK.out
    unfold PN.says
    rw [← e4,← HDE.out]
    rfl
   have hkf:Fsh w ({kd with sum:=D}:Kd):=fun r hr x hx hR=>by have:=((HFX.out r hr).2 x hx hR).1;have:=HGX.out;omega
   have ho9:Only (fun j=>j=gk∨j=w.heap.size+1) w6 (w7.setRow (w.heap.size+1) ({kd with sum:=D}:Kd).cells.toArray):=(HO7.out.mono (fun j e=>Or.inl e)).trans ((only_setRow w7 (w.heap.size+1) _).mono (fun j e=>Or.inr e))
   have hs5:=HB5.out.size
   have hgl:g<w.heap.size:=HQL.out g (PL.mine HPL.out)
   refine Or.inl ⟨HGD.out,_,rfl,hkpk,hkok,hkf,⟨Q6,HP6.out.keep _ ho9 (fun k hk e=>?_),fun k hk=>(HQ6.out k hk).imp id (fun h=>by omega),fun r hr x hx hR h=>by
    have h9:=(HFX.out r hr).2 x hx hR
    rcases HQ6.out _ h with h | h
    ·have:=HQL.out _ h
     have:=HGX.out
     omega
    ·have:=HSZ.out
     omega⟩,?_,HMS6.out.keep (HB5.out.block g hgl) (ho9.block g (Nat.lt_of_lt_of_le hgl (Nat.le_trans hs5 HOO6.out.size)) (by have:=HGX.out;omega))⟩
   ·rcases HQ6.out k hk with h | h
    ·have:=HQL.out k h;have:=HGX.out;rcases e with e | e<;>omega
    ·have:=HSZ.out;have:=HGX.out;rcases e with e | e<;>omega
   ·refine ⟨ho9.os.trans (HOO6.out.os.trans HB5.out.os),ho9.tape.trans (HOO6.out.tape.trans HB5.out.tape),ho9.output.trans (HOO6.out.output.trans HB5.out.output),Nat.le_trans hs5 (Nat.le_trans HOO6.out.size ho9.size),fun k hk hn=>?_⟩
    have h6:=HOO6.out.size
    rw [ho9.block k (by omega) (by have:=HGX.out;omega),HOO6.out.block k (by omega) hn]
    exact HB5.out.block k hk
theorem Put_any (kind:Nat) (hkd:kind<256) (p:Option Addr) (n c:Nat) (q:Option Addr) (m f:Nat) (E:List En) (K:List Kd) (d:Int) (w:World) (hE:EntsIn w p n c E) (hK:KidsIn w q m f K) {g:Nat} {Q:Nat→Prop} {s:Pg.S} (hp:PL w g Q s) (hsl:s.W.length<100000):
  Calls Tryz.prog 154 #[.pointer (some ⟨g,0,none⟩),.agg #[.int .u8 kind,.slice p n c,.slice q m f],.int .i64 d] w (SayPut w g Q s (pnOf kind E K) d):=by
 have HPL:=Lib.hid hp
 have HQL:=Lib.hid (show ∀k,Q k→k<w.heap.size from hp.lt)
 have HSL:=Lib.hid hsl
 clear hp hsl
 have hb1:Below w.heap.size w (w.alloc (.cells #[.int .u8 kind,.slice p n c,.slice q m f] 81)):=(Below.refl _ _).alloc (Nat.le_refl _) _
 have hn1:=NodeAt.start w kind p n c q m f
 have z1:(w.alloc (.cells #[.int .u8 kind,.slice p n c,.slice q m f] 81)).heap.size=w.heap.size+1:=by simp
 have HKD:=Lib.hid hkd
 have HE:=Lib.hid hE
 have HK:=Lib.hid hK
 obtain ⟨du,hdu,hdr⟩:=UKd
 have HDU:=Lib.hid hdu
 have HDR:=Lib.hid hdr
 have HZ:=Lib.hid (zero_of_info kz)
 clear hkd hE hK hdu hdr
 have hz0:=HZ.out.1
 go_enter Tryz.func154,Tryz.ntmps154
 go_upto_region 1 with fail
 have hb2:Below (w.heap.size+1) (w.alloc (.cells #[.int .u8 kind,.slice p n c,.slice q m f] 81)) ((w.alloc (.cells #[.int .u8 kind,.slice p n c,.slice q m f] 81)).alloc (.cells kd0.cells.toArray 34)):=(Below.refl _ _).alloc (by omega) _
 have r2:=heap_alloc_new (w.alloc (.cells #[.int .u8 kind,.slice p n c,.slice q m f] 81)) (.cells kd0.cells.toArray 34)
 rw [z1] at r2
 have HN2:=Lib.hid (hn1.later (by rw [z1];exact hb2))
 have HB2:=Lib.hid (hb1.trans (hb2.mono (by omega)))
 have HR2:=Lib.hid r2
 clear hb1 hn1 z1 hb2 r2
 generalize (w.alloc (.cells #[.int .u8 kind,.slice p n c,.slice q m f] 81)).alloc (.cells kd0.cells.toArray 34)=w2 at *
 have HPL2:=Lib.hid (HPL.out.keep (fun _=>False) (Only.of_below _ HB2.out) (fun _ _ e=>e))
 have HSAY:=Lib.hid (say_put kind HKD.out p n c q m f E K d w2 (HE.out.later HB2.out) (HK.out.later HB2.out) HPL2.out HSL.out)
 generalize pnOf kind E K=N at *
 obtain ⟨t0,t1,t2⟩:=HN2.out.cells
 have HS2:=Lib.hid (show w.heap.size+1<w2.heap.size from (Array.getElem?_eq_some_iff.1 HR2.out).1)
 by_cases hg:N.right d=true∧N.size≤1048576
 ·have HG:=Lib.hid hg
  clear hg
  go_wp2_with (first
   | (go_at_call 150;refine HSAY.out.mono ?_;rintro e w3 h3;obtain ⟨-,kd,rfl,hpk,hok,hfs,⟨Q6,hp6,hq6,haw⟩,ho6,hms6⟩:=(h3.resolve_right (fun h=>absurd HG.out h.1));have HMS6:=Lib.hid hms6;clear hms6;have HR3:=Lib.hid ((ho6.block _ (Array.getElem?_eq_some_iff.1 HR2.out).1 (fun h=>by have:=HQL.out _ h;omega)).trans HR2.out);have HP6:=Lib.hid hp6;have HAW:=Lib.hid haw;have HQ6:=Lib.hid hq6;have HO6:=Lib.hid ho6;clear hp6 hq6 haw ho6 h3;have HCL:=Lib.hid (Kd.cells_length hok.len);have HPK:=Lib.hid hpk;have HOK:=Lib.hid hok;have HFS:=Lib.hid hfs;clear hpk hok hfs)
   | (refine wpList_store_row (by rfl) 34 _ _ (by rfl) (w.heap.size+1) kd.cells.toArray (by rfl) (by rfl) _ _ HR3.out (by rw [List.size_toArray,HCL.out];exact SKd) (by simp only [List.size_toArray,HCL.out,kd0_size]) (all_oneCell_toArray Kd.one) ?_))
  have r9:=setRow_heap _ (w.heap.size+1) _ kd.cells.toArray _ _ HR3.out
  have hrow:∀r∈kd.rows,r.Ok (w3.setRow (w.heap.size+1) kd.cells.toArray):=fun r hr=>rw_keep (kd_rows_ok HOK.out r hr) (fun x hx hR=>setRow_other _ _ _ _ (by have:=HFS.out r hr x hx hR;have:=HS2.out;omega))
  refine ret_str2 6 7 (by kernel_rfl) (w.heap.size+1) _ kd.cells.toArray _ HDU.out HDR.out (by rw [List.size_toArray,HCL.out];exact SKd) (by rfl) (by rfl) r9 ?_
  have hkok:kd.Ok (w3.setRow (w.heap.size+1) kd.cells.toArray):=⟨HOK.out.len,HOK.out.ok,hrow _ (by simp [Kd.rows]),hrow _ (by simp [Kd.rows]),hrow _ (by simp [Kd.rows]),HOK.out.live,HOK.out.size⟩
  have hkf:Fsh w kd:=fun r hr x hx hR=>by have:=HFS.out r hr x hx hR;have:=HS2.out;omega
  have ho9:=only_setRow w3 (w.heap.size+1) kd.cells.toArray
  have hgl:g<w.heap.size:=HQL.out g (PL.mine HPL.out)
  refine Or.inl ⟨HG.out,kd,rfl,HPK.out,hkok,hkf,⟨Q6,HP6.out.keep _ ho9 (fun k hk e=>?_),fun k hk=>(HQ6.out k hk).imp id (fun h=>by have:=HB2.out.size;omega),HAW.out⟩,?_,HMS6.out.keep (HB2.out.block g hgl) (ho9.block g (Nat.lt_of_lt_of_le hgl (Nat.le_trans HB2.out.size HO6.out.size)) (by omega))⟩
  ·rcases HQ6.out k hk with h | h
   ·have:=HQL.out k h;omega
   ·have:=HS2.out;omega
  ·refine ⟨ho9.os.trans (HO6.out.os.trans HB2.out.os),ho9.tape.trans (HO6.out.tape.trans HB2.out.tape),ho9.output.trans (HO6.out.output.trans HB2.out.output),Nat.le_trans HB2.out.size (Nat.le_trans HO6.out.size ho9.size),fun k hk hn=>?_⟩
   have h6:=HO6.out.size
   have h2:=HS2.out
   rw [ho9.block k (by omega) (by omega),HO6.out.block k (by omega) hn]
   exact HB2.out.block k hk
 ·have HG:=Lib.hid hg
  clear hg
  go_wp2_with (first
   | (go_at_call 150;refine HSAY.out.mono ?_;rintro e w3 h3;obtain ⟨-,rfl,b3⟩:=(h3.resolve_left (fun h=>absurd h.1 HG.out));have HR3:=Lib.hid ((b3.block _ (Array.getElem?_eq_some_iff.1 HR2.out).1).trans HR2.out);have HB3:=Lib.hid (HB2.out.trans (b3.mono HB2.out.size));clear b3)
   | (refine wpList_store_row (by rfl) 34 _ _ (by rfl) (w.heap.size+1) kd0.cells.toArray (by rfl) (by rfl) _ _ HR3.out (by rw [List.size_toArray,kd0_size];exact SKd) rfl (all_oneCell_toArray Kd.one) ?_))
  have r9:=setRow_heap _ (w.heap.size+1) _ kd0.cells.toArray _ _ HR3.out
  have hb9:Below (w.heap.size+1) w3 (w3.setRow (w.heap.size+1) kd0.cells.toArray):=Below.setRow (Below.refl _ _) (Nat.le_refl _) _
  refine ret_str2 6 7 (by kernel_rfl) (w.heap.size+1) _ kd0.cells.toArray _ HDU.out HDR.out (by rw [List.size_toArray,kd0_size];exact SKd) (by rfl) (by rfl) r9 ?_
  exact sayput_bad HG.out (HB3.out.trans (hb9.mono (by omega)))
end Go.Proofs.YtinihaflmdihaaaGreat.Nd
namespace Go.Proofs.YtinihaflmdihaaaGreat.Kt
open Go.RowKit Go.Proofs.YtinihaflmdihaaaGreat.Nd Go.Proofs.YtinihaflmdihaaaGreat.Dk Go.Proofs.YtinihaflmdihaaaGreat.Pg
open List renaming setIfInBounds_toArray → sA, set_cons_zero → sZ, set_cons_succ → sS
theorem three_alloc (w:World) (A B C:Obj):∃W,((w.alloc A).alloc B).alloc C=W∧W.heap[w.heap.size]? =some A∧W.heap[w.heap.size+1]? =some B∧W.heap[w.heap.size+2]? =some C∧Below w.heap.size w W:=by
 have hA:=heap_alloc_new w A
 have hB:=heap_alloc_new (w.alloc A) B
 have hC:=heap_alloc_new ((w.alloc A).alloc B) C
 have sA:(w.alloc A).heap.size=w.heap.size+1:=by simp
 have sB:((w.alloc A).alloc B).heap.size=w.heap.size+2:=by simp
 have b1:Below w.heap.size w (w.alloc A):=(Below.refl _ _).alloc (Nat.le_refl _) _
 have b2:Below (w.alloc A).heap.size (w.alloc A) ((w.alloc A).alloc B):=(Below.refl _ _).alloc (Nat.le_refl _) _
 have b3:Below ((w.alloc A).alloc B).heap.size ((w.alloc A).alloc B) (((w.alloc A).alloc B).alloc C):=(Below.refl _ _).alloc (Nat.le_refl _) _
 have b23:=b2.trans (b3.mono b2.size)
 rw [sA] at hB
 rw [sB] at hC
 refine ⟨_,rfl,?_,?_,hC,b1.trans (b23.mono b1.size)⟩
 ·exact (b23.block _ (by rw [sA];omega)).trans hA
 ·exact (b3.block _ (by rw [sB];omega)).trans hB
theorem range_nd {w:World} {g:Nat} {x y z:Value} {t:TypeId} (h:w.heap[g]? =some (.cells #[x,y,z] t (0,0))):w.rangeAt g 0 [x,y,z]:=fun j v hv=>by
 rw [Nat.zero_add,cell_of_row w g j _ _ _ h]
 simpa using hv
def PutPostK (w:World) (g:Nat) (Q:Nat→Prop) (s:Pg.S) (N:PN) (e:Ending) (w':World):Prop:=
 ∃kd:Kd,e= .returned (.agg kd.cells.toArray)∧kd.pk=N.says∧kd.Ok w'∧Fsh w kd∧(∃Q',PL w' g Q' (s.put N.bytes)∧(∀k,Q' k→Q k∨w.heap.size≤k)∧Aw Q' kd)∧Only Q w w'∧Mst g w w'
theorem kput_any (kind:Nat) (hkd:kind<256) (p:Option Addr) (n c:Nat) (q:Option Addr) (m f:Nat) (E:List En) (K:List Kd) (d:Int) (w:World) (hE:EntsIn w p n c E) (hK:KidsIn w q m f K) {g:Nat} {Q:Nat→Prop} {s:Pg.S} (hp:PL w g Q s) (hsl:s.W.length<100000) (hgood:(pnOf kind E K).right d=true∧(pnOf kind E K).size≤1048576):
  Calls Tryz.prog 108 #[.agg #[.pointer (some ⟨g,0,none⟩),.int .i64 d],.agg #[.int .u8 kind,.slice p n c,.slice q m f]] w (PutPostK w g Q s (pnOf kind E K)):=by
 obtain ⟨W,hW,r0,r1,r2,b1⟩:=three_alloc w (.cells #[.pointer (some ⟨g,0,none⟩),.int .i64 d] 91) (.cells #[.int .u8 kind,.slice p n c,.slice q m f] 81) (.cells kd0.cells.toArray 34)
 have HQL:=Lib.hid (show ∀k,Q k→k<w.heap.size from hp.lt)
 have hgl:g<w.heap.size:=hp.lt g (PL.mine hp)
 have HGL:=Lib.hid hgl
 clear hgl
 have HPUT:=Lib.hid (Put_any kind hkd p n c q m f E K d W (hE.later b1) (hK.later b1) (hp.keep (fun _=>False) (Only.of_below _ b1) (fun _ _ e=>e)) hsl)
 generalize pnOf kind E K=N at *
 have HG:=Lib.hid hgood
 have S2:=Lib.hid (show w.heap.size+3≤W.heap.size from (Array.getElem?_eq_some_iff.1 r2).1)
 have B1:=Lib.hid b1
 obtain ⟨dk,hdk,hdrk⟩:=UKd
 obtain ⟨dn,hdn,hdrn⟩:=UNode
 have HDK:=Lib.hid hdk
 have HDRK:=Lib.hid hdrk
 have HDN:=Lib.hid hdn
 have HDRN:=Lib.hid hdrn
 have HZ:=Lib.hid (zero_of_info kz)
 have hz0:=HZ.out.1
 clear hp hsl hgood hE hK hdk hdrk hdn hdrn b1
 go_enter Tryz.func108,Tryz.ntmps108
 go_upto_region 1 with fail
 clear hW
 have c0:=cell_of_row W w.heap.size 0 _ _ _ r0
 have c1:=cell_of_row W w.heap.size 1 _ _ _ r0
 have R1:=Lib.hid (range_nd r1)
 have R2:=Lib.hid r2
 clear r0 r1 r2
 go_upto_region 2 with (first
  | (refine wpList_load_mid (by rfl) 81 _ (by rfl) (w.heap.size+1) 0 (by rfl) [.int .u8 kind,.slice p n c,.slice q m f] dn R1.out HDN.out HDRN.out SNode ?_)
  | (go_at_call 154;refine HPUT.out.mono ?_;rintro e w3 h3;obtain ⟨-,kd,rfl,hpk,hok,hfs,hq6,ho6,hms6⟩:=(h3.resolve_right (fun h=>absurd HG.out h.1));have HPK:=Lib.hid hpk;have HOK:=Lib.hid hok;have HFS:=Lib.hid hfs;have HMS6:=Lib.hid hms6;clear hms6;have HQ6:=Lib.hid hq6;have HO6:=Lib.hid ho6;have HCL:=Lib.hid (Kd.cells_length hok.len);clear h3 hpk hok hfs hq6 ho6)
  | (refine wpList_store_row (by rfl) 34 (.tmp 5) _ (by rfl) w3.heap.size kd.cells.toArray (by rfl) (by rfl) _ _ (heap_alloc_new w3 _) (by rw [List.size_toArray,HCL.out];exact SKd) (by simp only [List.size_toArray,HCL.out,kd0_size]) (all_oneCell_toArray Kd.one) ?_))
 have hb4:Below w3.heap.size w3 ((w3.alloc (.cells kd0.cells.toArray 34)).setRow w3.heap.size kd.cells.toArray):=Below.setRow ((Below.refl _ _).alloc (Nat.le_refl _) _) (Nat.le_refl _) _
 have hr4:=setRow_heap _ w3.heap.size _ kd.cells.toArray _ _ (heap_alloc_new w3 (.cells kd0.cells.toArray 34))
 generalize (w3.alloc (.cells kd0.cells.toArray 34)).setRow w3.heap.size kd.cells.toArray=w4 at *
 have HRR:=Lib.hid (range_kd hr4)
 have R3:=Lib.hid ((HO6.out.block _ (Array.getElem?_eq_some_iff.1 R2.out).1 (fun h=>by have:=HQL.out _ h;omega)).trans R2.out)
 have R4:=Lib.hid ((hb4.block _ (Array.getElem?_eq_some_iff.1 R3.out).1).trans R3.out)
 have B4:=Lib.hid hb4
 clear hb4 hr4 c0 c1
 go_wp2_with (first
  | (refine wpList_load_mid (by rfl) 34 _ (by rfl) w3.heap.size 0 (by rfl) kd.cells dk HRR.out HDK.out HDRK.out (by rw [HCL.out];exact SKd) ?_)
  | (refine wpList_store_row (by rfl) 34 _ _ (by rfl) (w.heap.size+2) kd.cells.toArray (by rfl) (by rfl) _ _ R4.out (by rw [List.size_toArray,HCL.out];exact SKd) (by simp only [List.size_toArray,HCL.out,kd0_size]) (all_oneCell_toArray Kd.one) ?_))
 refine ret_str 4 (by kernel_rfl) (w.heap.size+2) _ kd.cells.toArray HDK.out HDRK.out (by rw [List.size_toArray,HCL.out];exact SKd) (by rfl) (setRow_heap _ _ _ _ _ _ R4.out) ?_
 have s3:=HO6.out.size
 have s2:=S2.out
 have hrow:∀r∈kd.rows,r.Ok (w4.setRow (w.heap.size+2) kd.cells.toArray):=fun r hr=>Nd.rw_keep ((kd_rows_ok HOK.out r hr).later B4.out) (fun x hx hR=>setRow_other _ _ _ _ (by have:=HFS.out r hr x hx hR;omega))
 have ho9:=only_setRow w4 (w.heap.size+2) kd.cells.toArray
 have ho4:Only (fun _=>False) w3 w4:=Only.of_below _ B4.out
 obtain ⟨Q6,hp6,hq6,haw⟩:=HQ6.out
 refine ⟨kd,rfl,HPK.out,⟨HOK.out.len,HOK.out.ok,hrow _ (by simp [Kd.rows]),hrow _ (by simp [Kd.rows]),hrow _ (by simp [Kd.rows]),HOK.out.live,HOK.out.size⟩,fun r hr x hx hR=>by have:=HFS.out r hr x hx hR;omega,⟨Q6,(hp6.keep _ ho4 (fun _ _ e=>e)).keep _ ho9 (fun k hk e=>?_),fun k hk=>(hq6 k hk).imp id (fun h=>by omega),haw⟩,?_,HMS6.out.keep (B1.out.block g HGL.out) ((ho9.block g (Nat.lt_of_lt_of_le HGL.out (Nat.le_trans B1.out.size (Nat.le_trans s3 ho4.size))) (by have:=HGL.out;omega)).trans (ho4.block g (Nat.lt_of_lt_of_le HGL.out (Nat.le_trans B1.out.size s3)) (fun h=>h)))⟩
 ·rcases hq6 k hk with h | h
  ·have:=HQL.out k h;omega
  ·omega
 ·refine ⟨ho9.os.trans (ho4.os.trans (HO6.out.os.trans B1.out.os)),ho9.tape.trans (ho4.tape.trans (HO6.out.tape.trans B1.out.tape)),ho9.output.trans (ho4.output.trans (HO6.out.output.trans B1.out.output)),Nat.le_trans B1.out.size (Nat.le_trans s3 (Nat.le_trans ho4.size ho9.size)),fun k hk hn=>?_⟩
  rw [ho9.block k (by have:=ho4.size;omega) (by omega),ho4.block k (by omega) (fun h=>h),HO6.out.block k (by omega) hn]
  exact B1.out.block k hk
end Go.Proofs.YtinihaflmdihaaaGreat.Kt
namespace Go.Proofs.YtinihaflmdihaaaGreat.Kt
open Go.RowKit
open List renaming setIfInBounds_toArray → sA, set_cons_zero → sZ, set_cons_succ → sS
theorem layP_size:∀(n:Nat) (L:List (List Int)) (t:Nat),L.length≤n→(layP n L t).size=L.length
 | 0,L,t,h=>by
  obtain rfl:L=[]:=List.length_eq_zero_iff.1 (by omega)
  rfl
 | n+1,L,t,h=>by
  rw [layP]
  by_cases hL:L=[]
  ·rw [if_pos hL,hL]
   rfl
  ·rw [if_neg hL]
   have hp:=List.length_pos_iff.2 hL
   have l1:((sortP (t%(L.headD []).length) L).take (L.length/2)).length=L.length/2:=by rw [List.length_take,sortP_length];omega
   have l2:((sortP (t%(L.headD []).length) L).drop (L.length/2+1)).length=L.length - (L.length/2+1):=by rw [List.length_drop,sortP_length]
   show 1+(layP n _ (t+1)).size+(layP n _ (t+1)).size=_
   rw [layP_size n _ (t+1) (by omega),layP_size n _ (t+1) (by omega),l1,l2]
   omega
theorem lay_size (L:List (List Int)) (t:Nat):(lay L t).size=L.length:=layP_size _ L t (Nat.le_refl _)
end Go.Proofs.YtinihaflmdihaaaGreat.Kt
namespace Go.Proofs.YtinihaflmdihaaaGreat.Kt
open Go.RowKit Go.Proofs.YtinihaflmdihaaaGreat.Nd Go.Proofs.YtinihaflmdihaaaGreat.Pg
open List renaming setIfInBounds_toArray → sA, set_cons_zero → sZ, set_cons_succ → sS
def T.pages:T→List (List Nat)
 | .nil=>[]
 | .fork p v l r=>l.pages++r.pages++[(forkN p v l.kid r.kid).bytes]
theorem pages_length:∀u:T,u.pages.length=u.size
 | .nil=>rfl
 | .fork p v l r=>by
  have h1:=pages_length l
  have h2:=pages_length r
  unfold T.pages T.size
  simp only [List.length_append,List.length_cons,List.length_nil]
  omega
theorem fork_size (p:List Int) (v:Bool) (a b:PK):(forkN p v a b).size=1+(a.size+b.size):=by
 show ((1:Nat):Int)+(a.size+(b.size+0))=_
 omega
theorem kid_size:∀u:T,u.size≤1048576→u.kid.size=u.size
 | .nil,_=>rfl
 | .fork p v l r,h=>by
  have hz:(T.fork p v l r).size=1+l.size+r.size:=rfl
  have h1:=kid_size l (by omega)
  have h2:=kid_size r (by omega)
  have hf:=fork_size p v l.kid r.kid
  unfold T.kid
  rw [if_pos (by omega)]
  show (forkN p v l.kid r.kid).size=_
  omega
def T.lives:T→Nat
 | .nil=>0
 | .fork _ v l r=>(if v then 1 else 0)+l.lives+r.lives
theorem kid_live:∀u:T,u.size≤1048576→u.kid.live=u.lives
 | .nil,_=>rfl
 | .fork p v l r,h=>by
  have hz:(T.fork p v l r).size=1+l.size+r.size:=rfl
  have h1:=kid_live l (by omega)
  have h2:=kid_live r (by omega)
  have h3:=kid_size l (by omega)
  have h4:=kid_size r (by omega)
  have hf:=fork_size p v l.kid r.kid
  unfold T.kid
  rw [if_pos (by omega)]
  show ((if v then (1:Int) else 0)+0)+(l.kid.live+(r.kid.live+0))=_
  unfold T.lives
  cases v<;>simp<;>omega
theorem fork_good {d:Nat} (hd:1≤d∧d≤8) {p:List Int} {v:Bool} {l r:T} (h:(T.fork p v l r).dims d) (hs:(T.fork p v l r).size≤1048576):(forkN p v l.kid r.kid).right d=true∧(forkN p v l.kid r.kid).size≤1048576:=by
 have hz:(T.fork p v l r).size=1+l.size+r.size:=rfl
 have hf:=fork_size p v l.kid r.kid
 have h3:=kid_size l (by omega)
 have h4:=kid_size r (by omega)
 have hl:=kid_right hd l h.2.1
 have hr:=kid_right hd r h.2.2
 exact ⟨fork_right hd h.1 hl.1 hr.1 hl.2 hr.2,by omega⟩
theorem fork_kid {p:List Int} {v:Bool} {l r:T} (hs:(T.fork p v l r).size≤1048576):(T.fork p v l r).kid=(forkN p v l.kid r.kid).says:=by
 have hz:(T.fork p v l r).size=1+l.size+r.size:=rfl
 have hf:=fork_size p v l.kid r.kid
 have h3:=kid_size l (by omega)
 have h4:=kid_size r (by omega)
 show (if (forkN p v l.kid r.kid).size≤1048576 then (forkN p v l.kid r.kid).says else PK.none)=_
 rw [if_pos (by omega)]
end Go.Proofs.YtinihaflmdihaaaGreat.Kt
