/- KdBuild, KdRowsT. -/
import Derived.Test.YtinihaflmdihaaaGreatW1
import Derived.Test.YtinihaflmdihaaaGreatW30
import Derived.Test.YtinihaflmdihaaaGreatW40
import Derived.Test.YtinihaflmdihaaaGreatW42
set_option maxRecDepth 100000
set_option maxHeartbeats 8000000
set_option linter.unusedVariables false
set_option linter.unusedSimpArgs false
namespace Go.Proofs.YtinihaflmdihaaaGreat.Kt
open Go.RowKit Go.Proofs.YtinihaflmdihaaaGreat.Nd Go.Proofs.YtinihaflmdihaaaGreat.Dk Go.Proofs.YtinihaflmdihaaaGreat.Pg
open List renaming setIfInBounds_toArray → sA, set_cons_zero → sZ, set_cons_succ → sS
theorem twice_iff {a d:Nat} {M:List Rw} {L:List (List Int)} (hd:∀y∈L,y.length=d) (hs:M.map Rw.R=sortP a L):Twice M↔¬L.Nodup:=by
 have hp:=sortP_perm a L
 have hso:=sortP_sorted (a:=a) hd
 have hdS:∀y∈sortP a L,y.length=d:=fun y hy=>hd y (hp.mem_iff.1 hy)
 rw [← hp.nodup_iff]
 have hlen:M.length=(sortP a L).length:=by rw [← hs,List.length_map]
 have hget:∀j (h:j<(sortP a L).length),(M.getD j default).R=(sortP a L)[j]:=fun j h=>by
  have h2:j<M.length:=by omega
  rw [← getD_R h2,hs,List.getD_eq_getElem?_getD,List.getElem?_eq_getElem h]
  rfl
 generalize sortP a L=S at *
 constructor
 ·rintro ⟨j,hj,he⟩ hn
  rw [hget j (by omega),hget (j+1) (by omega)] at he
  exact (List.pairwise_iff_getElem.1 hn) j (j+1) (by omega) (by omega) (by omega) he
 ·intro hn
  apply Classical.byContradiction
  intro ht
  apply hn
  rw [List.nodup_iff_pairwise_ne,List.pairwise_iff_getElem]
  intro i j hi hj hij he
  apply ht
  refine ⟨i,by omega,?_⟩
  rw [hget i (by omega),hget (i+1) (by omega)]
  by_cases h1:i+1=j
  ·subst h1
   exact he
  ·have s1:=(List.pairwise_iff_getElem.1 hso) i (i+1) hi (by omega) (by omega)
   have s2:=(List.pairwise_iff_getElem.1 hso) (i+1) j (by omega) hj (by omega)
   rw [← he] at s2
   exact less_total ((hdS _ (List.getElem_mem _)).trans (hdS _ (List.getElem_mem _)).symm) s2 s1
def BuiltPost (w:World) (gs:Nat) (Q:Nat→Prop) (s:Pg.S) (L:List Rw) (e:Ending) (w':World):Prop:=
 (¬(L.map Rw.R).Nodup∧e= .returned (.tuple #[.agg kd0.cells.toArray,.int .i64 8])∧Below w.heap.size w w')∨
 ((L.map Rw.R).Nodup∧∃(kd:Kd) (Q':Nat→Prop),e= .returned (.tuple #[.agg kd.cells.toArray,.int .i64 0])∧kd.pk=(lay (L.map Rw.R) 0).kid∧kd.Ok w'∧Fsh w kd∧Aw Q' kd∧PL w' gs Q' (puts s (lay (L.map Rw.R) 0).pages)∧(∀k,Q' k→Q k∨w.heap.size≤k)∧Only Q w w')
theorem rows_of_seg {w:World} {g o c:Nat} {M:List Rw} (h:Seg w g o M) (hok:∀r∈M,r.Ok w) (hc:M.length≤c):RowsIn w (some ⟨g,o,none⟩) M.length c M:=⟨rfl,hc,hok,Or.inr ⟨g,o,rfl,fun i hi=>(h i hi).1⟩⟩
theorem Build_some {gs d:Nat} {Q:Nat→Prop} {s:Pg.S} (hd:1≤d∧d≤8) (p:Option Addr) (n c:Nat) (L:List Rw) (w:World) (hL:RowsIn w p n c L) (hn:1≤n) (hdim:∀r∈L,r.n=d) (haq:∀r∈L,∀x,r.p=some x→r.R≠[]→¬Q x.block) (hp:PL w gs Q s) (hsl:s.W.length+n<100000):
  Calls Tryz.prog 32 #[.pointer (some ⟨gs,0,none⟩),.slice p n c,.int .i64 d] w (BuiltPost w gs Q s L):=by
 have b1:Below w.heap.size w (w.alloc (.cells kd0.cells.toArray 34)):=(Below.refl _ _).alloc (Nat.le_refl _) _
 have r1:=heap_alloc_new w (.cells kd0.cells.toArray 34)
 have htk:takesB d L=true:=by
  unfold takesB
  rw [decide_eq_true (by omega)]
  simp only [Bool.true_and,Bool.not_eq_true',List.any_eq_false,decide_eq_true_eq]
  intro r hr
  have:=hdim r hr
  omega
 have HT:=Lib.hid (fun w' (hb:Below w.heap.size w w')=>takes_any (some ⟨gs,0,none⟩) d p n c L w' (hL.later hb) (by omega))
 rw [htk] at HT
 have HCL:=Lib.hid (fun w' (hb:Below w.heap.size w w')=>clone_rows p n c L w' (hL.later hb) hn (by omega))
 have HNL:=Lib.hid hL.size
 have HDL:=Lib.hid (show ∀y∈L.map Rw.R,y.length=d from fun y hy=>by
  obtain ⟨r,hr,rfl⟩:=List.mem_map.1 hy
  exact (hL.each r hr).ints.size.symm.trans (hdim r hr))
 have HRO:=Lib.hid (show ∀r∈L,r.Ok w∧r.n=d from fun r hr=>⟨hL.each r hr,hdim r hr⟩)
 have HP:=Lib.hid hp
 have HAQ:=Lib.hid haq
 have HSL:=Lib.hid hsl
 have HDD:=Lib.hid hd
 have R1:=Lib.hid r1
 have B1:=Lib.hid b1
 have e1:¬(n:Int)>1048576:=by omega
 obtain ⟨du,hdu,hdr⟩:=UTr
 obtain ⟨dk,hdk,hdkr⟩:=UKd
 have HDU:=Lib.hid hdu
 have HDR:=Lib.hid hdr
 have HDK:=Lib.hid hdk
 have HDKR:=Lib.hid hdkr
 have HZ:=Lib.hid (zero_of_info kz)
 have hz0:=HZ.out.1
 clear hL htk hdim haq hp hsl hd b1 r1 hdu hdr hdk hdkr
 go_enter Tryz.func32,Tryz.ntmps32
 go_upto_region 1 with fail
 generalize w.alloc (.cells kd0.cells.toArray 34)=w1 at *
 go_upto_region 2 with (first
  | (refine wpList_build (cells:= #[.pointer (some ⟨gs,0,none⟩),.int .i64 d]) (by rfl) (by rfl) (by simp only [List.map_toArray,List.map_cons,List.map_nil];exact tr_built _ _) ?_)
  | (refine wpList_store_row (by rfl) 91 (.tmp 8) (.tmp 12) (by rfl) w1.heap.size #[.pointer (some ⟨gs,0,none⟩),.int .i64 d] (by rfl) (by rfl) _ _ (heap_alloc_new w1 _) STr rfl (tr_one _ _) ?_;rw [setRow_alloc]))
 have hb2:Below w1.heap.size w1 (w1.alloc (.cells #[.pointer (some ⟨gs,0,none⟩),.int .i64 d] 91)):=(Below.refl _ _).alloc (Nat.le_refl _) _
 have hr2:=heap_alloc_new w1 (.cells #[.pointer (some ⟨gs,0,none⟩),.int .i64 d] 91)
 generalize w1.alloc (.cells #[.pointer (some ⟨gs,0,none⟩),.int .i64 d] 91)=w2 at *
 have R2:=Lib.hid (range_tr hr2)
 have R2h:=Lib.hid hr2
 have R12:=Lib.hid ((hb2.block _ (Array.getElem?_eq_some_iff.1 R1.out).1).trans R1.out)
 have B2:=Lib.hid (B1.out.trans (hb2.mono B1.out.size))
 clear hb2 hr2
 go_upto_region 5 with (first
  | (refine wpList_load_midK (by rfl) 91 (.tmp 8) (by rfl) w1.heap.size 0 (by rfl) [.pointer (some ⟨gs,0,none⟩),.int .i64 d] du R2.out HDU.out HDR.out STr ?_)
  | (go_at_call 72;refine (HT.out w2 B2.out).mono ?_;rintro _ w3 ⟨rfl,b3⟩;have B3:=Lib.hid (B2.out.trans (b3.mono B2.out.size));have R3:=Lib.hid ((b3.block _ (Array.getElem?_eq_some_iff.1 R12.out).1).trans R12.out);have R3h:=Lib.hid ((b3.block _ (Array.getElem?_eq_some_iff.1 R2h.out).1).trans R2h.out);clear b3)
  | (go_at_call 76;refine (HCL.out w3 B3.out).mono ?_;rintro _ w4 ⟨gc,cc,rfl,hcc,hgc,hgl,hsg,b4⟩;have B4:=Lib.hid (B3.out.trans (b4.mono B3.out.size));have R4:=Lib.hid ((b4.block _ (Array.getElem?_eq_some_iff.1 R3.out).1).trans R3.out);have R4h:=Lib.hid ((b4.block _ (Array.getElem?_eq_some_iff.1 R3h.out).1).trans R3h.out);have HGC:=Lib.hid (show w3.heap.size≤gc∧gc<w4.heap.size from ⟨hgc,hgl⟩);have HCC:=Lib.hid hcc;have HSG:=Lib.hid hsg;clear b4 hcc hgc hgl hsg))
 have R4t:=Lib.hid (range_tr R4h.out)
 have HS3:=Lib.hid (show w.heap.size≤w3.heap.size from B3.out.size)
 have HB1:=Lib.hid (show w1.heap.size<w3.heap.size from (Array.getElem?_eq_some_iff.1 R3h.out).1)
 have HSO:=Lib.hid (tsort_any (some ⟨gs,0,none⟩) d 0 gc 0 cc L w4 (fun e=>by have h:=HNL.out;rw [e] at h;simp at h;omega) HSG.out (fun r hr=>⟨(HRO.out r hr).1.later B4.out,(HRO.out r hr).2,fun y hy hR=>by have:=rw_lt (HRO.out r hr).1 y hy hR;have:=HGC.out;have:=HS3.out;omega⟩) (by have:=HDD.out;omega) (by omega) HGC.out.2 (by have:=HNL.out;have:=HSL.out;omega))
 rw [Nat.zero_mod] at HSO
 rw [← HNL.out] at HSO ⊢
 go_upto_region 6 with (first
  | (refine wpList_load_mid (by rfl) 91 (.tmp 8) (by rfl) w1.heap.size 0 (by rfl) [.pointer (some ⟨gs,0,none⟩),.int .i64 d] du R4t.out HDU.out HDR.out STr ?_)
  | (go_at_call 73;refine HSO.out.mono ?_;rintro _ w5 ⟨rfl,M,hM1,hM2,hM3,hM4⟩;have HM1:=Lib.hid hM1;have HM2:=Lib.hid hM2;have HM3:=Lib.hid hM3;have HM4:=Lib.hid hM4;clear hM1 hM2 hM3 hM4))
 have HML:=Lib.hid (show M.length=n from HM1.out.length_eq.trans HNL.out.symm)
 have R5:=Lib.hid ((HM4.out.only.block _ (Array.getElem?_eq_some_iff.1 R4.out).1 (by have:=HGC.out;have:=HS3.out;have:=(Array.getElem?_eq_some_iff.1 R3.out).1;omega)).trans R4.out)
 have R5h:=Lib.hid ((HM4.out.only.block _ (Array.getElem?_eq_some_iff.1 R4h.out).1 (by have:=HGC.out;have:=HB1.out;omega)).trans R4h.out)
 have HMR:=Lib.hid (show ∀r∈M,r.Ok w5 from fun r hr=>by
  have h:=HRO.out r (HM1.out.mem_iff.1 hr)
  exact Nd.rw_keep (h.1.later B4.out) fun y hy hR=>HM4.out.only.block _ (rw_lt (h.1.later B4.out) y hy hR) (by have:=rw_lt h.1 y hy hR;have:=HGC.out;have:=HS3.out;omega))
 have htw:=twice_any (some ⟨gc,0,none⟩) n cc M w5 (by have h:=rows_of_seg HM3.out HMR.out (c:=cc) (by have h1:=HML.out;have h2:=HCC.out;have h3:=HNL.out;omega);rw [HML.out] at h;exact h) (by have:=HSL.out;omega)
 have HTW:=Lib.hid htw
 have HTI:=Lib.hid (twice_iff HDL.out HM2.out)
 clear htw
 have HO5:=Lib.hid (show Only (fun k=>k=gc) w4 w5 from HM4.out.only)
 have HBC:=Lib.hid (show w.heap.size<w1.heap.size∧w1.heap.size<w3.heap.size from ⟨(Array.getElem?_eq_some_iff.1 R1.out).1,HB1.out⟩)
 have HFIN:=Lib.hid (show Only (fun k=>k=gc) w w5 from (Only.of_below _ B4.out).trans HO5.out)
 by_cases hnd:(L.map Rw.R).Nodup
 ·have HND:=Lib.hid hnd
  have HLY:=Lib.hid (show ∀w',Below w5.heap.size w5 w'→Calls Tryz.prog 59 #[.agg #[.pointer (some ⟨gs,0,none⟩),.int .i64 d],.slice (some ⟨gc,0,none⟩) n cc,.int .i64 0] w' (LaidPost w' gs Q s gc 0 M 0) from fun w' hb=>by
   have hp5:PL w5 gs Q s:=(HP.out.keep _ (HFIN.out) (fun k hk e=>by have:=HP.out.lt k hk;have:=HGC.out;have:=HS3.out;omega))
   have h:=lay_any (gs:=gs) HDD.out n M (some ⟨gc,0,none⟩) cc 0 gc 0 w' Q s (by have:=HML.out;omega) (fun _=>rfl) (by have h1:=HML.out;have h2:=HCC.out;have h3:=HNL.out;omega) (HM3.out.later hb (by have:=HGC.out.2;have:=HO5.out.size;omega)) (fun r hr=>by
    have h:=HRO.out r (HM1.out.mem_iff.1 hr)
    refine ⟨(HMR.out r hr).later hb,h.2,fun y hy hR=>by have:=rw_lt h.1 y hy hR;have:=HGC.out;have:=HS3.out;omega,HAQ.out r (HM1.out.mem_iff.1 hr)⟩) (hp5.keep (fun _=>False) (Only.of_below _ hb) (fun _ _ e=>e)) (by have:=HGC.out.2;have:=HO5.out.size;have:=hb.size;omega) (fun e=>by have:=HP.out.lt _ e;have:=HGC.out;have:=HS3.out;omega) (by have:=HML.out;have:=HSL.out;omega) (by have:=HML.out;have:=HSL.out;omega)
   rw [HML.out] at h
   exact h)
  have hLM:lay (M.map Rw.R) 0=lay (L.map Rw.R) 0:=(lay_perm HDL.out (HM1.out.map Rw.R).symm).symm
  have HLM:=Lib.hid hLM
  clear hnd hLM
  go_wp2_with (first
   | (go_at_call 77;refine HTW.out.mono ?_;rintro _ w6 ⟨tb,rfl,htb,jj,hw6⟩;obtain rfl:tb=false:=(by rw [Bool.eq_false_iff];intro h;exact HTI.out.1 (htb.1 h) HND.out);have B6:=Lib.hid (show Below w5.heap.size w5 w6 from by rw [hw6];exact Below.drewN (Below.refl _ _) _);have R6:=Lib.hid ((B6.out.block _ (Array.getElem?_eq_some_iff.1 R5.out).1).trans R5.out);have R6t:=Lib.hid (range_tr ((B6.out.block _ (Array.getElem?_eq_some_iff.1 R5h.out).1).trans R5h.out));have HL6:=Lib.hid (HLY.out w6 B6.out);clear htb hw6)
   | (refine wpList_load_mid (by rfl) 91 (.tmp 8) (by rfl) w1.heap.size 0 (by rfl) [.pointer (some ⟨gs,0,none⟩),.int .i64 d] du R6t.out HDU.out HDR.out STr ?_)
   | (go_at_call 59;refine HL6.out.mono ?_;rintro _ w7 ⟨kd,Q7,rfl,hpk,hok,hfs,haw,hlr⟩;have HPK:=Lib.hid hpk;have HOKK:=Lib.hid hok;have HFS:=Lib.hid hfs;have HAW:=Lib.hid haw;have HLR:=Lib.hid hlr;have HCK:=Lib.hid (Kd.cells_length hok.len);have R7:=Lib.hid ((hlr.only.block _ (Array.getElem?_eq_some_iff.1 R6.out).1 (fun e=>e.elim (fun e=>by have:=HP.out.lt _ e;omega) (fun e=>by have:=HGC.out;have:=HBC.out;omega))).trans R6.out);clear hpk hok hfs haw hlr)
   | (refine wpList_store_row (by rfl) 34 _ _ (by rfl) w.heap.size kd.cells.toArray (by rfl) (by rfl) _ _ R7.out (by rw [List.size_toArray,HCK.out];exact SKd) (by simp only [List.size_toArray,HCK.out,kd0_size]) (all_oneCell_toArray Kd.one) ?_))
  refine ret_str2 6 7 (by kernel_rfl) w.heap.size _ kd.cells.toArray _ HDK.out HDKR.out (by rw [List.size_toArray,HCK.out];exact SKd) (by rfl) (by rfl) (setRow_heap _ _ _ _ _ _ R7.out) ?_
  have hb6:=B6.out.size
  have h4:=HO5.out.size
  have hbc:=HBC.out
  have hgc:=HGC.out
  have hs3:=HS3.out
  have ho3:=only_setRow w7 w.heap.size kd.cells.toArray
  have hsz:w.heap.size+1<w6.heap.size:=by omega
  have hrow:∀r∈kd.rows,r.Ok (w7.setRow w.heap.size kd.cells.toArray):=fun r hr=>Nd.rw_keep (kd_rows_ok HOKK.out r hr) (fun x hx hR=>ho3.block _ (rw_lt (kd_rows_ok HOKK.out r hr) x hx hR) (by have:=HFS.out r hr x hx hR;omega))
  have hq7:¬Q7 w.heap.size:=fun e=>(HLR.out.new _ e).elim (fun e=>by have:=HP.out.lt _ e;omega) (fun e=>by omega)
  refine Or.inr ⟨HND.out,kd,Q7,rfl,by rw [HPK.out,HLM.out],⟨HOKK.out.len,HOKK.out.ok,hrow _ (by simp [Kd.rows]),hrow _ (by simp [Kd.rows]),hrow _ (by simp [Kd.rows]),HOKK.out.live,HOKK.out.size⟩,(fun r hr x hx hR=>by have:=HFS.out r hr x hx hR;omega),HAW.out,?_,(fun k hk=>(HLR.out.new k hk).imp id (fun e=>by omega)),?_⟩
  ·rw [← HLM.out]
   exact HLR.out.st.keep _ ho3 (fun k hk e=>hq7 (e▸hk))
  ·have hf:=HFIN.out
   have hb:=Only.of_below (fun k:Nat=>k=gc) B6.out
   have hl:=HLR.out.only
   refine ⟨ho3.os.trans (hl.os.trans (hb.os.trans hf.os)),ho3.tape.trans (hl.tape.trans (hb.tape.trans hf.tape)),ho3.output.trans (hl.output.trans (hb.output.trans hf.output)),by have:=hf.size;have:=hl.size;have:=ho3.size;omega,fun k hk hn=>?_⟩
   have:=hf.size
   have:=hl.size
   rw [ho3.block k (by omega) (by omega),hl.block k (by omega) (fun e=>e.elim hn (fun e=>by omega)),hb.block k (by omega) (by omega)]
   exact hf.block k hk (by omega)
 ·have HND:=Lib.hid hnd
  clear hnd
  go_wp2_with (first
   | (go_at_call 77;refine HTW.out.mono ?_;rintro _ w6 ⟨tb,rfl,htb,jj,hw6⟩;obtain rfl:tb=true:=htb.2 (HTI.out.2 HND.out);have B6:=Lib.hid (show Below w5.heap.size w5 w6 from by rw [hw6];exact Below.drewN (Below.refl _ _) _);have R6:=Lib.hid ((B6.out.block _ (Array.getElem?_eq_some_iff.1 R5.out).1).trans R5.out);clear htb hw6)
   | (refine wpList_build (by rfl) (by rfl) kd0_built ?_)
   | (refine wpList_store_row (by rfl) 34 _ _ (by rfl) w.heap.size kd0.cells.toArray (by rfl) (by rfl) _ _ R6.out (by rw [List.size_toArray,kd0_size];exact SKd) rfl (all_oneCell_toArray Kd.one) ?_))
  refine ret_str2 6 7 (by kernel_rfl) w.heap.size _ kd0.cells.toArray _ HDK.out HDKR.out (by rw [List.size_toArray,kd0_size];exact SKd) (by rfl) (by rfl) (setRow_heap _ _ _ _ _ _ R6.out) ?_
  refine Or.inl ⟨HND.out,rfl,?_⟩
  have hgc:=HGC.out
  have hs3:=HS3.out
  have hw5:Below w.heap.size w w5:=HFIN.out.below (Nat.le_refl _) (fun k e=>by omega)
  exact (hw5.trans (B6.out.mono hw5.size)).trans (Below.setRow (Below.refl _ _) (Nat.le_refl _) _)
theorem sees_dims {d:Nat} {W:Pages}:∀ {u:V},Sees W d u→∀y∈u.rows,y.length=d
 | .nil,_,y,hy=>by cases hy
 | .bad _,_,y,hy=>by cases hy
 | .fork p v l r,h,y,hy=>by
  have hy:y∈(if v then [p] else [])++(l.rows++r.rows):=hy
  rcases List.mem_append.1 hy with hy | hy
  ·have hp:=(right_split h.1.right).2.2.1 ⟨p,v⟩ (by simp [forkN])
   have hy:y=p:=by cases v<;>simp at hy;exact hy
   rw [hy]
   simp only at hp
   omega
  ·rcases List.mem_append.1 hy with hy | hy
   ·exact sees_dims h.2.2.1 y hy
   ·exact sees_dims h.2.2.2 y hy
end Go.Proofs.YtinihaflmdihaaaGreat.Kt
