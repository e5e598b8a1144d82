/- KdMeetF. -/
import Derived.Test.YtinihaflmdihaaaGreatK24
set_option maxRecDepth 100000
set_option maxHeartbeats 8000000
set_option linter.all false
namespace Go.Proofs.YtinihaflmdihaaaGreat.Kt
open Go.RowKit Go.Proofs.YtinihaflmdihaaaGreat.Nd Go.Proofs.YtinihaflmdihaaaGreat.Dk Go.Proofs.YtinihaflmdihaaaGreat.Pg
open List renaming setIfInBounds_toArray → yA, set_cons_zero → yB, set_cons_succ → yC
def onTo (C:Int) (m:MSt):Value:=if C=0 then .pointer none else .pointer (some ⟨m.gk,37*m.sideN,none⟩)
theorem kd_cells_eq (k:Kd):k.cells=vals k.sum++[.slice k.lo.p k.lo.n k.lo.c,.slice k.hi.p k.hi.n k.hi.c,.int .i64 k.live,.int .i64 k.size,.slice k.key.p k.key.n k.key.c]:=rfl
theorem sp_built1' (k:Kd) (hk:k.sum.length=32) (ge gk ce ck:Nat) (row:Rw) (lv:Bool) (k1 k2:Kd):Tryz.prog.built 101 [(0,.agg k.cells.toArray),(1,.agg #[.int .u8 1,.slice (some ⟨ge,0,none⟩) 1 ce,.slice (some ⟨gk,0,none⟩) 2 ck])]=some (MSt.mk k ge ce gk ck row lv k1 k2 false).cells.toArray:=by
 rw [kd_cells_eq]
 exact sp_built1 _ _ _ _ _ _ _ _ _ _ _ _ _ _ _ k.sum hk
theorem sp_set (m:MSt) (h:m.kid.sum.length=32):({m with side:=false}:MSt).cells.toArray.setIfInBounds 40 (.int .i64 1)=({m with side:=true}:MSt).cells.toArray:=by
 have hl:=Kd.cells_length h
 unfold MSt.cells
 apply Array.ext'
 simp only [List.setIfInBounds_toArray]
 rw [List.set_append_right _ _ (by rw [hl];omega),hl]
 rfl
theorem sp_cell40 (m:MSt) (h:m.kid.sum.length=32):m.cells.toArray[40]? =some (.int .i64 m.sideN):=by
 have hl:=Kd.cells_length h
 unfold MSt.cells
 simp only [List.getElem?_toArray]
 rw [List.getElem?_append_right (by rw [hl];omega),hl]
 rfl
theorem range_st {w:World} {g:Nat} {cs:List Value} {t:TypeId} (h:w.heap[g]? =some (.cells cs.toArray t (0,0))):w.rangeAt g 0 cs:=fun j v hv=>by
 rw [Nat.zero_add,cell_of_row w g j _ _ _ h]
 simpa using hv
theorem meet_fork {g B bw d:Nat} {v:Value} {A:List MSt} {q:List Int} {lv:Bool} {l r:V} (hd:1≤d∧d≤8) (k:Kd) (ga oa:Nat) (p:Rw) (w:World) (hg:NodeGood g k d (forkN q lv l.kid r.kid) w) (he:k.pk=(V.fork q lv l r).kid) (hsz:1≤k.pk.size) (hk:k.Ok w) (hkr:w.rangeAt ga oa k.cells) (hka:∀x∈k.rows,AsideR bw v A x) (hw:WaySt B bw w v A) (hB:B≤w.heap.size) (hp:p.Ok w) (hpd:p.n=d) (hqd:q.length=d) (hA:A.length≤100000):
  Calls Tryz.prog 152 #[.agg #[.pointer (some ⟨g,0,none⟩),.int .i64 d],.pointer (some ⟨bw,0,none⟩),.pointer (some ⟨ga,oa,none⟩),p.val] w fun e w'=>∃m,Met B bw w v A ⟨q,lv,l,r,decide (0<ordC (A.length%d) p.R q),.fork q lv l r⟩ k.rows w' m∧e= .returned (.tuple #[onTo (ordC (A.length%d) p.R q) m,.int .i64 0]):=by
 have b1:Below w.heap.size w (w.alloc (.cells #[.pointer (some ⟨g,0,none⟩),.int .i64 d] 91)):=(Below.refl _ _).alloc (Nat.le_refl _) _
 have r1:=heap_alloc_new w (.cells #[.pointer (some ⟨g,0,none⟩),.int .i64 d] 91)
 have hne:k.pk≠PK.none:=fun e=>by rw [e] at hsz;exact absurd hsz (by decide)
 have HG:=yH (kget_fork k ga oa _ (hk.later b1) (range_later hkr b1) hne (hg.later b1) rfl)
 have HE:=yH he
 have HK:=yH hk
 have HKR:=yH hkr
 have HKA:=yH hka
 have HKL:=yH (show ∀x∈k.rows,∀y,x.p=some y→x.R≠[]→y.block<w.heap.size from fun x hx=>rw_lt (kd_rows_ok hk x hx))
 have HCK:=yH (Kd.cells_length hk.len)
 have HW:=yH hw
 have HBB:=yH hB
 have HPO:=yH hp
 have HPD:=yH hpd
 have HQD:=yH hqd
 have HDD:=yH hd
 have HA:=yH hA
 obtain ⟨qv,cv,rfl⟩:=lst_form hw.own
 obtain ⟨pp,pn,pc,pR⟩:=p
 unfold Rw.val
 simp only at HPD ⊢
 generalize hCC:ordC (A.length%d) pR q=C
 have HCC:=yH hCC
 clear hCC
 obtain ⟨du,hdu,hdr⟩:=UTr
 obtain ⟨dk,hdk,hdkr⟩:=UKd
 obtain ⟨dn,hdn,hdnr⟩:=UNo
 obtain ⟨ds,hds,hdsr⟩:=USp
 have HDU:=yH hdu
 have HDR:=yH hdr
 have HDK:=yH hdk
 have HDKR:=yH hdkr
 have HDN:=yH hdn
 have HDNR:=yH hdnr
 have HDS:=yH hds
 have HDSR:=yH hdsr
 have R1:=yH r1
 have R1r:=yH (range_tr r1)
 have B1:=yH b1
 have HZ:=yH (zero_of_info spz)
 clear hne hd hg he hsz hk hkr hka hw hB hp hpd hqd hA b1 r1 hdu hdr hdk hdkr hdn hdnr hds hdsr
 go_enter Tryz.func152,Tryz.ntmps152
 go_upto_region 1 with fail
 generalize w.alloc (.cells #[.pointer (some ⟨g,0,none⟩),.int .i64 d] 91)=w1 at *
 go_upto_region 2 with (first
  | (refine wpList_load_mid (by rfl) 91 _ (by rfl) w.heap.size 0 (by rfl) [.pointer (some ⟨g,0,none⟩),.int .i64 d] du R1r.out HDU.out HDR.out STr ?_)
  | (go_at_call 120;refine HG.out.mono ?_;rintro _ w3 ⟨pe,ne,ce,pk,nk,ck,EE,KK,mid,rfl,hpn,hfr,b3⟩;have HPN:=yH hpn;have HFR:=yH hfr;have B3:=yH b3;clear b3 hpn hfr)
  | (refine wpList_store_row (by rfl) 81 (.tmp 10) _ (by rfl) w3.heap.size #[.int .u8 1,.slice pe ne ce,.slice pk nk ck] (by rfl) (by rfl) _ _ (heap_alloc_new w3 _) SNo rfl (nd3_one 1 pe ne ce pk nk ck) ?_;rw [setRow_alloc]))
 obtain ⟨e,k1,k2,rfl,rfl,hR,hlv,hk1,hk2⟩:=fork_kids HPN.out
 obtain ⟨rfl,rfl,ge,gk,rfl,rfl,hra,hrk1,hrk2,hrok,hok1,hok2,hbe,hbk⟩:=fresh_parts HFR.out
 have HM:=yH (mst_fresh HFR.out ((HK.out.later B1.out).later B3.out) (fun x hx y hy hR=>Nat.lt_of_lt_of_le (HKL.out x hx y hy hR) B1.out.size))
 obtain ⟨⟨rp,rn,rc,rR⟩,lw⟩:=e
 simp only at hR hlv HM
 subst hR hlv
 have hb4:Below w3.heap.size w3 (w3.alloc (.cells #[.int .u8 1,.slice (some ⟨ge,0,none⟩) 1 ce,.slice (some ⟨gk,0,none⟩) 2 ck] 81)):=(Below.refl _ _).alloc (Nat.le_refl _) _
 have hr4:=heap_alloc_new w3 (.cells #[.int .u8 1,.slice (some ⟨ge,0,none⟩) 1 ce,.slice (some ⟨gk,0,none⟩) 2 ck] 81)
 have hs4:(w3.alloc (.cells #[.int .u8 1,.slice (some ⟨ge,0,none⟩) 1 ce,.slice (some ⟨gk,0,none⟩) 2 ck] 81)).heap.size=w3.heap.size+1:=by simp
 generalize w3.alloc (.cells #[.int .u8 1,.slice (some ⟨ge,0,none⟩) 1 ce,.slice (some ⟨gk,0,none⟩) 2 ck] 81)=w4 at *
 have B4:=yH (B1.out.trans ((B3.out.trans (hb4.mono B3.out.size)).mono B1.out.size))
 have HM4:=yH (show ∀side,(MSt.mk k ge ce gk ck ⟨rp,rn,rc,rR⟩ lw k1 k2 side).Ok w4 from fun side=>(HM.out side).1.later hb4)
 have HRD:=yH (show ∀side j,(MSt.mk k ge ce gk ck ⟨rp,rn,rc,rR⟩ lw k1 k2 side).reads j→w1.heap.size≤j∨∃r∈k.rows,∃x,r.p=some x∧r.R≠[]∧j=x.block from fun side=>(HM.out side).2.2.2)
 have HGE:=yH (show w1.heap.size≤ge∧w1.heap.size≤gk from ⟨(HM.out false).2.1,(HM.out false).2.2.1⟩)
 have HN4:=yH hr4
 have HPK1:=yH hk1
 have HPK2:=yH hk2
 have HZ4:=yH (show w.heap.size<w1.heap.size∧w1.heap.size≤w3.heap.size∧w4.heap.size=w3.heap.size+1 from ⟨(yL R1.out),B3.out.size,hs4⟩)
 have HT4:=yH (((B3.out.trans (hb4.mono B3.out.size)).block _ (yL R1.out)).trans R1.out)
 have c0:=cell_of_row w4 w3.heap.size 0 _ _ _ hr4
 clear hra hrk1 hrk2 hrok hok1 hok2 hbe hbk hb4 hr4 hs4 hk1 hk2 HFR HPN HM HG R1 R1r
 go_upto_region 7 with fail
 clear c0
 have HKR4:=yH (range_later HKR.out B4.out)
 have HNR:=yH (range_nd HN4.out)
 have HKL2:=yH HK.out.len
 refine wp_region_held_drew (S:=fun w'=>Below w4.heap.size w4 w') (by kernel_rfl) ((Below.refl _ _).drew) (fun hHeld=>?_)
 generalize w4.drew=x0 at *
 have hz0:=HZ.out.1
 refine tK 0 ?_
 refine tK 1 ?_
 refine tQ 2 ?_ ?_ ?_
 rotate_left
 ·intro w' hSw
  refine Eq.trans (b:=Result.ok (Next.value (.agg k.cells.toArray)) w') ?_ ?_
  ·exact op_load_mid 34 (.tmp 40) (by rfl) ga oa (by rfl) k.cells dk (range_later HKR4.out hSw) HDK.out HDKR.out (by rw [HCK.out];exact SKd)
  ·with_reducible rfl
 refine tQ 3 ?_ ?_ ?_
 rotate_left
 ·intro w' hSw
  refine Eq.trans (b:=Result.ok (Next.value (.agg #[.int .u8 1,.slice (some ⟨ge,0,none⟩) 1 ce,.slice (some ⟨gk,0,none⟩) 2 ck])) w') ?_ ?_
  ·exact op_load_mid 81 (.tmp 10) (by rfl) w3.heap.size 0 (by rfl) [.int .u8 1,.slice (some ⟨ge,0,none⟩) 1 ce,.slice (some ⟨gk,0,none⟩) 2 ck] dn (range_later HNR.out hSw) HDN.out HDNR.out SNo
  ·with_reducible rfl
 refine tQ 4 ?_ ?_ ?_
 rotate_left
 ·intro w' hSw
  refine Eq.trans (b:=Result.ok (Next.value (.agg (MSt.mk k ge ce gk ck ⟨rp,rn,rc,rR⟩ lw k1 k2 false).cells.toArray)) w') ?_ ?_
  ·apply op_buildN (t:=101) (parts:= #[(0,.tmp 41),(1,.tmp 42)])
   ·rfl
   ·simp only [List.map_toArray,List.map_cons,List.map_nil]
    exact sp_built1' k HKL2.out ge gk ce ck ⟨rp,rn,rc,rR⟩ lw k1 k2
  ·with_reducible rfl
 refine rY [5] ?_
 refine rC (fun K hK=>?_) AllReadyH.nil
 go_simp
 have ba:Below x0.heap.size x0 (x0.alloc (.cells sp0.toArray 101)):=(Below.refl _ _).alloc (Nat.le_refl _) _
 have hB1:=hHeld.trans (ba.mono hHeld.size)
 have RS:=yH (heap_alloc_new x0 (.cells sp0.toArray 101))
 have HX0:=yH hHeld.size
 clear ba
 try go_wp2_with fail
 refine hK.out _ _ hB1 (fun hHeld=>?_)
 clear hK K
 try simp only [Act.put,yA,yB,yC]
 generalize x0.alloc (.cells sp0.toArray 101)=x1 at *
 refine rY [6] ?_
 refine rC (fun K hK=>?_) AllReadyH.nil
 refine wp_store_row 101 (.tmp 12) (.tmp 43) (by rfl) x0.heap.size (MSt.mk k ge ce gk ck ⟨rp,rn,rc,rR⟩ lw k1 k2 false).cells.toArray (by rfl) (by rfl) _ _ RS.out (by rw [List.size_toArray,MSt.cells_length HKL2.out];exact SSp) (by simp only [List.size_toArray,MSt.cells_length (m:=(MSt.mk k ge ce gk ck ⟨rp,rn,rc,rR⟩ lw k1 k2 false)) HKL2.out,sp0_size]) (all_oneCell_toArray MSt.one) ?_
 have hS:=Below.setRow hHeld HX0.out (MSt.mk k ge ce gk ck ⟨rp,rn,rc,rR⟩ lw k1 k2 false).cells.toArray
 have RB:=yH (setRow_heap _ _ _ (MSt.mk k ge ce gk ck ⟨rp,rn,rc,rR⟩ lw k1 k2 false).cells.toArray _ _ RS.out)
 refine hK.out _ _ hS (fun hHeld=>?_)
 clear hK K
 try simp only [Act.put,yA,yB,yC]
 generalize x1.setRow x0.heap.size (MSt.mk k ge ce gk ck ⟨rp,rn,rc,rR⟩ lw k1 k2 false).cells.toArray=w5 at *
 refine wpAnyH_done (by kernel_rfl) ?_ _
 have B5:=yH hHeld
 have HX04:=yH (show w4.heap.size≤x0.heap.size from HX0.out)
 obtain ⟨bs,hbs⟩:∃b,x0.heap.size=b:=⟨_,rfl⟩
 rw [hbs] at RB HX04 ⊢
 clear hbs RS hS hB1 HX0 hHeld hz0
 go_upto_region 8 with fail
 have B45:=yH (B4.out.trans (B5.out.mono B4.out.size))
 have HW5:=yH (HW.out.later B45.out)
 have HT5:=yH ((B5.out.block _ (yL HT4.out)).trans HT4.out)
 have HN5:=yH ((B5.out.block _ (yL HN4.out)).trans HN4.out)
 have HM5:=yH (fun side=>(HM4.out side).later B5.out)
 have HP5:=yH (HPO.out.later B45.out)
 have HB45:=yH B5.out.size
 have HB45b:=yH B5.out.block
 have HB5o:=yH (show w5.os=w4.os∧w5.tape=w4.tape∧w5.output=w4.output from ⟨B5.out.os,B5.out.tape,B5.out.output⟩)
 refine wp_region_held_drew (S:=fun w'=>Below w5.heap.size w5 w') (by kernel_rfl) ((Below.refl _ _).drew) (fun hHeld=>?_)
 generalize w5.drew=x5 at *
 refine tQ 0 ?_ ?_ ?_
 rotate_left
 ·intro w' hSw
  refine Eq.trans (b:=Result.ok (Next.value (.agg #[.pointer (some ⟨g,0,none⟩),.int .i64 d])) w') ?_ ?_
  ·exact op_load_mid 91 (.tmp 4) (by rfl) w.heap.size 0 (by rfl) [.pointer (some ⟨g,0,none⟩),.int .i64 d] du (range_later (range_tr HT5.out) hSw) HDU.out HDR.out STr
  ·with_reducible rfl
 refine tK 1 ?_
 refine tK 2 ?_
 refine tQ 3 ?_ ?_ ?_
 rotate_left
 ·intro w' hSw
  have y:w'.cell? ⟨bw,0,none⟩=some (.slice qv A.length cv):=(hSw.cell (block_lt_of_cell (cell_of_row w5 bw 0 _ _ _ HW5.out.box))).trans (cell_of_row w5 bw 0 _ _ _ HW5.out.box)
  go_simp
  try with_reducible rfl
 refine tK 4 ?_
 refine tK 6 ?_
 refine tK 7 ?_
 refine tQ 8 ?_ ?_ ?_
 rotate_left
 ·intro w' hSw
  have y:w'.cell? ⟨w3.heap.size,1,none⟩=some (.slice (some ⟨ge,0,none⟩) 1 ce):=(hSw.cell (block_lt_of_cell (cell_of_row w5 w3.heap.size 1 _ _ _ HN5.out))).trans (cell_of_row w5 w3.heap.size 1 _ _ _ HN5.out)
  go_simp
  try with_reducible rfl
 refine tK 9 ?_
 refine tK 10 ?_
 refine tQ 11 ?_ ?_ ?_
 rotate_left
 ·intro w' hSw
  have y:w'.cell? ⟨ge,0,none⟩=some (.slice rp rn rc):=(hSw.cell (block_lt_of_cell ((HM5.out false).ent 0 _ rfl))).trans ((HM5.out false).ent 0 _ rfl)
  go_simp
  try with_reducible rfl
 refine rY [5] ?_
 refine rC (fun K hK=>?_) AllReadyH.nil
 go_simp
 refine (order_any (some ⟨g,0,none⟩) d A.length _ (by have:=HDD.out;omega) (by have:=HA.out;omega)).mono ?_
 rintro _ x6 ⟨gf,rfl,hgf,hcf,hb⟩
 have hB6:=hHeld.trans (hb.mono hHeld.size)
 have HCF:=yH hcf
 have HI1:=yH (HP5.out.later hB6)
 have HI2:=yH ((HM5.out false).row.later hB6)
 clear hb hcf hgf
 try go_wp2_with fail
 refine hK.out _ _ hB6 (fun hHeld=>?_)
 clear hK K
 try simp only [Act.put,yA,yB,yC]
 refine rY [12] ?_
 refine rC (fun K hK=>?_) AllReadyH.nil
 go_simp
 refine (order1_any pp rp pn pc rn rc pR rR (A.length%d) gf x6 HI1.out.ints HI2.out.ints (by rw [HPD.out];exact Nat.mod_lt _ (by have:=HDD.out;omega)) (by have h1:=HI2.out.ints.size;have h2:=HQD.out;simp only at h1;rw [h1,h2];exact Nat.mod_lt _ (by have:=HDD.out;omega)) HI1.out.top HI2.out.top HCF.out).mono ?_
 rintro _ x7 ⟨rfl,jj,hx7⟩
 have hB7:Below w5.heap.size w5 x7:=by rw [hx7];exact Below.drewN hHeld _
 rw [HCC.out]
 clear hx7
 try go_wp2_with fail
 refine hK.out _ _ hB7 (fun hHeld=>?_)
 clear hK K
 try simp only [Act.put,yA,yB,yC]
 refine tK 13 ?_
 refine wpAnyH_done (by kernel_rfl) ?_ _
 have B57:=yH hHeld
 clear hHeld HI1 HI2 HCF hB6 hB7
 have HW7:=yH (HW5.out.later B57.out)
 have HN7:=yH ((B57.out.block _ (yL HN5.out)).trans HN5.out)
 have HM7:=yH (fun side=>(HM5.out side).later B57.out)
 have HB7:=yH (B45.out.trans (B57.out.mono B45.out.size))
 have RB7:=yH ((B57.out.block _ (yL RB.out)).trans RB.out)
 have HSB:=yH (show w4.heap.size≤bs∧bs<x7.heap.size from ⟨HX04.out,(yL RB7.out)⟩)
 clear HW5 HN5 HM5 HP5 HT5 B5 B45 RB
 by_cases h1:0<C
 ·have hgt:C>0:=h1
  have HGT:=yH h1
  have hne0:¬C=0:=by omega
  have hbe:(C==0)=false:=by simpa using hne0
  have c40:x7.cell? ⟨bs,40,none⟩=some (.int .i64 0):=(cell_of_row x7 bs 40 _ _ _ RB7.out).trans (sp_cell40 (MSt.mk k ge ce gk ck ⟨rp,rn,rc,rR⟩ lw k1 k2 false) HKL2.out)
  have f40:=frozen_of_row x7 bs 40 _ _ RB7.out
  go_upto_region 11 with fail
  have hr8:=heap_setCell_same x7 bs 40 _ _ (.int .i64 1) RB7.out
  rw [sp_set (MSt.mk k ge ce gk ck ⟨rp,rn,rc,rR⟩ lw k1 k2 true) HKL2.out] at hr8
  have ho8:Only (fun j=>j=bs) x7 (x7.setCell ⟨bs,40,none⟩ (.int .i64 1)):=Only.setCell (P:=fun j=>j=bs) x7 (a:=⟨bs,40,none⟩) rfl _
  have HR8:=yH hr8
  have HO8:=yH ho8
  clear hr8 ho8 c40 f40 hgt hne0 h1
  generalize x7.setCell ⟨bs,40,none⟩ (.int .i64 1)=x8 at *
  have HBO:=yH (show bw<w.heap.size∧∀j,(Value.slice qv A.length cv).ownBlock=some j→j<w.heap.size from ⟨(yL HW.out.box),fun j e=>(HW.out.own.lt j e).2⟩)
  have HSZ:=yH (show w.heap.size<w1.heap.size∧w1.heap.size≤w3.heap.size∧w4.heap.size=w3.heap.size+1∧w4.heap.size≤bs∧bs<x7.heap.size from ⟨HZ4.out.1,HZ4.out.2.1,HZ4.out.2.2,HSB.out.1,HSB.out.2⟩)
  have HBS:=yH (show bs≠bw∧(Value.slice qv A.length cv).ownBlock≠some bs from ⟨by have:=HBO.out.1;have:=HSZ.out;omega,fun e=>by have:=HBO.out.2 _ e;have:=HSZ.out;omega⟩)
  have HNB:=yH (show w3.heap.size≠bw∧(Value.slice qv A.length cv).ownBlock≠some w3.heap.size from ⟨by have:=HBO.out.1;have:=HSZ.out;omega,fun e=>by have:=HBO.out.2 _ e;have:=HSZ.out;omega⟩)
  have HNB3:=yH (show w3.heap.size≠bs by have:=HSZ.out;omega)
  have HX9:=yH (show x8.heap.size≤x8.drew.heap.size∧∀j,j<x8.heap.size→x8.drew.heap[j]? =x8.heap[j]? from ⟨Nat.le_refl _,fun _ _=>rfl⟩)
  have HBX8:=yH (show w.heap.size≤x8.heap.size by have:=HO8.out.size;have:=HSZ.out;omega)
  have hkeep:∀j,j<w4.heap.size→x8.drew.heap[j]? =w4.heap[j]? :=fun j hj=>(HO8.out.block j (by have:=HSZ.out;omega) (by have:=HSZ.out;omega)).trans ((B57.out.block j (by have h1:=HB45.out;omega)).trans (HB45b.out j hj))
  have HW9:=yH (show WaySt B bw x8.drew (.slice qv A.length cv) A from (HW.out.later B4.out).later ⟨(HO8.out.os.trans B57.out.os).trans HB5o.out.1,(HO8.out.tape.trans B57.out.tape).trans HB5o.out.2.1,(HO8.out.output.trans B57.out.output).trans HB5o.out.2.2,by have h3:=HO8.out.size;have h2:=B57.out.size;have h1:=HB45.out;exact Nat.le_trans h1 (Nat.le_trans h2 h3),hkeep⟩)
  have HM9:=yH (show (MSt.mk k ge ce gk ck ⟨rp,rn,rc,rR⟩ lw k1 k2 true).Ok x8.drew from (HM4.out true).keep fun j hj=>hkeep j ((HM4.out true).lt j hj))
  have HO89:=yH (show Only (fun k=>k=bw∨(Value.slice qv A.length cv).ownBlock=some k) w x8.drew from (Only.of_below _ B4.out).trans ⟨(HO8.out.os.trans B57.out.os).trans HB5o.out.1,(HO8.out.tape.trans B57.out.tape).trans HB5o.out.2.1,(HO8.out.output.trans B57.out.output).trans HB5o.out.2.2,by have h3:=HO8.out.size;have h2:=B57.out.size;have h1:=HB45.out;exact Nat.le_trans h1 (Nat.le_trans h2 h3),fun j hj _=>hkeep j hj⟩)
  have HBX9:=yH (show B≤x8.drew.heap.size from Nat.le_trans HBB.out HBX8.out)
  have HRX9:=yH (show ∀j,(MSt.mk k ge ce gk ck ⟨rp,rn,rc,rR⟩ lw k1 k2 true).reads j→j≠bw∧(Value.slice qv A.length cv).ownBlock≠some j from fun j hj=>by
   rcases HRD.out true j hj with h | ⟨x,hx,y,hy,hR,rfl⟩
   ·exact ⟨by have:=HBO.out.1;have:=HSZ.out;omega,fun e=>by have:=HBO.out.2 _ e;have:=HSZ.out;omega⟩
   ·exact ⟨(HKA.out x hx y hy hR).1,(HKA.out x hx y hy hR).2.1⟩)
  have HSN9:=yH (show WayM B x8.drew (A++[(MSt.mk k ge ce gk ck ⟨rp,rn,rc,rR⟩ lw k1 k2 true)]) from HW9.out.way.snoc HM9.out (N:=w.heap.size) HBB.out (fun a ha j hj=>(HW.out.way.each a ha).lt j hj) (by have h1:=HGE.out;have h2:=HSZ.out;exact ⟨Nat.le_trans (Nat.le_of_lt h2.1) h1.1,Nat.le_trans (Nat.le_of_lt h2.1) h1.2⟩) (fun a ha j hj=>by
   rcases HRD.out true j hj with h | ⟨x,hx,y,hy,hR,rfl⟩
   ·have h1:=(HW.out.way.each a ha).lt _ (Or.inl rfl)
    have h2:=(HW.out.way.each a ha).lt _ (Or.inr (Or.inl rfl))
    have:=HSZ.out
    omega
   ·exact (HKA.out x hx y hy hR).2.2 a ha))
  clear hkeep
  refine wp_region_held_drew (S:=fun w'=>∀j,j<x8.heap.size→j≠bw→(Value.slice qv A.length cv).ownBlock≠some j→w'.heap[j]? =x8.heap[j]?) (by kernel_rfl) (fun _ _ _ _=>rfl) (fun hHeld=>?_)
  generalize x8.drew=x9 at *
  refine tK 0 ?_
  refine tK 1 ?_
  refine tK 2 ?_
  refine tQ 4 ?_ ?_ ?_
  rotate_left
  ·intro w' hSw
   refine Eq.trans (b:=Result.ok (Next.value (.agg (MSt.mk k ge ce gk ck ⟨rp,rn,rc,rR⟩ lw k1 k2 true).cells.toArray)) w') ?_ ?_
   ·exact op_load_mid 101 (.tmp 12) (by rfl) bs 0 (by rfl) (MSt.mk k ge ce gk ck ⟨rp,rn,rc,rR⟩ lw k1 k2 true).cells ds (range_st ((hSw bs (yL HR8.out) HBS.out.1 HBS.out.2).trans HR8.out)) HDS.out HDSR.out (by rw [MSt.cells_length (m:=(MSt.mk k ge ce gk ck ⟨rp,rn,rc,rR⟩ lw k1 k2 true)) HKL2.out];exact SSp)
   ·with_reducible rfl
  refine rY [3,5] ?_
  refine rC (fun K hK=>?_) (rC (fun K hK=>?_) AllReadyH.nil)
  ·
   have cbw:x9.cell? ⟨bw,0,none⟩=some (.slice qv A.length cv):=cell_of_row x9 bw 0 _ _ _ HW9.out.box
   go_simp
   refine hK.out _ _ hHeld (fun hHeld=>?_)
   clear hK K
   try simp only [Act.put,yA,yB,yC]
   refine rY [5] ?_
   refine rC (fun K hK=>?_) AllReadyH.nil
   have hS1:∀j,j<x8.heap.size→j≠bw→(Value.slice qv A.length cv).ownBlock≠some j→(x9.alloc (.cells (MSt.mk k ge ce gk ck ⟨rp,rn,rc,rR⟩ lw k1 k2 true).cells.toArray 101)).heap[j]? =x8.heap[j]? :=fun j h1 h2 h3=>(((Below.refl x9.heap.size x9).alloc (Nat.le_refl _) (.cells (MSt.mk k ge ce gk ck ⟨rp,rn,rc,rR⟩ lw k1 k2 true).cells.toArray 101)).block j (Nat.lt_of_lt_of_le h1 HX9.out.1)).trans (HX9.out.2 j h1)
   refine wp_step_one (.tmp 64) (by rfl) (m:=(MSt.mk k ge ce gk ck ⟨rp,rn,rc,rR⟩ lw k1 k2 true)) HKL2.out (by rfl) ?_
   refine hK.out _ _ hS1 (fun hHeld=>?_)
   clear hK K
   try simp only [Act.put,yA,yB,yC]
   refine rY [6] ?_
   refine rC (fun K hK=>?_) AllReadyH.nil
   refine wp_app_step HW9.out (m:=(MSt.mk k ge ce gk ck ⟨rp,rn,rc,rR⟩ lw k1 k2 true)) HKL2.out (.tmp 63) (.tmp 65) (by rfl) (by rfl) (by rfl) HA.out ?_
   intro q7 c7 w7 hown7 hg7 hat7
   obtain ⟨hws,honly,hbox⟩:=way_put HW9.out HM9.out HBX9.out hown7 hg7 hat7 HSN9.out HRX9.out
   have HWS:=yH hws
   have HON:=yH honly
   have HBX:=yH hbox
   have HAT:=yH hat7
   have hS2:∀j,j<x8.heap.size→j≠bw→(Value.slice qv A.length cv).ownBlock≠some j→w7.heap[j]? =x8.heap[j]? :=fun j h1 h2 h3=>(hg7.block j (by have:=HX9.out.1;simp;omega) (fun e=>h3 e.symm)).trans ((((Below.refl x9.heap.size x9).alloc (Nat.le_refl _) (.cells (MSt.mk k ge ce gk ck ⟨rp,rn,rc,rR⟩ lw k1 k2 true).cells.toArray 101)).block j (Nat.lt_of_lt_of_le h1 HX9.out.1)).trans (HX9.out.2 j h1))
   clear hws honly hbox hown7 hg7 hat7
   refine hK.out _ _ hS2 (fun hHeld=>?_)
   clear hK K
   try simp only [Act.put,yA,yB,yC]
   refine tK 7 ?_
   refine rY [8] ?_
   refine rC (fun K hK=>?_) AllReadyH.nil
   have cbw:w7.cell? ⟨bw,0,none⟩=some (.slice qv A.length cv):=cell_of_row w7 bw 0 _ _ _ HBX.out
   have fbw:=frozen_of_row w7 bw 0 _ _ HBX.out
   have hS3:∀j,j<x8.heap.size→j≠bw→(Value.slice qv A.length cv).ownBlock≠some j→(w7.setCell ⟨bw,0,none⟩ (.slice q7 (A.length+1) c7)).heap[j]? =x8.heap[j]? :=fun j h1 h2 h3=>(HON.out.block j (Nat.lt_of_lt_of_le h1 HX9.out.1) (fun e=>e.elim h2 h3)).trans (HX9.out.2 j h1)
   go_simp
   refine hK.out _ _ hS3 (fun hHeld=>?_)
   clear hK K
   try simp only [Act.put,yA,yB,yC]
   refine wpAnyH_done (by kernel_rfl) ?_ _
   have HF9:=yH hHeld
   clear hHeld
   generalize w7.setCell ⟨bw,0,none⟩ (.slice q7 (A.length+1) c7)=w10 at *
   have HFIN:=yH (show ∃m,Met B bw w (.slice qv A.length cv) A ⟨rR,lw,l,r,decide (0<C),.fork rR lw l r⟩ k.rows w10 m∧m=(MSt.mk k ge ce gk ck ⟨rp,rn,rc,rR⟩ lw k1 k2 true) from ⟨(MSt.mk k ge ce gk ck ⟨rp,rn,rc,rR⟩ lw k1 k2 true),⟨_,HWS.out,⟨rfl,rfl,HPK1.out.symm,HPK2.out.symm,decide_eq_true HGT.out,HE.out.symm⟩,HO89.out.trans HON.out,by
    rcases HAT.out with h | h
    ·exact Or.inl h
    ·exact Or.inr ⟨_,h,by have:=HBX8.out;have:=HX9.out.1;omega⟩,by have h1:=HGE.out;have h2:=HSZ.out;exact ⟨Nat.le_trans (Nat.le_of_lt h2.1) h1.1,Nat.le_trans (Nat.le_of_lt h2.1) h1.2,fun j hj=>(HRD.out true j hj).imp (fun h=>Nat.le_trans (Nat.le_of_lt h2.1) h) id⟩⟩,rfl⟩)
   have HN10:=yH ((HF9.out _ (Nat.lt_of_lt_of_le (yL HN7.out) HO8.out.size) HNB.out.1 HNB.out.2).trans ((HO8.out.block _ (yL HN7.out) HNB3.out).trans HN7.out))
   have HS10:=yH ((HF9.out bs (yL HR8.out) HBS.out.1 HBS.out.2).trans HR8.out)
   have cn2:=cell_of_row w10 w3.heap.size 2 _ _ _ HN10.out
   have cs40:w10.cell? ⟨bs,40,none⟩=some (.int .i64 1):=(cell_of_row w10 bs 40 _ _ _ HS10.out).trans (sp_cell40 (MSt.mk k ge ce gk ck ⟨rp,rn,rc,rR⟩ lw k1 k2 true) HKL2.out)
   go_wp2_with fail
   go_ret2
   obtain ⟨m,hm,rfl⟩:=HFIN.out
   exact ⟨_,hm,by unfold onTo;rw [if_neg (by have:=HGT.out;omega)];rfl⟩
  ·
   have hS1:∀j,j<x8.heap.size→j≠bw→(Value.slice qv A.length cv).ownBlock≠some j→(x9.alloc (.cells (MSt.mk k ge ce gk ck ⟨rp,rn,rc,rR⟩ lw k1 k2 true).cells.toArray 101)).heap[j]? =x8.heap[j]? :=fun j h1 h2 h3=>(((Below.refl x9.heap.size x9).alloc (Nat.le_refl _) (.cells (MSt.mk k ge ce gk ck ⟨rp,rn,rc,rR⟩ lw k1 k2 true).cells.toArray 101)).block j (Nat.lt_of_lt_of_le h1 HX9.out.1)).trans (HX9.out.2 j h1)
   refine wp_step_one (.tmp 64) (by rfl) (m:=(MSt.mk k ge ce gk ck ⟨rp,rn,rc,rR⟩ lw k1 k2 true)) HKL2.out (by rfl) ?_
   refine hK.out _ _ hS1 (fun hHeld=>?_)
   clear hK K
   try simp only [Act.put,yA,yB,yC]
   refine rY [3] ?_
   refine rC (fun K hK=>?_) AllReadyH.nil
   have cbw:(x9.alloc (.cells (MSt.mk k ge ce gk ck ⟨rp,rn,rc,rR⟩ lw k1 k2 true).cells.toArray 101)).cell? ⟨bw,0,none⟩=some (.slice qv A.length cv):=cell_of_row _ bw 0 _ _ _ (HW9.out.later ((Below.refl _ _).alloc (Nat.le_refl _) _)).box
   go_simp
   refine hK.out _ _ hHeld (fun hHeld=>?_)
   clear hK K
   try simp only [Act.put,yA,yB,yC]
   refine rY [6] ?_
   refine rC (fun K hK=>?_) AllReadyH.nil
   refine wp_app_step HW9.out (m:=(MSt.mk k ge ce gk ck ⟨rp,rn,rc,rR⟩ lw k1 k2 true)) HKL2.out (.tmp 63) (.tmp 65) (by rfl) (by rfl) (by rfl) HA.out ?_
   intro q7 c7 w7 hown7 hg7 hat7
   obtain ⟨hws,honly,hbox⟩:=way_put HW9.out HM9.out HBX9.out hown7 hg7 hat7 HSN9.out HRX9.out
   have HWS:=yH hws
   have HON:=yH honly
   have HBX:=yH hbox
   have HAT:=yH hat7
   have hS2:∀j,j<x8.heap.size→j≠bw→(Value.slice qv A.length cv).ownBlock≠some j→w7.heap[j]? =x8.heap[j]? :=fun j h1 h2 h3=>(hg7.block j (by have:=HX9.out.1;simp;omega) (fun e=>h3 e.symm)).trans ((((Below.refl x9.heap.size x9).alloc (Nat.le_refl _) (.cells (MSt.mk k ge ce gk ck ⟨rp,rn,rc,rR⟩ lw k1 k2 true).cells.toArray 101)).block j (Nat.lt_of_lt_of_le h1 HX9.out.1)).trans (HX9.out.2 j h1))
   clear hws honly hbox hown7 hg7 hat7
   refine hK.out _ _ hS2 (fun hHeld=>?_)
   clear hK K
   try simp only [Act.put,yA,yB,yC]
   refine tK 7 ?_
   refine rY [8] ?_
   refine rC (fun K hK=>?_) AllReadyH.nil
   have cbw:w7.cell? ⟨bw,0,none⟩=some (.slice qv A.length cv):=cell_of_row w7 bw 0 _ _ _ HBX.out
   have fbw:=frozen_of_row w7 bw 0 _ _ HBX.out
   have hS3:∀j,j<x8.heap.size→j≠bw→(Value.slice qv A.length cv).ownBlock≠some j→(w7.setCell ⟨bw,0,none⟩ (.slice q7 (A.length+1) c7)).heap[j]? =x8.heap[j]? :=fun j h1 h2 h3=>(HON.out.block j (Nat.lt_of_lt_of_le h1 HX9.out.1) (fun e=>e.elim h2 h3)).trans (HX9.out.2 j h1)
   go_simp
   refine hK.out _ _ hS3 (fun hHeld=>?_)
   clear hK K
   try simp only [Act.put,yA,yB,yC]
   refine wpAnyH_done (by kernel_rfl) ?_ _
   have HF9:=yH hHeld
   clear hHeld
   generalize w7.setCell ⟨bw,0,none⟩ (.slice q7 (A.length+1) c7)=w10 at *
   have HFIN:=yH (show ∃m,Met B bw w (.slice qv A.length cv) A ⟨rR,lw,l,r,decide (0<C),.fork rR lw l r⟩ k.rows w10 m∧m=(MSt.mk k ge ce gk ck ⟨rp,rn,rc,rR⟩ lw k1 k2 true) from ⟨(MSt.mk k ge ce gk ck ⟨rp,rn,rc,rR⟩ lw k1 k2 true),⟨_,HWS.out,⟨rfl,rfl,HPK1.out.symm,HPK2.out.symm,decide_eq_true HGT.out,HE.out.symm⟩,HO89.out.trans HON.out,by
    rcases HAT.out with h | h
    ·exact Or.inl h
    ·exact Or.inr ⟨_,h,by have:=HBX8.out;have:=HX9.out.1;omega⟩,by have h1:=HGE.out;have h2:=HSZ.out;exact ⟨Nat.le_trans (Nat.le_of_lt h2.1) h1.1,Nat.le_trans (Nat.le_of_lt h2.1) h1.2,fun j hj=>(HRD.out true j hj).imp (fun h=>Nat.le_trans (Nat.le_of_lt h2.1) h) id⟩⟩,rfl⟩)
   have HN10:=yH ((HF9.out _ (Nat.lt_of_lt_of_le (yL HN7.out) HO8.out.size) HNB.out.1 HNB.out.2).trans ((HO8.out.block _ (yL HN7.out) HNB3.out).trans HN7.out))
   have HS10:=yH ((HF9.out bs (yL HR8.out) HBS.out.1 HBS.out.2).trans HR8.out)
   have cn2:=cell_of_row w10 w3.heap.size 2 _ _ _ HN10.out
   have cs40:w10.cell? ⟨bs,40,none⟩=some (.int .i64 1):=(cell_of_row w10 bs 40 _ _ _ HS10.out).trans (sp_cell40 (MSt.mk k ge ce gk ck ⟨rp,rn,rc,rR⟩ lw k1 k2 true) HKL2.out)
   go_wp2_with fail
   go_ret2
   obtain ⟨m,hm,rfl⟩:=HFIN.out
   exact ⟨_,hm,by unfold onTo;rw [if_neg (by have:=HGT.out;omega)];rfl⟩
 ·have hgt:¬C>0:=h1
  have HGT:=yH h1
  go_upto_region 11 with fail
  have HR8:=yH RB7.out
  clear h1 hgt
  obtain ⟨x8,hx8⟩:∃x8,x8=x7:=⟨_,rfl⟩
  have HO8:=yH (show Only (fun j=>j=bs) x7 x8 from by rw [hx8];exact Only.refl _ _)
  rw [← hx8] at HR8 ⊢
  clear hx8
  have HBO:=yH (show bw<w.heap.size∧∀j,(Value.slice qv A.length cv).ownBlock=some j→j<w.heap.size from ⟨(yL HW.out.box),fun j e=>(HW.out.own.lt j e).2⟩)
  have HSZ:=yH (show w.heap.size<w1.heap.size∧w1.heap.size≤w3.heap.size∧w4.heap.size=w3.heap.size+1∧w4.heap.size≤bs∧bs<x7.heap.size from ⟨HZ4.out.1,HZ4.out.2.1,HZ4.out.2.2,HSB.out.1,HSB.out.2⟩)
  have HBS:=yH (show bs≠bw∧(Value.slice qv A.length cv).ownBlock≠some bs from ⟨by have:=HBO.out.1;have:=HSZ.out;omega,fun e=>by have:=HBO.out.2 _ e;have:=HSZ.out;omega⟩)
  have HNB:=yH (show w3.heap.size≠bw∧(Value.slice qv A.length cv).ownBlock≠some w3.heap.size from ⟨by have:=HBO.out.1;have:=HSZ.out;omega,fun e=>by have:=HBO.out.2 _ e;have:=HSZ.out;omega⟩)
  have HNB3:=yH (show w3.heap.size≠bs by have:=HSZ.out;omega)
  have HX9:=yH (show x8.heap.size≤x8.drew.heap.size∧∀j,j<x8.heap.size→x8.drew.heap[j]? =x8.heap[j]? from ⟨Nat.le_refl _,fun _ _=>rfl⟩)
  have HBX8:=yH (show w.heap.size≤x8.heap.size by have:=HO8.out.size;have:=HSZ.out;omega)
  have hkeep:∀j,j<w4.heap.size→x8.drew.heap[j]? =w4.heap[j]? :=fun j hj=>(HO8.out.block j (by have:=HSZ.out;omega) (by have:=HSZ.out;omega)).trans ((B57.out.block j (by have h1:=HB45.out;omega)).trans (HB45b.out j hj))
  have HW9:=yH (show WaySt B bw x8.drew (.slice qv A.length cv) A from (HW.out.later B4.out).later ⟨(HO8.out.os.trans B57.out.os).trans HB5o.out.1,(HO8.out.tape.trans B57.out.tape).trans HB5o.out.2.1,(HO8.out.output.trans B57.out.output).trans HB5o.out.2.2,by have h3:=HO8.out.size;have h2:=B57.out.size;have h1:=HB45.out;exact Nat.le_trans h1 (Nat.le_trans h2 h3),hkeep⟩)
  have HM9:=yH (show (MSt.mk k ge ce gk ck ⟨rp,rn,rc,rR⟩ lw k1 k2 false).Ok x8.drew from (HM4.out false).keep fun j hj=>hkeep j ((HM4.out false).lt j hj))
  have HO89:=yH (show Only (fun k=>k=bw∨(Value.slice qv A.length cv).ownBlock=some k) w x8.drew from (Only.of_below _ B4.out).trans ⟨(HO8.out.os.trans B57.out.os).trans HB5o.out.1,(HO8.out.tape.trans B57.out.tape).trans HB5o.out.2.1,(HO8.out.output.trans B57.out.output).trans HB5o.out.2.2,by have h3:=HO8.out.size;have h2:=B57.out.size;have h1:=HB45.out;exact Nat.le_trans h1 (Nat.le_trans h2 h3),fun j hj _=>hkeep j hj⟩)
  have HBX9:=yH (show B≤x8.drew.heap.size from Nat.le_trans HBB.out HBX8.out)
  have HRX9:=yH (show ∀j,(MSt.mk k ge ce gk ck ⟨rp,rn,rc,rR⟩ lw k1 k2 false).reads j→j≠bw∧(Value.slice qv A.length cv).ownBlock≠some j from fun j hj=>by
   rcases HRD.out false j hj with h | ⟨x,hx,y,hy,hR,rfl⟩
   ·exact ⟨by have:=HBO.out.1;have:=HSZ.out;omega,fun e=>by have:=HBO.out.2 _ e;have:=HSZ.out;omega⟩
   ·exact ⟨(HKA.out x hx y hy hR).1,(HKA.out x hx y hy hR).2.1⟩)
  have HSN9:=yH (show WayM B x8.drew (A++[(MSt.mk k ge ce gk ck ⟨rp,rn,rc,rR⟩ lw k1 k2 false)]) from HW9.out.way.snoc HM9.out (N:=w.heap.size) HBB.out (fun a ha j hj=>(HW.out.way.each a ha).lt j hj) (by have h1:=HGE.out;have h2:=HSZ.out;exact ⟨Nat.le_trans (Nat.le_of_lt h2.1) h1.1,Nat.le_trans (Nat.le_of_lt h2.1) h1.2⟩) (fun a ha j hj=>by
   rcases HRD.out false j hj with h | ⟨x,hx,y,hy,hR,rfl⟩
   ·have h1:=(HW.out.way.each a ha).lt _ (Or.inl rfl)
    have h2:=(HW.out.way.each a ha).lt _ (Or.inr (Or.inl rfl))
    have:=HSZ.out
    omega
   ·exact (HKA.out x hx y hy hR).2.2 a ha))
  clear hkeep
  refine wp_region_held_drew (S:=fun w'=>∀j,j<x8.heap.size→j≠bw→(Value.slice qv A.length cv).ownBlock≠some j→w'.heap[j]? =x8.heap[j]?) (by kernel_rfl) (fun _ _ _ _=>rfl) (fun hHeld=>?_)
  generalize x8.drew=x9 at *
  refine tK 0 ?_
  refine tK 1 ?_
  refine tK 2 ?_
  refine tQ 4 ?_ ?_ ?_
  rotate_left
  ·intro w' hSw
   refine Eq.trans (b:=Result.ok (Next.value (.agg (MSt.mk k ge ce gk ck ⟨rp,rn,rc,rR⟩ lw k1 k2 false).cells.toArray)) w') ?_ ?_
   ·exact op_load_mid 101 (.tmp 12) (by rfl) bs 0 (by rfl) (MSt.mk k ge ce gk ck ⟨rp,rn,rc,rR⟩ lw k1 k2 false).cells ds (range_st ((hSw bs (yL HR8.out) HBS.out.1 HBS.out.2).trans HR8.out)) HDS.out HDSR.out (by rw [MSt.cells_length (m:=(MSt.mk k ge ce gk ck ⟨rp,rn,rc,rR⟩ lw k1 k2 false)) HKL2.out];exact SSp)
   ·with_reducible rfl
  refine rY [3,5] ?_
  refine rC (fun K hK=>?_) (rC (fun K hK=>?_) AllReadyH.nil)
  ·
   have cbw:x9.cell? ⟨bw,0,none⟩=some (.slice qv A.length cv):=cell_of_row x9 bw 0 _ _ _ HW9.out.box
   go_simp
   refine hK.out _ _ hHeld (fun hHeld=>?_)
   clear hK K
   try simp only [Act.put,yA,yB,yC]
   refine rY [5] ?_
   refine rC (fun K hK=>?_) AllReadyH.nil
   have hS1:∀j,j<x8.heap.size→j≠bw→(Value.slice qv A.length cv).ownBlock≠some j→(x9.alloc (.cells (MSt.mk k ge ce gk ck ⟨rp,rn,rc,rR⟩ lw k1 k2 false).cells.toArray 101)).heap[j]? =x8.heap[j]? :=fun j h1 h2 h3=>(((Below.refl x9.heap.size x9).alloc (Nat.le_refl _) (.cells (MSt.mk k ge ce gk ck ⟨rp,rn,rc,rR⟩ lw k1 k2 false).cells.toArray 101)).block j (Nat.lt_of_lt_of_le h1 HX9.out.1)).trans (HX9.out.2 j h1)
   refine wp_step_one (.tmp 64) (by rfl) (m:=(MSt.mk k ge ce gk ck ⟨rp,rn,rc,rR⟩ lw k1 k2 false)) HKL2.out (by rfl) ?_
   refine hK.out _ _ hS1 (fun hHeld=>?_)
   clear hK K
   try simp only [Act.put,yA,yB,yC]
   refine rY [6] ?_
   refine rC (fun K hK=>?_) AllReadyH.nil
   refine wp_app_step HW9.out (m:=(MSt.mk k ge ce gk ck ⟨rp,rn,rc,rR⟩ lw k1 k2 false)) HKL2.out (.tmp 63) (.tmp 65) (by rfl) (by rfl) (by rfl) HA.out ?_
   intro q7 c7 w7 hown7 hg7 hat7
   obtain ⟨hws,honly,hbox⟩:=way_put HW9.out HM9.out HBX9.out hown7 hg7 hat7 HSN9.out HRX9.out
   have HWS:=yH hws
   have HON:=yH honly
   have HBX:=yH hbox
   have HAT:=yH hat7
   have hS2:∀j,j<x8.heap.size→j≠bw→(Value.slice qv A.length cv).ownBlock≠some j→w7.heap[j]? =x8.heap[j]? :=fun j h1 h2 h3=>(hg7.block j (by have:=HX9.out.1;simp;omega) (fun e=>h3 e.symm)).trans ((((Below.refl x9.heap.size x9).alloc (Nat.le_refl _) (.cells (MSt.mk k ge ce gk ck ⟨rp,rn,rc,rR⟩ lw k1 k2 false).cells.toArray 101)).block j (Nat.lt_of_lt_of_le h1 HX9.out.1)).trans (HX9.out.2 j h1))
   clear hws honly hbox hown7 hg7 hat7
   refine hK.out _ _ hS2 (fun hHeld=>?_)
   clear hK K
   try simp only [Act.put,yA,yB,yC]
   refine tK 7 ?_
   refine rY [8] ?_
   refine rC (fun K hK=>?_) AllReadyH.nil
   have cbw:w7.cell? ⟨bw,0,none⟩=some (.slice qv A.length cv):=cell_of_row w7 bw 0 _ _ _ HBX.out
   have fbw:=frozen_of_row w7 bw 0 _ _ HBX.out
   have hS3:∀j,j<x8.heap.size→j≠bw→(Value.slice qv A.length cv).ownBlock≠some j→(w7.setCell ⟨bw,0,none⟩ (.slice q7 (A.length+1) c7)).heap[j]? =x8.heap[j]? :=fun j h1 h2 h3=>(HON.out.block j (Nat.lt_of_lt_of_le h1 HX9.out.1) (fun e=>e.elim h2 h3)).trans (HX9.out.2 j h1)
   go_simp
   refine hK.out _ _ hS3 (fun hHeld=>?_)
   clear hK K
   try simp only [Act.put,yA,yB,yC]
   refine wpAnyH_done (by kernel_rfl) ?_ _
   have HF9:=yH hHeld
   clear hHeld
   generalize w7.setCell ⟨bw,0,none⟩ (.slice q7 (A.length+1) c7)=w10 at *
   have HFIN:=yH (show ∃m,Met B bw w (.slice qv A.length cv) A ⟨rR,lw,l,r,decide (0<C),.fork rR lw l r⟩ k.rows w10 m∧m=(MSt.mk k ge ce gk ck ⟨rp,rn,rc,rR⟩ lw k1 k2 false) from ⟨(MSt.mk k ge ce gk ck ⟨rp,rn,rc,rR⟩ lw k1 k2 false),⟨_,HWS.out,⟨rfl,rfl,HPK1.out.symm,HPK2.out.symm,decide_eq_false HGT.out,HE.out.symm⟩,HO89.out.trans HON.out,by
    rcases HAT.out with h | h
    ·exact Or.inl h
    ·exact Or.inr ⟨_,h,by have:=HBX8.out;have:=HX9.out.1;omega⟩,by have h1:=HGE.out;have h2:=HSZ.out;exact ⟨Nat.le_trans (Nat.le_of_lt h2.1) h1.1,Nat.le_trans (Nat.le_of_lt h2.1) h1.2,fun j hj=>(HRD.out false j hj).imp (fun h=>Nat.le_trans (Nat.le_of_lt h2.1) h) id⟩⟩,rfl⟩)
   have HN10:=yH ((HF9.out _ (Nat.lt_of_lt_of_le (yL HN7.out) HO8.out.size) HNB.out.1 HNB.out.2).trans ((HO8.out.block _ (yL HN7.out) HNB3.out).trans HN7.out))
   have HS10:=yH ((HF9.out bs (yL HR8.out) HBS.out.1 HBS.out.2).trans HR8.out)
   by_cases h0:C=0
   ·have hbe:(C==0)=true:=by simpa using h0
    have H0:=yH h0
    clear h0
    go_wp2_with fail
    go_ret2
    obtain ⟨m,hm,rfl⟩:=HFIN.out
    exact ⟨_,hm,by unfold onTo;rw [if_pos H0.out];rfl⟩
   ·have hbe:(C==0)=false:=by simpa using h0
    have H0:=yH h0
    clear h0
    have cn2:=cell_of_row w10 w3.heap.size 2 _ _ _ HN10.out
    have cs40:w10.cell? ⟨bs,40,none⟩=some (.int .i64 0):=(cell_of_row w10 bs 40 _ _ _ HS10.out).trans (sp_cell40 (MSt.mk k ge ce gk ck ⟨rp,rn,rc,rR⟩ lw k1 k2 false) HKL2.out)
    go_wp2_with fail
    go_ret2
    obtain ⟨m,hm,rfl⟩:=HFIN.out
    exact ⟨_,hm,by unfold onTo;rw [if_neg H0.out];rfl⟩
  ·
   have hS1:∀j,j<x8.heap.size→j≠bw→(Value.slice qv A.length cv).ownBlock≠some j→(x9.alloc (.cells (MSt.mk k ge ce gk ck ⟨rp,rn,rc,rR⟩ lw k1 k2 false).cells.toArray 101)).heap[j]? =x8.heap[j]? :=fun j h1 h2 h3=>(((Below.refl x9.heap.size x9).alloc (Nat.le_refl _) (.cells (MSt.mk k ge ce gk ck ⟨rp,rn,rc,rR⟩ lw k1 k2 false).cells.toArray 101)).block j (Nat.lt_of_lt_of_le h1 HX9.out.1)).trans (HX9.out.2 j h1)
   refine wp_step_one (.tmp 64) (by rfl) (m:=(MSt.mk k ge ce gk ck ⟨rp,rn,rc,rR⟩ lw k1 k2 false)) HKL2.out (by rfl) ?_
   refine hK.out _ _ hS1 (fun hHeld=>?_)
   clear hK K
   try simp only [Act.put,yA,yB,yC]
   refine rY [3] ?_
   refine rC (fun K hK=>?_) AllReadyH.nil
   have cbw:(x9.alloc (.cells (MSt.mk k ge ce gk ck ⟨rp,rn,rc,rR⟩ lw k1 k2 false).cells.toArray 101)).cell? ⟨bw,0,none⟩=some (.slice qv A.length cv):=cell_of_row _ bw 0 _ _ _ (HW9.out.later ((Below.refl _ _).alloc (Nat.le_refl _) _)).box
   go_simp
   refine hK.out _ _ hHeld (fun hHeld=>?_)
   clear hK K
   try simp only [Act.put,yA,yB,yC]
   refine rY [6] ?_
   refine rC (fun K hK=>?_) AllReadyH.nil
   refine wp_app_step HW9.out (m:=(MSt.mk k ge ce gk ck ⟨rp,rn,rc,rR⟩ lw k1 k2 false)) HKL2.out (.tmp 63) (.tmp 65) (by rfl) (by rfl) (by rfl) HA.out ?_
   intro q7 c7 w7 hown7 hg7 hat7
   obtain ⟨hws,honly,hbox⟩:=way_put HW9.out HM9.out HBX9.out hown7 hg7 hat7 HSN9.out HRX9.out
   have HWS:=yH hws
   have HON:=yH honly
   have HBX:=yH hbox
   have HAT:=yH hat7
   have hS2:∀j,j<x8.heap.size→j≠bw→(Value.slice qv A.length cv).ownBlock≠some j→w7.heap[j]? =x8.heap[j]? :=fun j h1 h2 h3=>(hg7.block j (by have:=HX9.out.1;simp;omega) (fun e=>h3 e.symm)).trans ((((Below.refl x9.heap.size x9).alloc (Nat.le_refl _) (.cells (MSt.mk k ge ce gk ck ⟨rp,rn,rc,rR⟩ lw k1 k2 false).cells.toArray 101)).block j (Nat.lt_of_lt_of_le h1 HX9.out.1)).trans (HX9.out.2 j h1))
   clear hws honly hbox hown7 hg7 hat7
   refine hK.out _ _ hS2 (fun hHeld=>?_)
   clear hK K
   try simp only [Act.put,yA,yB,yC]
   refine tK 7 ?_
   refine rY [8] ?_
   refine rC (fun K hK=>?_) AllReadyH.nil
   have cbw:w7.cell? ⟨bw,0,none⟩=some (.slice qv A.length cv):=cell_of_row w7 bw 0 _ _ _ HBX.out
   have fbw:=frozen_of_row w7 bw 0 _ _ HBX.out
   have hS3:∀j,j<x8.heap.size→j≠bw→(Value.slice qv A.length cv).ownBlock≠some j→(w7.setCell ⟨bw,0,none⟩ (.slice q7 (A.length+1) c7)).heap[j]? =x8.heap[j]? :=fun j h1 h2 h3=>(HON.out.block j (Nat.lt_of_lt_of_le h1 HX9.out.1) (fun e=>e.elim h2 h3)).trans (HX9.out.2 j h1)
   go_simp
   refine hK.out _ _ hS3 (fun hHeld=>?_)
   clear hK K
   try simp only [Act.put,yA,yB,yC]
   refine wpAnyH_done (by kernel_rfl) ?_ _
   have HF9:=yH hHeld
   clear hHeld
   generalize w7.setCell ⟨bw,0,none⟩ (.slice q7 (A.length+1) c7)=w10 at *
   have HFIN:=yH (show ∃m,Met B bw w (.slice qv A.length cv) A ⟨rR,lw,l,r,decide (0<C),.fork rR lw l r⟩ k.rows w10 m∧m=(MSt.mk k ge ce gk ck ⟨rp,rn,rc,rR⟩ lw k1 k2 false) from ⟨(MSt.mk k ge ce gk ck ⟨rp,rn,rc,rR⟩ lw k1 k2 false),⟨_,HWS.out,⟨rfl,rfl,HPK1.out.symm,HPK2.out.symm,decide_eq_false HGT.out,HE.out.symm⟩,HO89.out.trans HON.out,by
    rcases HAT.out with h | h
    ·exact Or.inl h
    ·exact Or.inr ⟨_,h,by have:=HBX8.out;have:=HX9.out.1;omega⟩,by have h1:=HGE.out;have h2:=HSZ.out;exact ⟨Nat.le_trans (Nat.le_of_lt h2.1) h1.1,Nat.le_trans (Nat.le_of_lt h2.1) h1.2,fun j hj=>(HRD.out false j hj).imp (fun h=>Nat.le_trans (Nat.le_of_lt h2.1) h) id⟩⟩,rfl⟩)
   have HN10:=yH ((HF9.out _ (Nat.lt_of_lt_of_le (yL HN7.out) HO8.out.size) HNB.out.1 HNB.out.2).trans ((HO8.out.block _ (yL HN7.out) HNB3.out).trans HN7.out))
   have HS10:=yH ((HF9.out bs (yL HR8.out) HBS.out.1 HBS.out.2).trans HR8.out)
   by_cases h0:C=0
   ·have hbe:(C==0)=true:=by simpa using h0
    have H0:=yH h0
    clear h0
    go_wp2_with fail
    go_ret2
    obtain ⟨m,hm,rfl⟩:=HFIN.out
    exact ⟨_,hm,by unfold onTo;rw [if_pos H0.out];rfl⟩
   ·have hbe:(C==0)=false:=by simpa using h0
    have H0:=yH h0
    clear h0
    have cn2:=cell_of_row w10 w3.heap.size 2 _ _ _ HN10.out
    have cs40:w10.cell? ⟨bs,40,none⟩=some (.int .i64 0):=(cell_of_row w10 bs 40 _ _ _ HS10.out).trans (sp_cell40 (MSt.mk k ge ce gk ck ⟨rp,rn,rc,rR⟩ lw k1 k2 false) HKL2.out)
    go_wp2_with fail
    go_ret2
    obtain ⟨m,hm,rfl⟩:=HFIN.out
    exact ⟨_,hm,by unfold onTo;rw [if_neg H0.out];rfl⟩
end Go.Proofs.YtinihaflmdihaaaGreat.Kt
