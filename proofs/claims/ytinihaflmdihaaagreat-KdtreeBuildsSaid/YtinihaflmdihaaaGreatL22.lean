/- KdMeetF. -/
import Derived.Test.YtinihaflmdihaaaGreatL21
set_option maxRecDepth 100000
set_option maxHeartbeats 8000000
set_option linter.all false
namespace Go.Proofs.YtinihaflmdihaaaGreat.Kt
open Go.RowKit Go.Proofs.YtinihaflmdihaaaGreat.Nd Go.Proofs.YtinihaflmdihaaaGreat.Dk Go.Proofs.YtinihaflmdihaaaGreat.Pg
open List renaming setIfInBounds_toArray → yA, set_cons_zero → yB, set_cons_succ → yC
def onTo (C:Int) (m:MSt):Value:=if C=0 then .pointer none else .pointer (some ⟨m.gk,37*m.sideN,none⟩)
theorem x8B (k:Kd):k.cells=vals k.sum++[.slice k.lo.p k.lo.n k.lo.c,.slice k.hi.p k.hi.n k.hi.c,.int .i64 k.live,.int .i64 k.size,.slice k.key.p k.key.n k.key.c]:=rfl
theorem x9m (k:Kd) (hk:k.sum.length=32) (ge gk ce ck:Nat) (row:Rw) (lv:Bool) (k1 k2:Kd):Tryz.prog.built 101 [(0,.agg k.cells.toArray),(1,.agg #[.int .u8 1,.slice (some ⟨ge,0,none⟩) 1 ce,.slice (some ⟨gk,0,none⟩) 2 ck])]=some (MSt.mk k ge ce gk ck row lv k1 k2 false).cells.toArray:=by
 rw [x8B]
 exact y1M _ _ _ _ _ _ _ _ _ _ _ _ _ _ _ k.sum hk
theorem y5V (m:MSt) (h:m.kid.sum.length=32):({m with side:=false}:MSt).cells.toArray.setIfInBounds 40 (.int .i64 1)=({m with side:=true}:MSt).cells.toArray:=by
 have A:=Kd.cells_length h
 unfold MSt.cells
 apply Array.ext'
 simp only [List.setIfInBounds_toArray]
 rw [List.set_append_right _ _ (by rw [A];omega),A]
 rfl
theorem x2S (m:MSt) (h:m.kid.sum.length=32):m.cells.toArray[40]? =some (.int .i64 m.sideN):=by
 have A:=Kd.cells_length h
 unfold MSt.cells
 simp only [List.getElem?_toArray]
 rw [List.getElem?_append_right (by rw [A];omega),A]
 rfl
theorem x6j {w:World} {g:Nat} {cs:List Value} {t:TypeId} (h:w.heap[g]? =some (.cells cs.toArray t (0,0))):w.rangeAt g 0 cs:=fun j v hv=>by
 rw [Nat.zero_add,cell_of_row w g j _ _ _ h]
 simpa using hv
theorem y1O {g B bw d:Nat} {v:Value} {A:List MSt} {q:List Int} {lv:Bool} {l r:V} (hd:1≤d∧d≤8) (k:Kd) (ga oa:Nat) (p:Rw) (w:World) (hg:NodeGood g k d (forkN q lv l.kid r.kid) w) (he:k.pk=(V.fork q lv l r).kid) (hsz:1≤k.pk.size) (hk:k.Ok w) (hkr:w.rangeAt ga oa k.cells) (hka:∀x∈k.rows,x3Y bw v A x) (hw:WaySt B bw w v A) (hB:B≤w.heap.size) (hp:p.Ok w) (hpd:p.n=d) (hqd:q.length=d) (hA:A.length≤100000):
  Calls Tryz.prog 152 #[.agg #[.pointer (some ⟨g,0,none⟩),.int .i64 d],.pointer (some ⟨bw,0,none⟩),.pointer (some ⟨ga,oa,none⟩),p.val] w fun e w'=>∃m,Met B bw w v A ⟨q,lv,l,r,decide (0<ordC (A.length%d) p.R q),.fork q lv l r⟩ k.rows w' m∧e= .returned (.tuple #[onTo (ordC (A.length%d) p.R q) m,.int .i64 0]):=by
 have b1:Below w.heap.size w (w.alloc (.cells #[.pointer (some ⟨g,0,none⟩),.int .i64 d] 91)):=(Below.refl _ _).alloc (Nat.le_refl _) _
 have r1:=heap_alloc_new w (.cells #[.pointer (some ⟨g,0,none⟩),.int .i64 d] 91)
 have BY:k.pk≠PK.none:=fun e=>by rw [e] at hsz;exact absurd hsz (by decide)
 have HG:=yH (x7T k ga oa _ (hk.later b1) (x02 hkr b1) BY (hg.later b1) rfl)
 have HE:=yH he
 have HK:=yH hk
 have CE:=yH hkr
 have Ag:=yH hka
 have CO:=yH (show ∀x∈k.rows,∀y,x.p=some y→x.R≠[]→y.block<w.heap.size from fun x hx=>rw_lt (x05 hk x hx))
 have C8:=yH (Kd.cells_length hk.len)
 have HW:=yH hw
 have Ax:=yH hB
 have C9:=yH hp
 have Br:=yH hpd
 have CK:=yH hqd
 have BD:=yH hd
 have HA:=yH hA
 obtain ⟨qv,z,rfl⟩:=x1E hw.own
 obtain ⟨pp,pn,pc,pR⟩:=p
 unfold Rw.val
 simp only at Br ⊢
 generalize hCC:ordC (A.length%d) pR q=C
 have CN:=yH hCC
 clear hCC
 obtain ⟨du,Bj,Bf⟩:=UTr
 obtain ⟨dk,Bv,B9⟩:=UKd
 obtain ⟨dn,C1,B7⟩:=UNo
 obtain ⟨ds,hds,BB⟩:=USp
 have C0:=yH Bj
 have Bp:=yH Bf
 have CH:=yH Bv
 have C2:=yH B9
 have CB:=yH C1
 have Bi:=yH B7
 have Bc:=yH hds
 have B8:=yH BB
 have R1:=yH r1
 have Bw:=yH (x09 r1)
 have B1:=yH b1
 have HZ:=yH (zero_of_info spz)
 clear BY hd hg he hsz hk hkr hka hw hB hp hpd hqd hA b1 r1 Bj Bf Bv B9 C1 B7 hds BB
 go_enter Tryz.func152,Tryz.ntmps152
 go_upto_region 1 with fail
 generalize w.alloc (.cells #[.pointer (some ⟨g,0,none⟩),.int .i64 d] 91)=w1 at *
 go_upto_region 2 with (first
  | (refine wpList_load_mid (by rfl) 91 _ (by rfl) w.heap.size 0 (by rfl) [.pointer (some ⟨g,0,none⟩),.int .i64 d] du Bw.out C0.out Bp.out STr ?_)
  | (go_at_call 120;refine HG.out.mono ?_;rintro _ w3 ⟨pe,ne,H,pk,nk,L,EE,KK,Cg,rfl,BV,Bq,b3⟩;have Bh:=yH BV;have BO:=yH Bq;have B3:=yH b3;clear b3 BV Bq)
  | (refine wpList_store_row (by rfl) 81 (.tmp 10) _ (by rfl) w3.heap.size #[.int .u8 1,.slice pe ne H,.slice pk nk L] (by rfl) (by rfl) _ _ (heap_alloc_new w3 _) SNo rfl (x2R 1 pe ne H pk nk L) ?_;rw [x04]))
 obtain ⟨e,i,f,rfl,rfl,hR,Bb,Bs,Bm⟩:=x5J Bh.out
 obtain ⟨rfl,rfl,I,O,rfl,rfl,CJ,Bn,Bl,Bg,BX,Bt,Aj,CF⟩:=x1i BO.out
 have HM:=yH (y1K BO.out ((HK.out.later B1.out).later B3.out) (fun x hx y hy hR=>Nat.lt_of_lt_of_le (CO.out x hx y hy hR) B1.out.size))
 obtain ⟨⟨W,Y,Z,J⟩,M⟩:=e
 simp only at hR Bb HM
 subst hR Bb
 have Az:Below w3.heap.size w3 (w3.alloc (.cells #[.int .u8 1,.slice (some ⟨I,0,none⟩) 1 H,.slice (some ⟨O,0,none⟩) 2 L] 81)):=(Below.refl _ _).alloc (Nat.le_refl _) _
 have BG:=heap_alloc_new w3 (.cells #[.int .u8 1,.slice (some ⟨I,0,none⟩) 1 H,.slice (some ⟨O,0,none⟩) 2 L] 81)
 have BW:(w3.alloc (.cells #[.int .u8 1,.slice (some ⟨I,0,none⟩) 1 H,.slice (some ⟨O,0,none⟩) 2 L] 81)).heap.size=w3.heap.size+1:=by simp
 generalize w3.alloc (.cells #[.int .u8 1,.slice (some ⟨I,0,none⟩) 1 H,.slice (some ⟨O,0,none⟩) 2 L] 81)=w4 at *
 have B4:=yH (B1.out.trans ((B3.out.trans (Az.mono B3.out.size)).mono B1.out.size))
 have Ao:=yH (show ∀side,(MSt.mk k I H O L ⟨W,Y,Z,J⟩ M i f side).Ok w4 from fun side=>(HM.out side).1.later Az)
 have AP:=yH (show ∀side j,(MSt.mk k I H O L ⟨W,Y,Z,J⟩ M i f side).reads j→w1.heap.size≤j∨∃r∈k.rows,∃x,r.p=some x∧r.R≠[]∧j=x.block from fun side=>(HM.out side).2.2.2)
 have Ah:=yH (show w1.heap.size≤I∧w1.heap.size≤O from ⟨(HM.out false).2.1,(HM.out false).2.2.1⟩)
 have Bo:=yH BG
 have Ab:=yH Bs
 have Ad:=yH Bm
 have Ak:=yH (show w.heap.size<w1.heap.size∧w1.heap.size≤w3.heap.size∧w4.heap.size=w3.heap.size+1 from ⟨(yL R1.out),B3.out.size,BW⟩)
 have CD:=yH (((B3.out.trans (Az.mono B3.out.size)).block _ (yL R1.out)).trans R1.out)
 have c0:=cell_of_row w4 w3.heap.size 0 _ _ _ BG
 clear CJ Bn Bl Bg BX Bt Aj CF Az BG BW Bs Bm BO Bh HM HG R1 Bw
 go_upto_region 7 with fail
 clear c0
 have Bz:=yH (x02 CE.out B4.out)
 have CM:=yH (x3V Bo.out)
 have X:=yH HK.out.len
 refine wp_region_held_drew (S:=fun w'=>Below w4.heap.size w4 w') (by kernel_rfl) ((Below.refl _ _).drew) (fun hHeld=>?_)
 generalize w4.drew=x0 at *
 have CA:=HZ.out.1
 refine tK 0 ?_
 refine tK 1 ?_
 refine tQ 2 ?_ ?_ ?_
 rotate_left
 ·intro w' hSw
  refine Eq.trans (b:=Result.ok (Next.value (.agg k.cells.toArray)) w') ?_ ?_
  ·exact x0A 34 (.tmp 40) (by rfl) ga oa (by rfl) k.cells dk (x02 Bz.out hSw) CH.out C2.out (by rw [C8.out];exact SKd)
  ·with_reducible rfl
 refine tQ 3 ?_ ?_ ?_
 rotate_left
 ·intro w' hSw
  refine Eq.trans (b:=Result.ok (Next.value (.agg #[.int .u8 1,.slice (some ⟨I,0,none⟩) 1 H,.slice (some ⟨O,0,none⟩) 2 L])) w') ?_ ?_
  ·exact x0A 81 (.tmp 10) (by rfl) w3.heap.size 0 (by rfl) [.int .u8 1,.slice (some ⟨I,0,none⟩) 1 H,.slice (some ⟨O,0,none⟩) 2 L] dn (x02 CM.out hSw) CB.out Bi.out SNo
  ·with_reducible rfl
 refine tQ 4 ?_ ?_ ?_
 rotate_left
 ·intro w' hSw
  refine Eq.trans (b:=Result.ok (Next.value (.agg (MSt.mk k I H O L ⟨W,Y,Z,J⟩ M i f false).cells.toArray)) w') ?_ ?_
  ·apply x0t (t:=101) (parts:= #[(0,.tmp 41),(1,.tmp 42)])
   ·rfl
   ·simp only [List.map_toArray,List.map_cons,List.map_nil]
    exact x9m k X.out I O H L ⟨W,Y,Z,J⟩ M i f
  ·with_reducible rfl
 refine rO 5 fun K hK=>?_
 go_simp
 have ba:Below x0.heap.size x0 (x0.alloc (.cells sp0.toArray 101)):=(Below.refl _ _).alloc (Nat.le_refl _) _
 have Bd:=hHeld.trans (ba.mono hHeld.size)
 have RS:=yH (heap_alloc_new x0 (.cells sp0.toArray 101))
 have BQ:=yH hHeld.size
 clear ba
 try go_wp2_with fail
 refine hK.out _ _ Bd (fun hHeld=>?_)
 clear hK K
 try simp only [Act.put,yA,yB,yC]
 generalize x0.alloc (.cells sp0.toArray 101)=x1 at *
 refine rO 6 fun K hK=>?_
 refine wp_store_row 101 (.tmp 12) (.tmp 43) (by rfl) x0.heap.size (MSt.mk k I H O L ⟨W,Y,Z,J⟩ M i f false).cells.toArray (by rfl) (by rfl) _ _ RS.out (by rw [List.size_toArray,MSt.cells_length X.out];exact SSp) (by simp only [List.size_toArray,MSt.cells_length (m:=(MSt.mk k I H O L ⟨W,Y,Z,J⟩ M i f false)) X.out,y32]) (all_oneCell_toArray MSt.one) ?_
 have hS:=Below.setRow hHeld BQ.out (MSt.mk k I H O L ⟨W,Y,Z,J⟩ M i f false).cells.toArray
 have RB:=yH (setRow_heap _ _ _ (MSt.mk k I H O L ⟨W,Y,Z,J⟩ M i f false).cells.toArray _ _ RS.out)
 refine hK.out _ _ hS (fun hHeld=>?_)
 clear hK K
 try simp only [Act.put,yA,yB,yC]
 generalize x1.setRow x0.heap.size (MSt.mk k I H O L ⟨W,Y,Z,J⟩ M i f false).cells.toArray=w5 at *
 refine wpAnyH_done (by kernel_rfl) ?_ _
 have B5:=yH hHeld
 have BC:=yH (show w4.heap.size≤x0.heap.size from BQ.out)
 obtain ⟨bs,BT⟩:∃b,x0.heap.size=b:=⟨_,rfl⟩
 rw [BT] at RB BC ⊢
 clear BT RS hS Bd BQ hHeld CA
 go_upto_region 8 with fail
 have An:=yH (B4.out.trans (B5.out.mono B4.out.size))
 have Ay:=yH (HW.out.later An.out)
 have BU:=yH (yK B5.out CD.out)
 have Au:=yH (yK B5.out Bo.out)
 have Am:=yH (fun side=>(Ao.out side).later B5.out)
 have C3:=yH (C9.out.later An.out)
 have AL:=yH B5.out.size
 have As:=yH B5.out.block
 have A2:=yH (show w5.os=w4.os∧w5.tape=w4.tape∧w5.output=w4.output from ⟨B5.out.os,B5.out.tape,B5.out.output⟩)
 refine wp_region_held_drew (S:=fun w'=>Below w5.heap.size w5 w') (by kernel_rfl) ((Below.refl _ _).drew) (fun hHeld=>?_)
 generalize w5.drew=x5 at *
 refine tQ 0 ?_ ?_ ?_
 rotate_left
 ·intro w' hSw
  refine Eq.trans (b:=Result.ok (Next.value (.agg #[.pointer (some ⟨g,0,none⟩),.int .i64 d])) w') ?_ ?_
  ·exact x0A 91 (.tmp 4) (by rfl) w.heap.size 0 (by rfl) [.pointer (some ⟨g,0,none⟩),.int .i64 d] du (x02 (x09 BU.out) hSw) C0.out Bp.out STr
  ·with_reducible rfl
 refine tK 1 ?_
 refine tK 2 ?_
 refine tQ 3 ?_ ?_ ?_
 rotate_left
 ·intro w' hSw
  have y:w'.cell? ⟨bw,0,none⟩=some (.slice qv A.length z):=(hSw.cell (block_lt_of_cell (cell_of_row w5 bw 0 _ _ _ Ay.out.box))).trans (cell_of_row w5 bw 0 _ _ _ Ay.out.box)
  go_simp
  try with_reducible rfl
 refine tK 4 ?_
 refine tK 6 ?_
 refine tK 7 ?_
 refine tQ 8 ?_ ?_ ?_
 rotate_left
 ·intro w' hSw
  have y:w'.cell? ⟨w3.heap.size,1,none⟩=some (.slice (some ⟨I,0,none⟩) 1 H):=(hSw.cell (block_lt_of_cell (cell_of_row w5 w3.heap.size 1 _ _ _ Au.out))).trans (cell_of_row w5 w3.heap.size 1 _ _ _ Au.out)
  go_simp
  try with_reducible rfl
 refine tK 9 ?_
 refine tK 10 ?_
 refine tQ 11 ?_ ?_ ?_
 rotate_left
 ·intro w' hSw
  have y:w'.cell? ⟨I,0,none⟩=some (.slice W Y Z):=(hSw.cell (block_lt_of_cell ((Am.out false).ent 0 _ rfl))).trans ((Am.out false).ent 0 _ rfl)
  go_simp
  try with_reducible rfl
 refine rO 5 fun K hK=>?_
 go_simp
 refine (x4z (some ⟨g,0,none⟩) d A.length _ (by have:=BD.out;omega) (by have:=HA.out;omega)).mono ?_
 rintro _ x6 ⟨gf,rfl,CI,By,hb⟩
 have B0:=hHeld.trans (hb.mono hHeld.size)
 have BZ:=yH By
 have BJ:=yH (C3.out.later B0)
 have B6:=yH ((Am.out false).row.later B0)
 clear hb By CI
 try go_wp2_with fail
 refine hK.out _ _ B0 (fun hHeld=>?_)
 clear hK K
 try simp only [Act.put,yA,yB,yC]
 refine rO 12 fun K hK=>?_
 go_simp
 refine (x5p pp W pn pc Y Z pR J (A.length%d) gf x6 BJ.out.ints B6.out.ints (by rw [Br.out];exact Nat.mod_lt _ (by have:=BD.out;omega)) (by have E:=B6.out.ints.size;have o:=CK.out;simp only at E;rw [E,o];exact Nat.mod_lt _ (by have:=BD.out;omega)) BJ.out.top B6.out.top BZ.out).mono ?_
 rintro _ x7 ⟨rfl,jj,Ba⟩
 have Be:Below w5.heap.size w5 x7:=by rw [Ba];exact Below.drewN hHeld _
 rw [CN.out]
 clear Ba
 try go_wp2_with fail
 refine hK.out _ _ Be (fun hHeld=>?_)
 clear hK K
 try simp only [Act.put,yA,yB,yC]
 refine tK 13 ?_
 refine wpAnyH_done (by kernel_rfl) ?_ _
 have u:=yH hHeld
 clear hHeld BJ B6 BZ B0 Be
 have Cn:=yH (Ay.out.later u.out)
 have AD:=yH (yK u.out Au.out)
 have Ci:=yH (fun side=>(Am.out side).later u.out)
 have Cf:=yH (An.out.trans (u.out.mono An.out.size))
 have Aq:=yH (yK u.out RB.out)
 have Av:=yH (show w4.heap.size≤bs∧bs<x7.heap.size from ⟨BC.out,(yL Aq.out)⟩)
 clear Ay Au Am C3 BU B5 An RB
 by_cases E:0<C
 ·have BK:C>0:=E
  have AX:=yH E
  have BA:¬C=0:=by omega
  have Aj:(C==0)=false:=by simpa using BA
  have CC:x7.cell? ⟨bs,40,none⟩=some (.int .i64 0):=(cell_of_row x7 bs 40 _ _ _ Aq.out).trans (x2S (MSt.mk k I H O L ⟨W,Y,Z,J⟩ M i f false) X.out)
  have C7:=frozen_of_row x7 bs 40 _ _ Aq.out
  go_upto_region 11 with fail
  have BP:=heap_setCell_same x7 bs 40 _ _ (.int .i64 1) Aq.out
  rw [y5V (MSt.mk k I H O L ⟨W,Y,Z,J⟩ M i f true) X.out] at BP
  have Bu:Only (fun j=>j=bs) x7 (x7.setCell ⟨bs,40,none⟩ (.int .i64 1)):=Only.setCell (P:=fun j=>j=bs) x7 (a:=⟨bs,40,none⟩) rfl _
  have A7:=yH BP
  have Q:=yH Bu
  clear BP Bu CC C7 BK BA E
  generalize x7.setCell ⟨bs,40,none⟩ (.int .i64 1)=c at *
  have AC:=yH (show bw<w.heap.size∧∀j,(Value.slice qv A.length z).ownBlock=some j→j<w.heap.size from ⟨(yL HW.out.box),fun j e=>(HW.out.own.lt j e).2⟩)
  have U:=yH (show w.heap.size<w1.heap.size∧w1.heap.size≤w3.heap.size∧w4.heap.size=w3.heap.size+1∧w4.heap.size≤bs∧bs<x7.heap.size from ⟨Ak.out.1,Ak.out.2.1,Ak.out.2.2,Av.out.1,Av.out.2⟩)
  have AB:=yH (show bs≠bw∧(Value.slice qv A.length z).ownBlock≠some bs from ⟨by have:=AC.out.1;have:=U.out;omega,fun e=>by have:=AC.out.2 _ e;have:=U.out;omega⟩)
  have AM:=yH (show w3.heap.size≠bw∧(Value.slice qv A.length z).ownBlock≠some w3.heap.size from ⟨by have:=AC.out.1;have:=U.out;omega,fun e=>by have:=AC.out.2 _ e;have:=U.out;omega⟩)
  have AS:=yH (show w3.heap.size≠bs by have:=U.out;omega)
  have G:=yH (show c.heap.size≤c.drew.heap.size∧∀j,j<c.heap.size→c.drew.heap[j]? =c.heap[j]? from ⟨Nat.le_refl _,fun _ _=>rfl⟩)
  have AF:=yH (show w.heap.size≤c.heap.size by have:=Q.out.size;have:=U.out;omega)
  have A0:∀j,j<w4.heap.size→c.drew.heap[j]? =w4.heap[j]? :=fun j hj=>(Q.out.block j (by have:=U.out;omega) (by have:=U.out;omega)).trans ((u.out.block j (by have E:=AL.out;omega)).trans (As.out j hj))
  have A5:=yH (show WaySt B bw c.drew (.slice qv A.length z) A from (HW.out.later B4.out).later ⟨(Q.out.os.trans u.out.os).trans A2.out.1,(Q.out.tape.trans u.out.tape).trans A2.out.2.1,(Q.out.output.trans u.out.output).trans A2.out.2.2,by have h3:=Q.out.size;have o:=u.out.size;have E:=AL.out;exact Nat.le_trans E (Nat.le_trans o h3),A0⟩)
  have AZ:=yH (show (MSt.mk k I H O L ⟨W,Y,Z,J⟩ M i f true).Ok c.drew from (Ao.out true).keep fun j hj=>A0 j ((Ao.out true).lt j hj))
  have AR:=yH (show Only (fun k=>k=bw∨(Value.slice qv A.length z).ownBlock=some k) w c.drew from (Only.of_below _ B4.out).trans ⟨(Q.out.os.trans u.out.os).trans A2.out.1,(Q.out.tape.trans u.out.tape).trans A2.out.2.1,(Q.out.output.trans u.out.output).trans A2.out.2.2,by have h3:=Q.out.size;have o:=u.out.size;have E:=AL.out;exact Nat.le_trans E (Nat.le_trans o h3),fun j hj _=>A0 j hj⟩)
  have AQ:=yH (show B≤c.drew.heap.size from Nat.le_trans Ax.out AF.out)
  have AO:=yH (show ∀j,(MSt.mk k I H O L ⟨W,Y,Z,J⟩ M i f true).reads j→j≠bw∧(Value.slice qv A.length z).ownBlock≠some j from fun j hj=>by
   rcases AP.out true j hj with h | ⟨x,hx,y,hy,hR,rfl⟩
   ·exact ⟨by have:=AC.out.1;have:=U.out;omega,fun e=>by have:=AC.out.2 _ e;have:=U.out;omega⟩
   ·exact ⟨(Ag.out x hx y hy hR).1,(Ag.out x hx y hy hR).2.1⟩)
  have AN:=yH (show WayM B c.drew (A++[(MSt.mk k I H O L ⟨W,Y,Z,J⟩ M i f true)]) from A5.out.way.snoc AZ.out (N:=w.heap.size) Ax.out (fun a ha j hj=>(HW.out.way.each a ha).lt j hj) (by have E:=Ah.out;have o:=U.out;exact ⟨Nat.le_trans (Nat.le_of_lt o.1) E.1,Nat.le_trans (Nat.le_of_lt o.1) E.2⟩) (fun a ha j hj=>by
   rcases AP.out true j hj with h | ⟨x,hx,y,hy,hR,rfl⟩
   ·have E:=(HW.out.way.each a ha).lt _ (Or.inl rfl)
    have o:=(HW.out.way.each a ha).lt _ (Or.inr (Or.inl rfl))
    have:=U.out
    omega
   ·exact (Ag.out x hx y hy hR).2.2 a ha))
  clear A0
  refine wp_region_held_drew (S:=fun w'=>∀j,j<c.heap.size→j≠bw→(Value.slice qv A.length z).ownBlock≠some j→w'.heap[j]? =c.heap[j]?) (by kernel_rfl) (fun _ _ _ _=>rfl) (fun hHeld=>?_)
  generalize c.drew=x9 at *
  refine tK 0 ?_
  refine tK 1 ?_
  refine tK 2 ?_
  refine tQ 4 ?_ ?_ ?_
  rotate_left
  ·intro w' hSw
   refine Eq.trans (b:=Result.ok (Next.value (.agg (MSt.mk k I H O L ⟨W,Y,Z,J⟩ M i f true).cells.toArray)) w') ?_ ?_
   ·exact x0A 101 (.tmp 12) (by rfl) bs 0 (by rfl) (MSt.mk k I H O L ⟨W,Y,Z,J⟩ M i f true).cells ds (x6j ((hSw bs (yL A7.out) AB.out.1 AB.out.2).trans A7.out)) Bc.out B8.out (by rw [MSt.cells_length (m:=(MSt.mk k I H O L ⟨W,Y,Z,J⟩ M i f true)) X.out];exact SSp)
   ·with_reducible rfl
  refine rY [3,5] ?_
  refine rC (fun K hK=>?_) (rC (fun K hK=>?_) AllReadyH.nil)
  ·
   have AY:x9.cell? ⟨bw,0,none⟩=some (.slice qv A.length z):=cell_of_row x9 bw 0 _ _ _ A5.out.box
   go_simp
   refine hK.out _ _ hHeld (fun hHeld=>?_)
   clear hK K
   try simp only [Act.put,yA,yB,yC]
   refine rO 5 fun K hK=>?_
   have AU:∀j,j<c.heap.size→j≠bw→(Value.slice qv A.length z).ownBlock≠some j→(x9.alloc (.cells (MSt.mk k I H O L ⟨W,Y,Z,J⟩ M i f true).cells.toArray 101)).heap[j]? =c.heap[j]? :=fun j E o h3=>(((Below.refl x9.heap.size x9).alloc (Nat.le_refl _) (.cells (MSt.mk k I H O L ⟨W,Y,Z,J⟩ M i f true).cells.toArray 101)).block j (Nat.lt_of_lt_of_le E G.out.1)).trans (G.out.2 j E)
   refine x0y (.tmp 64) (by rfl) (m:=(MSt.mk k I H O L ⟨W,Y,Z,J⟩ M i f true)) X.out (by rfl) ?_
   refine hK.out _ _ AU (fun hHeld=>?_)
   clear hK K
   try simp only [Act.put,yA,yB,yC]
   refine rO 6 fun K hK=>?_
   refine x0z A5.out (m:=(MSt.mk k I H O L ⟨W,Y,Z,J⟩ M i f true)) X.out (.tmp 63) (.tmp 65) (by rfl) (by rfl) (by rfl) HA.out ?_
   intro q7 c7 w7 hown7 hg7 hat7
   obtain ⟨AK,s,A4⟩:=x38 A5.out AZ.out AQ.out hown7 hg7 hat7 AN.out AO.out
   have Aa:=yH AK
   have AJ:=yH s
   have AH:=yH A4
   have AW:=yH hat7
   have AV:∀j,j<c.heap.size→j≠bw→(Value.slice qv A.length z).ownBlock≠some j→w7.heap[j]? =c.heap[j]? :=fun j E o h3=>(hg7.block j (by have:=G.out.1;simp;omega) (fun e=>h3 e.symm)).trans ((((Below.refl x9.heap.size x9).alloc (Nat.le_refl _) (.cells (MSt.mk k I H O L ⟨W,Y,Z,J⟩ M i f true).cells.toArray 101)).block j (Nat.lt_of_lt_of_le E G.out.1)).trans (G.out.2 j E))
   clear AK s A4 hown7 hg7 hat7
   refine hK.out _ _ AV (fun hHeld=>?_)
   clear hK K
   try simp only [Act.put,yA,yB,yC]
   refine tK 7 ?_
   refine rO 8 fun K hK=>?_
   have AY:w7.cell? ⟨bw,0,none⟩=some (.slice qv A.length z):=cell_of_row w7 bw 0 _ _ _ AH.out
   have BM:=frozen_of_row w7 bw 0 _ _ AH.out
   have AT:∀j,j<c.heap.size→j≠bw→(Value.slice qv A.length z).ownBlock≠some j→(w7.setCell ⟨bw,0,none⟩ (.slice q7 (A.length+1) c7)).heap[j]? =c.heap[j]? :=fun j E o h3=>(AJ.out.block j (Nat.lt_of_lt_of_le E G.out.1) (fun e=>e.elim o h3)).trans (G.out.2 j E)
   go_simp
   refine hK.out _ _ AT (fun hHeld=>?_)
   clear hK K
   try simp only [Act.put,yA,yB,yC]
   refine wpAnyH_done (by kernel_rfl) ?_ _
   have AI:=yH hHeld
   clear hHeld
   generalize w7.setCell ⟨bw,0,none⟩ (.slice q7 (A.length+1) c7)=w10 at *
   have A8:=yH (show ∃m,Met B bw w (.slice qv A.length z) A ⟨J,M,l,r,decide (0<C),.fork J M l r⟩ k.rows w10 m∧m=(MSt.mk k I H O L ⟨W,Y,Z,J⟩ M i f true) from ⟨(MSt.mk k I H O L ⟨W,Y,Z,J⟩ M i f true),⟨_,Aa.out,⟨rfl,rfl,Ab.out.symm,Ad.out.symm,decide_eq_true AX.out,HE.out.symm⟩,AR.out.trans AJ.out,by
    rcases AW.out with h | h
    ·exact Or.inl h
    ·exact Or.inr ⟨_,h,by have:=AF.out;have:=G.out.1;omega⟩,by have E:=Ah.out;have o:=U.out;exact ⟨Nat.le_trans (Nat.le_of_lt o.1) E.1,Nat.le_trans (Nat.le_of_lt o.1) E.2,fun j hj=>(AP.out true j hj).imp (fun h=>Nat.le_trans (Nat.le_of_lt o.1) h) id⟩⟩,rfl⟩)
   have AE:=yH ((AI.out _ (Nat.lt_of_lt_of_le (yL AD.out) Q.out.size) AM.out.1 AM.out.2).trans ((Q.out.block _ (yL AD.out) AS.out).trans AD.out))
   have AG:=yH ((AI.out bs (yL A7.out) AB.out.1 AB.out.2).trans A7.out)
   have BE:=cell_of_row w10 w3.heap.size 2 _ _ _ AE.out
   have Ar:w10.cell? ⟨bs,40,none⟩=some (.int .i64 1):=(cell_of_row w10 bs 40 _ _ _ AG.out).trans (x2S (MSt.mk k I H O L ⟨W,Y,Z,J⟩ M i f true) X.out)
   go_wp2_with fail
   go_ret2
   obtain ⟨m,hm,rfl⟩:=A8.out
   exact ⟨_,hm,by unfold onTo;rw [if_neg (by have:=AX.out;omega)];rfl⟩
  ·
   have AU:∀j,j<c.heap.size→j≠bw→(Value.slice qv A.length z).ownBlock≠some j→(x9.alloc (.cells (MSt.mk k I H O L ⟨W,Y,Z,J⟩ M i f true).cells.toArray 101)).heap[j]? =c.heap[j]? :=fun j E o h3=>(((Below.refl x9.heap.size x9).alloc (Nat.le_refl _) (.cells (MSt.mk k I H O L ⟨W,Y,Z,J⟩ M i f true).cells.toArray 101)).block j (Nat.lt_of_lt_of_le E G.out.1)).trans (G.out.2 j E)
   refine x0y (.tmp 64) (by rfl) (m:=(MSt.mk k I H O L ⟨W,Y,Z,J⟩ M i f true)) X.out (by rfl) ?_
   refine hK.out _ _ AU (fun hHeld=>?_)
   clear hK K
   try simp only [Act.put,yA,yB,yC]
   refine rO 3 fun K hK=>?_
   have AY:(x9.alloc (.cells (MSt.mk k I H O L ⟨W,Y,Z,J⟩ M i f true).cells.toArray 101)).cell? ⟨bw,0,none⟩=some (.slice qv A.length z):=cell_of_row _ bw 0 _ _ _ (A5.out.later ((Below.refl _ _).alloc (Nat.le_refl _) _)).box
   go_simp
   refine hK.out _ _ hHeld (fun hHeld=>?_)
   clear hK K
   try simp only [Act.put,yA,yB,yC]
   refine rO 6 fun K hK=>?_
   refine x0z A5.out (m:=(MSt.mk k I H O L ⟨W,Y,Z,J⟩ M i f true)) X.out (.tmp 63) (.tmp 65) (by rfl) (by rfl) (by rfl) HA.out ?_
   intro q7 c7 w7 hown7 hg7 hat7
   obtain ⟨AK,s,A4⟩:=x38 A5.out AZ.out AQ.out hown7 hg7 hat7 AN.out AO.out
   have Aa:=yH AK
   have AJ:=yH s
   have AH:=yH A4
   have AW:=yH hat7
   have AV:∀j,j<c.heap.size→j≠bw→(Value.slice qv A.length z).ownBlock≠some j→w7.heap[j]? =c.heap[j]? :=fun j E o h3=>(hg7.block j (by have:=G.out.1;simp;omega) (fun e=>h3 e.symm)).trans ((((Below.refl x9.heap.size x9).alloc (Nat.le_refl _) (.cells (MSt.mk k I H O L ⟨W,Y,Z,J⟩ M i f true).cells.toArray 101)).block j (Nat.lt_of_lt_of_le E G.out.1)).trans (G.out.2 j E))
   clear AK s A4 hown7 hg7 hat7
   refine hK.out _ _ AV (fun hHeld=>?_)
   clear hK K
   try simp only [Act.put,yA,yB,yC]
   refine tK 7 ?_
   refine rO 8 fun K hK=>?_
   have AY:w7.cell? ⟨bw,0,none⟩=some (.slice qv A.length z):=cell_of_row w7 bw 0 _ _ _ AH.out
   have BM:=frozen_of_row w7 bw 0 _ _ AH.out
   have AT:∀j,j<c.heap.size→j≠bw→(Value.slice qv A.length z).ownBlock≠some j→(w7.setCell ⟨bw,0,none⟩ (.slice q7 (A.length+1) c7)).heap[j]? =c.heap[j]? :=fun j E o h3=>(AJ.out.block j (Nat.lt_of_lt_of_le E G.out.1) (fun e=>e.elim o h3)).trans (G.out.2 j E)
   go_simp
   refine hK.out _ _ AT (fun hHeld=>?_)
   clear hK K
   try simp only [Act.put,yA,yB,yC]
   refine wpAnyH_done (by kernel_rfl) ?_ _
   have AI:=yH hHeld
   clear hHeld
   generalize w7.setCell ⟨bw,0,none⟩ (.slice q7 (A.length+1) c7)=w10 at *
   have A8:=yH (show ∃m,Met B bw w (.slice qv A.length z) A ⟨J,M,l,r,decide (0<C),.fork J M l r⟩ k.rows w10 m∧m=(MSt.mk k I H O L ⟨W,Y,Z,J⟩ M i f true) from ⟨(MSt.mk k I H O L ⟨W,Y,Z,J⟩ M i f true),⟨_,Aa.out,⟨rfl,rfl,Ab.out.symm,Ad.out.symm,decide_eq_true AX.out,HE.out.symm⟩,AR.out.trans AJ.out,by
    rcases AW.out with h | h
    ·exact Or.inl h
    ·exact Or.inr ⟨_,h,by have:=AF.out;have:=G.out.1;omega⟩,by have E:=Ah.out;have o:=U.out;exact ⟨Nat.le_trans (Nat.le_of_lt o.1) E.1,Nat.le_trans (Nat.le_of_lt o.1) E.2,fun j hj=>(AP.out true j hj).imp (fun h=>Nat.le_trans (Nat.le_of_lt o.1) h) id⟩⟩,rfl⟩)
   have AE:=yH ((AI.out _ (Nat.lt_of_lt_of_le (yL AD.out) Q.out.size) AM.out.1 AM.out.2).trans ((Q.out.block _ (yL AD.out) AS.out).trans AD.out))
   have AG:=yH ((AI.out bs (yL A7.out) AB.out.1 AB.out.2).trans A7.out)
   have BE:=cell_of_row w10 w3.heap.size 2 _ _ _ AE.out
   have Ar:w10.cell? ⟨bs,40,none⟩=some (.int .i64 1):=(cell_of_row w10 bs 40 _ _ _ AG.out).trans (x2S (MSt.mk k I H O L ⟨W,Y,Z,J⟩ M i f true) X.out)
   go_wp2_with fail
   go_ret2
   obtain ⟨m,hm,rfl⟩:=A8.out
   exact ⟨_,hm,by unfold onTo;rw [if_neg (by have:=AX.out;omega)];rfl⟩
 ·have BK:¬C>0:=E
  have AX:=yH E
  go_upto_region 11 with fail
  have A7:=yH Aq.out
  clear E BK
  obtain ⟨c,BL⟩:∃c,c=x7:=⟨_,rfl⟩
  have Q:=yH (show Only (fun j=>j=bs) x7 c from by rw [BL];exact Only.refl _ _)
  rw [← BL] at A7 ⊢
  clear BL
  have AC:=yH (show bw<w.heap.size∧∀j,(Value.slice qv A.length z).ownBlock=some j→j<w.heap.size from ⟨(yL HW.out.box),fun j e=>(HW.out.own.lt j e).2⟩)
  have U:=yH (show w.heap.size<w1.heap.size∧w1.heap.size≤w3.heap.size∧w4.heap.size=w3.heap.size+1∧w4.heap.size≤bs∧bs<x7.heap.size from ⟨Ak.out.1,Ak.out.2.1,Ak.out.2.2,Av.out.1,Av.out.2⟩)
  have AB:=yH (show bs≠bw∧(Value.slice qv A.length z).ownBlock≠some bs from ⟨by have:=AC.out.1;have:=U.out;omega,fun e=>by have:=AC.out.2 _ e;have:=U.out;omega⟩)
  have AM:=yH (show w3.heap.size≠bw∧(Value.slice qv A.length z).ownBlock≠some w3.heap.size from ⟨by have:=AC.out.1;have:=U.out;omega,fun e=>by have:=AC.out.2 _ e;have:=U.out;omega⟩)
  have AS:=yH (show w3.heap.size≠bs by have:=U.out;omega)
  have G:=yH (show c.heap.size≤c.drew.heap.size∧∀j,j<c.heap.size→c.drew.heap[j]? =c.heap[j]? from ⟨Nat.le_refl _,fun _ _=>rfl⟩)
  have AF:=yH (show w.heap.size≤c.heap.size by have:=Q.out.size;have:=U.out;omega)
  have A0:∀j,j<w4.heap.size→c.drew.heap[j]? =w4.heap[j]? :=fun j hj=>(Q.out.block j (by have:=U.out;omega) (by have:=U.out;omega)).trans ((u.out.block j (by have E:=AL.out;omega)).trans (As.out j hj))
  have A5:=yH (show WaySt B bw c.drew (.slice qv A.length z) A from (HW.out.later B4.out).later ⟨(Q.out.os.trans u.out.os).trans A2.out.1,(Q.out.tape.trans u.out.tape).trans A2.out.2.1,(Q.out.output.trans u.out.output).trans A2.out.2.2,by have h3:=Q.out.size;have o:=u.out.size;have E:=AL.out;exact Nat.le_trans E (Nat.le_trans o h3),A0⟩)
  have AZ:=yH (show (MSt.mk k I H O L ⟨W,Y,Z,J⟩ M i f false).Ok c.drew from (Ao.out false).keep fun j hj=>A0 j ((Ao.out false).lt j hj))
  have AR:=yH (show Only (fun k=>k=bw∨(Value.slice qv A.length z).ownBlock=some k) w c.drew from (Only.of_below _ B4.out).trans ⟨(Q.out.os.trans u.out.os).trans A2.out.1,(Q.out.tape.trans u.out.tape).trans A2.out.2.1,(Q.out.output.trans u.out.output).trans A2.out.2.2,by have h3:=Q.out.size;have o:=u.out.size;have E:=AL.out;exact Nat.le_trans E (Nat.le_trans o h3),fun j hj _=>A0 j hj⟩)
  have AQ:=yH (show B≤c.drew.heap.size from Nat.le_trans Ax.out AF.out)
  have AO:=yH (show ∀j,(MSt.mk k I H O L ⟨W,Y,Z,J⟩ M i f false).reads j→j≠bw∧(Value.slice qv A.length z).ownBlock≠some j from fun j hj=>by
   rcases AP.out false j hj with h | ⟨x,hx,y,hy,hR,rfl⟩
   ·exact ⟨by have:=AC.out.1;have:=U.out;omega,fun e=>by have:=AC.out.2 _ e;have:=U.out;omega⟩
   ·exact ⟨(Ag.out x hx y hy hR).1,(Ag.out x hx y hy hR).2.1⟩)
  have AN:=yH (show WayM B c.drew (A++[(MSt.mk k I H O L ⟨W,Y,Z,J⟩ M i f false)]) from A5.out.way.snoc AZ.out (N:=w.heap.size) Ax.out (fun a ha j hj=>(HW.out.way.each a ha).lt j hj) (by have E:=Ah.out;have o:=U.out;exact ⟨Nat.le_trans (Nat.le_of_lt o.1) E.1,Nat.le_trans (Nat.le_of_lt o.1) E.2⟩) (fun a ha j hj=>by
   rcases AP.out false j hj with h | ⟨x,hx,y,hy,hR,rfl⟩
   ·have E:=(HW.out.way.each a ha).lt _ (Or.inl rfl)
    have o:=(HW.out.way.each a ha).lt _ (Or.inr (Or.inl rfl))
    have:=U.out
    omega
   ·exact (Ag.out x hx y hy hR).2.2 a ha))
  clear A0
  refine wp_region_held_drew (S:=fun w'=>∀j,j<c.heap.size→j≠bw→(Value.slice qv A.length z).ownBlock≠some j→w'.heap[j]? =c.heap[j]?) (by kernel_rfl) (fun _ _ _ _=>rfl) (fun hHeld=>?_)
  generalize c.drew=x9 at *
  refine tK 0 ?_
  refine tK 1 ?_
  refine tK 2 ?_
  refine tQ 4 ?_ ?_ ?_
  rotate_left
  ·intro w' hSw
   refine Eq.trans (b:=Result.ok (Next.value (.agg (MSt.mk k I H O L ⟨W,Y,Z,J⟩ M i f false).cells.toArray)) w') ?_ ?_
   ·exact x0A 101 (.tmp 12) (by rfl) bs 0 (by rfl) (MSt.mk k I H O L ⟨W,Y,Z,J⟩ M i f false).cells ds (x6j ((hSw bs (yL A7.out) AB.out.1 AB.out.2).trans A7.out)) Bc.out B8.out (by rw [MSt.cells_length (m:=(MSt.mk k I H O L ⟨W,Y,Z,J⟩ M i f false)) X.out];exact SSp)
   ·with_reducible rfl
  refine rY [3,5] ?_
  refine rC (fun K hK=>?_) (rC (fun K hK=>?_) AllReadyH.nil)
  ·
   have AY:x9.cell? ⟨bw,0,none⟩=some (.slice qv A.length z):=cell_of_row x9 bw 0 _ _ _ A5.out.box
   go_simp
   refine hK.out _ _ hHeld (fun hHeld=>?_)
   clear hK K
   try simp only [Act.put,yA,yB,yC]
   refine rO 5 fun K hK=>?_
   have AU:∀j,j<c.heap.size→j≠bw→(Value.slice qv A.length z).ownBlock≠some j→(x9.alloc (.cells (MSt.mk k I H O L ⟨W,Y,Z,J⟩ M i f false).cells.toArray 101)).heap[j]? =c.heap[j]? :=fun j E o h3=>(((Below.refl x9.heap.size x9).alloc (Nat.le_refl _) (.cells (MSt.mk k I H O L ⟨W,Y,Z,J⟩ M i f false).cells.toArray 101)).block j (Nat.lt_of_lt_of_le E G.out.1)).trans (G.out.2 j E)
   refine x0y (.tmp 64) (by rfl) (m:=(MSt.mk k I H O L ⟨W,Y,Z,J⟩ M i f false)) X.out (by rfl) ?_
   refine hK.out _ _ AU (fun hHeld=>?_)
   clear hK K
   try simp only [Act.put,yA,yB,yC]
   refine rO 6 fun K hK=>?_
   refine x0z A5.out (m:=(MSt.mk k I H O L ⟨W,Y,Z,J⟩ M i f false)) X.out (.tmp 63) (.tmp 65) (by rfl) (by rfl) (by rfl) HA.out ?_
   intro q7 c7 w7 hown7 hg7 hat7
   obtain ⟨AK,s,A4⟩:=x38 A5.out AZ.out AQ.out hown7 hg7 hat7 AN.out AO.out
   have Aa:=yH AK
   have AJ:=yH s
   have AH:=yH A4
   have AW:=yH hat7
   have AV:∀j,j<c.heap.size→j≠bw→(Value.slice qv A.length z).ownBlock≠some j→w7.heap[j]? =c.heap[j]? :=fun j E o h3=>(hg7.block j (by have:=G.out.1;simp;omega) (fun e=>h3 e.symm)).trans ((((Below.refl x9.heap.size x9).alloc (Nat.le_refl _) (.cells (MSt.mk k I H O L ⟨W,Y,Z,J⟩ M i f false).cells.toArray 101)).block j (Nat.lt_of_lt_of_le E G.out.1)).trans (G.out.2 j E))
   clear AK s A4 hown7 hg7 hat7
   refine hK.out _ _ AV (fun hHeld=>?_)
   clear hK K
   try simp only [Act.put,yA,yB,yC]
   refine tK 7 ?_
   refine rO 8 fun K hK=>?_
   have AY:w7.cell? ⟨bw,0,none⟩=some (.slice qv A.length z):=cell_of_row w7 bw 0 _ _ _ AH.out
   have BM:=frozen_of_row w7 bw 0 _ _ AH.out
   have AT:∀j,j<c.heap.size→j≠bw→(Value.slice qv A.length z).ownBlock≠some j→(w7.setCell ⟨bw,0,none⟩ (.slice q7 (A.length+1) c7)).heap[j]? =c.heap[j]? :=fun j E o h3=>(AJ.out.block j (Nat.lt_of_lt_of_le E G.out.1) (fun e=>e.elim o h3)).trans (G.out.2 j E)
   go_simp
   refine hK.out _ _ AT (fun hHeld=>?_)
   clear hK K
   try simp only [Act.put,yA,yB,yC]
   refine wpAnyH_done (by kernel_rfl) ?_ _
   have AI:=yH hHeld
   clear hHeld
   generalize w7.setCell ⟨bw,0,none⟩ (.slice q7 (A.length+1) c7)=w10 at *
   have A8:=yH (show ∃m,Met B bw w (.slice qv A.length z) A ⟨J,M,l,r,decide (0<C),.fork J M l r⟩ k.rows w10 m∧m=(MSt.mk k I H O L ⟨W,Y,Z,J⟩ M i f false) from ⟨(MSt.mk k I H O L ⟨W,Y,Z,J⟩ M i f false),⟨_,Aa.out,⟨rfl,rfl,Ab.out.symm,Ad.out.symm,decide_eq_false AX.out,HE.out.symm⟩,AR.out.trans AJ.out,by
    rcases AW.out with h | h
    ·exact Or.inl h
    ·exact Or.inr ⟨_,h,by have:=AF.out;have:=G.out.1;omega⟩,by have E:=Ah.out;have o:=U.out;exact ⟨Nat.le_trans (Nat.le_of_lt o.1) E.1,Nat.le_trans (Nat.le_of_lt o.1) E.2,fun j hj=>(AP.out false j hj).imp (fun h=>Nat.le_trans (Nat.le_of_lt o.1) h) id⟩⟩,rfl⟩)
   have AE:=yH ((AI.out _ (Nat.lt_of_lt_of_le (yL AD.out) Q.out.size) AM.out.1 AM.out.2).trans ((Q.out.block _ (yL AD.out) AS.out).trans AD.out))
   have AG:=yH ((AI.out bs (yL A7.out) AB.out.1 AB.out.2).trans A7.out)
   by_cases h0:C=0
   ·have Aj:(C==0)=true:=by simpa using h0
    have H0:=yH h0
    clear h0
    go_wp2_with fail
    go_ret2
    obtain ⟨m,hm,rfl⟩:=A8.out
    exact ⟨_,hm,by unfold onTo;rw [if_pos H0.out];rfl⟩
   ·have Aj:(C==0)=false:=by simpa using h0
    have H0:=yH h0
    clear h0
    have BE:=cell_of_row w10 w3.heap.size 2 _ _ _ AE.out
    have Ar:w10.cell? ⟨bs,40,none⟩=some (.int .i64 0):=(cell_of_row w10 bs 40 _ _ _ AG.out).trans (x2S (MSt.mk k I H O L ⟨W,Y,Z,J⟩ M i f false) X.out)
    go_wp2_with fail
    go_ret2
    obtain ⟨m,hm,rfl⟩:=A8.out
    exact ⟨_,hm,by unfold onTo;rw [if_neg H0.out];rfl⟩
  ·
   have AU:∀j,j<c.heap.size→j≠bw→(Value.slice qv A.length z).ownBlock≠some j→(x9.alloc (.cells (MSt.mk k I H O L ⟨W,Y,Z,J⟩ M i f false).cells.toArray 101)).heap[j]? =c.heap[j]? :=fun j E o h3=>(((Below.refl x9.heap.size x9).alloc (Nat.le_refl _) (.cells (MSt.mk k I H O L ⟨W,Y,Z,J⟩ M i f false).cells.toArray 101)).block j (Nat.lt_of_lt_of_le E G.out.1)).trans (G.out.2 j E)
   refine x0y (.tmp 64) (by rfl) (m:=(MSt.mk k I H O L ⟨W,Y,Z,J⟩ M i f false)) X.out (by rfl) ?_
   refine hK.out _ _ AU (fun hHeld=>?_)
   clear hK K
   try simp only [Act.put,yA,yB,yC]
   refine rO 3 fun K hK=>?_
   have AY:(x9.alloc (.cells (MSt.mk k I H O L ⟨W,Y,Z,J⟩ M i f false).cells.toArray 101)).cell? ⟨bw,0,none⟩=some (.slice qv A.length z):=cell_of_row _ bw 0 _ _ _ (A5.out.later ((Below.refl _ _).alloc (Nat.le_refl _) _)).box
   go_simp
   refine hK.out _ _ hHeld (fun hHeld=>?_)
   clear hK K
   try simp only [Act.put,yA,yB,yC]
   refine rO 6 fun K hK=>?_
   refine x0z A5.out (m:=(MSt.mk k I H O L ⟨W,Y,Z,J⟩ M i f false)) X.out (.tmp 63) (.tmp 65) (by rfl) (by rfl) (by rfl) HA.out ?_
   intro q7 c7 w7 hown7 hg7 hat7
   obtain ⟨AK,s,A4⟩:=x38 A5.out AZ.out AQ.out hown7 hg7 hat7 AN.out AO.out
   have Aa:=yH AK
   have AJ:=yH s
   have AH:=yH A4
   have AW:=yH hat7
   have AV:∀j,j<c.heap.size→j≠bw→(Value.slice qv A.length z).ownBlock≠some j→w7.heap[j]? =c.heap[j]? :=fun j E o h3=>(hg7.block j (by have:=G.out.1;simp;omega) (fun e=>h3 e.symm)).trans ((((Below.refl x9.heap.size x9).alloc (Nat.le_refl _) (.cells (MSt.mk k I H O L ⟨W,Y,Z,J⟩ M i f false).cells.toArray 101)).block j (Nat.lt_of_lt_of_le E G.out.1)).trans (G.out.2 j E))
   clear AK s A4 hown7 hg7 hat7
   refine hK.out _ _ AV (fun hHeld=>?_)
   clear hK K
   try simp only [Act.put,yA,yB,yC]
   refine tK 7 ?_
   refine rO 8 fun K hK=>?_
   have AY:w7.cell? ⟨bw,0,none⟩=some (.slice qv A.length z):=cell_of_row w7 bw 0 _ _ _ AH.out
   have BM:=frozen_of_row w7 bw 0 _ _ AH.out
   have AT:∀j,j<c.heap.size→j≠bw→(Value.slice qv A.length z).ownBlock≠some j→(w7.setCell ⟨bw,0,none⟩ (.slice q7 (A.length+1) c7)).heap[j]? =c.heap[j]? :=fun j E o h3=>(AJ.out.block j (Nat.lt_of_lt_of_le E G.out.1) (fun e=>e.elim o h3)).trans (G.out.2 j E)
   go_simp
   refine hK.out _ _ AT (fun hHeld=>?_)
   clear hK K
   try simp only [Act.put,yA,yB,yC]
   refine wpAnyH_done (by kernel_rfl) ?_ _
   have AI:=yH hHeld
   clear hHeld
   generalize w7.setCell ⟨bw,0,none⟩ (.slice q7 (A.length+1) c7)=w10 at *
   have A8:=yH (show ∃m,Met B bw w (.slice qv A.length z) A ⟨J,M,l,r,decide (0<C),.fork J M l r⟩ k.rows w10 m∧m=(MSt.mk k I H O L ⟨W,Y,Z,J⟩ M i f false) from ⟨(MSt.mk k I H O L ⟨W,Y,Z,J⟩ M i f false),⟨_,Aa.out,⟨rfl,rfl,Ab.out.symm,Ad.out.symm,decide_eq_false AX.out,HE.out.symm⟩,AR.out.trans AJ.out,by
    rcases AW.out with h | h
    ·exact Or.inl h
    ·exact Or.inr ⟨_,h,by have:=AF.out;have:=G.out.1;omega⟩,by have E:=Ah.out;have o:=U.out;exact ⟨Nat.le_trans (Nat.le_of_lt o.1) E.1,Nat.le_trans (Nat.le_of_lt o.1) E.2,fun j hj=>(AP.out false j hj).imp (fun h=>Nat.le_trans (Nat.le_of_lt o.1) h) id⟩⟩,rfl⟩)
   have AE:=yH ((AI.out _ (Nat.lt_of_lt_of_le (yL AD.out) Q.out.size) AM.out.1 AM.out.2).trans ((Q.out.block _ (yL AD.out) AS.out).trans AD.out))
   have AG:=yH ((AI.out bs (yL A7.out) AB.out.1 AB.out.2).trans A7.out)
   by_cases h0:C=0
   ·have Aj:(C==0)=true:=by simpa using h0
    have H0:=yH h0
    clear h0
    go_wp2_with fail
    go_ret2
    obtain ⟨m,hm,rfl⟩:=A8.out
    exact ⟨_,hm,by unfold onTo;rw [if_pos H0.out];rfl⟩
   ·have Aj:(C==0)=false:=by simpa using h0
    have H0:=yH h0
    clear h0
    have BE:=cell_of_row w10 w3.heap.size 2 _ _ _ AE.out
    have Ar:w10.cell? ⟨bs,40,none⟩=some (.int .i64 0):=(cell_of_row w10 bs 40 _ _ _ AG.out).trans (x2S (MSt.mk k I H O L ⟨W,Y,Z,J⟩ M i f false) X.out)
    go_wp2_with fail
    go_ret2
    obtain ⟨m,hm,rfl⟩:=A8.out
    exact ⟨_,hm,by unfold onTo;rw [if_neg H0.out];rfl⟩
end Go.Proofs.YtinihaflmdihaaaGreat.Kt
