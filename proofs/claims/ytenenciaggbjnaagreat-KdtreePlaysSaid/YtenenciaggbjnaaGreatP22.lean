/- KdMeetF, KdDownV, KdWrong. -/
import Derived.Test.YtenenciaggbjnaaGreatP21
set_option maxRecDepth 100000
set_option maxHeartbeats 8000000
set_option linter.all false
namespace Go.Proofs.YtenenciaggbjnaaGreat
namespace Kt
open Go.RowKit Nd Dk Pg
open List renaming setIfInBounds_toArray -> yA, set_cons_zero -> yB, set_cons_succ -> yC
def onTo (C:Int) (m:MSt):Value:=if C=0 then .pointer none else .pointer (some ⟨m.gk,37*m.sideN,none⟩)
theorem x9U (k:Kd):k.cells=vals k.sum++[.slice k.lo.p k.lo.n k.lo.c,.slice k.hi.p k.hi.n k.hi.c,.int .i64 k.live,.int .i64 k.size,.slice k.key.p k.key.n k.key.c]:=rfl
theorem y1R (k:Kd) (hk:k.sum.length=32) (ge gk ce ck:Nat) (row:Rw) (lv:Bool) (k1 k2:Kd):Tryz.prog.built 117 [(0,.agg k.cells.toArray),(1,.agg #[.int .u8 1,.slice (some ⟨ge,0,none⟩) 1 ce,.slice (some ⟨gk,0,none⟩) 2 ck])]=some (MSt.mk k ge ce gk ck row lv k1 k2 false).cells.toArray:=by
 rw [x9U];exact y33 _ _ _ _ _ _ _ _ _ _ _ _ _ _ _ k.sum hk
theorem y7T (m:MSt) (h:m.kid.sum.length=32):({m with side:=false}:MSt).cells.toArray.setIfInBounds 40 (.int .i64 1)=({m with side:=true}:MSt).cells.toArray:=by
 have A:=Kd.cells_length h;unfold MSt.cells;apply Array.ext';simp only [List.setIfInBounds_toArray];rw [List.set_append_right _ _ (by rw [A];omega),A];rfl
theorem x6B (m:MSt) (h:m.kid.sum.length=32):m.cells.toArray[40]? =some (.int .i64 m.sideN):=by
 have A:=Kd.cells_length h;unfold MSt.cells;simp only [List.getElem?_toArray];rw [kS (by rw [A];omega),A];rfl
theorem x7r {w:World} {g:Nat} {cs:List Value} {t:TypeId} (h:w.heap[g]? =some (.cells cs.toArray t (0,0))):w.rangeAt g 0 cs:=fun j v hv=>by
 rw [Nat.zero_add,jH w g j _ _ _ h]
 simpa using hv
theorem y35 {g B bw d:Nat} {v:Value} {A:List MSt} {q:List Int} {lv:Bool} {l r:V} (hd:1<=d/\d<=8) (k:Kd) (ga oa:Nat) (p:Rw) (w:World) (hg:NodeGood g k d (forkN q lv l.kid r.kid) w) (he:k.pk=(V.fork q lv l r).kid) (hsz:1<=k.pk.size) (hk:k.Ok w) (hkr:w.rangeAt ga oa k.cells) (hka:∀x∈k.rows,x4D bw v A x) (hw:WaySt B bw w v A) (hB:B<=w.heap.size) (hp:p.Ok w) (hpd:p.n=d) (hqd:q.length=d) (hA:A.length<=100000):
  Calls Tryz.prog 193 #[.agg #[.pointer (some ⟨g,0,none⟩),.int .i64 d],.pointer (some ⟨bw,0,none⟩),.pointer (some ⟨ga,oa,none⟩),p.val] w fun e w'=>∃m,Met B bw w v A ⟨q,lv,l,r,decide (0<ordC (A.length%d) p.R q),.fork q lv l r⟩ k.rows w' m/\e= .returned (.tuple #[onTo (ordC (A.length%d) p.R q) m,.int .i64 0]):=by
 have b1:=jA w (.cells #[.pointer (some ⟨g,0,none⟩),.int .i64 d] 107);have r1:=jE w (.cells #[.pointer (some ⟨g,0,none⟩),.int .i64 d] 107);have Bk:k.pk≠PK.none:=fun e=>by rw [e] at hsz;exact absurd hsz (by decide)
 have HG:=yH (x8l k ga oa _ (hk.later b1) (x01 hkr b1) Bk (hg.later b1) rfl);have HE:=yH he;have HK:=yH hk;have C9:=yH hkr;have Aa:=yH hka;have CI:=yH (show ∀x∈k.rows,∀y,x.p=some y->x.R≠[]->y.block<w.heap.size from fun x hx=>rw_lt (x06 hk x hx));have CA:=yH (Kd.cells_length hk.len);have HW:=yH hw;have Au:=yH hB;have C4:=yH hp;have BZ:=yH hpd;have CN:=yH hqd;have BJ:=yH hd;have HA:=yH hA;obtain ⟨qv,cv,rfl⟩:=x1x hw.own;obtain ⟨pp,pn,pc,pR⟩:=p;unfold Rw.val;simp only at BZ ⊢;generalize hCC:ordC (A.length%d) pR q=C;have CD:=yH hCC;clear hCC;obtain ⟨du,Bq,BT⟩:=UTr;obtain ⟨dk,BR,B7⟩:=UKd;obtain ⟨dn,Bf,B6⟩:=UNo;obtain ⟨ds,hds,B2⟩:=USp;have BO:=yH Bq;have BX:=yH BT;have CG:=yH BR;have Bm:=yH B7;have CC:=yH Bf;have By:=yH B6;have Bh:=yH hds;have B8:=yH B2;have R1:=yH r1;have BS:=yH (x09 r1);have B1:=yH b1;have HZ:=yH (zero_of_info spz);clear Bk hd hg he hsz hk hkr hka hw hB hp hpd hqd hA b1 r1 Bq BT BR B7 Bf B6 hds B2
 go_enter Tryz.func193,Tryz.ntmps193
 go_upto_region 1 with fail
 generalize w.alloc (.cells #[.pointer (some ⟨g,0,none⟩),.int .i64 d] 107)=w1 at *;go_upto_region 2 with (first
  | (refine jK (by rfl) 107 _ (by rfl) w.heap.size 0 (by rfl) [.pointer (some ⟨g,0,none⟩),.int .i64 d] du BS BO BX STr ?_)
  | (go_at_call 145;refine HG.mono ?_;rintro _ w3 ⟨pe,ne,H,pk,nk,I,EE,KK,Ce,rfl,Bn,Bl,b3⟩;have Bo:=yH Bn;have BB:=yH Bl;have B3:=yH b3;clear b3 Bn Bl)
  | (refine jL (by rfl) 97 (.tmp 10) _ (by rfl) w3.heap.size #[.int .u8 1,.slice pe ne H,.slice pk nk I] (by rfl) (by rfl) _ _ (jE w3 _) SNo rfl (x2v 1 pe ne H pk nk I) ?_;rw [x03]))
 obtain ⟨e,c,f,rfl,rfl,hR,Bt,BQ,Be⟩:=x69 Bo.out;obtain ⟨rfl,rfl,G,J,rfl,rfl,CH,Bb,Ba,Bp,BV,Bw,Ab,CB⟩:=x29 BB.out;have HM:=yH (y31 BB ((HK.later B1).later B3.out) (fun x hx y hy hR=>jO (CI.out x hx y hy hR) B1.size));obtain ⟨⟨X,Y,Z,L⟩,O⟩:=e;simp only at hR Bt HM;subst hR Bt;have At:=jA w3 (.cells #[.int .u8 1,.slice (some ⟨G,0,none⟩) 1 H,.slice (some ⟨J,0,none⟩) 2 I] 97);have BE:=jE w3 (.cells #[.int .u8 1,.slice (some ⟨G,0,none⟩) 1 H,.slice (some ⟨J,0,none⟩) 2 I] 97);have BW:(w3.alloc (.cells #[.int .u8 1,.slice (some ⟨G,0,none⟩) 1 H,.slice (some ⟨J,0,none⟩) 2 I] 97)).heap.size=w3.heap.size+1:=by simp
 generalize w3.alloc (.cells #[.int .u8 1,.slice (some ⟨G,0,none⟩) 1 H,.slice (some ⟨J,0,none⟩) 2 I] 97)=w4 at *;have B4:=yH (B1.trans ((B3.trans (At.mono B3.size)).mono B1.size));have Aq:=yH (show ∀side,(MSt.mk k G H J I ⟨X,Y,Z,L⟩ O c f side).Ok w4 from fun side=>(HM.out side).1.later At);have AL:=yH (show ∀side j,(MSt.mk k G H J I ⟨X,Y,Z,L⟩ O c f side).reads j->w1.heap.size<=j\/∃r∈k.rows,∃x,r.p=some x/\r.R≠[]/\j=x.block from fun side=>(HM.out side).2.2.2);have Af:=yH (show w1.heap.size<=G/\w1.heap.size<=J from ⟨(HM.out false).2.1,(HM.out false).2.2.1⟩);have Bi:=yH BE;have Ae:=yH BQ;have Ag:=yH Be;have Ac:=yH (show w.heap.size<w1.heap.size/\w1.heap.size<=w3.heap.size/\w4.heap.size=w3.heap.size+1 from ⟨(yL R1),B3.size,BW⟩);have C8:=yH (((B3.trans (At.mono B3.size)).block _ (yL R1)).trans R1.out);have c0:=jH w4 w3.heap.size 0 _ _ _ BE;clear CH Bb Ba Bp BV Bw Ab CB At BE BW BQ Be BB Bo HM HG R1 BS;go_upto_region 7 with fail
 clear c0;have BY:=yH (x01 C9 B4);have CM:=yH (x47 Bi);have i:=yH HK.len;refine kD (S:=fun w'=>Below w4.heap.size w4 w') (by kernel_rfl) ((jC _ _).drew) (fun hH=>?_);generalize w4.drew=x0 at *;have C7:=HZ.1;refine tK 0 ?_;refine tK 1 ?_;refine tQ 2 ?_ ?_ ?_;rotate_left
 ·intro w' hSw;refine Eq.trans (b:=Result.ok (Next.value (.agg k.cells.toArray)) w') ?_ ?_
  ·exact x0F 34 (.tmp 40) (by rfl) ga oa (by rfl) k.cells dk (x01 BY hSw) CG Bm (by rw [CA.out];exact SKd)
  ·with_reducible rfl
 refine tQ 3 ?_ ?_ ?_;rotate_left
 ·intro w' hSw;refine Eq.trans (b:=Result.ok (Next.value (.agg #[.int .u8 1,.slice (some ⟨G,0,none⟩) 1 H,.slice (some ⟨J,0,none⟩) 2 I])) w') ?_ ?_
  ·exact x0F 97 (.tmp 10) (by rfl) w3.heap.size 0 (by rfl) [.int .u8 1,.slice (some ⟨G,0,none⟩) 1 H,.slice (some ⟨J,0,none⟩) 2 I] dn (x01 CM hSw) CC By SNo
  ·with_reducible rfl
 refine tQ 4 ?_ ?_ ?_;rotate_left
 ·intro w' hSw;refine Eq.trans (b:=Result.ok (Next.value (.agg (MSt.mk k G H J I ⟨X,Y,Z,L⟩ O c f false).cells.toArray)) w') ?_ ?_
  ·apply x1A (t:=117) (parts:= #[(0,.tmp 41),(1,.tmp 42)])
   ·rfl
   ·simp only [kA,kB,kC];exact y1R k i G J H I ⟨X,Y,Z,L⟩ O c f
  ·with_reducible rfl
 refine rO 5 fun K hK=>?_;go_simp;have ba:=jA x0 (.cells sp0.toArray 117);have Bc:=hH.trans (ba.mono hH.size);have RS:=yH (jE x0 (.cells sp0.toArray 117));have BC:=yH hH.size;clear ba;try go_wp2_with fail
 refine hK.out _ _ Bc (fun hH=>?_);clear hK K;try simp only [Act.put,yA,yB,yC]
 generalize x0.alloc (.cells sp0.toArray 117)=x1 at *;refine rO 6 fun K hK=>?_;refine wp_store_row 117 (.tmp 12) (.tmp 43) (by rfl) x0.heap.size (MSt.mk k G H J I ⟨X,Y,Z,L⟩ O c f false).cells.toArray (by rfl) (by rfl) _ _ RS (by rw [jF,MSt.cells_length i.out];exact SSp) (by simp only [jF,MSt.cells_length (m:=(MSt.mk k G H J I ⟨X,Y,Z,L⟩ O c f false)) i,y4k]) (jN MSt.one) ?_;have hS:=Below.setRow hH BC (MSt.mk k G H J I ⟨X,Y,Z,L⟩ O c f false).cells.toArray;have RB:=yH (jT _ _ _ (MSt.mk k G H J I ⟨X,Y,Z,L⟩ O c f false).cells.toArray _ _ RS);refine hK.out _ _ hS (fun hH=>?_);clear hK K;try simp only [Act.put,yA,yB,yC]
 generalize x1.setRow x0.heap.size (MSt.mk k G H J I ⟨X,Y,Z,L⟩ O c f false).cells.toArray=w5 at *;refine jD ?_;have B5:=yH hH;have B0:=yH (show w4.heap.size<=x0.heap.size from BC.out);obtain ⟨bs,Bj⟩:∃b,x0.heap.size=b:=⟨_,rfl⟩
 rw [Bj] at RB B0 ⊢;clear Bj RS hS Bc BC hH C7;go_upto_region 8 with fail
 have Ap:=yH (B4.trans (B5.mono B4.size));have Ax:=yH (HW.later Ap);have Bs:=yH (yK B5 C8);have Az:=yH (yK B5 Bi);have An:=yH (fun side=>(Aq.out side).later B5.out);have Bv:=yH (C4.later Ap);have AC:=yH B5.size;have Am:=yH B5.block;have z:=yH (show w5.os=w4.os/\w5.tape=w4.tape/\w5.output=w4.output from ⟨B5.os,B5.tape,B5.output⟩);refine kD (S:=fun w'=>Below w5.heap.size w5 w') (by kernel_rfl) ((jC _ _).drew) (fun hH=>?_);generalize w5.drew=x5 at *;refine tQ 0 ?_ ?_ ?_;rotate_left
 ·intro w' hSw;refine Eq.trans (b:=Result.ok (Next.value (.agg #[.pointer (some ⟨g,0,none⟩),.int .i64 d])) w') ?_ ?_
  ·exact x0F 107 (.tmp 4) (by rfl) w.heap.size 0 (by rfl) [.pointer (some ⟨g,0,none⟩),.int .i64 d] du (x01 (x09 Bs) hSw) BO BX STr
  ·with_reducible rfl
 refine tK 1 ?_;refine tK 2 ?_;refine tQ 3 ?_ ?_ ?_;rotate_left
 ·intro w' hSw;have y:w'.cell? ⟨bw,0,none⟩=some (.slice qv A.length cv):=(hSw.cell (jI (jH w5 bw 0 _ _ _ Ax.box))).trans (jH w5 bw 0 _ _ _ Ax.box);go_simp;try with_reducible rfl
 refine tK 4 ?_;refine tK 6 ?_;refine tK 7 ?_;refine tQ 8 ?_ ?_ ?_;rotate_left
 ·intro w' hSw;have y:w'.cell? ⟨w3.heap.size,1,none⟩=some (.slice (some ⟨G,0,none⟩) 1 H):=(hSw.cell (jI (jH w5 w3.heap.size 1 _ _ _ Az))).trans (jH w5 w3.heap.size 1 _ _ _ Az);go_simp;try with_reducible rfl
 refine tK 9 ?_;refine tK 10 ?_;refine tQ 11 ?_ ?_ ?_;rotate_left
 ·intro w' hSw;have y:w'.cell? ⟨G,0,none⟩=some (.slice X Y Z):=(hSw.cell (jI ((An.out false).ent 0 _ rfl))).trans ((An.out false).ent 0 _ rfl);go_simp;try with_reducible rfl
 refine rO 5 fun K hK=>?_;go_simp;refine (x5p (some ⟨g,0,none⟩) d A.length _ (by have:=BJ.out;omega) (by have:=HA.out;omega)).mono ?_;rintro _ x6 ⟨gf,rfl,CF,C0,hb⟩;have As:=hH.trans (hb.mono hH.size);have Bz:=yH C0;have BL:=yH (Bv.later As);have Ay:=yH ((An.out false).row.later As);clear hb C0 CF;try go_wp2_with fail
 refine hK.out _ _ As (fun hH=>?_);clear hK K;try simp only [Act.put,yA,yB,yC]
 refine rO 12 fun K hK=>?_;go_simp;refine (x6r pp X pn pc Y Z pR L (A.length%d) gf x6 BL.ints Ay.ints (by rw [BZ.out];exact Nat.mod_lt _ (by have:=BJ.out;omega)) (by have E:=Ay.ints.size;have s:=CN.out;simp only at E;rw [E,s];exact Nat.mod_lt _ (by have:=BJ.out;omega)) BL.top Ay.top Bz).mono ?_;rintro _ x7 ⟨rfl,jj,Bg⟩;have Bu:Below w5.heap.size w5 x7:=by rw [Bg];exact Below.drewN hH _
 rw [CD.out];clear Bg;try go_wp2_with fail
 refine hK.out _ _ Bu (fun hH=>?_);clear hK K;try simp only [Act.put,yA,yB,yC]
 refine tK 13 ?_;refine jD ?_;have o:=yH hH;clear hH BL Ay Bz As Bu;have Ch:=yH (Ax.later o);have AF:=yH (yK o Az);have Cj:=yH (fun side=>(An.out side).later o.out);have Cc:=yH (Ap.trans (o.mono Ap.size));have Ao:=yH (yK o RB);have Av:=yH (show w4.heap.size<=bs/\bs<x7.heap.size from ⟨B0.out,(yL Ao)⟩);clear Ax Az An Bv Bs B5 Ap RB;by_cases E:0<C
 focus
  have BK:C>0:=E;have Al:=yH E;have B9:¬C=0:=by omega
  have Ab:(C==0)=false:=by simpa using B9
  have C6:x7.cell? ⟨bs,40,none⟩=some (.int .i64 0):=(jH x7 bs 40 _ _ _ Ao).trans (x6B (MSt.mk k G H J I ⟨X,Y,Z,L⟩ O c f false) i);have CO:=jS x7 bs 40 _ _ Ao;go_upto_region 11 with fail
  have BI:=jU x7 bs 40 _ _ (.int .i64 1) Ao;rw [y7T (MSt.mk k G H J I ⟨X,Y,Z,L⟩ O c f true) i.out] at BI;have Bd:Only (fun j=>j=bs) x7 (x7.setCell ⟨bs,40,none⟩ (.int .i64 1)):=Only.setCell (P:=fun j=>j=bs) x7 (a:=⟨bs,40,none⟩) rfl _;have A8:=yH BI;have Q:=yH Bd;clear BI Bd C6 CO BK B9 E;generalize x7.setCell ⟨bs,40,none⟩ (.int .i64 1)=W at *;have A5:=yH (show bw<w.heap.size/\∀j,(Value.slice qv A.length cv).ownBlock=some j->j<w.heap.size from ⟨(yL HW.box),fun j e=>(HW.own.lt j e).2⟩);have M:=yH (show w.heap.size<w1.heap.size/\w1.heap.size<=w3.heap.size/\w4.heap.size=w3.heap.size+1/\w4.heap.size<=bs/\bs<x7.heap.size from ⟨Ac.1,Ac.2.1,Ac.2.2,Av.1,Av.2⟩);have AB:=yH (show bs≠bw/\(Value.slice qv A.length cv).ownBlock≠some bs from ⟨by have:=A5.1;have:=M.out;omega,fun e=>by have:=A5.2 _ e;have:=M.out;omega⟩);have AM:=yH (show w3.heap.size≠bw/\(Value.slice qv A.length cv).ownBlock≠some w3.heap.size from ⟨by have:=A5.1;have:=M.out;omega,fun e=>by have:=A5.2 _ e;have:=M.out;omega⟩);have AO:=yH (show w3.heap.size≠bs by have:=M.out;omega);have U:=yH (show W.heap.size<=W.drew.heap.size/\∀j,j<W.heap.size->W.drew.heap[j]? =W.heap[j]? from ⟨jB _,fun _ _=>rfl⟩);have AE:=yH (show w.heap.size<=W.heap.size by have:=Q.size;have:=M.out;omega);have u:∀j,j<w4.heap.size->W.drew.heap[j]? =w4.heap[j]? :=fun j hj=>(Q.block j (by have:=M.out;omega) (by have:=M.out;omega)).trans ((o.block j (by have E:=AC.out;omega)).trans (Am.out j hj));have A6:=yH (show WaySt B bw W.drew (.slice qv A.length cv) A from (HW.later B4).later ⟨(Q.os.trans o.os).trans z.1,(Q.tape.trans o.tape).trans z.2.1,(Q.output.trans o.output).trans z.2.2,by have h3:=Q.size;have s:=o.size;have E:=AC.out;exact jJ E (jJ s h3),u⟩);have AX:=yH (show (MSt.mk k G H J I ⟨X,Y,Z,L⟩ O c f true).Ok W.drew from (Aq.out true).keep fun j hj=>u j ((Aq.out true).lt j hj));have AP:=yH (show Only (fun k=>k=bw\/(Value.slice qv A.length cv).ownBlock=some k) w W.drew from (Only.of_below _ B4).trans ⟨(Q.os.trans o.os).trans z.1,(Q.tape.trans o.tape).trans z.2.1,(Q.output.trans o.output).trans z.2.2,by have h3:=Q.size;have s:=o.size;have E:=AC.out;exact jJ E (jJ s h3),fun j hj _=>u j hj⟩);have AN:=yH (show B<=W.drew.heap.size from jJ Au AE);have AT:=yH (show ∀j,(MSt.mk k G H J I ⟨X,Y,Z,L⟩ O c f true).reads j->j≠bw/\(Value.slice qv A.length cv).ownBlock≠some j from fun j hj=>by
   rcases AL.out true j hj with h | ⟨x,hx,y,hy,hR,rfl⟩
   ·exact ⟨by have:=A5.1;have:=M.out;omega,fun e=>by have:=A5.2 _ e;have:=M.out;omega⟩
   ·exact ⟨(Aa.out x hx y hy hR).1,(Aa.out x hx y hy hR).2.1⟩)
  have AR:=yH (show WayM B W.drew (A++[(MSt.mk k G H J I ⟨X,Y,Z,L⟩ O c f true)]) from A6.way.snoc AX (N:=w.heap.size) Au (fun a ha j hj=>(HW.way.each a ha).lt j hj) (by have E:=Af.out;have s:=M.out;exact ⟨jJ (Nat.le_of_lt s.1) E.1,jJ (Nat.le_of_lt s.1) E.2⟩) (fun a ha j hj=>by
   rcases AL.out true j hj with h | ⟨x,hx,y,hy,hR,rfl⟩
   ·have E:=(HW.way.each a ha).lt _ (Or.inl rfl);have s:=(HW.way.each a ha).lt _ (Or.inr (Or.inl rfl));have:=M.out;omega
   ·exact (Aa.out x hx y hy hR).2.2 a ha))
  clear u;refine kD (S:=fun w'=>∀j,j<W.heap.size->j≠bw->(Value.slice qv A.length cv).ownBlock≠some j->w'.heap[j]? =W.heap[j]?) (by kernel_rfl) (fun _ _ _ _=>rfl) (fun hH=>?_);generalize W.drew=x9 at *;refine tK 0 ?_;refine tK 1 ?_;refine tK 2 ?_;refine tQ 4 ?_ ?_ ?_;rotate_left
  ·intro w' hSw;refine Eq.trans (b:=Result.ok (Next.value (.agg (MSt.mk k G H J I ⟨X,Y,Z,L⟩ O c f true).cells.toArray)) w') ?_ ?_
   ·exact x0F 117 (.tmp 12) (by rfl) bs 0 (by rfl) (MSt.mk k G H J I ⟨X,Y,Z,L⟩ O c f true).cells ds (x7r ((hSw bs (yL A8) AB.1 AB.2).trans A8.out)) Bh B8 (by rw [MSt.cells_length (m:=(MSt.mk k G H J I ⟨X,Y,Z,L⟩ O c f true)) i.out];exact SSp)
   ·with_reducible rfl
  refine rY [3,5] ?_;refine rC (fun K hK=>?_) (rC (fun K hK=>?_) AllReadyH.nil)
  focus
   have AY:x9.cell? ⟨bw,0,none⟩=some (.slice qv A.length cv):=jH x9 bw 0 _ _ _ A6.box;go_simp;refine hK.out _ _ hH (fun hH=>?_);clear hK K;try simp only [Act.put,yA,yB,yC]
   refine rO 5 fun K hK=>?_;have AK:∀j,j<W.heap.size->j≠bw->(Value.slice qv A.length cv).ownBlock≠some j->(x9.alloc (.cells (MSt.mk k G H J I ⟨X,Y,Z,L⟩ O c f true).cells.toArray 117)).heap[j]? =W.heap[j]? :=fun j E s h3=>(((jC x9.heap.size x9).alloc (jB _) (.cells (MSt.mk k G H J I ⟨X,Y,Z,L⟩ O c f true).cells.toArray 117)).block j (jO E U.1)).trans (U.2 j E);refine x1M (.tmp 64) (by rfl) (m:=(MSt.mk k G H J I ⟨X,Y,Z,L⟩ O c f true)) i (by rfl) ?_;refine hK.out _ _ AK (fun hH=>?_)
  rotate_left
  focus
   have AK:∀j,j<W.heap.size->j≠bw->(Value.slice qv A.length cv).ownBlock≠some j->(x9.alloc (.cells (MSt.mk k G H J I ⟨X,Y,Z,L⟩ O c f true).cells.toArray 117)).heap[j]? =W.heap[j]? :=fun j E s h3=>(((jC x9.heap.size x9).alloc (jB _) (.cells (MSt.mk k G H J I ⟨X,Y,Z,L⟩ O c f true).cells.toArray 117)).block j (jO E U.1)).trans (U.2 j E);refine x1M (.tmp 64) (by rfl) (m:=(MSt.mk k G H J I ⟨X,Y,Z,L⟩ O c f true)) i (by rfl) ?_;refine hK.out _ _ AK (fun hH=>?_);clear hK K;try simp only [Act.put,yA,yB,yC]
   refine rO 3 fun K hK=>?_;have AY:(x9.alloc (.cells (MSt.mk k G H J I ⟨X,Y,Z,L⟩ O c f true).cells.toArray 117)).cell? ⟨bw,0,none⟩=some (.slice qv A.length cv):=jH _ bw 0 _ _ _ (A6.later (jA _ _)).box;go_simp;refine hK.out _ _ hH (fun hH=>?_)
  rotate_left
 rotate_left 2
 ·
  have BK:¬C>0:=E;have Al:=yH E;go_upto_region 11 with fail
  have A8:=yH Ao.out;clear E BK;obtain ⟨W,BA⟩:∃W,W=x7:=⟨_,rfl⟩
  have Q:=yH (show Only (fun j=>j=bs) x7 W from by rw [BA];exact Only.refl _ _);rw [<- BA] at A8 ⊢;clear BA;have A5:=yH (show bw<w.heap.size/\∀j,(Value.slice qv A.length cv).ownBlock=some j->j<w.heap.size from ⟨(yL HW.box),fun j e=>(HW.own.lt j e).2⟩);have M:=yH (show w.heap.size<w1.heap.size/\w1.heap.size<=w3.heap.size/\w4.heap.size=w3.heap.size+1/\w4.heap.size<=bs/\bs<x7.heap.size from ⟨Ac.1,Ac.2.1,Ac.2.2,Av.1,Av.2⟩);have AB:=yH (show bs≠bw/\(Value.slice qv A.length cv).ownBlock≠some bs from ⟨by have:=A5.1;have:=M.out;omega,fun e=>by have:=A5.2 _ e;have:=M.out;omega⟩);have AM:=yH (show w3.heap.size≠bw/\(Value.slice qv A.length cv).ownBlock≠some w3.heap.size from ⟨by have:=A5.1;have:=M.out;omega,fun e=>by have:=A5.2 _ e;have:=M.out;omega⟩);have AO:=yH (show w3.heap.size≠bs by have:=M.out;omega);have U:=yH (show W.heap.size<=W.drew.heap.size/\∀j,j<W.heap.size->W.drew.heap[j]? =W.heap[j]? from ⟨jB _,fun _ _=>rfl⟩);have AE:=yH (show w.heap.size<=W.heap.size by have:=Q.size;have:=M.out;omega);have u:∀j,j<w4.heap.size->W.drew.heap[j]? =w4.heap[j]? :=fun j hj=>(Q.block j (by have:=M.out;omega) (by have:=M.out;omega)).trans ((o.block j (by have E:=AC.out;omega)).trans (Am.out j hj));have A6:=yH (show WaySt B bw W.drew (.slice qv A.length cv) A from (HW.later B4).later ⟨(Q.os.trans o.os).trans z.1,(Q.tape.trans o.tape).trans z.2.1,(Q.output.trans o.output).trans z.2.2,by have h3:=Q.size;have s:=o.size;have E:=AC.out;exact jJ E (jJ s h3),u⟩);have AX:=yH (show (MSt.mk k G H J I ⟨X,Y,Z,L⟩ O c f false).Ok W.drew from (Aq.out false).keep fun j hj=>u j ((Aq.out false).lt j hj));have AP:=yH (show Only (fun k=>k=bw\/(Value.slice qv A.length cv).ownBlock=some k) w W.drew from (Only.of_below _ B4).trans ⟨(Q.os.trans o.os).trans z.1,(Q.tape.trans o.tape).trans z.2.1,(Q.output.trans o.output).trans z.2.2,by have h3:=Q.size;have s:=o.size;have E:=AC.out;exact jJ E (jJ s h3),fun j hj _=>u j hj⟩);have AN:=yH (show B<=W.drew.heap.size from jJ Au AE);have AT:=yH (show ∀j,(MSt.mk k G H J I ⟨X,Y,Z,L⟩ O c f false).reads j->j≠bw/\(Value.slice qv A.length cv).ownBlock≠some j from fun j hj=>by
   rcases AL.out false j hj with h | ⟨x,hx,y,hy,hR,rfl⟩
   ·exact ⟨by have:=A5.1;have:=M.out;omega,fun e=>by have:=A5.2 _ e;have:=M.out;omega⟩
   ·exact ⟨(Aa.out x hx y hy hR).1,(Aa.out x hx y hy hR).2.1⟩)
  have AR:=yH (show WayM B W.drew (A++[(MSt.mk k G H J I ⟨X,Y,Z,L⟩ O c f false)]) from A6.way.snoc AX (N:=w.heap.size) Au (fun a ha j hj=>(HW.way.each a ha).lt j hj) (by have E:=Af.out;have s:=M.out;exact ⟨jJ (Nat.le_of_lt s.1) E.1,jJ (Nat.le_of_lt s.1) E.2⟩) (fun a ha j hj=>by
   rcases AL.out false j hj with h | ⟨x,hx,y,hy,hR,rfl⟩
   ·have E:=(HW.way.each a ha).lt _ (Or.inl rfl);have s:=(HW.way.each a ha).lt _ (Or.inr (Or.inl rfl));have:=M.out;omega
   ·exact (Aa.out x hx y hy hR).2.2 a ha))
  clear u;refine kD (S:=fun w'=>∀j,j<W.heap.size->j≠bw->(Value.slice qv A.length cv).ownBlock≠some j->w'.heap[j]? =W.heap[j]?) (by kernel_rfl) (fun _ _ _ _=>rfl) (fun hH=>?_);generalize W.drew=x9 at *;refine tK 0 ?_;refine tK 1 ?_;refine tK 2 ?_;refine tQ 4 ?_ ?_ ?_;rotate_left
  ·intro w' hSw;refine Eq.trans (b:=Result.ok (Next.value (.agg (MSt.mk k G H J I ⟨X,Y,Z,L⟩ O c f false).cells.toArray)) w') ?_ ?_
   ·exact x0F 117 (.tmp 12) (by rfl) bs 0 (by rfl) (MSt.mk k G H J I ⟨X,Y,Z,L⟩ O c f false).cells ds (x7r ((hSw bs (yL A8) AB.1 AB.2).trans A8.out)) Bh B8 (by rw [MSt.cells_length (m:=(MSt.mk k G H J I ⟨X,Y,Z,L⟩ O c f false)) i.out];exact SSp)
   ·with_reducible rfl
  refine rY [3,5] ?_;refine rC (fun K hK=>?_) (rC (fun K hK=>?_) AllReadyH.nil)
  focus
   have AY:x9.cell? ⟨bw,0,none⟩=some (.slice qv A.length cv):=jH x9 bw 0 _ _ _ A6.box;go_simp;refine hK.out _ _ hH (fun hH=>?_);clear hK K;try simp only [Act.put,yA,yB,yC]
   refine rO 5 fun K hK=>?_;have AK:∀j,j<W.heap.size->j≠bw->(Value.slice qv A.length cv).ownBlock≠some j->(x9.alloc (.cells (MSt.mk k G H J I ⟨X,Y,Z,L⟩ O c f false).cells.toArray 117)).heap[j]? =W.heap[j]? :=fun j E s h3=>(((jC x9.heap.size x9).alloc (jB _) (.cells (MSt.mk k G H J I ⟨X,Y,Z,L⟩ O c f false).cells.toArray 117)).block j (jO E U.1)).trans (U.2 j E);refine x1M (.tmp 64) (by rfl) (m:=(MSt.mk k G H J I ⟨X,Y,Z,L⟩ O c f false)) i (by rfl) ?_;refine hK.out _ _ AK (fun hH=>?_);clear hK K;try simp only [Act.put,yA,yB,yC]
   refine rO 6 fun K hK=>?_;refine x1d A6 (m:=(MSt.mk k G H J I ⟨X,Y,Z,L⟩ O c f false)) i (.tmp 63) (.tmp 65) (by rfl) (by rfl) (by rfl) HA ?_;intro q7 c7 w7 hown7 hg7 hat7;obtain ⟨AH,A1,A7⟩:=x4h A6.out AX AN hown7 hg7 hat7 AR AT;have Ai:=yH AH;have AJ:=yH A1;have AI:=yH A7;have Aj:=yH hat7;have Ah:∀j,j<W.heap.size->j≠bw->(Value.slice qv A.length cv).ownBlock≠some j->w7.heap[j]? =W.heap[j]? :=fun j E s h3=>(hg7.block j (by have:=U.1;simp;omega) (fun e=>h3 e.symm)).trans ((((jC x9.heap.size x9).alloc (jB _) (.cells (MSt.mk k G H J I ⟨X,Y,Z,L⟩ O c f false).cells.toArray 117)).block j (jO E U.1)).trans (U.2 j E));clear AH A1 A7 hown7 hg7 hat7;refine hK.out _ _ Ah (fun hH=>?_);clear hK K;try simp only [Act.put,yA,yB,yC]
   refine tK 7 ?_;refine rO 8 fun K hK=>?_;have AY:w7.cell? ⟨bw,0,none⟩=some (.slice qv A.length cv):=jH w7 bw 0 _ _ _ AI;have BP:=jS w7 bw 0 _ _ AI;have Ad:∀j,j<W.heap.size->j≠bw->(Value.slice qv A.length cv).ownBlock≠some j->(w7.setCell ⟨bw,0,none⟩ (.slice q7 (A.length+1) c7)).heap[j]? =W.heap[j]? :=fun j E s h3=>(AJ.block j (jO E U.1) (fun e=>e.elim s h3)).trans (U.2 j E);go_simp;refine hK.out _ _ Ad (fun hH=>?_);clear hK K;try simp only [Act.put,yA,yB,yC]
   refine jD ?_;have AG:=yH hH;clear hH;generalize w7.setCell ⟨bw,0,none⟩ (.slice q7 (A.length+1) c7)=w10 at *;have AD:=yH (show ∃m,Met B bw w (.slice qv A.length cv) A ⟨L,O,l,r,decide (0<C),.fork L O l r⟩ k.rows w10 m/\m=(MSt.mk k G H J I ⟨X,Y,Z,L⟩ O c f false) from ⟨(MSt.mk k G H J I ⟨X,Y,Z,L⟩ O c f false),⟨_,Ai.out,⟨rfl,rfl,Ae.symm,Ag.symm,kE Al.out,HE.symm⟩,AP.trans AJ,by
    rcases Aj.out with h | h
    ·exact Or.inl h
    ·exact Or.inr ⟨_,h,by have:=AE.out;have:=U.1;omega⟩,by have E:=Af.out;have s:=M.out;exact ⟨jJ (Nat.le_of_lt s.1) E.1,jJ (Nat.le_of_lt s.1) E.2,fun j hj=>(AL.out false j hj).imp (fun h=>jJ (Nat.le_of_lt s.1) h) id⟩⟩,rfl⟩)
   have AS:=yH ((AG.out _ (jO (yL AF) Q.size) AM.1 AM.2).trans ((Q.block _ (yL AF) AO).trans AF.out));have AU:=yH ((AG.out bs (yL A8) AB.1 AB.2).trans A8.out);by_cases h0:C=0
   ·
    have Ab:(C==0)=true:=by simpa using h0
    have H0:=yH h0;clear h0;go_wp2_with fail
    go_ret2;obtain ⟨m,hm,rfl⟩:=AD.out;exact ⟨_,hm,by unfold onTo;rw [if_pos H0.out];rfl⟩
   focus
    have Ab:(C==0)=false:=by simpa using h0
   rotate_left
  rotate_left
  focus
   have AK:∀j,j<W.heap.size->j≠bw->(Value.slice qv A.length cv).ownBlock≠some j->(x9.alloc (.cells (MSt.mk k G H J I ⟨X,Y,Z,L⟩ O c f false).cells.toArray 117)).heap[j]? =W.heap[j]? :=fun j E s h3=>(((jC x9.heap.size x9).alloc (jB _) (.cells (MSt.mk k G H J I ⟨X,Y,Z,L⟩ O c f false).cells.toArray 117)).block j (jO E U.1)).trans (U.2 j E);refine x1M (.tmp 64) (by rfl) (m:=(MSt.mk k G H J I ⟨X,Y,Z,L⟩ O c f false)) i (by rfl) ?_;refine hK.out _ _ AK (fun hH=>?_);clear hK K;try simp only [Act.put,yA,yB,yC]
   refine rO 3 fun K hK=>?_;have AY:(x9.alloc (.cells (MSt.mk k G H J I ⟨X,Y,Z,L⟩ O c f false).cells.toArray 117)).cell? ⟨bw,0,none⟩=some (.slice qv A.length cv):=jH _ bw 0 _ _ _ (A6.later (jA _ _)).box;go_simp;refine hK.out _ _ hH (fun hH=>?_);clear hK K;try simp only [Act.put,yA,yB,yC]
   refine rO 6 fun K hK=>?_;refine x1d A6 (m:=(MSt.mk k G H J I ⟨X,Y,Z,L⟩ O c f false)) i (.tmp 63) (.tmp 65) (by rfl) (by rfl) (by rfl) HA ?_;intro q7 c7 w7 hown7 hg7 hat7;obtain ⟨AH,A1,A7⟩:=x4h A6.out AX AN hown7 hg7 hat7 AR AT;have Ai:=yH AH;have AJ:=yH A1;have AI:=yH A7;have Aj:=yH hat7;have Ah:∀j,j<W.heap.size->j≠bw->(Value.slice qv A.length cv).ownBlock≠some j->w7.heap[j]? =W.heap[j]? :=fun j E s h3=>(hg7.block j (by have:=U.1;simp;omega) (fun e=>h3 e.symm)).trans ((((jC x9.heap.size x9).alloc (jB _) (.cells (MSt.mk k G H J I ⟨X,Y,Z,L⟩ O c f false).cells.toArray 117)).block j (jO E U.1)).trans (U.2 j E));clear AH A1 A7 hown7 hg7 hat7;refine hK.out _ _ Ah (fun hH=>?_);clear hK K;try simp only [Act.put,yA,yB,yC]
   refine tK 7 ?_;refine rO 8 fun K hK=>?_;have AY:w7.cell? ⟨bw,0,none⟩=some (.slice qv A.length cv):=jH w7 bw 0 _ _ _ AI;have BP:=jS w7 bw 0 _ _ AI;have Ad:∀j,j<W.heap.size->j≠bw->(Value.slice qv A.length cv).ownBlock≠some j->(w7.setCell ⟨bw,0,none⟩ (.slice q7 (A.length+1) c7)).heap[j]? =W.heap[j]? :=fun j E s h3=>(AJ.block j (jO E U.1) (fun e=>e.elim s h3)).trans (U.2 j E);go_simp;refine hK.out _ _ Ad (fun hH=>?_);clear hK K;try simp only [Act.put,yA,yB,yC]
   refine jD ?_;have AG:=yH hH;clear hH;generalize w7.setCell ⟨bw,0,none⟩ (.slice q7 (A.length+1) c7)=w10 at *;have AD:=yH (show ∃m,Met B bw w (.slice qv A.length cv) A ⟨L,O,l,r,decide (0<C),.fork L O l r⟩ k.rows w10 m/\m=(MSt.mk k G H J I ⟨X,Y,Z,L⟩ O c f false) from ⟨(MSt.mk k G H J I ⟨X,Y,Z,L⟩ O c f false),⟨_,Ai.out,⟨rfl,rfl,Ae.symm,Ag.symm,kE Al.out,HE.symm⟩,AP.trans AJ,by
    rcases Aj.out with h | h
    ·exact Or.inl h
    ·exact Or.inr ⟨_,h,by have:=AE.out;have:=U.1;omega⟩,by have E:=Af.out;have s:=M.out;exact ⟨jJ (Nat.le_of_lt s.1) E.1,jJ (Nat.le_of_lt s.1) E.2,fun j hj=>(AL.out false j hj).imp (fun h=>jJ (Nat.le_of_lt s.1) h) id⟩⟩,rfl⟩)
   have AS:=yH ((AG.out _ (jO (yL AF) Q.size) AM.1 AM.2).trans ((Q.block _ (yL AF) AO).trans AF.out));have AU:=yH ((AG.out bs (yL A8) AB.1 AB.2).trans A8.out);by_cases h0:C=0
   ·
    have Ab:(C==0)=true:=by simpa using h0
    have H0:=yH h0;clear h0;go_wp2_with fail
    go_ret2;obtain ⟨m,hm,rfl⟩:=AD.out;exact ⟨_,hm,by unfold onTo;rw [if_pos H0.out];rfl⟩
   focus
    have Ab:(C==0)=false:=by simpa using h0
   rotate_left
  rotate_left;all_goals
   have H0:=yH h0;clear h0;have CE:=jH w10 w3.heap.size 2 _ _ _ AS;have BU:w10.cell? ⟨bs,40,none⟩=some (.int .i64 0):=(jH w10 bs 40 _ _ _ AU).trans (x6B (MSt.mk k G H J I ⟨X,Y,Z,L⟩ O c f false) i);go_wp2_with fail
   go_ret2;obtain ⟨m,hm,rfl⟩:=AD.out;exact ⟨_,hm,by unfold onTo;rw [if_neg H0.out];rfl⟩
 all_goals
  clear hK K;try simp only [Act.put,yA,yB,yC]
  refine rO 6 fun K hK=>?_;refine x1d A6 (m:=(MSt.mk k G H J I ⟨X,Y,Z,L⟩ O c f true)) i (.tmp 63) (.tmp 65) (by rfl) (by rfl) (by rfl) HA ?_;intro q7 c7 w7 hown7 hg7 hat7;obtain ⟨AH,A1,A7⟩:=x4h A6.out AX AN hown7 hg7 hat7 AR AT;have Ai:=yH AH;have AJ:=yH A1;have AI:=yH A7;have Aj:=yH hat7;have Ah:∀j,j<W.heap.size->j≠bw->(Value.slice qv A.length cv).ownBlock≠some j->w7.heap[j]? =W.heap[j]? :=fun j E s h3=>(hg7.block j (by have:=U.1;simp;omega) (fun e=>h3 e.symm)).trans ((((jC x9.heap.size x9).alloc (jB _) (.cells (MSt.mk k G H J I ⟨X,Y,Z,L⟩ O c f true).cells.toArray 117)).block j (jO E U.1)).trans (U.2 j E));clear AH A1 A7 hown7 hg7 hat7;refine hK.out _ _ Ah (fun hH=>?_);clear hK K;try simp only [Act.put,yA,yB,yC]
  refine tK 7 ?_;refine rO 8 fun K hK=>?_;have AY:w7.cell? ⟨bw,0,none⟩=some (.slice qv A.length cv):=jH w7 bw 0 _ _ _ AI;have BP:=jS w7 bw 0 _ _ AI;have Ad:∀j,j<W.heap.size->j≠bw->(Value.slice qv A.length cv).ownBlock≠some j->(w7.setCell ⟨bw,0,none⟩ (.slice q7 (A.length+1) c7)).heap[j]? =W.heap[j]? :=fun j E s h3=>(AJ.block j (jO E U.1) (fun e=>e.elim s h3)).trans (U.2 j E);go_simp;refine hK.out _ _ Ad (fun hH=>?_);clear hK K;try simp only [Act.put,yA,yB,yC]
  refine jD ?_;have AG:=yH hH;clear hH;generalize w7.setCell ⟨bw,0,none⟩ (.slice q7 (A.length+1) c7)=w10 at *;have AD:=yH (show ∃m,Met B bw w (.slice qv A.length cv) A ⟨L,O,l,r,decide (0<C),.fork L O l r⟩ k.rows w10 m/\m=(MSt.mk k G H J I ⟨X,Y,Z,L⟩ O c f true) from ⟨(MSt.mk k G H J I ⟨X,Y,Z,L⟩ O c f true),⟨_,Ai.out,⟨rfl,rfl,Ae.symm,Ag.symm,kF Al.out,HE.symm⟩,AP.trans AJ,by
   rcases Aj.out with h | h
   ·exact Or.inl h
   ·exact Or.inr ⟨_,h,by have:=AE.out;have:=U.1;omega⟩,by have E:=Af.out;have s:=M.out;exact ⟨jJ (Nat.le_of_lt s.1) E.1,jJ (Nat.le_of_lt s.1) E.2,fun j hj=>(AL.out true j hj).imp (fun h=>jJ (Nat.le_of_lt s.1) h) id⟩⟩,rfl⟩)
  have AS:=yH ((AG.out _ (jO (yL AF) Q.size) AM.1 AM.2).trans ((Q.block _ (yL AF) AO).trans AF.out));have AU:=yH ((AG.out bs (yL A8) AB.1 AB.2).trans A8.out);have CE:=jH w10 w3.heap.size 2 _ _ _ AS;have BU:w10.cell? ⟨bs,40,none⟩=some (.int .i64 1):=(jH w10 bs 40 _ _ _ AU).trans (x6B (MSt.mk k G H J I ⟨X,Y,Z,L⟩ O c f true) i);go_wp2_with fail
  go_ret2;obtain ⟨m,hm,rfl⟩:=AD.out;exact ⟨_,hm,by unfold onTo;rw [if_neg (by have:=Al.out;omega)];rfl⟩
def y36 (B bw:Nat) (w:World) (v:Value) (A:List MSt) (Q:Nat->Prop) (o:Option (List St×St)) (e:Ending) (w':World):Prop:=Only (fun k=>k=bw\/v.ownBlock=some k) w w'/\
 (o=none->e= .returned (.int .i64 21))/\(∀L s,o=some (L,s)->e= .returned (.int .i64 0)/\∃v' A',WaySt B bw w' v' (A++A')/\Links A' (L++[s])/\(v'.ownBlock=v.ownBlock\/∃k,v'.ownBlock=some k/\w.heap.size<=k)/\∀m∈A',∀j,m.reads j->¬Q j)
theorem y0W {bw:Nat} {v v':Value} {w w1 w2:World} (h1:Only (fun k=>k=bw\/v.ownBlock=some k) w w1) (h2:Only (fun k=>k=bw\/v'.ownBlock=some k) w1 w2) (hv:v'.ownBlock=v.ownBlock\/∃k,v'.ownBlock=some k/\w.heap.size<=k):Only (fun k=>k=bw\/v.ownBlock=some k) w w2:=
 ⟨h2.os.trans h1.os,h2.tape.trans h1.tape,h2.output.trans h1.output,jJ h1.size h2.size,fun k hk hn=>(h2.block k (jO hk h1.size) (fun e=>e.elim (fun e=>hn (Or.inl e)) (fun e=>by
  rcases hv with h | ⟨j,h,hj⟩
  ·exact hn (Or.inr (h.symm.trans e))
  ·rw [h] at e
   have:=Option.some.inj e
   omega))).trans (h1.block k hk hn)⟩
theorem x7s {g bw ga oa:Nat} {d err:Int} {p:Rw} {w:World} {P:World->Prop} (hm:∀w',Below w.heap.size w w'->Calls Tryz.prog 193 #[.agg #[.pointer (some ⟨g,0,none⟩),.int .i64 d],.pointer (some ⟨bw,0,none⟩),.pointer (some ⟨ga,oa,none⟩),p.val] w' fun e w''=>e= .returned (.tuple #[.pointer none,.int .i64 err])/\P w''):
  Calls Tryz.prog 131 #[.agg #[.pointer (some ⟨g,0,none⟩),.int .i64 d],.pointer (some ⟨bw,0,none⟩),.pointer (some ⟨ga,oa,none⟩),p.val] w fun e w'=>e= .returned (.int .i64 err)/\P w':=by
 have b1:=jA w (.cells #[.pointer (some ⟨g,0,none⟩),.int .i64 d] 107);have J:=jE w (.cells #[.pointer (some ⟨g,0,none⟩),.int .i64 d] 107);have I:=yH (hm _ b1);have L:=yH (x09 J);obtain ⟨O,Q,M,N⟩:=p;unfold Rw.val at I ⊢;simp only at I ⊢;obtain ⟨K,B,C⟩:=UTr;have E:=yH B;have H:=yH C;clear hm b1 J B C
 go_enter Tryz.func131,Tryz.ntmps131
 go_upto_region 1 with fail
 generalize w.alloc (.cells #[.pointer (some ⟨g,0,none⟩),.int .i64 d] 107)=w1 at *;go_wp2_with (first
  | (refine jK (by rfl) 107 _ (by rfl) w.heap.size 0 (by rfl) [.pointer (some ⟨g,0,none⟩),.int .i64 d] K L E H STr ?_)
  | (go_at_call 193;refine I.mono ?_;rintro _ R ⟨rfl,A⟩;have G:=yH A;clear A))
 go_ret;exact ⟨rfl,G.out⟩
theorem y6c {g bw ga oa:Nat} {d:Int} {p:Rw} {w:World} {P:Nat->Nat->World->World->Prop} {R:Ending->World->Prop} (hm:∀w',Below w.heap.size w w'->Calls Tryz.prog 193 #[.agg #[.pointer (some ⟨g,0,none⟩),.int .i64 d],.pointer (some ⟨bw,0,none⟩),.pointer (some ⟨ga,oa,none⟩),p.val] w' fun e w''=>∃gb ob,e= .returned (.tuple #[.pointer (some ⟨gb,ob,none⟩),.int .i64 0])/\P gb ob w' w'')
  (hk:∀gb ob w' w'',Below w.heap.size w w'->P gb ob w' w''->(∀b,w.heap.size<=b->b<w'.heap.size->b≠bw->w''.heap[b]? =w'.heap[b]?)/\Calls Tryz.prog 131 #[.agg #[.pointer (some ⟨g,0,none⟩),.int .i64 d],.pointer (some ⟨bw,0,none⟩),.pointer (some ⟨gb,ob,none⟩),p.val] w'' fun e w3=>∃err:Int,e= .returned (.int .i64 err)/\R e w3) (hbw:bw<w.heap.size):
  Calls Tryz.prog 131 #[.agg #[.pointer (some ⟨g,0,none⟩),.int .i64 d],.pointer (some ⟨bw,0,none⟩),.pointer (some ⟨ga,oa,none⟩),p.val] w R:=by
 have b1:=jA w (.cells #[.pointer (some ⟨g,0,none⟩),.int .i64 d] 107);have L:=jE w (.cells #[.pointer (some ⟨g,0,none⟩),.int .i64 d] 107);have O:=yH (hm _ b1);have A:=yH (fun gb ob w''=>hk gb ob _ w'' b1);have W:=yH (x09 L);have G:=yH L;have N:=yH hbw;obtain ⟨Y,c,X,a⟩:=p;unfold Rw.val at O A ⊢;simp only at O A ⊢;obtain ⟨Q,J,H⟩:=UTr;have B:=yH J;have C:=yH H;clear hm hk hbw b1 L J H
 go_enter Tryz.func131,Tryz.ntmps131
 go_upto_region 1 with fail
 generalize w.alloc (.cells #[.pointer (some ⟨g,0,none⟩),.int .i64 d] 107)=w1 at *;go_upto_region 2 with (first
  | (refine jK (by rfl) 107 _ (by rfl) w.heap.size 0 (by rfl) [.pointer (some ⟨g,0,none⟩),.int .i64 d] Q W B C STr ?_)
  | (go_at_call 193;refine O.mono ?_;rintro _ w3 ⟨gb,ob,rfl,E⟩;have I:=yH (A.out gb ob w3 E);clear E))
 have U:=yH (x09 ((I.1 w.heap.size (jB _) (yL G) (by have:=N.out;omega)).trans G.out));go_wp2_with (first
  | (refine jK (by rfl) 107 _ (by rfl) w.heap.size 0 (by rfl) [.pointer (some ⟨g,0,none⟩),.int .i64 d] Q U B C STr ?_)
  | (go_at_call 131;refine I.2.mono ?_;rintro _ Z ⟨err,rfl,K⟩;have M:=yH K;clear K))
 exact M.out
theorem y4n {B bw:Nat} {w:World} {v:Value} {A:List MSt} {m:MSt} (h:WaySt B bw w v (A++[m])) {r:Rw} (hr:r∈m.rows):x4D bw v (A++[m]) r:=fun x hx hR=>by
 have hrd:m.reads x.block:=Or.inr (Or.inr ⟨r,hr,x,hx,hR,rfl⟩)
 obtain ⟨h1,h2⟩:=h.aside m (by simp) _ hrd
 refine ⟨h1,h2,fun a ha=>?_⟩
 rcases jP.1 ha with ha | ha
 ·have hp:=(List.pairwise_append.1 h.way.part).2.2 a ha m (by simp)
  exact ⟨fun e=>hp.2 ⟨_,hrd,Or.inl e⟩,fun e=>hp.2 ⟨_,hrd,Or.inr e⟩⟩
 ·rw [kZ.1 ha]
  exact (h.way.each m (by simp)).apart r hr x hx hR
theorem y1S {bw:Nat} {v v':Value} {A:List MSt} {m:MSt} {r:Rw} {w:World} (h:x4D bw v A r) (hr:r.Ok w) (hv:v'.ownBlock=v.ownBlock\/∃k,v'.ownBlock=some k/\w.heap.size<=k) (hm:w.heap.size<=m.ge/\w.heap.size<=m.gk):x4D bw v' (A++[m]) r:=fun x hx hR=>by
 obtain ⟨h1,h2,h3⟩:=h x hx hR
 have hlt:=rw_lt hr x hx hR
 refine ⟨h1,fun e=>?_,fun a ha=>?_⟩
 ·rcases hv with h | ⟨k,h,hk⟩
  ·exact h2 (h.symm.trans e)
  ·rw [h] at e
   have:=Option.some.inj e
   omega
 ·rcases jP.1 ha with ha | ha
  ·exact h3 a ha
  ·rw [kZ.1 ha]
   omega
theorem x7t {gs d B bw:Nat} {s:Pg.S} (hd:1<=d/\d<=8) (hW:x2x d s.W) (p:Rw) (hpd:p.n=d):∀(u:V) (k:Kd) (ga oa:Nat) (w:World) (Q:Nat->Prop) (v:Value) (A:List MSt),PL w gs Q s->Sees s.W d u->k.Ok w->w.rangeAt ga oa k.cells->k.pk=u.kid->(∀x∈k.rows,x4D bw v A x)->WaySt B bw w v A->B<=w.heap.size->p.Ok w->x4D bw v A p->¬Q bw->(∀j,v.ownBlock=some j->¬Q j)->Aw Q k->(∀y,p.p=some y->p.R≠[]->¬Q y.block)->(A.length:Int)+u.kid.size<=90000->
  Calls Tryz.prog 131 #[.agg #[.pointer (some ⟨gs,0,none⟩),.int .i64 d],.pointer (some ⟨bw,0,none⟩),.pointer (some ⟨ga,oa,none⟩),p.val] w (y36 B bw w v A Q (wayV d p.R u A.length))
 | .nil,k,ga,oa,w,Q,v,A,hp,hs,hk,hr,he,hka,hw,hB,hpo,hpa,hq1,hq2,hq3,hq4,hz=>by
  have hz':A.length<=100000:=by have:(V.nil).kid.size=0:=rfl;omega
  have h:=x7s (g:=gs) (bw:=bw) (ga:=ga) (oa:=oa) (d:=(d:Int)) (err:=0) (p:=p) (w:=w) (P:=fun C=>∃m,Met B bw w v A ⟨p.R,false,.nil,.nil,false,.nil⟩ [p] C m) (fun H E=>by
   refine (y4m (d:Int) ga oa p H (x66 (hk.later E) (x01 hr E) he) (hw.later E) (jJ hB E.size) (hpo.later E) hpa hz').mono ?_
   rintro e C ⟨rfl,m,Y,I,O,J,M,a,h6,U⟩
   refine ⟨rfl,m,Y,I,O,(Only.of_below _ E).trans J,M.imp id (fun ⟨k,e,hk⟩=>⟨k,e,jJ E.size hk⟩),jJ E.size a,jJ E.size h6,fun j hj=>(U j hj).imp (fun h=>jJ E.size h) id⟩)
  refine h.mono ?_
  rintro e H ⟨rfl,m,Y,I,O,J,M,-,-,U⟩
  refine ⟨J,(fun h=>by cases h),fun L s' N=>?_⟩
  have N:some ([],(⟨p.R,false,.nil,.nil,false,.nil⟩:St))=some (L,s'):=N
  simp only [Option.some.injEq,Prod.mk.injEq] at N
  obtain ⟨rfl,rfl⟩:=N
  exact ⟨rfl,Y,[m],I,.cons O .nil,M,fun x hx j hj hQ=>by
   rw [kZ.1 hx] at hj
   rcases U j hj with e | ⟨r,A0,y,Z,f,rfl⟩
   ·have:=hp.lt j hQ;omega
   ·rw [kZ.1 A0] at Z f
    exact hq4 y Z f hQ⟩
 | .bad kk,k,ga,oa,w,Q,v,A,hp,hs,hk,hr,he,hka,hw,hB,hpo,hpa,hq1,hq2,hq3,hq4,hz=>by
  have AG:k.pk=kk:=he
  subst AG
  have h:=x7s (g:=gs) (bw:=bw) (ga:=ga) (oa:=oa) (d:=(d:Int)) (err:=21) (p:=p) (w:=w) (P:=fun C=>Below w.heap.size w C) (fun H E=>by
   refine (y4l (g:=gs) (d:Int) ga oa (some ⟨bw,0,none⟩) p.p p.n p.c H (x67 (hk.later E) (x01 hr E) hs.1 ((y0U hp hW hk hs).later E))).mono ?_
   rintro e C ⟨rfl,t⟩
   exact ⟨rfl,E.trans (t.mono E.size)⟩)
  refine h.mono ?_
  rintro e H ⟨rfl,E⟩
  exact ⟨Only.of_below _ E,(fun _=>rfl),(fun L s N=>by cases N)⟩
 | .fork q lv l r,k,ga,oa,w,Q,v,A,hp,hs,hk,hr,he,hka,hw,hB,hpo,hpa,hq1,hq2,hq3,hq4,hz=>by
  have AZ:(V.fork q lv l r).kid.size=1+(l.kid.size+r.kid.size):=x0U q lv l.kid r.kid
  have Aa:=x0k hs.2.2.1
  have Ac:=x0k hs.2.2.2
  have AK:q.length=d:=by
   have:=(x1a hs.1.right).2.2.1 ⟨q,lv⟩ (by simp [forkN]);simp only at this;omega
  have AL:=x68 hp hk he hs;have X:∀m,FarK k.rows w m->∀j,m.reads j->¬Q j:=fun m U j hj hQ=>by
   rcases U j hj with e | ⟨r,A0,y,Z,f,rfl⟩
   ·have:=hp.lt j hQ;omega
   ·exact hq3 r A0 y Z f hQ
  have K:∀H,Below w.heap.size w H->Calls Tryz.prog 193 #[.agg #[.pointer (some ⟨gs,0,none⟩),.int .i64 d],.pointer (some ⟨bw,0,none⟩),.pointer (some ⟨ga,oa,none⟩),p.val] H fun e C=>∃m,Met B bw w v A ⟨q,lv,l,r,decide (0<ordC (A.length%d) p.R q),.fork q lv l r⟩ k.rows C m/\Met B bw H v A ⟨q,lv,l,r,decide (0<ordC (A.length%d) p.R q),.fork q lv l r⟩ k.rows C m/\e= .returned (.tuple #[onTo (ordC (A.length%d) p.R q) m,.int .i64 0]):=fun H E=>by
   refine (y35 hd k ga oa p H (AL.later E) he (by rw [he];omega) (hk.later E) (x01 hr E) hka (hw.later E) (jJ hB E.size) (hpo.later E) hpd AK (by omega)).mono ?_;rintro e C ⟨m,⟨Y,I,O,J,M,a,h6,U⟩,he⟩;exact ⟨m,⟨Y,I,O,(Only.of_below _ E).trans J,M.imp id (fun ⟨k,e,hk⟩=>⟨k,e,jJ E.size hk⟩),jJ E.size a,jJ E.size h6,fun j hj=>(U j hj).imp (fun h=>jJ E.size h) id⟩,⟨Y,I,O,J,M,a,h6,U⟩,he⟩
  have AD:wayV d p.R (.fork q lv l r) A.length=(if ordC (A.length%d) p.R q=0 then some ([],⟨q,lv,l,r,false,.fork q lv l r⟩)
   else if 0<ordC (A.length%d) p.R q then (wayV d p.R r (A.length+1)).map fun x=>(⟨q,lv,l,r,true,.fork q lv l r⟩::x.1,x.2)
   else (wayV d p.R l (A.length+1)).map fun x=>(⟨q,lv,l,r,false,.fork q lv l r⟩::x.1,x.2)):=rfl
  rw [AD];by_cases h0:ordC (A.length%d) p.R q=0
  ·have AB:decide (0<ordC (A.length%d) p.R q)=false:=kE (by omega);rw [if_pos h0];have h:=x7s (g:=gs) (bw:=bw) (ga:=ga) (oa:=oa) (d:=(d:Int)) (err:=0) (p:=p) (w:=w) (P:=fun C=>∃m,Met B bw w v A ⟨q,lv,l,r,false,.fork q lv l r⟩ k.rows C m) (fun H E=>by
    refine (K H E).mono ?_;rintro e C ⟨m,hm,-,rfl⟩;rw [AB] at hm;exact ⟨by unfold onTo;rw [if_pos h0],m,hm⟩)
   refine h.mono ?_;rintro e H ⟨rfl,m,Y,I,O,J,M,-,-,U⟩;refine ⟨J,(fun h=>by cases h),fun L s' N=>?_⟩;simp only [Option.some.injEq,Prod.mk.injEq] at N;obtain ⟨rfl,rfl⟩:=N;exact ⟨rfl,Y,[m],I,.cons O .nil,M,fun x hx j hj hQ=>by
    rw [kZ.1 hx] at hj;exact X m U j hj hQ⟩
  ·rw [if_neg h0]
   -- which kid it is,told once
   obtain ⟨G,z⟩:∃G:Bool,G=decide (0<ordC (A.length%d) p.R q):=⟨_,rfl⟩
   rw [<- z] at K;have A5:(if 0<ordC (A.length%d) p.R q then (wayV d p.R r (A.length+1)).map fun x=>((⟨q,lv,l,r,true,.fork q lv l r⟩:St)::x.1,x.2) else (wayV d p.R l (A.length+1)).map fun x=>((⟨q,lv,l,r,false,.fork q lv l r⟩:St)::x.1,x.2))=(wayV d p.R (if G then r else l) (A.length+1)).map fun x=>((⟨q,lv,l,r,G,.fork q lv l r⟩:St)::x.1,x.2):=by
    by_cases I:0<ordC (A.length%d) p.R q
    ·rw [if_pos I,z,kF I];rfl
    ·rw [if_neg I,z,kE I];rfl
   rw [A5];have AP:=x7t (gs:=gs) (B:=B) (bw:=bw) hd hW p hpd r;have AI:=x7t (gs:=gs) (B:=B) (bw:=bw) hd hW p hpd l;have ih:∀(k:Kd) (ga oa:Nat) (w:World) (Q:Nat->Prop) (v:Value) (A:List MSt),PL w gs Q s->Sees s.W d (if G then r else l)->k.Ok w->w.rangeAt ga oa k.cells->k.pk=(if G then r else l).kid->(∀x∈k.rows,x4D bw v A x)->WaySt B bw w v A->B<=w.heap.size->p.Ok w->x4D bw v A p->¬Q bw->(∀j,v.ownBlock=some j->¬Q j)->Aw Q k->(∀y,p.p=some y->p.R≠[]->¬Q y.block)->(A.length:Int)+(if G then r else l).kid.size<=90000->
     Calls Tryz.prog 131 #[.agg #[.pointer (some ⟨gs,0,none⟩),.int .i64 d],.pointer (some ⟨bw,0,none⟩),.pointer (some ⟨ga,oa,none⟩),p.val] w (y36 B bw w v A Q (wayV d p.R (if G then r else l) A.length)):=by
    cases G
    ·exact AI
    ·exact AP
   have AN:Sees s.W d (if G then r else l):=by
    cases G
    ·exact hs.2.2.1
    ·exact hs.2.2.2
   have Ag:(if G then r else l).kid.size<=l.kid.size+r.kid.size:=by
    cases G
    ·show l.kid.size<=_;omega
    ·show r.kid.size<=_;omega
   refine y6c (P:=fun gb ob H C=>∃m,Met B bw w v A ⟨q,lv,l,r,G,.fork q lv l r⟩ k.rows C m/\Met B bw H v A ⟨q,lv,l,r,G,.fork q lv l r⟩ k.rows C m/\gb=m.gk/\ob=37*m.sideN) (fun H E=>?_) (fun gb ob H C E hm=>?_) (yL hw.box)
   ·refine (K H E).mono ?_;rintro e C ⟨m,hm,AH,rfl⟩;exact ⟨m.gk,37*m.sideN,by unfold onTo;rw [if_neg h0],m,hm,AH,rfl,rfl⟩
   ·obtain ⟨m,⟨Y,I,O,J,M,a,h6,U⟩,⟨v2,g1,g2,g3,g4,g5,g6,-⟩,rfl,rfl⟩:=hm;have AX:=(yL hw.box)
    have o:=I.way.each m (by simp);have AR:m.side=G:=O.side.symm;have AO:∃kc:Kd,kc.Ok C/\C.rangeAt m.gk (37*m.sideN) kc.cells/\kc.pk=(if G then r else l).kid/\∀x∈kc.rows,x∈m.rows:=by
     unfold MSt.sideN;rw [AR];cases G
     ·exact ⟨m.k1,o.k1,o.kid1,O.l.symm,fun x hx=>by simp [MSt.rows,hx]⟩
     ·exact ⟨m.k2,o.k2,o.kid2,O.r.symm,fun x hx=>by simp [MSt.rows,hx]⟩
    obtain ⟨kc,AT,AQ,AF,A8⟩:=AO;have AA:p.Ok C:=Nd.rw_keep hpo fun y Z f=>J.block _ (rw_lt hpo y Z f) (fun e=>e.elim (hpa y Z f).1 (hpa y Z f).2.1);refine ⟨fun b hb1 t hb3=>g3.block b t (fun e=>e.elim hb3 (fun e=>by have:=(hw.own.lt b e).2;omega)),?_⟩;have AS:∀j,Q j->¬(j=bw\/v.ownBlock=some j):=fun j hj e=>e.elim (fun e=>hq1 (e▸hj)) (fun e=>hq2 j e hj);have h:=ih kc m.gk (37*m.sideN) C Q Y (A++[m]) (hp.keep _ J AS) AN AT AQ AF (fun x hx=>y4n I (A8 x hx)) I (jJ hB J.size) AA (y1S hpa hpo M ⟨a,h6⟩) hq1 (fun j e hj=>by
     rcases M with h | ⟨i,h,hi⟩
     ·exact hq2 j (h.symm.trans e) hj
     ·rw [h] at e;have:=Option.some.inj e;have:=hp.lt j hj;omega) (fun r hr y Z f=>X m U _ (Or.inr (Or.inr ⟨r,A8 r hr,y,Z,f,rfl⟩))) hq4 (by rw [jQ];simp only [kI,List.length_nil];omega)
    rw [jQ] at h;simp only [kI,List.length_nil,Nat.zero_add] at h;refine h.mono ?_;rintro e w3 ⟨ho,hn,AJ⟩;cases hwy:wayV d p.R (if G then r else l) (A.length+1) with
    | none=>
     refine ⟨21,hn hwy,y0W J ho M,fun _=>hn hwy,fun L s' N=>?_⟩;cases N
    | some x=>
     obtain ⟨L0,s0⟩:=x;obtain ⟨A6,v3,A3,A7,AU,AM,AE⟩:=AJ L0 s0 hwy;refine ⟨0,A6,y0W J ho M,fun hh=>?_,fun L s' N=>?_⟩
     ·cases hh
     ·simp only [Option.map_some,Option.some.injEq,Prod.mk.injEq] at N;obtain ⟨rfl,rfl⟩:=N;refine ⟨A6,v3,m::A3,by rw [jR] at A7;exact A7,.cons O AU,?_,fun x hx=>(jW.1 hx).elim (fun e=>by rw [e];exact X m U) (fun hx=>AE x hx)⟩;rcases AM with h | ⟨i,h,hi⟩
      ·rcases M with a | ⟨i,a,hi⟩
       ·exact Or.inl (h.trans a)
       ·exact Or.inr ⟨i,h.trans a,hi⟩
      ·exact Or.inr ⟨i,h,jJ J.size hi⟩
theorem x1y (p:Option Addr) (d:Int):Tryz.prog.built 107 [(0,.pointer p),(1,.int .i64 d)]=some #[.pointer p,.int .i64 d]:=by kernel_rfl
theorem x4E (p:Option Addr) (d:Int):(#[.pointer p,.int .i64 d]:Array Value).all (·.oneCell')=true:=jN (cs:=[.pointer p,.int .i64 d]) fun u hu=>by
 simp only [jW,jV,or_false] at hu
 rcases hu with rfl | rfl<;>rfl
def x7u (sp:Option Addr) (d:Int) (k:Kd) (r:Rw) (err:Int) (w:World):Prop:=∀w',Below w.heap.size w w'->Calls Tryz.prog 68 #[.agg #[.pointer sp,.int .i64 d],.agg k.cells.toArray,r.val] w' (y7Q w' err)
theorem y1T (sp:Option Addr) (d:Int) (k:Kd) (r:Rw) (err:Int) (w:World) (hk:k.Ok w) (hw:x7u sp d k r err w) (he:err≠0):
  Calls Tryz.prog 19 #[.pointer sp,.agg k.cells.toArray,r.val,.int .i64 d] w fun e w'=>e= .returned (.tuple #[.agg kd0.cells.toArray,.int .i64 err])/\Below w.heap.size w w':=by
 obtain ⟨W,i,X,Z,b1⟩:=x1B w (.cells k.cells.toArray 34) (.cells kd0.cells.toArray 34);have L:=yH hw;have s:(err !=0)=true:=by simpa using he
 have M:=yH (Kd.cells_length hk.len);have f:=yH X;have g:=yH Z;have Y:=yH b1;obtain ⟨p,m,q,n⟩:=r;unfold x7u at L;unfold Rw.val at L;unfold Rw.val;simp only at L ⊢;obtain ⟨l,I,G⟩:=UTr;obtain ⟨j,E,B⟩:=UKd;have N:=yH I;have R:=yH G;have J:=yH E;have C:=yH B;have a:=yH (zero_of_info kz);have h:=a.1;clear hk hw he b1 X Z I G E B
 go_enter Tryz.func19,Tryz.ntmps19
 go_upto_region 1 with fail
 clear i;go_upto_region 2 with (first
  | (refine x05 (cells:= #[.pointer sp,.int .i64 d]) (by rfl) (by rfl) (by simp only [kA,kB,kC];exact x1y _ _) ?_)
  | (refine jL (by rfl) 107 (.tmp 10) (.tmp 18) (by rfl) W.heap.size #[.pointer sp,.int .i64 d] (by rfl) (by rfl) _ _ (jE W _) STr rfl (x4E _ _) ?_;rw [x03]))
 have A:=jA W (.cells #[.pointer sp,.int .i64 d] 107);have H:=jE W (.cells #[.pointer sp,.int .i64 d] 107);generalize W.alloc (.cells #[.pointer sp,.int .i64 d] 107)=w2 at *;have b:=yH (x09 H);have P:=yH (x0E (yK A f));have U:=yH (yK A g);have O:=yH (Y.trans (A.mono Y.size));clear A H;go_wp2_with (first
  | (refine jK (by rfl) 107 _ (by rfl) W.heap.size 0 (by rfl) [.pointer sp,.int .i64 d] l b N R STr ?_)
  | (refine jK (by rfl) 34 _ (by rfl) w.heap.size 0 (by rfl) k.cells j P J C (by rw [M.out];exact SKd) ?_)
  | (go_at_call 68;refine (L.out w2 O).mono ?_;rintro _ o ⟨rfl,Q⟩;have c:=yH (O.trans (Q.mono O.size));have K:=yH (yK Q U);clear Q)
  | (refine x05 (by rfl) (by rfl) x0T ?_)
  | (refine jL (by rfl) 34 _ _ (by rfl) (w.heap.size+1) kd0.cells.toArray (by rfl) (by rfl) _ _ K (by rw [jF,x02];exact SKd) rfl (jN Kd.one) ?_))
 refine x0G 8 9 (by kernel_rfl) (w.heap.size+1) _ kd0.cells.toArray _ J C (by rw [jF,x02];exact SKd) (by rfl) (by rfl) (jT _ _ _ _ _ _ K) ?_;exact ⟨rfl,c.trans (Below.setRow (jC _ _) (by omega) _)⟩
theorem y1U (sp:Option Addr) (d:Int) (k:Kd) (r:Rw) (err:Int) (w:World) (hk:k.Ok w) (hw:x7u sp d k r err w) (he:err≠0):
  Calls Tryz.prog 21 #[.pointer sp,.agg k.cells.toArray,r.val,.int .i64 d] w fun e w'=>e= .returned (.tuple #[.agg kd0.cells.toArray,.int .i64 err])/\Below w.heap.size w w':=by
 obtain ⟨W,U,a,Z,c,b1⟩:=x27 w (.cells k.cells.toArray 34) (.cells #[r.val] 24) (.cells kd0.cells.toArray 34);have L:=yH hw;have v:(err !=0)=true:=by simpa using he
 have M:=yH (Kd.cells_length hk.len);have j:=yH a;have l:=yH c;have Y:=yH Z;have b:=yH b1;obtain ⟨o,f,q,s⟩:=r;unfold x7u at L;unfold Rw.val at L Y U;unfold Rw.val;simp only at L Y U ⊢;obtain ⟨p,I,G⟩:=UTr;obtain ⟨n,E,B⟩:=UKd;have N:=yH I;have R:=yH G;have J:=yH E;have C:=yH B;have g:=yH (zero_of_info kz);have m:=g.1;clear hk hw he b1 a c Z I G E B
 go_enter Tryz.func21,Tryz.ntmps21
 go_upto_region 1 with fail
 clear U;go_upto_region 2 with (first
  | (refine x05 (cells:= #[.pointer sp,.int .i64 d]) (by rfl) (by rfl) (by simp only [kA,kB,kC];exact x1y _ _) ?_)
  | (refine jL (by rfl) 107 (.tmp 10) (.tmp 16) (by rfl) W.heap.size #[.pointer sp,.int .i64 d] (by rfl) (by rfl) _ _ (jE W _) STr rfl (x4E _ _) ?_;rw [x03]))
 have A:=jA W (.cells #[.pointer sp,.int .i64 d] 107);have H:=jE W (.cells #[.pointer sp,.int .i64 d] 107);generalize W.alloc (.cells #[.pointer sp,.int .i64 d] 107)=w2 at *;have h:=yH (x09 H);have P:=yH (x0E (yK A j));have X:=yH (yK A l);have t:w2.cell? ⟨w.heap.size+1,0,none⟩=some (.slice o f q):=jH w2 (w.heap.size+1) 0 _ _ _ (yK A Y);have O:=yH (b.trans (A.mono b.size));clear A H;go_wp2_with (first
  | (refine jK (by rfl) 107 _ (by rfl) W.heap.size 0 (by rfl) [.pointer sp,.int .i64 d] p h N R STr ?_)
  | (refine jK (by rfl) 34 _ (by rfl) w.heap.size 0 (by rfl) k.cells n P J C (by rw [M.out];exact SKd) ?_)
  | (go_at_call 68;refine (L.out w2 O).mono ?_;rintro _ u ⟨rfl,Q⟩;have i:=yH (O.trans (Q.mono O.size));have K:=yH (yK Q X);clear Q)
  | (refine x05 (by rfl) (by rfl) x0T ?_)
  | (refine jL (by rfl) 34 _ _ (by rfl) (w.heap.size+2) kd0.cells.toArray (by rfl) (by rfl) _ _ K (by rw [jF,x02];exact SKd) rfl (jN Kd.one) ?_))
 refine x0G 8 9 (by kernel_rfl) (w.heap.size+2) _ kd0.cells.toArray _ J C (by rw [jF,x02];exact SKd) (by rfl) (by rfl) (jT _ _ _ _ _ _ K) ?_;exact ⟨rfl,i.trans (Below.setRow (jC _ _) (by omega) _)⟩
end Kt
end Go.Proofs.YtenenciaggbjnaaGreat
