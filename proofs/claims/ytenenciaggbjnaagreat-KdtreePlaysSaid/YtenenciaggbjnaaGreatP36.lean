/- KlPlays. -/
import Derived.Test.YtenenciaggbjnaaGreatP35
set_option maxRecDepth 100000
set_option maxHeartbeats 8000000
set_option linter.all false
namespace Go.Proofs.YtenenciaggbjnaaGreat
namespace Kt
open Go.RowKit Nd Dk Pg
open List renaming setIfInBounds_toArray -> yA, set_cons_zero -> yB, set_cons_succ -> yC
def PR (w0:World) (g d bK n:Nat) (v10 i:Value) (wr:World):Prop:=∃(k:Nat) (kd:Kd) (Q:Nat->Prop) (s:Pg.S) (u:T) (tp:Option Addr),k<=30/\k<=n/\v10= .pointer tp/\i= .int .i64 k/\P1 w0 wr g d bK kd Q s u tp/\kd.pk.size<=k/\s.W.length<=100*k
def PC (w0:World) (g d bK bX:Nat) (kd:Kd) (s:Pg.S) (u:T) (tp:Option Addr) (v14 v15 v16 v17:Value) (wx:World):Prop:=∃(kx:Kd) (err:Int) (Q':Nat->Prop) (s':Pg.S) (x:T×Bool) (bad:Int) (qx:Option Addr),v14= .int .i64 err/\v15= .pointer qx/\v16= .bool x.2/\v17= .int .i64 bad/\PY w0 wx g d bK bX kd kx err Q' s s' u tp x bad/\TAt (fun b=>¬Q' b/\b≠bK) wx qx x.1
def PB (y:World) (M:List (List Int)) (p:List Int) (v i:Value) (wr:World):Prop:=∃j jj:Nat,j<=M.length/\v= .bool (decide (p∈M.take j))/\i= .int .i64 j/\wr=y.drewN jj
theorem x6Y (M:List (List Int)) (p:List Int) (j:Nat) (h:j<M.length):decide (p∈M.take (j+1))=(decide (p∈M.take j)||decide (M.getD j []=p)):=by
 rw [List.take_succ_eq_append_getElem h,jG,jM h];simp only [Option.getD_some,jP,kZ];by_cases h1:p∈M.take j
 ·simp [h1]
 ·by_cases h2:M[j]=p
  ·simp [h1,h2]
  ·have A:¬p=M[j]:=fun e=>h2 e.symm;simp [h1,h2,A]
theorem x37:∀u:T,u.height<=u.size
 | .nil=>jB _
 | .fork p v l r=>by
  have h1:=x37 l
  have h2:=x37 r
  show 1+max l.height r.height<=1+l.size+r.size
  omega
theorem plays_any (dd:Nat) (hdd:dd<256) (pa pk:Option Addr) (n c m e:Nat) (A:List KOp) (R:List Int) (w:World) (hA:Ops w pa n c A) (hR:Ints w pk m e R) (hn:n<=9223372036854775807) (hm:m<=9223372036854775807):
  Calls Tryz.prog 3 #[.int .u8 dd,.slice pa n c,.slice pk m e] w fun e w'=>e= .returned (.bool true)/\Below w.heap.size w w':=by
 have HA:=yH hA;have Bq:=yH (show (⟨pk,m,e,R⟩:Rw).Ok w from ⟨hR,hm⟩);have HZ:=yH (zero_of_info kz);have Di:=HZ.out.1;obtain ⟨du,CP,Br⟩:=UKd;have Z:=yH CP;have o:=yH Br;have BO:=yH (y4y dd hdd);obtain ⟨d,hd⟩:∃d,d=dimsP dd:=⟨_,rfl⟩
 have HD:=yH (show 1<=d/\d<=5 by rw [hd];exact y6u dd);rw [<- hd] at BO;clear hA hR CP Br hd hdd
 go_enter Tryz.func3,Tryz.ntmps3
 go_wp2_with fail
 refine (y3a w).mono ?_;rintro _ w1 ⟨rfl,b1⟩;have B1:=yH b1;clear b1;go_upto_region 5 with (first
  | (go_at_call 16;refine (BO.out w1).mono ?_;rintro _ Dh ⟨rfl,rfl⟩)
  | (go_at_call 17;refine (Pg.new_any _).mono ?_;rintro _ w2 ⟨g,Q0,rfl,p2,q2,b2⟩;have P2:=yH p2;have Q2:=yH (show ∀k,Q0 k->w.heap.size<=k from fun k hk=>jJ B1.out.size (q2 k hk));have B2:=yH (B1.out.trans (b2.mono B1.out.size));clear p2 q2 b2))
 go_upto_region 6 with fail
 obtain ⟨a,Bg⟩:∃b,b=w2.heap.size:=⟨_,rfl⟩
 have BS:=jA w2 (.cells kd0.cells.toArray 34);have BG:=jE w2 (.cells kd0.cells.toArray 34);rw [<- Bg] at BG ⊢;have HK1:=yH (show PR w g d a n (.pointer none) (.int .i64 0) (w2.alloc (.cells kd0.cells.toArray 34)) from ⟨0,kd0,Q0,⟨[],none⟩,.nil,none,by omega,Nat.zero_le _,rfl,rfl,⟨⟨x24 _,Tr.nil _ _,y3b _,P2.out.keep (fun _=>False) (Only.of_below _ BS) (fun _ _ e=>e),(fun x hx=>by cases hx),Q2.out,B2.out.trans (BS.mono B2.out.size)⟩,rfl,BG,fun e=>by have:=P2.out.lt _ e;omega,fun r hr x hx hR=>absurd hx (by
  have e:r=⟨none,0,0,[]⟩:=by simpa [Kd.rows,kd0] using hr
  subst e;exact fun e=>by cases e),.nil⟩,Int.le_refl _,Nat.zero_le _⟩)
 have Cw:=yH (show w.heap.size<=a from by rw [Bg];exact B2.out.size);generalize w2.alloc (.cells kd0.cells.toArray 34)=w3 at *;clear BS BG Bg P2 Q2 B2 B1 BO;go_upto_region 8 with fail
 go_loopw [10,11,12,13,14,15,16,17,18,19,20] (fun v10 i _ _ _ _ _ _ _ _ _ wr=>PR w g d a n v10 i wr) (fun _ i _ _ _ _ _ _ _ _ _ _=>30 - (intOf i).toNat)
 case atStart=>exact HK1.out
 case round=>
  obtain ⟨k,kd,Q,s,u,tp,DK,Df,rfl,rfl,BA,CE,At⟩:=hrel;have L:=yH BA;have SZ:=yH CE;have FEW:=yH At;have A8:=yH (Kd.cells_length BA.kp.ok.len);clear BA CE At HK1;by_cases hlt:k<n/\k<30
  ·obtain ⟨C1,DU⟩:=hlt;have l1:(k:Int)<n:=by omega
   have l2:(k:Int)<30:=by omega
   have i1:(0:Int)<=k/\(k:Int)<n:=by omega
   obtain ⟨go,oo,rfl,Ai,Am,Be,BR⟩:=HA.out.get k C1;obtain ⟨kk,CL⟩:∃x,x=(A.getD k default).kind:=⟨_,rfl⟩
   rw [<- CL] at Ai Be;obtain ⟨y,E⟩:∃y,y=(A.getD k default).row:=⟨_,rfl⟩
   rw [<- E] at Am BR;have c1:=(L.out.kp.low.cell (jI Am)).trans Am;have C0:=yH ((L.out.kp.low.cell (jI Ai)).trans Ai);have Bj:=yH (BR.later L.out.kp.low);have Cm:=yH Be;clear Ai Am BR E CL Be;obtain ⟨yp,yn,yc,yR⟩:=y;unfold Rw.val at c1;simp only at c1;have l:=yH (show Calls Tryz.prog 18 #[.slice yp yn yc,.int .i64 d] wr (x9b wr yR d) from y3W yp yn yc yR d wr Bj.out.ints Bj.out.top (by have:=HD.out;omega));clear Bj;go_upto_region 11 with (go_at_call 18;refine l.out.mono ?_;rintro _ y1 ⟨⟨P,N,W,I⟩,rfl,Ae,AK,A2,B⟩;have HR:=yH (show (⟨P,N,W,I⟩:Rw).Ok y1/\N=d/\I=fitP yR d/\∀y,P=some y->I≠[]->wr.heap.size<=y.block from ⟨A2.ok,AK,Ae,fun y E hR=>A2.lo y E hR⟩);have BY:=yH B;unfold Rw.val;simp only;clear Ae AK A2 B)
   clear c1 l;go_upto_region 12 with fail
   obtain ⟨X,Ah⟩:∃b,b=y1.heap.size:=⟨_,rfl⟩
   have BP:=jA y1 (.cells kd0.cells.toArray 34);have Bc:=jE y1 (.cells kd0.cells.toArray 34);have Cq:(y1.alloc (.cells kd0.cells.toArray 34)).heap.size=y1.heap.size+1:=by simp
   generalize y1.alloc (.cells kd0.cells.toArray 34)=y2 at *;rw [<- Ah] at Bc ⊢;have Ac:=yH (BY.out.trans (BP.mono BY.out.size));have J:=yH (L.out.later Ac.out);have BJ:=yH Bc;have Y:=yH (show ∀k,Q k->k<wr.heap.size from L.out.kp.st.lt);have U:=yH (show wr.heap.size<=X/\X<y2.heap.size from ⟨by rw [Ah];exact BY.out.size,by omega⟩);have AU:=yH (yL L.out.row);have C:=yH (show (⟨P,N,W,I⟩:Rw).Ok y2/\N=d/\∀y,P=some y->I≠[]->wr.heap.size<=y.block/\y.block<X from ⟨HR.out.1.later BP,HR.out.2.1,fun y E hR=>⟨HR.out.2.2.2 y E hR,by rw [Ah];exact rw_lt HR.out.1 y E hR⟩⟩);have BI:=yH (show TAt (fun b=>¬Q b/\b≠a/\b≠X) y2 tp u from (L.out.tree.lt.later Ac.out).wide fun b B=>⟨B.1.1,B.1.2,by have:=U.out;omega⟩);have BD:=yH (show ∀r∈kd.rows,∀x,r.p=some x->r.R≠[]->x.block≠X from fun r hr x hx hR=>by have:=rw_lt (x06 L.out.kp.ok r hr) x hx hR;have:=U.out;omega);have H:=yH (L.out.kid (by have:=SZ.out;omega));have CQ:=yH ((Ac.out.cell (jI C0.out)).trans C0.out);clear BP Bc Cq Ah C0 BY HR;have Bd:=yH (x0E J.out.row);go_upto_region 15 with fail
   have c0:=CQ.out;have q1:(kk:Int).tmod 6=((kk%6:Nat):Int):=by rw [Int.tmod_eq_emod_of_nonneg (by omega)];rfl
   have D4:kk%6<6:=Nat.mod_lt _ (by omega)
   go_upto_if 59 with fail
   clear c0 q1;go_cut [14,15,16,17] from 59 to 87 (fun v14 v15 v16 v17 wx=>PC w g d a X kd s u tp v14 v15 v16 v17 wx)
   case first=>
    by_cases h4:kk%6<4
    ·have l4:((kk%6:Nat):Int)<4:=by omega
     have AS:=yH (show Calls Tryz.prog 19 #[.pointer (some ⟨g,0,none⟩),.agg kd.cells.toArray,.slice P N W,.int .i64 d] y2 _ from y6s (by have:=HD.out;omega) J.out.kp.fk u kd ⟨P,N,W,I⟩ y2 J.out.kp.st J.out.kp.tr J.out.kp.ok C.out.1 C.out.2.1 (by have:=SZ.out;omega) J.out.kp.aw (fun y E hR e=>by have:=Y.out _ e;have:=(C.out.2.2 y E hR).1;omega) (by have:=FEW.out;omega));clear h4;go_upto_region 17 with (first
      | (refine jK (by rfl) 34 _ (by rfl) a 0 (by rfl) kd.cells du Bd.out Z.out o.out (by rw [A8.out];exact SKd) ?_)
      | (go_at_call 19;refine AS.out.mono ?_;rintro _ y3 ⟨kx,AQ,Q',s',rfl,hc⟩;have A3:=yH (J.out.chg BJ.out (fun e=>by have:=Y.out _ e;have:=U.out;omega) (by have:=U.out;have:=AU.out;omega) (jJ L.out.kp.low.size U.out.1) BD.out BI.out hc);have HO:=yH hc.only;have HW:=yH hc.own;have AO:=yH (Kd.cells_length hc.ok.len);clear hc)
      | (refine jL (by rfl) 34 (.tmp 13) (.tmp 66) (by rfl) X kx.cells.toArray (by rfl) (by rfl) _ _ A3.out.1 (by rw [jF,AO.out];exact SKd) (by simp only [jF,AO.out,x02]) (jN Kd.one) ?_))
     have G:=yH A3.out.2;have AF:=x08 y3 X kx.cells.toArray;have BQ:=yH (show (⟨P,N,W,I⟩:Rw).Ok (y3.setRow X kx.cells.toArray) from Nd.rw_keep (Nd.rw_keep C.out.1 fun y E hR=>HO.out.block _ (rw_lt C.out.1 y E hR) (fun e=>by have:=Y.out _ e;have:=(C.out.2.2 y E hR).1;omega)) fun y E hR=>AF.block _ (by have:=rw_lt C.out.1 y E hR;have:=HO.out.size;omega) (by have:=(C.out.2.2 y E hR).2;omega));have Bs:=yH (show RwIn (fun b=>¬Q' b/\b≠a/\b≠X) ⟨P,N,W,I⟩ from fun y E hR=>⟨fun e=>(HW.out _ e).elim (fun e=>by have:=Y.out _ e;have:=(C.out.2.2 y E hR).1;omega) (fun e=>by have:=(C.out.2.2 y E hR).2;have:=U.out.2;omega),by have:=(C.out.2.2 y E hR).1;have:=AU.out;omega,by have:=(C.out.2.2 y E hR).2;omega⟩);generalize y3.setRow X kx.cells.toArray=y4 at *;have AI:=yH (show Calls Tryz.prog 20 #[.pointer tp,.slice P N W,.int .i64 0] y4 (x6P (fun b=>¬Q' b/\b≠a/\b≠X) y4 (x0A u I 0)) from x9f u _ tp 0 d ⟨P,N,W,I⟩ y4 G.out.tree H.out.2.1 BQ.out Bs.out C.out.2.1 (by have:=HD.out;omega) (by have:=H.out.2.2.1;omega) (by have:=H.out.2.2.1;omega));clear AS A3 AF HO HW;go_wp2_with (go_at_call 20;refine AI.out.mono ?_;rintro _ y5 ⟨qx,rfl,ht,B⟩;have BV:=yH ht;have BN:=yH B;clear ht B)
     go_meet;exact ⟨kx,AQ,Q',s',x0A u I 0,8,qx,rfl,rfl,rfl,rfl,G.out.later BN.out,BV.out.wide fun b B=>B.elim (fun h=>⟨h.1,h.2.1⟩) (fun h=>⟨fun e=>by have:=G.out.old.st.lt _ e;omega,by have:=(yL G.out.rowK);omega⟩)⟩
    ·have l4:¬((kk%6:Nat):Int)<4:=by omega
     have AS:=yH (show Calls Tryz.prog 21 #[.pointer (some ⟨g,0,none⟩),.agg kd.cells.toArray,.slice P N W,.int .i64 d] y2 _ from y6t (by have:=HD.out;omega) J.out.kp.fk u kd ⟨P,N,W,I⟩ y2 J.out.kp.st J.out.kp.tr J.out.kp.ok C.out.1 C.out.2.1 (by have:=SZ.out;omega) J.out.kp.aw (fun y E hR e=>by have:=Y.out _ e;have:=(C.out.2.2 y E hR).1;omega) (by have:=FEW.out;omega));clear h4;go_upto_region 20 with (first
      | (refine jK (by rfl) 34 _ (by rfl) a 0 (by rfl) kd.cells du Bd.out Z.out o.out (by rw [A8.out];exact SKd) ?_)
      | (go_at_call 21;refine AS.out.mono ?_;rintro _ y3 ⟨kx,AQ,Q',s',rfl,hc⟩;rw [y76] at hc;have A3:=yH (J.out.chg BJ.out (fun e=>by have:=Y.out _ e;have:=U.out;omega) (by have:=U.out;have:=AU.out;omega) (jJ L.out.kp.low.size U.out.1) BD.out BI.out hc);have HO:=yH hc.only;have HW:=yH hc.own;have AO:=yH (Kd.cells_length hc.ok.len);clear hc)
      | (refine jL (by rfl) 34 (.tmp 13) (.tmp 80) (by rfl) X kx.cells.toArray (by rfl) (by rfl) _ _ A3.out.1 (by rw [jF,AO.out];exact SKd) (by simp only [jF,AO.out,x02]) (jN Kd.one) ?_))
     have G:=yH A3.out.2;have AF:=x08 y3 X kx.cells.toArray;have BQ:=yH (show (⟨P,N,W,I⟩:Rw).Ok (y3.setRow X kx.cells.toArray) from Nd.rw_keep (Nd.rw_keep C.out.1 fun y E hR=>HO.out.block _ (rw_lt C.out.1 y E hR) (fun e=>by have:=Y.out _ e;have:=(C.out.2.2 y E hR).1;omega)) fun y E hR=>AF.block _ (by have:=rw_lt C.out.1 y E hR;have:=HO.out.size;omega) (by have:=(C.out.2.2 y E hR).2;omega));have Bs:=yH (show RwIn (fun b=>¬Q' b/\b≠a/\b≠X) ⟨P,N,W,I⟩ from fun y E hR=>⟨fun e=>(HW.out _ e).elim (fun e=>by have:=Y.out _ e;have:=(C.out.2.2 y E hR).1;omega) (fun e=>by have:=(C.out.2.2 y E hR).2;have:=U.out.2;omega),by have:=(C.out.2.2 y E hR).1;have:=AU.out;omega,by have:=(C.out.2.2 y E hR).2;omega⟩);generalize y3.setRow X kx.cells.toArray=y4 at *;have AI:=yH (show Calls Tryz.prog 22 #[.pointer tp,.slice P N W] y4 (x6P (fun b=>¬Q' b/\b≠a/\b≠X) y4 (x0h u I)) from x9h u tp d ⟨P,N,W,I⟩ y4 G.out.tree H.out.2.1 BQ.out C.out.2.1 (by have:=HD.out;omega) (by have:=H.out.2.2.1;omega));clear AS A3 AF HO HW;go_wp2_with (go_at_call 22;refine AI.out.mono ?_;rintro _ y5 ⟨qx,rfl,ht,B⟩;have BV:=yH ht;have BN:=yH B;clear ht B)
     go_meet;exact ⟨kx,AQ,Q',s',x0h u I,9,qx,rfl,rfl,rfl,rfl,G.out.later BN.out,BV.out.wide fun b B=>B.elim (fun h=>⟨h.1,h.2.1⟩) (fun h=>⟨fun e=>by have:=G.out.old.st.lt _ e;omega,by have:=(yL G.out.rowK);omega⟩)⟩
   case rest=>
    obtain ⟨kx,AQ,Q',s',x,Dk,qx,rfl,rfl,rfl,rfl,Ak,BK⟩:=hcut;obtain ⟨y5,Cd⟩:∃x,x=wc:=⟨_,rfl⟩
    rw [<- Cd] at Ak BK ⊢;clear Cd;have G:=yH Ak;have By:=yH BK;have AZ:=yH Ak.len;obtain ⟨xt,xb⟩:=x;simp only;clear Ak BK D4 J BJ Y U AU C BI BD Bd CQ Ac Cm;cases hcl:s'.cl with
    | some xy=>
     obtain ⟨x,y⟩:=xy;have AL:=yH hcl;clear hcl;go_wp2_with (go_at_call 23;refine (Pg.clash_any x y G.out.old.st AL.out).mono ?_;rintro _ z2 ⟨p1,n1,c1,p2,n2,c2,rfl,-,-,-,-,B⟩;have Af:=yH (G.out.old.low.trans (B.mono G.out.old.low.size));clear B)
     go_ret;exact ⟨rfl,Af.out⟩
    | none=>
     have AL:=yH hcl;clear hcl;go_upto_region 24 with (go_at_call 23;refine (Pg.clash_no G.out.old.st AL.out).mono ?_;rintro _ y6 ⟨p1,c1,p2,c2,rfl,B⟩;have Ba:=yH B;clear B)
     have t:=yH (G.out.later Ba.out);have BB:=yH (By.out.later Ba.out);have Bz:=yH G.out.size;have HFW6:=yH G.out.few;have B9:=yH L.out.cl;clear G By L Ba;rcases t.out.says with ⟨he,D0,CZ⟩ | ⟨he,Cp,Cl,B0⟩
     ·subst he;obtain rfl:xb=true:=CZ B9.out;have AY:=yH (x0E t.out.rowX);have AP:=yH t.out.rowK;have NX:=yH (t.out.next Cw.out AL.out BB.out);clear D0 CZ;go_upto_region 29 with (first
       | (refine jK (by rfl) 34 _ (by rfl) X 0 (by rfl) kx.cells du AY.out Z.out o.out (by rw [AZ.out];exact SKd) ?_)
       | (refine jL (by rfl) 34 (.tmp 9) (.tmp 105) (by rfl) a kx.cells.toArray (by rfl) (by rfl) _ _ AP.out (by rw [jF,AZ.out];exact SKd) (by simp only [jF,AZ.out,A8.out]) (jN Kd.one) ?_))
      generalize y6.setRow a kx.cells.toArray=y7 at *;have HSX:=yH (show kx.pk.size<=(k+1:Nat) from by have:=Bz.out;have:=SZ.out;omega);go_cut [115] from 107 to 115 (fun v wx=>v= .bool false/\Below y7.heap.size y7 wx)
      case first=>
       have CJ:=yH (NX.out.kid (by have:=HSX.out;omega));have Cu:=yH (x0E NX.out.row);have C4:=yH NX.out.kp.ok;have CY:=yH (show ∀x,Below y7.heap.size y7 x->Calls Tryz.prog 26 #[.pointer qx] x (y2M _ x xt.kid) from fun x B=>y5M (by have:=HD.out;omega) xt CJ.out.2.1 _ qx x (NX.out.tree.later B));refine kD (S:=fun w'=>Below y7.heap.size y7 w') (by kernel_rfl) (jC _ _).drew (fun hH=>?_);have BX:=yH hH;generalize y7.drew=x0 at *;refine tK 0 ?_;refine tK 1 ?_;refine tK 2 ?_;refine tQ 3 ?_ ?_ ?_;rotate_left
       ·intro w' hSw;refine Eq.trans (b:=Result.ok (Next.value (.agg kx.cells.toArray)) w') ?_ ?_
        ·exact x0F 34 (.tmp 9) (by rfl) a 0 (by rfl) kx.cells du (x01 Cu.out hSw) Z.out o.out (by rw [AZ.out];exact SKd)
        ·with_reducible rfl
       refine tK 4 ?_;refine rO 5 fun K hK=>?_;go_simp;refine (CY.out _ BX.out).mono ?_;rintro _ z1 ⟨kr,rfl,CF,A7,-,B⟩;have Cz:=yH (show kx.pk=kr.pk from CJ.out.1.trans CF.symm);have Aj:=yH A7;have Ag:=yH (BX.out.trans (B.mono BX.out.size));clear CF A7 B;try go_wp2_with fail
       refine hK.out _ _ Ag.out (fun hH=>?_);clear hK K;try simp only [Act.put,yA,yB,yC]
       refine rO 6 fun K hK=>?_;go_simp;refine (y22 kx kr z1 (C4.out.later Ag.out) Aj.out).mono ?_;rintro _ z2 ⟨rfl,B⟩;rw [kF Cz.out];have Af:=yH (Ag.out.trans (B.mono Ag.out.size));clear B;try go_wp2_with fail
       refine hK.out _ _ Af.out (fun hH=>?_);clear hK K;try simp only [Act.put,yA,yB,yC]
       refine tK 7 ?_;refine tK 8 ?_;refine jD ?_;go_wp2_with fail
       go_meet;exact ⟨rfl,Af.out⟩
      case rest=>
       obtain ⟨rfl,Cc⟩:=hcut;have NX2:=yH (NX.out.later Cc);clear Cc NX AY AP t BB;go_wp2_with fail
       go_roundw
       case rel=>exact ⟨k+1,kx,Q',s',xt,qx,by omega,by omega,rfl,by go_num,NX2.out,HSX.out,by have:=HFW6.out;have:=SZ.out;have:=FEW.out;omega⟩
       case measure=>simp [intOf];omega
     ·obtain ⟨rfl,DA⟩:=B0 B9.out;obtain rfl:xb=false:=DA;subst Cp;have AY:=yH (x0E t.out.rowX);have D1:=yH (show Calls Tryz.prog 24 #[.agg kd0.cells.toArray] y6 fun e w'=>e= .returned (.bool true)/\Below y6.heap.size y6 w' from x21 kd0 y6 (x24 _));have BK6:=yH (t.out.back AL.out);clear B0 Cl he t BB;go_wp2_with (first
       | (refine x0q (by rfl) 34 _ (by rfl) X 0 (by rfl) kd0.cells du AY.out Z.out o.out (by rw [x02];exact SKd) ?_)
       | (go_at_call 24;refine D1.out.mono ?_;rintro _ y7 ⟨rfl,B⟩;have HB7:=yH B;clear B))
      go_roundw
      case rel=>exact ⟨k+1,kd,Q',s',u,tp,by omega,by omega,rfl,by go_num,BK6.out.later HB7.out,by have:=SZ.out;omega,by have:=HFW6.out;have:=SZ.out;have:=FEW.out;omega⟩
      case measure=>simp [intOf];omega
  ·have Az:=yH hlt;clear hlt;go_upto_region 8 with fail
   go_cut [43] from 36 to 43 (fun s43 wx=>s43= .bool false/\wx=wr)
   case first=>
    by_cases h1:k<n
    ·have l1:(k:Int)<n:=by omega
     have l2:¬(k:Int)<30:=by have:=Az.out;omega
     go_wp2_with fail
     go_meet;exact ⟨rfl,rfl⟩
    ·have l1:¬(k:Int)<n:=by omega
     go_wp2_with fail
     go_meet;exact ⟨rfl,rfl⟩
   case rest=>
    obtain ⟨rfl,AG⟩:=hcut;rw [AG];clear AG Az HA;have H:=yH (L.out.kid (by have:=SZ.out;omega));have RK:=yH (x0E L.out.row);have An:=yH (show kd.pk=(V.of u).kid from (L.out.kp.tr.clean L.out.cl).1);have CW:=yH (y56 (by have:=HD.out;omega) L.out.kp (by have:=SZ.out;omega));go_upto_region 32 with (first
     | (refine jK (by rfl) 34 _ (by rfl) a 0 (by rfl) kd.cells du RK.out Z.out o.out (by rw [A8.out];exact SKd) ?_)
     | (go_at_call 27;refine CW.out.mono ?_;rintro _ y1 ⟨q,f,M,AQ,rfl,hM,-,Ca,CX,B⟩;have HM:=yH hM;have CN:=yH Ca;have Cb:=yH CX;have B1:=yH B;clear hM Ca CX B))
    obtain ⟨DB,CG⟩:=CN.out L.out.cl;subst DB;obtain ⟨nM,BM⟩:∃x,x=M.length:=⟨_,rfl⟩
    have BW:=yH BM;have CS:=yH CG;rw [<- BM];clear BM CG CW CN;have AR:=yH (L.out.later B1.out);have CT:=yH (x0E AR.out.row);have hh:=x7C (gs:=g) (d:=d) (by have:=HD.out;omega) AR.out.kp.fk.texts (V.of u) kd y1 AR.out.kp.st H.out.2.2.2.2.1 AR.out.kp.ok An.out (by rw [<- An.out];have:=SZ.out;omega);have C6:=yH (show Calls Tryz.prog 28 #[.pointer (some ⟨g,0,none⟩),.agg kd.cells.toArray,.int .i64 d] y1 fun e w'=>e= .returned (.tuple #[.int .i64 (u.height:Nat),.int .i64 0])/\Below y1.heap.size y1 w' from hh.mono fun e w' ⟨k1,k2,_⟩=>⟨by
     have h:=k2 (x1m u);rw [x3O u 1 (by omega)] at h;rw [h];split
     ·rename_i h0
      rw [h0]
     ·rw [show 1 - 1+u.height=u.height by omega],k1⟩)
    clear hh RK;go_upto_region 33 with (first
     | (refine jK (by rfl) 34 _ (by rfl) a 0 (by rfl) kd.cells du CT.out Z.out o.out (by rw [A8.out];exact SKd) ?_)
     | (go_at_call 28;refine C6.out.mono ?_;rintro _ y2 ⟨rfl,B⟩;have B2:=yH (B1.out.trans (B.mono B1.out.size));have Aq:=yH B;clear B))
    clear C6 CT AR;have l:=yH (show Calls Tryz.prog 18 #[.slice pk m e,.int .i64 d] y2 (x9b y2 R d) from y3W pk m e R d y2 (Bq.out.later (L.out.kp.low.trans (B2.out.mono L.out.kp.low.size))).ints hm (by have:=HD.out;omega));go_upto_region 34 with (go_at_call 18;refine l.out.mono ?_;rintro _ y3 ⟨⟨P,N,W,I⟩,rfl,Ae,AK,A2,B⟩;have HR:=yH (show (⟨P,N,W,I⟩:Rw).Ok y3/\N=d/\∀y,P=some y->I≠[]->wr.heap.size<=y.block from ⟨A2.ok,AK,fun y E hR=>jJ B2.out.size (A2.lo y E hR)⟩);have B3:=yH (B2.out.trans (B.mono B2.out.size));have Ay:=yH (Aq.out.trans (B.mono Aq.out.size));unfold Rw.val;simp only;clear Ae AK A2 B)
    have AC:=yH (L.out.later B3.out);have Bw:=yH (x0E AC.out.row);have D7:=yH (show I.length=d from by
     have h1:N=I.length:=HR.out.1.ints.size;have h2:N=d:=HR.out.2.1;omega)
    have CO:=yH (show Calls Tryz.prog 29 #[.pointer (some ⟨g,0,none⟩),.agg kd.cells.toArray,.slice P N W,.int .i64 d] y3 fun e w'=>e= .returned (.tuple #[.bool (decide (I∈u.all)),.int .i64 0])/\Below y3.heap.size y3 w' from by
     have h:=y75 (gs:=g) (d:=d) (by have:=HD.out;omega) AC.out.kp.fk.texts (V.of u) kd ⟨P,N,W,I⟩ y3 AC.out.kp.st H.out.2.2.2.2.1 AC.out.kp.ok An.out HR.out.1 HR.out.2.1 (by rw [<- An.out];have:=SZ.out;omega) AC.out.kp.aw (fun y E hR e=>by have:=L.out.kp.st.lt _ e;have:=HR.out.2.2 y E hR;omega);rw [y5N H.out.2.2.2.1 D7.out (show u.size<900000 by have:=H.out.2.2.1;omega)] at h;exact h)
    go_upto_region 35 with (first
     | (refine jK (by rfl) 34 _ (by rfl) a 0 (by rfl) kd.cells du Bw.out Z.out o.out (by rw [A8.out];exact SKd) ?_)
     | (go_at_call 29;refine CO.out.mono ?_;rintro _ y4 ⟨rfl,B⟩;have Bo:=yH B;have Bb:=yH (Ay.out.trans (B.mono Ay.out.size));have B4:=yH (B3.out.trans (B.mono B3.out.size));clear B))
    have Bp:=yH (HR.out.1.later Bo.out);clear CO Bw AC l HR Bo;have Ax:=yH (show Calls Tryz.prog 31 #[.pointer tp] y4 (y1w _ y4 y4 u) from x7P u tp y4 y4 (L.out.later B4.out).tree (jC _ _) (by have:=H.out.2.2.1;omega));have C7:=yH (show ∀y∈u.all,y.length=d from fun y E=>x1E H.out.2.1 y E);have CR:=yH (show u.all.length<=900 from jJ (x1c u) H.out.2.2.1);go_upto_region 37 with (first
     | (go_at_call 31;refine Ax.out.mono ?_;rintro _ y5 ⟨O,v,rfl,hO,AX,CH,B⟩;obtain ⟨qo,co,rfl,A1⟩:=Own.rows ⟨hO,fun r hr=>(CH r hr).1.later B⟩;have B5:=yH (B4.out.trans (B.mono B4.out.size));have Bh:=yH B;have Aj:=yH AX;have CB:=yH (show Calls Tryz.prog 30 #[.slice qo O.length co,.int .i64 0] y5 (x9t y5 0 O.length O) from x8E qo O.length co O 0 d y5 A1 (fun r hr=>by have h1:=(A1.each r hr).ints.size;have h2:=C7.out r.R (by rw [<- AX];exact kJ.2 ⟨r,hr,rfl⟩);omega) (by have:=HD.out;omega) (by have h1:=CR.out;rw [<- AX,kH] at h1;omega));clear hO AX CH B A1)
     | (go_at_call 30;refine CB.out.mono ?_;rintro _ y6 ⟨O2,v2,rfl,CM,B7,-,B⟩;obtain ⟨qs,cs,rfl,CU⟩:=CM.rows;have AA:=yH CU;have Ad:=yH (show O2.map Rw.R=sortP 0 u.all from by rw [B7,Aj.out]);have B6:=yH (B5.out.trans (B.mono B5.out.size));have BE:=yH (Bh.out.trans (B.mono Bh.out.size));clear CM B7 B CU))
    obtain ⟨nO,Bv⟩:∃x,x=O.length:=⟨_,rfl⟩
    rw [<- Bv] at AA ⊢;have HNO:=yH (show (sortP 0 u.all).length=nO/\O2.length=nO from by
     have h1:=congrArg List.length Ad.out;rw [kH] at h1;have h2:=AA.out.size;omega)
    have Bt:=yH (Bp.out.later BE.out);have C2:=yH (show RowsIn y6 q nM f M from by rw [BW.out];exact HM.out.later (show Below y1.heap.size y1 y6 from Bb.out.trans (BE.out.mono Bb.out.size)));have CD:=yH (L.out.later B6.out);clear Bv Ax CB Aj Bp HM Bh BE B5 B4 B3 B2 B1 Bb;go_upto_region 38 with fail
    go_loopw [28,30] (fun v28 v30 wr=>PB y6 (sortP 0 u.all) I v28 v30 wr) (fun _ v30 _=>1000 - (intOf v30).toNat)
    case atStart=>exact ⟨0,0,Nat.zero_le _,rfl,rfl,rfl⟩
    case round=>
     obtain ⟨j,jj,hj,rfl,rfl,AG⟩:=hrel;rw [AG];clear AG;have BX:=yH (Below.drewN (jC y6.heap.size y6) jj);obtain ⟨x0,Bi⟩:∃x,x=y6.drewN jj:=⟨_,rfl⟩
     have HX0:=yH Bi;rw [<- Bi] at BX ⊢;clear Bi;obtain ⟨BL,AT⟩:∃b,b=decide (I∈(sortP 0 u.all).take j):=⟨_,rfl⟩
     have HACC:=yH AT;rw [<- AT];clear AT;by_cases hj2:j<nO
     ·have l3:(j:Int)<nO:=by omega
      have i3:(0:Int)<=j/\(j:Int)<nO:=by omega
      have A4:j<O2.length:=by have:=HNO.out;omega
      have HMS:=yH (x6Y (sortP 0 u.all) I j (by have:=HNO.out;omega));obtain ⟨gq,oq,hq,CI⟩:=AA.out.at'.resolve_left (by intro e;rw [e] at A4;simp at A4);have Ap:=CI j A4;have A7:=AA.out.each _ (x3e A4);have Ab:=x6e A4;rw [Ad.out] at Ab;obtain ⟨z,hz⟩:∃z,z=O2.getD j default:=⟨_,rfl⟩
      rw [<- hz] at Ap A7 Ab;have c2:=(BX.out.cell (jI Ap)).trans Ap;have CC:=yH (A7.later BX.out);have HGD:=yH Ab;have Bu:=yH (show j<900 from by
       have h1:=CR.out;have h2:=HNO.out.1;rw [x0I] at h2;omega)
      subst hq;clear CI Ap A7 Ab hz A4;obtain ⟨zp,zn,zc,zR⟩:=z;unfold Rw.val at c2;simp only at c2;cases BL with
      | true=>
       have D9:=Bu.out;go_wp2_with fail
       go_roundw
       case rel=>exact ⟨j+1,jj,by have:=HNO.out;omega,by rw [HMS.out,<- HACC.out];rfl,by go_num,HX0.out⟩
       case measure=>simp [intOf];omega
      | false=>
       have D9:=Bu.out;have Ck:=yH (show Calls Tryz.prog 32 #[.slice zp zn zc,.slice P N W] x0 _ from x0y zp P zn zc N W zR I x0 CC.out.ints (Bt.out.later BX.out).ints CC.out.top);go_wp2_with (go_at_call 32;refine Ck.out.mono ?_;rintro _ x1 ⟨rfl,m1,C9⟩;have HX1:=yH C9;clear C9)
       go_roundw
       case rel=>exact ⟨j+1,jj+m1,by have:=HNO.out;omega,by rw [HMS.out,<- HACC.out,HGD.out];rfl,by go_num,by rw [HX1.out,HX0.out,World.drewN_drewN]⟩
       case measure=>simp [intOf];omega
     ·have D8:j=nO:=by have:=HNO.out;omega
      have D2:=yH (show BL=decide (I∈u.all) from by
       rw [HACC.out,kQ (by have:=HNO.out;omega)];exact decide_eq_decide.2 (x17 0 u.all).mem_iff)
      have Ao:=yH (CD.out.later BX.out);have Cj:=yH (show Calls Tryz.prog 33 #[.slice q nM f,.slice qs nO cs] x0 fun e w'=>e= .returned (.bool true)/\∃j,w'=x0.drewN j from (x92 q qs nM f nO cs M O2 x0 (C2.out.later BX.out) (AA.out.later BX.out) (by have:=Cb.out;rw [BW.out];omega)).mono fun e w' ⟨h1,h2⟩=>⟨by
       rw [h1];have e1:numsK M=numsK O2:=by
        show M.map Rw.R=O2.map Rw.R
        rw [CS.out,Ad.out];exact x78 (fun y E=>C7.out y ((x0s u).mem_iff.1 E)) (x0s u)
       rw [kF e1],h2⟩)
      have D5:=yH (show kd.size=(u.size:Nat) from H.out.2.2.2.2.2.symm);have AM:=(x0N Ao.out.row Ao.out.kp.ok.len).size;rw [Nat.zero_add,D5.out] at AM;have Ar:=yH AM;have Cs:=yH (x32 u H.out.2.2.2.1.bal);have C3:=yH (show u.size<=900 from H.out.2.2.1);have As:=yH Ao.out.kp.low;have e3:BL=decide (I∈u.all):=D2.out;have l3:¬(j:Int)<nO:=by omega
      clear hj2 AM D8 HACC HX0 AA Ad HNO CS BW Cb C2 Bt CD;subst e3;go_upto_region 41 with fail
      go_wp2_with (first
       | (go_at_call 33;refine Cj.out.mono ?_;rintro _ x2 ⟨rfl,jz,C8⟩;have BZ:=yH (show Below x0.heap.size x0 x2 from by rw [C8];exact Below.drewN (jC _ _) _);have D6:=yH (Ao.out.later BZ.out).tree;clear C8)
       | (go_at_call 34;refine (x9j u tp x2 D6.out (by have h1:=x37 u;have:=C3.out;omega)).mono ?_;rintro _ x3 ⟨rfl,B⟩;have BU:=yH (BZ.out.trans (B.mono BZ.out.size));have Dx:=(BU.out.cell (jI Ar.out)).trans Ar.out;have Ds:((u.height:Nat):Int)<=((x1t u.size:Nat):Int):=(by have:=Cs.out;omega);clear B)
       | (go_at_call 35;refine (y3X u.size (by have:=C3.out;omega) x3).mono ?_;rintro _ x4 ⟨rfl,rfl⟩))
      go_ret;exact ⟨rfl,As.out.trans (BU.out.mono As.out.size)⟩
end Kt
end Go.Proofs.YtenenciaggbjnaaGreat
