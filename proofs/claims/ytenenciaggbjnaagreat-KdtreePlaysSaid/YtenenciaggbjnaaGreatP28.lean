/- KdInsV, KdDelLay, KdDelFn, KdDelV. -/
import Derived.Shelf.SlicesE.DeleteFunc
import Derived.Test.YtenenciaggbjnaaGreatP25
import Derived.Test.YtenenciaggbjnaaGreatP27
set_option maxRecDepth 100000
set_option maxHeartbeats 8000000
set_option linter.all false
namespace Go.Proofs.YtenenciaggbjnaaGreat
namespace Kt
open Go.RowKit Go.Shelf Nd Dk Pg
open List renaming setIfInBounds_toArray -> yA, set_cons_zero -> yB, set_cons_succ -> yC
theorem y6i {s:Pg.S} {L:List (List Nat)} (h:L≠[]):(puts s L).W≠[]:=by
 obtain ⟨M,b,rfl⟩:∃M b,L=M++[b]:=⟨L.dropLast,L.getLast h,(List.dropLast_concat_getLast h).symm⟩
 rw [x13];exact y0a (puts s M) b
def endV (s:St) (lv:Bool):V:=.fork s.row lv s.l s.r
def endN (s:St) (lv:Bool):PN:=forkN s.row lv s.l.kid s.r.kid
def insV (d:Nat) (p:List Int) (u:V):Int ⊕ (V×List (List Nat)):=
 match wayV d p u 0 with
 | none=>.inl 21
 | some x=>if x.2.live then .inl 8
  else if (x0D 0 (x.1++[x.2])).1=x.1.length+1 then .inr (x0V x.1 (endV x.2 true),(endN x.2 true).bytes::x16 x.1 (endV x.2 true))
  else if ((x.1++[x.2]).getD (x0D 0 (x.1++[x.2])).1 x.2).old.whole then
   .inr (x0V ((x.1++[x.2]).take (x0D 0 (x.1++[x.2])).1) (V.of (lay (((x.1++[x.2]).getD (x0D 0 (x.1++[x.2])).1 x.2).old.rows++[p]) (x0D 0 (x.1++[x.2])).1)),
    (lay (((x.1++[x.2]).getD (x0D 0 (x.1++[x.2])).1 x.2).old.rows++[p]) (x0D 0 (x.1++[x.2])).1).pages++x16 ((x.1++[x.2]).take (x0D 0 (x.1++[x.2])).1) (V.of (lay (((x.1++[x.2]).getD (x0D 0 (x.1++[x.2])).1 x.2).old.rows++[p]) (x0D 0 (x.1++[x.2])).1)))
  else .inl 21
def x6E (w:World) (gs:Nat) (Q:Nat->Prop) (s:Pg.S) (o:Int ⊕ (V×List (List Nat))) (e:Ending) (w':World):Prop:=
 match o with
 | .inl err=>e= .returned (.tuple #[.agg kd0.cells.toArray,.int .i64 err])/\Below w.heap.size w w'
 | .inr x=>Told2 w gs Q x.1 (puts s x.2) e w'
theorem y1c {A:List MSt} {L:List St} (h:Links A L) (i:Nat) (hi:i<A.length) (x:St):Link (A.getD i default) (L.getD i x):=by
 have E:=h.length;have e:=jM (l:=L) (i:=i) (by omega);obtain ⟨m,C,B⟩:=h.get i _ e;rw [jG,jG,C,e];exact B
theorem y3N {w:World} {b o:Nat} {m:MSt} (h:w.rangeAt b o m.cells):w.rangeAt b o m.kid.cells:=fun j v hv=>h j v (by
 unfold MSt.cells
 rw [kR (List.getElem?_eq_some_iff.1 hv).1]
 exact hv)
theorem x7D {gs d:Nat} {Q:Nat->Prop} {s:Pg.S} (hd:1<=d/\d<=8) (hW:x2x d s.W) (u:V) (k:Kd) (r:Rw) (w:World) (hp:PL w gs Q s) (hs:Sees s.W d u) (hk:k.Ok w) (he:k.pk=u.kid) (hr:r.Ok w) (hrd:r.n=d) (hz:u.kid.size<=900) (hka:Aw Q k) (hra:∀y,r.p=some y->r.R≠[]->¬Q y.block) (hsl:s.W.length<=60000):
  Calls Tryz.prog 19 #[.pointer (some ⟨gs,0,none⟩),.agg k.cells.toArray,r.val,.int .i64 d] w (x6E w gs Q s (insV d r.R u)):=by
 have A1:∀w',Below w.heap.size w w'->Calls Tryz.prog 68 #[.agg #[.pointer (some ⟨gs,0,none⟩),.int .i64 d],.agg k.cells.toArray,r.val] w' (y0X w' Q (wayV d r.R u 0)):=fun w' hb=>x9V hd hW u k r w' (hp.keep (fun _=>False) (Only.of_below _ hb) (fun _ _ e=>e)) hs (hk.later hb) he (hr.later hb) hrd (by omega) hka hra;have An:r.R.length=d:=by have:=hr.ints.size;omega
 cases hO:wayV d r.R u 0 with
 | none=>
  unfold insV;rw [hO] at A1 ⊢;refine (y1T (some ⟨gs,0,none⟩) d k r 21 w hk (fun w' hb=>(A1 w' hb).mono ?_) (by decide)).mono fun e w' h=>h;rintro e w2 ⟨I,h2,-⟩;exact ⟨h2 rfl,I⟩
 | some X=>
  obtain ⟨L,G⟩:=X;rw [hO] at A1;obtain ⟨⟨CD,C7,-⟩,AK,Bi⟩:=x2S u 0 hs L G hO;have AE:=x2R (Z:=((u.kid.size.toNat:Nat):Int)) An (by omega) u 0 hs (by omega) L G hO;have hZ:u.kid.size.toNat<=900:=by omega
  have CH:=x0k hs;have BC:=x4B (L++[G]) 0;obtain ⟨E,Az⟩:∃E,E=(x0D 0 (L++[G])).1:=⟨_,rfl⟩
  have B7:insV d r.R u=if G.live then .inl 8
    else if E=L.length+1 then .inr (x0V L (endV G true),(endN G true).bytes::x16 L (endV G true))
    else if ((L++[G]).getD E G).old.whole then
     .inr (x0V ((L++[G]).take E) (V.of (lay (((L++[G]).getD E G).old.rows++[r.R]) E)),(lay (((L++[G]).getD E G).old.rows++[r.R]) E).pages++x16 ((L++[G]).take E) (V.of (lay (((L++[G]).getD E G).old.rows++[r.R]) E)))
    else .inl 21:=by
   unfold insV;rw [hO,Az]
  rw [B7];clear B7;generalize hOUT:(if G.live then (Sum.inl 8:Int ⊕ (V×List (List Nat))) else _)=OUT;have AF:=yH hOUT;clear hOUT;obtain ⟨W,D1,r0,r1,b1⟩:=x1B w (.cells k.cells.toArray 34) (.cells kd0.cells.toArray 34);have AH:=yH A1;have Cr:=yH (Kd.cells_length hk.len);have R0:=yH r0;have R1:=yH r1;have B1:=yH b1;have Ab:=yH (show ∀k,Q k->k<w.heap.size from hp.lt);have DB:=yH hp;have Cm:=yH hW;have Ay:=yH hd;have CL:=yH hr;have Cp:=yH hrd;have D4:=yH hra;have BI:=yH hsl;have C3:=yH AK;have Cf:=yH Bi;have B0:=yH AE;have BN:=yH hZ;have Cl:=yH (show u.kid.size<=900 from hz);have Bo:=yH (show E<=L.length+1 by rw [Az];have:=BC.2;simp at this;omega);have D8:=yH Az;obtain ⟨sz,BU⟩:∃sz,sz=(x0D 0 (L++[G])).2.1:=⟨_,rfl⟩
  have C1:=yH BU;have DT:0<=sz/\sz<=901:=by rw [BU];omega
  have DO:¬sz>1048576:=by omega
  obtain ⟨rp,rn,rc,rR⟩:=r;unfold Rw.val at AH ⊢;simp only at AH An AF ⊢;obtain ⟨du,CC,Bj⟩:=UTr;obtain ⟨dk,Bf,B8⟩:=UKd;have AR:=yH CC;have AU:=yH Bj;have AL:=yH Bf;have U:=yH B8;have Ch:=yH (zero_of_info kz);have DZ:=Ch.1;have Ck:=yH An;clear hd hW hp hs hk he hr hrd hz hka hra hsl A1 CD C7 AK Bi AE hZ CH BC Az r0 r1 b1 BU CC Bj Bf B8 hO An
  go_enter Tryz.func19,Tryz.ntmps19
  go_upto_region 1 with fail
  clear D1;go_upto_region 2 with (first
   | (refine x05 (cells:= #[.pointer (some ⟨gs,0,none⟩),.int .i64 d]) (by rfl) (by rfl) (by simp only [kA,kB,kC];exact x1y _ _) ?_)
   | (refine jL (by rfl) 107 (.tmp 10) (.tmp 18) (by rfl) W.heap.size #[.pointer (some ⟨gs,0,none⟩),.int .i64 d] (by rfl) (by rfl) _ _ (jE W _) STr rfl (x4E _ _) ?_;rw [x03]))
  have Ar:=jA W (.cells #[.pointer (some ⟨gs,0,none⟩),.int .i64 d] 107);have Ai:=jE W (.cells #[.pointer (some ⟨gs,0,none⟩),.int .i64 d] 107);generalize W.alloc (.cells #[.pointer (some ⟨gs,0,none⟩),.int .i64 d] 107)=w2 at *;obtain ⟨P,At⟩:∃P,P=W.heap.size:=⟨_,rfl⟩
  rw [<- At] at Ai ⊢;have Aj:=yH (show w.heap.size+2<=P/\P<w2.heap.size from ⟨by rw [At];exact (yL R1),(yL Ai)⟩);have T2:=yH Ai;have R2:=yH (x09 Ai);have CG:=yH (x0E (yK Ar R0));have D3:=yH (yK Ar R1);have B2:=yH (B1.trans (Ar.mono B1.size));clear Ar Ai At R0 R1 B1;go_upto_region 3 with (first
   | (refine jK (by rfl) 107 _ (by rfl) P 0 (by rfl) [.pointer (some ⟨gs,0,none⟩),.int .i64 d] du R2 AR AU STr ?_)
   | (refine jK (by rfl) 34 _ (by rfl) w.heap.size 0 (by rfl) k.cells dk CG AL U (by rw [Cr.out];exact SKd) ?_)
   | (go_at_call 68;refine (AH.out w2 B2).mono ?_;rintro _ w3 ⟨b3,-,Bl⟩;obtain ⟨q5,c5,A5,Db,rfl,A2,CJ,Aa⟩:=Bl L G rfl;have Aq:=yH A2;have f:=yH CJ;have Ba:=yH Aa;have BK:=yH b3;have B3:=yH (B2.trans (b3.mono B2.size));clear b3 Bl A2 CJ Aa))
  obtain ⟨n5,AD⟩:∃n5,n5=A5.length:=⟨_,rfl⟩
  have v:=yH AD;have Ax:=yH (show n5=L.length+1 by rw [AD,f.length];simp);obtain ⟨AT,BA⟩:=x7B f.out B0;have BT:=yH AT;have A7:=yH (show n5<=901 by have I:=Cf.out;have h2:=Ax.out;have h3:=Cl.out;rw [jQ] at I;simp at I;omega);have By:=yH (show Calls Tryz.prog 69 #[.slice q5 n5 c5] w3 fun e w'=>e= .returned (.bool G.live)/\w'=w3 from by
   obtain ⟨A0,m,hA,Bg,Af⟩:=x2T f.out;have A2:=Aq.out;rw [AD];rw [hA] at A2 ⊢;rw [Af.live];refine x7v A2 ?_;have I:=A7.out;rw [AD,hA] at I;simp at I;omega)
  have D2:=yH (show Calls Tryz.prog 70 #[.slice q5 n5 c5] w3 fun e w'=>e= .returned (.tuple #[.int .i64 (E:Int),.int .i64 sz])/\Below w3.heap.size w3 w' from by
   rw [D8.out,C1.out,AD];exact y1V Aq f (by have:=A7.out;omega) BA C3)
  rw [<- AD];clear AD AT BA AH R2 CG C3;have BS:=yH (yK BK D3);have T3:=yH (yK BK T2);go_upto_region 5 with fail
  generalize hlv:G.live=lv at *;have DN:=yH hlv;clear hlv;cases lv with
  | true=>
   have C:=AF.out;rw [if_pos rfl] at C;go_wp2_with (first
    | (go_at_call 69;refine By.mono ?_;rintro _ w4 ⟨rfl,rfl⟩)
    | (refine x05 (by rfl) (by rfl) x0T ?_)
    | (refine jL (by rfl) 34 _ _ (by rfl) (w.heap.size+1) kd0.cells.toArray (by rfl) (by rfl) _ _ BS (by rw [jF,x02];exact SKd) rfl (jN Kd.one) ?_))
   refine x0G 8 9 (by kernel_rfl) (w.heap.size+1) _ kd0.cells.toArray _ AL U (by rw [jF,x02];exact SKd) (by rfl) (by rfl) (jT _ _ _ _ _ _ BS) ?_;rw [<- C];exact ⟨rfl,B3.trans (Below.setRow (jC _ _) (by omega) _)⟩
  | false=>
   have C:=AF.out;rw [if_neg Bool.false_ne_true] at C;have j:=yH C;clear C AF;go_upto_region 10 with (first
    | (go_at_call 69;refine By.mono ?_;rintro _ w4 ⟨rfl,rfl⟩)
    | (go_at_call 70;refine D2.mono ?_;rintro _ w4 ⟨rfl,b4⟩;have AS:=yH b4;clear b4))
   have M:=yH (Aq.later AS);have o:=yH (B3.trans (AS.mono B3.size));have A3:=yH (show w2.heap.size<=w4.heap.size from jJ BK.size AS.size);have AJ:=yH (DB.keep (fun _=>False) (Only.of_below _ o) (fun _ _ e=>e));have BJ:=yH (yK AS BS);have T4:=yH (yK AS T3);have Ao:=yH (show ∀k,Q k->k<w2.heap.size from fun k hk=>by have:=Ab.out k hk;have:=B2.size;omega);by_cases hc:E=n5
   ·have HC:=yH hc;have Cc:((E:Int)==(n5:Int))=true:=by rw [hc];simp
    have DA:(E:Int)=(n5:Int):=by rw [hc]
    have C:=j.out;rw [if_pos (by rw [hc,Ax.out])] at C;have H:=yH C;clear C j;have BP:=yH (show Calls Tryz.prog 71 #[.agg #[.pointer (some ⟨gs,0,none⟩),.int .i64 d],.slice q5 n5 c5,.bool true] w4 fun e w5=>∃kd:Kd,e= .returned (.agg kd.cells.toArray)/\kd.cells.length=37/\w5.heap[w.heap.size+1]? =some (.cells kd0.cells.toArray 34 (0,0))/\Told2 w gs Q (x0V L (endV G true)) (puts s ((endN G true).bytes::x16 L (endV G true))) (.returned (.tuple #[.agg kd.cells.toArray,.int .i64 0])) (w5.setRow (w.heap.size+1) kd.cells.toArray) from by
     obtain ⟨A0,m,hA,Bg,Af⟩:=x2T f.out;have A2:=M.out;have Aa:=Ba.out;have AT:=BT.out;have h9:=A7.out;have Dp:=BN.out;rw [v.out] at h9 ⊢;rw [hA] at A2 Aa AT h9 ⊢;have hN:forkN m.row.R true m.k1.pk m.k2.pk=endN G true:=by
      unfold endN;rw [Af.row,Af.l,Af.r]
     have DI:A0.length<=900:=by simp at h9;omega
     have Bs:A0.length*(u.kid.size.toNat+1)<=900*901:=Nat.mul_le_mul DI (by omega);have ht:=x8r (B:=w2.heap.size) (Z:=u.kid.size.toNat) Ay A2 A3 Ao Aa AJ (by have:=BI.out;omega) (by omega) AT (by omega) true;rw [hN] at ht;refine ht.mono fun e w5 h5=>x5O h5 ?_ o ⟨Nat.le_succ _,by have:=Aj.out;omega⟩ A3 Ab BJ;have hf:=x2b Bg (endV G true) (s.put (endN G true).bytes) A0.length (jB _);rw [Nat.sub_self,List.drop_zero] at hf;exact hf)
    clear M AJ BT Ba f Aq;have R4:=yH (x09 T4);go_wp2_with (first
     | (refine jK (by rfl) 107 _ (by rfl) P 0 (by rfl) [.pointer (some ⟨gs,0,none⟩),.int .i64 d] du R4 AR AU STr ?_)
     | (go_at_call 71;refine BP.mono ?_;rintro _ w5 ⟨kd,rfl,hl,Ac,N⟩;have BL:=yH hl;have Ad:=yH Ac;have AC:=yH N;clear hl Ac N)
     | (refine jL (by rfl) 34 _ _ (by rfl) (w.heap.size+1) kd.cells.toArray (by rfl) (by rfl) _ _ Ad (by rw [jF,BL.out];exact SKd) (by simp only [jF,BL.out,x02]) (jN Kd.one) ?_))
    exact x0G 8 9 (by kernel_rfl) (w.heap.size+1) _ kd.cells.toArray _ AL U (by rw [jF,BL.out];exact SKd) (by rfl) (by rfl) (jT _ _ _ _ _ _ Ad) (by rw [<- H.out];exact AC.out)
   ·have AZ:E<n5:=by have I:=Bo.out;have h2:=Ax.out;omega
    have Cv:¬E=L.length+1:=by rw [<- Ax.out];exact hc
    have Cc:((E:Int)==(n5:Int))=false:=by simp;omega
    have DA:¬(E:Int)=(n5:Int):=by omega
    have C:=j.out;rw [if_neg Cv] at C;have H:=yH C;clear C j;obtain ⟨g5,Ci,Bk,BV⟩:=x4F M.out (fun e=>by have I:=v.out;rw [e] at I;simp at I;omega);subst Ci;have Cs:=yH BV;have DE:=yH Bk;have Bm:=yH (show w2.heap.size<=g5/\g5<w4.heap.size from M.own.lt g5 rfl);obtain ⟨m,hm⟩:∃m,m=A5.getD E default:=⟨_,rfl⟩
    obtain ⟨st,Am⟩:∃st,st=(L++[G]).getD E G:=⟨_,rfl⟩
    rw [<- Am] at H;have B9:Link m st:=by rw [hm,Am];exact y1c f E (by rw [<- v.out];exact AZ) G
    have CB:m∈A5:=by
     rw [hm,jG,jM (by rw [<- v.out];exact AZ)];exact kM _
    have B5:st∈L++[G]:=by
     rw [Am,jG,jM (by have:=f.length;rw [<- this,<- v.out];exact AZ)];exact kM _
    have BW:=M.way.each m CB;have AK:=B0.out st B5;have Ag:=yH AK.old;have Bz:=yH (show st.old.kid.size<=900 from by have I:=AK.zo;have h2:=BN.out;omega);have Cz:=yH (show w4.rangeAt g5 (E*41) m.kid.cells from by
     have I:=BV E (by rw [<- v.out];exact AZ);rw [<- hm] at I;exact y3N I)
    have DK:=yH (Kd.cells_length BW.kid.len);have Bb:=yH (show ∀x,Below w4.heap.size w4 x->Calls Tryz.prog 72 #[.agg #[.pointer (some ⟨gs,0,none⟩),.int .i64 d],.agg m.kid.cells.toArray] x (x7x x st.old) from fun x z=>x7y Cm.out st.old m.kid x (AJ.keep (fun _=>False) (Only.of_below _ z) (fun _ _ e=>e)) Ag (BW.kid.later z) B9.old.symm (by have:=Bz.out;omega));have i1:(0:Int)<=(E:Int)/\(E:Int)<(n5:Int):=by omega
    have A4:=yH AZ;clear hm Am B9 CB B5 BW AK BV Bk;go_upto_region 12 with fail
    refine kD (S:=fun w'=>Below w4.heap.size w4 w') (by kernel_rfl) ((jC _ _).drew) (fun hH=>?_);generalize w4.drew=x0 at *;refine tQ 0 ?_ ?_ ?_;rotate_left
    ·intro w' hSw;refine Eq.trans (b:=Result.ok (Next.value (.agg #[.pointer (some ⟨gs,0,none⟩),.int .i64 d])) w') ?_ ?_
     ·exact x0F 107 (.tmp 10) (by rfl) P 0 (by rfl) [.pointer (some ⟨gs,0,none⟩),.int .i64 d] du (x01 (x09 T4) hSw) AR AU STr
     ·with_reducible rfl
    refine tK 1 ?_;refine tK 2 ?_;refine tK 3 ?_;refine tK 4 ?_;refine tQ 5 ?_ ?_ ?_;rotate_left
    ·intro w' hSw;refine Eq.trans (b:=Result.ok (Next.value (.agg m.kid.cells.toArray)) w') ?_ ?_
     ·exact x0F 34 (.tmp 53) (by rfl) g5 (E*41) (by rfl) m.kid.cells dk (x01 Cz hSw) AL U (by rw [DK.out];exact SKd)
     ·with_reducible rfl
    refine rO 6 fun K hK=>?_;go_simp;refine (Bb.out x0 hH).mono ?_;rintro _ x1 ⟨D6,q6,c6,O,rfl,Bv,B6,CA,Bw,AX,BQ⟩;have Bp:=yH Bv;have CM:=yH B6;have Cw:=yH CA;have DJ:=yH Bw;have DL:=yH AX;have DC:=yH BQ;have Ct:=yH hH;have BG:=hH.trans (BQ.mono hH.size);clear Bv B6 CA Bw AX BQ;try go_wp2_with fail
    refine hK.out _ _ BG (fun hH=>?_);clear hK K;try simp only [Act.put,yA,yB,yC]
    refine tK 7 ?_;refine tK 8 ?_;refine tK 9 ?_;refine tK 10 ?_;refine tK 11 ?_;refine jD ?_;have AV:=yH hH;clear hH;have C2:=yH (yK AV BJ);have T5:=yH (yK AV T4);cases hwh:st.old.whole with
    | false=>
     have AY:D6=21:=DJ.out hwh;subst AY;have C:=H.out;rw [hwh,if_neg Bool.false_ne_true] at C;have A8:=yH C;clear C H hwh;go_wp2_with (first
      | (refine x05 (by rfl) (by rfl) x0T ?_)
      | (refine jL (by rfl) 34 _ _ (by rfl) (w.heap.size+1) kd0.cells.toArray (by rfl) (by rfl) _ _ C2 (by rw [jF,x02];exact SKd) rfl (jN Kd.one) ?_))
     refine x0G 8 9 (by kernel_rfl) (w.heap.size+1) _ kd0.cells.toArray _ AL U (by rw [jF,x02];exact SKd) (by rfl) (by rfl) (jT _ _ _ _ _ _ C2) ?_;rw [<- A8.out];exact ⟨rfl,(o.trans (AV.mono o.size)).trans (Below.setRow (jC _ _) (by omega) _)⟩
    | true=>
     obtain ⟨AY,BE⟩:=Cw.out hwh;subst AY;have C:=H.out;rw [hwh,if_pos rfl] at C;have A8:=yH C;have BB:=yH BE;clear C H hwh BE;go_upto_region 15 with fail
     have Al:=yH (show Below x1.heap.size x1 x1.drew from (jC _ _).drew);have Cn:=yH (show x1.drew.heap[P]? =some (.cells #[.pointer (some ⟨gs,0,none⟩),.int .i64 d] 107 (0,0)) from T5.out);refine kD (S:=fun w'=>w'.heap[P]? =some (.cells #[.pointer (some ⟨gs,0,none⟩),.int .i64 d] 107 (0,0))) (by kernel_rfl) (Cn.out) (fun hH=>?_);generalize x1.drew=y0 at *;have BM:=yH (AV.trans (Al.mono AV.size));have As:=yH (show y0.ownsRow x0.heap.size 24 1 (.slice q6 O.length c6) O.length (hds O) from ⟨Bp.1,Bp.2.imp id (by
      rintro ⟨g,CZ,CY,hv,hg,CO,e⟩;exact ⟨g,CZ,CY,hv,hg,(Al.block _ (yL CO)).trans CO,e⟩)⟩)
     have DM:=yH (AJ.keep (fun _=>False) (Only.of_below _ BM) (fun _ _ e=>e));have J:=yH (show w4.heap.size<=x0.heap.size/\x0.heap.size<=x1.heap.size/\x1.heap.size<=y0.heap.size from ⟨Ct.size,DC.size,Al.size⟩);have D0:=yH (CL.later (o.trans (BM.mono o.size)));have Co:=yH (show ∀x∈O++[(⟨rp,rn,rc,rR⟩:Rw)],x.Ok y0/\x.n=d/\∀y,x.p=some y->x.R≠[]->(Value.slice q6 O.length c6).ownBlock≠some y.block/\¬Q y.block from fun x z=>by
      rcases jP.1 z with z | z
      ·obtain ⟨I,h2⟩:=CM.out x z;refine ⟨I.later Al,?_,fun y hy hR=>⟨(h2 y hy hR).1,fun e=>by have:=Ao.out _ e;have:=(h2 y hy hR).2;have:=J.1;have:=A3.out;omega⟩⟩;have hl:x.R.length=d:=x1Y Ag.out x.R (by rw [<- BB.out];exact List.mem_map_of_mem z);have:=I.ints.size;omega
      ·rw [kZ.1 z];refine ⟨D0.out,Cp.out,fun y hy hR=>⟨fun e=>?_,D4.out y hy hR⟩⟩;have I:=(As.lt _ e).1;have h2:=rw_lt CL.out y hy hR;have h3:=J.1;have h4:=o.size;omega)
     have AQ:O.length<=900:=by have I:=DL.out;have h2:=Bz.out;omega
     have AG:=yH AQ;have Bq:E<=c5:=by have I:=DE.out;rw [<- v.out] at I;have:=A4.out;omega
     clear AQ;have BX:=yH (show ∀(y2:World) (g7 c7:Nat) (y3:World) (Y:Kd) (Q1:Nat->Prop),AppR x0.heap.size gs d Q s y0 (.slice q6 O.length c6) (O++[(⟨rp,rn,rc,rR⟩:Rw)]) g7 c7 y2->Y.pk=(lay ((O++[(⟨rp,rn,rc,rR⟩:Rw)]).map Rw.R) E).kid->Y.Ok y3->Fsh y2 Y->Aw Q1 Y->LayR y2 y3 gs Q Q1 (puts s (lay ((O++[(⟨rp,rn,rc,rR⟩:Rw)]).map Rw.R) E).pages) g7 0 (O++[(⟨rp,rn,rc,rR⟩:Rw)]).length->
       Calls Tryz.prog 73 #[.agg #[.pointer (some ⟨gs,0,none⟩),.int .i64 d],.slice (some ⟨g5,0,none⟩) E c5,.agg Y.cells.toArray] y3 fun e y4=>∃kd:Kd,e= .returned (.agg kd.cells.toArray)/\kd.cells.length=37/\y4.heap[w.heap.size+1]? =some (.cells kd0.cells.toArray 34 (0,0))/\y4.heap[P]? =some (.cells #[.pointer (some ⟨gs,0,none⟩),.int .i64 d] 107 (0,0))/\x6E w gs Q s OUT (.returned (.tuple #[.agg kd.cells.toArray,.int .i64 0])) (y4.setRow (w.heap.size+1) kd.cells.toArray) from fun y2 g7 c7 y3 Y Q1 hap e1 e2 e3 e4 e5=>by
      have AW:(O++[(⟨rp,rn,rc,rR⟩:Rw)]).map Rw.R=st.old.rows++[rR]:=by rw [List.map_append,BB.out];rfl
      rw [AW] at e1 e5;obtain ⟨t,ht⟩:∃t,t=lay (st.old.rows++[rR]) E:=⟨_,rfl⟩
      have Dn:=AG.out;have C6:t.dims d:=by
       rw [ht];refine x3B fun x z=>?_;rcases jP.1 z with z | z
       ·exact x1Y Ag x z
       ·rw [kZ.1 z];exact Ck.out
      have Dr:t.size=O.length+1:=by
       rw [ht,x1X,<- AW];simp
      have C:=A8.out;rw [<- ht] at e1 e5 C;have Be:=x1V Ay.out t C6;have CF:=x0W t (by omega);have Bh:=x0P t;have Dq:=J.out;have DS:=hap.only.size;have Ap:=e5.only.size;have Dh:g7=g7:=rfl;have Cj:Only Q w4 y3:=by
       have a1:=BM.out;have a2:=hap.only;have a3:=e5.only;refine ⟨a3.os.trans (a2.os.trans a1.os),a3.tape.trans (a2.tape.trans a1.tape),a3.output.trans (a2.output.trans a1.output),by omega,fun k hk hn=>?_⟩;have DD:k≠g7:=fun e=>by have:=hap.low;omega
       rw [a3.block k (by omega) (fun e=>e.elim hn DD),a2.block k (by omega) (fun e=>by have:=(As.lt k e).1;omega)];exact a1.block k hk
      have A6:(A5.take E).length=E:=by rw [kX,<- v.out];have:=A4.out;omega
      have Bs:E*(u.kid.size.toNat+1)<=900*901:=Nat.mul_le_mul (by have I:=A4.out;have h2:=A7.out;omega) (by have:=BN.out;omega);have Dk:=x1l t.pages s;have hr:=y1Z (B:=w2.heap.size) (gs:=gs) (d:=d) (Z:=u.kid.size.toNat) (g:=g5) (w:=w4) (x:=y3) (q:=some ⟨g5,0,none⟩) (c:=c5) (A:=A5.take E) (Q:=Q) (Q1:=Q1) (s1:=puts s t.pages) (kd:=Y) Ay A3 Ao
       (fun _=>⟨rfl,by rw [A6];exact Bq,Bm.2,Bm.1,fun i hi=>by
        rw [A6] at hi;have I:=Cs.out i (by rw [<- v.out];have:=A4.out;omega);rw [show (A5.take E).getD i default=A5.getD i default from by rw [jG,jG,List.getElem?_take_of_lt hi]];exact I⟩)
       (M.way.take E) (fun a ha k hk=>⟨fun e=>(M.aside a (List.mem_of_mem_take ha) k hk).2 (by rw [e];rfl),Ba.out a (List.mem_of_mem_take ha) k hk⟩) Cj (by rw [A6];have I:=A4.out;have h2:=A7.out;omega) e2 (fun r hr x z hR=>by have:=e3 r hr x z hR;omega) e4 e5.st (fun k hk=>(e5.new k hk).imp id (fun e=>by omega)) (y6i (fun e=>by rw [e] at Bh;simp at Bh;omega)) (by rw [A6];have I:=A4.out;have h2:=A7.out;have h3:=BI.out;omega)
       ⟨by rw [e1];exact Be.1,by rw [e1];exact Be.2,by rw [e1,CF];omega⟩ (fun a ha=>BT.out a (List.mem_of_mem_take ha)) (by rw [e1,CF,A6];omega)
      rw [A6,e1] at hr;refine hr.mono fun e y4 h4=>?_;have Cq:=x1C (u:=t) (by omega);have hf:=x2b (f.take E) (V.of t) (puts s t.pages) (A5.take E).length (jB _);rw [Nat.sub_self,List.drop_zero,A6,Cq,<- x13] at hf;have BR:∃(kd:Kd) (Q2:Nat->Prop),e= .returned (.agg kd.cells.toArray)/\Only (fun k=>Q k\/w2.heap.size<=k) w4 y4:=by
       obtain ⟨kd,Q',I,_,_,_,_,_,_,h8⟩:=h4;exact ⟨kd,Q',I,h8⟩
      obtain ⟨_,_,_,BR⟩:=BR;have At:=Aj.out;obtain ⟨kd,g1,g2,g3,g4⟩:=x5O h4 hf o (b:=w.heap.size+1) ⟨Nat.le_succ _,by omega⟩ A3 Ab BJ;refine ⟨kd,g1,g2,g3,(BR.block P (yL T4) (fun e=>e.elim (fun e=>by have:=Ab.out P e;omega) (fun e=>by omega))).trans T4.out,?_⟩;rw [<- C];exact g4)
     refine tQ 0 ?_ ?_ ?_;rotate_left
     ·intro w' hSw;refine Eq.trans (b:=Result.ok (Next.value (.agg #[.pointer (some ⟨gs,0,none⟩),.int .i64 d])) w') ?_ ?_
      ·exact x0F 107 (.tmp 10) (by rfl) P 0 (by rfl) [.pointer (some ⟨gs,0,none⟩),.int .i64 d] du (x09 hSw) AR AU STr
      ·with_reducible rfl
     refine tK 1 ?_;refine tK 2 ?_;refine tQ 3 ?_ ?_ ?_;rotate_left
     ·intro w' hSw;refine Eq.trans (b:=Result.ok (Next.value (.slice (some ⟨g5,0,none⟩) E c5)) w') ?_ ?_
      ·exact y0Z (x:=.tmp 63) (hi:=.tmp 64) (n:=n5) (c:=c5) (k:=E) (g:=g5) (i:=0) (by rfl) (by rfl) (by rfl) Bq
      ·with_reducible rfl
     refine tQ 4 ?_ ?_ ?_;rotate_left
     ·intro w' hSw;refine Eq.trans (b:=Result.ok (Next.value (.agg #[.pointer (some ⟨gs,0,none⟩),.int .i64 d])) w') ?_ ?_
      ·exact x0F 107 (.tmp 10) (by rfl) P 0 (by rfl) [.pointer (some ⟨gs,0,none⟩),.int .i64 d] du (x09 hSw) AR AU STr
      ·with_reducible rfl
     refine tK 5 ?_;refine tK 6 ?_;refine tK 9 ?_;refine rO 7 fun K hK=>?_;refine y1a (.tmp 68) (by rfl) (by rfl) ?_;have BG:(y0.alloc (.cells #[.slice rp rn rc] 24)).heap[P]? =some (.cells #[.pointer (some ⟨gs,0,none⟩),.int .i64 d] 107 (0,0)):=(((jC y0.heap.size y0).alloc (jB _) (.cells #[.slice rp rn rc] 24)).block _ (yL hH)).trans hH;have CI:=yH hH;refine hK.out _ _ BG (fun hH=>?_);clear hK K;try simp only [Act.put,yA,yB,yC]
     refine rO 8 fun K hK=>?_;refine y6h (r:=(⟨rp,rn,rc,rR⟩:Rw)) As (by have:=J.out;omega) Co (fun k hk=>by have:=Ao.out k hk;have:=J.1;have:=A3.out;omega) DM (.tmp 67) (.tmp 69) (by rfl) (by rfl) (by rfl) (by have:=AG.out;omega) ?_;intro g7 c7 y2 hap;have CE:=yH hap;have Cu:y2.heap[P]? =some (.cells #[.pointer (some ⟨gs,0,none⟩),.int .i64 d] 107 (0,0)):=(hap.only.block P (yL CI) (fun e=>by have I:=(As.lt P e).1;have h2:=J.1;have h3:=A3.out;have h4:=Aj.2;omega)).trans CI.out;have C9:=yH (show Calls Tryz.prog 74 #[.agg #[.pointer (some ⟨gs,0,none⟩),.int .i64 d],.slice (some ⟨g7,0,none⟩) (O.length+1) c7,.int .i64 (E:Int)] y2 (x2c y2 gs Q s g7 0 (O++[(⟨rp,rn,rc,rR⟩:Rw)]) E) from by
      have hl:(O++[(⟨rp,rn,rc,rR⟩:Rw)]).length=O.length+1:=by simp
      have h:=x9X Ay.out (O.length+1) (O++[(⟨rp,rn,rc,rR⟩:Rw)]) (some ⟨g7,0,none⟩) c7 E g7 0 y2 Q s (Nat.le_of_eq hl) (fun _=>rfl) hap.cap hap.seg hap.ok hap.st hap.lt hap.notq (by rw [hl];have:=BI.out;have:=AG.out;omega) (by rw [hl];have:=A4.out;have:=A7.out;have:=AG.out;omega);rw [hl] at h;exact h)
     clear hap;refine hK.out _ _ Cu (fun hH=>?_);clear hK K;try simp only [Act.put,yA,yB,yC]
     refine rO 10 fun K hK=>?_;go_simp;refine C9.mono ?_;rintro _ y3 ⟨Y,Q1,rfl,C8,Bt,CN,Bu,Ap⟩;have Ca:y3.heap[P]? =some (.cells #[.pointer (some ⟨gs,0,none⟩),.int .i64 d] 107 (0,0)):=(Ap.only.block P (yL hH) (fun e=>by
      have I:=Aj.out;have h2:=CE.low;have h3:=J.1;have h4:=A3.out;rcases e with e | e
      ·have:=Ab.out P e;have:=o.size;omega
      ·omega)).trans hH
     have D9:=yH (BX.out y2 g7 c7 y3 Y Q1 CE C8 Bt CN Bu Ap);clear C8 Bt CN Bu Ap;try go_wp2_with fail
     refine hK.out _ _ Ca (fun hH=>?_);clear hK K;try simp only [Act.put,yA,yB,yC]
     refine rO 11 fun K hK=>?_;go_simp;refine D9.mono ?_;rintro _ y4 ⟨kd,rfl,hl,Ac,Cb,N⟩;have BY:=yH hl;have Ad:=yH Ac;have AC:=yH N;clear hl Ac N;try go_wp2_with fail
     refine hK.out _ _ Cb (fun hH=>?_);clear hK K;try simp only [Act.put,yA,yB,yC]
     refine rO 12 fun K hK=>?_;refine wp_store_row 34 (.tmp 8) (.tmp 73) (by rfl) (w.heap.size+1) kd.cells.toArray (by rfl) (by rfl) _ _ Ad (by rw [jF,BY.out];exact SKd) (by simp only [jF,BY.out,x02]) (jN Kd.one) ?_;have DF:(y4.setRow (w.heap.size+1) kd.cells.toArray).heap[P]? =some (.cells #[.pointer (some ⟨gs,0,none⟩),.int .i64 d] 107 (0,0)):=(setRow_other _ _ _ _ (by have:=Aj.1;omega)).trans hH;refine hK.out _ _ DF (fun hH=>?_);clear hK K;try simp only [Act.put,yA,yB,yC]
     refine tK 13 ?_;refine jD ?_;go_wp2_with fail
     exact x0G 8 9 (by kernel_rfl) (w.heap.size+1) _ kd.cells.toArray _ AL U (by rw [jF,BY.out];exact SKd) (by rfl) (by rfl) (jT _ _ _ _ _ _ Ad) AC
end Kt
namespace Kt
open Go.Proofs Go.Shelf
def y7W:Go.Shelf.Ren:=⟨fun | 6=>136 | 10=>77 | n=>n,fun | 0=>0 | 3=>3 | 4=>4 | 22=>51 | 23=>24 | 25=>125 | n=>n,fun n=>n⟩
theorem y6j:SlLaysH.n10 Tryz.prog y7W where
 mixed:=by kernel_rfl
 f6:=⟨Tryz.f136.name,by kernel_rfl,Tryz.func136.trans (congrArg some (by kernel_rfl))⟩
 f10:=⟨Tryz.f77.name,by kernel_rfl,Tryz.func77.trans (congrArg some (by kernel_rfl))⟩
 t0:=Tryz.underlying0
 a0:=Tryz.isAgg0
 z0:=Tryz.sizeOf0
 v0:=Tryz.zeroValue0
 t3:=Tryz.underlying3
 a3:=Tryz.isAgg3
 z3:=Tryz.sizeOf3
 v3:=Tryz.zeroValue3
 t4:=Tryz.underlying4
 a4:=Tryz.isAgg4
 z4:=Tryz.sizeOf4
 v4:=Tryz.zeroValue4
 t22:=Tryz.underlying51
 a22:=Tryz.isAgg51
 z22:=Tryz.sizeOf51
 v22:=Tryz.zeroValue51
 a23:=Tryz.isAgg24
 z23:=Tryz.sizeOf24
 t25:=Tryz.underlying125
 a25:=Tryz.isAgg125
 z25:=Tryz.sizeOf125
 v25:=Tryz.zeroValue125
end Kt
namespace Kt
open Go.Proofs Go.RowKit Go.Sort Go.Shelf Nd
theorem x6F (r p:Rw) (gp:Nat) (w:World) (hr:r.Ok w) (hp:p.Ok w) (hb:w.cell? ⟨gp,0,none⟩=some p.val):
  Calls Tryz.prog 78 #[r.val,.pointer (some ⟨gp,0,none⟩)] w fun e w'=>e= .returned (.bool (decide (r.R=p.R)))/\∃j,w'=w.drewN j:=by
 have B:=yH (x3D r.p p.p r.n r.c p.n p.c r.R p.R w hr.ints hp.ints hr.top);obtain ⟨J,I,N,C⟩:=r;obtain ⟨L,M,H,E⟩:=p;unfold Rw.val at hb ⊢;simp only at hb B ⊢;clear hr hp;generalize decide (C=E)=b at *
 go_enter Tryz.func78,Tryz.ntmps78
 go_wp2_with (go_at_call 79;refine B.mono ?_;rintro _ K ⟨rfl,j,A⟩;have G:=yH A;clear A)
 go_ret;exact ⟨rfl,j,G.out⟩
abbrev RwZ (w:World) (g:Nat):={r:Rw//r.Ok w/\Away g r}
section
variable {w:World} {g:Nat}
def encZ (x:RwZ w g):Value:=x.1.val
theorem y4w:OneCell (encZ (w:=w) (g:=g)):=fun _=>rfl
def rwz0:RwZ w g:=⟨⟨none,0,0,[]⟩,x5c w,fun x hx=>by cases hx⟩
instance:Inhabited (RwZ w g):=⟨rwz0⟩
end
theorem y6k (g gp:Nat) (p:Rw) (w:World) (hp:p.Ok w) (hb:w.cell? ⟨gp,0,none⟩=some p.val):PredAt Tryz.prog 78 #[.pointer (some ⟨gp,0,none⟩)] (encZ (w:=w) (g:=g)) (fun x=>decide (x.1.R=p.R)) w:=fun W x hW=>
 x6F x.1 p gp W (x.2.1.later hW) (hp.later hW) ((hW.cell (jI hb)).trans hb)
theorem y3O (g o n gp:Nat) (p:Rw) (w:World) (hp:p.Ok w) (hpa:Away g p) (hb:w.cell? ⟨gp,0,none⟩=some p.val) (hne:gp≠g):PredOver Tryz.prog 78 #[.pointer (some ⟨gp,0,none⟩)] (encZ (w:=w) (g:=g)) (fun x=>decide (x.1.R=p.R)) g o n w:=fun m os dk x _=>by
 have key:∀r:Rw,r.Ok w->Away g r->r.Ok (sortWorld encZ w g o m dk os):=fun r h1 h2=>Nd.rw_keep h1 fun z hz hR=>x1k.block _ (rw_lt h1 z hz hR) (h2 z hz hR)
 exact x6F x.1 p gp _ (key _ x.2.1 x.2.2) (key _ hp hpa) ((x1r.cell _ (Or.inl hne) (jI hb)).trans hb)
theorem y4x:∀w,(zeroValue 24).run Tryz.prog w= .ok (.slice none 0 0) w:=Tryz.zeroValue24
theorem x9Y (g o c gp:Nat) (L:List Rw) (p:Rw) (w:World) (hS:Seg w g o L) (hok:∀r∈L,r.Ok w/\Away g r) (hp:p.Ok w) (hpa:Away g p) (hb:w.cell? ⟨gp,0,none⟩=some p.val) (hne:gp≠g) (hc:L.length<=c) (hn:L.length<=1000000000):
  Calls Tryz.prog 77 #[.slice (some ⟨g,o,none⟩) L.length c,.func (.func 78) #[] #[.pointer (some ⟨gp,0,none⟩)]] w fun e w'=>e= .returned (.slice (some ⟨g,o,none⟩) (L.filter fun r=> !decide (r.R=p.R)).length c)/\Seg w' g o (L.filter fun r=> !decide (r.R=p.R))/\Dk.Only (fun k=>k=g) w w':=by
 obtain ⟨D,M⟩:∃D:Array (RwZ w g),D.toList.map (·.1)=L:=⟨(L.attach.map fun r=>(⟨r.1,hok r.1 r.2⟩:RwZ w g)).toArray,by rw [List.toList_toArray];exact x6t hok⟩
 have G:D.size=L.length:=by rw [<- M];simp
 have N:Holds encZ w g o D:=fun j hj=>by
  have h:=hS j (by omega);unfold encZ;rw [x5G D j hj,M];exact h
 have C:(D.toList.filter fun x=> !decide (x.1.R=p.R)).map (·.1)=L.filter fun r=> !decide (r.R=p.R):=by
  rw [<- M,List.filter_map];rfl
 have H:(D.toList.filter fun x=> !decide (x.1.R=p.R)).length=(L.filter fun r=> !decide (r.R=p.R)).length:=by rw [<- C,kH]
 have h:=AnyE.slices_DeleteFunc (P:=Tryz.prog) y6j encZ y4w (fun x=>decide (x.1.R=p.R)) 78 #[.pointer (some ⟨gp,0,none⟩)] (enters_of Tryz.func78 (by kernel_rfl) rfl) (rwz0:RwZ w g) y4x g o c D w (y6k g gp p w hp hb) (y3O g o D.size gp p w hp hpa hb hne) N (by omega) (by omega);rw [G,H] at h;refine Calls.mono h ?_;rintro e w' ⟨U,q,K⟩;obtain ⟨A,B⟩:∃A,A=((D.toList.filter fun x=> !decide (x.1.R=p.R))++List.replicate (L.length - (L.filter fun r=> !decide (r.R=p.R)).length) (rwz0:RwZ w g)).toArray:=⟨_,rfl⟩
 rw [<- B] at K;have Q:=List.length_filter_le (fun r:Rw=> !decide (r.R=p.R)) L;have I:A.size=D.size:=by
  rw [B,jF,jQ,kT,H,G];omega
 have J:w'=sortWorld encZ w g o q A #[]:=by
  rw [K];unfold sortWorld;rw [grow_empty]
 refine ⟨U,fun j hj=>?_,by rw [J];exact x1k⟩;have E:j<A.size:=by omega
 obtain ⟨O,W⟩:=holds_putRow encZ _ g o D A (holds_ahead encZ w q g o D N) I j E;rw [K];refine ⟨O.trans ?_,W⟩;unfold encZ;rw [x5G A j E,B,List.toList_toArray,List.map_append,C];rw [jG,kR hj,<- jG]
end Kt
namespace Kt
open Go.RowKit Go.Shelf Nd Dk Pg
def delV (d:Nat) (p:List Int) (u:V):Int ⊕ (V×List (List Nat)):=
 match wayV d p u 0 with
 | none=>.inl 21
 | some x=>if x.2.live=false then .inl 9
  else if u.kid.size<=2*(u.kid.live - 1) then .inr (x0V x.1 (endV x.2 false),(endN x.2 false).bytes::x16 x.1 (endV x.2 false))
  else if u.whole then .inr (V.of (lay (u.rows.filter fun y=> !decide (y=p)) 0),(lay (u.rows.filter fun y=> !decide (y=p)) 0).pages)
  else .inl 21
theorem x9Z {W:Pages} {d:Nat} {p:List Int} (hp:p.length=d):∀(u:V) (t:Nat),Sees W d u->∀L s,wayV d p u t=some (L,s)->s.live=true->p∈u.rows
 | .nil,t,_,L,s,h,hl=>by
  have h:some ([],(⟨p,false,.nil,.nil,false,.nil⟩:St))=some (L,s):=h
  simp only [Option.some.injEq,Prod.mk.injEq] at h
  obtain ⟨-,rfl⟩:=h
  cases hl
 | .bad k,t,_,L,s,h,hl=>by cases h
 | .fork q lv l r,t,hs,L,s,h,hl=>by
  have hrow:(V.fork q lv l r).rows=(if lv then [q] else [])++(l.rows++r.rows):=rfl
  have hw:wayV d p (.fork q lv l r) t=(if ordC (t%d) p q=0 then some ([],⟨q,lv,l,r,false,.fork q lv l r⟩)
   else if 0<ordC (t%d) p q then (wayV d p r (t+1)).map fun x=>(⟨q,lv,l,r,true,.fork q lv l r⟩::x.1,x.2)
   else (wayV d p l (t+1)).map fun x=>(⟨q,lv,l,r,false,.fork q lv l r⟩::x.1,x.2)):=rfl
  rw [hw] at h
  rw [hrow]
  split at h
  ·rename_i h0
   simp only [Option.some.injEq,Prod.mk.injEq] at h
   obtain ⟨-,rfl⟩:=h
   have hl:lv=true:=hl
   have e:=(x2w (hp.trans (x7w hs).symm)).1 h0
   rw [hl,e]
   simp
  ·split at h
   ·cases hwr:wayV d p r (t+1) with
    | none=>rw [hwr] at h;cases h
    | some x=>
     rw [hwr] at h
     simp only [Option.map_some,Option.some.injEq,Prod.mk.injEq] at h
     obtain ⟨-,rfl⟩:=h
     have:=x9Z hp r (t+1) hs.2.2.2 x.1 x.2 hwr hl
     simp [this]
   ·cases hwl:wayV d p l (t+1) with
    | none=>rw [hwl] at h;cases h
    | some x=>
     rw [hwl] at h
     simp only [Option.map_some,Option.some.injEq,Prod.mk.injEq] at h
     obtain ⟨-,rfl⟩:=h
     have:=x9Z hp l (t+1) hs.2.2.1 x.1 x.2 hwl hl
     simp [this]
theorem y1d {gs d:Nat} {Q:Nat->Prop} {s:Pg.S} (hd:1<=d/\d<=8) (hW:x2x d s.W) (u:V) (k:Kd) (r:Rw) (w:World) (hp:PL w gs Q s) (hs:Sees s.W d u) (hk:k.Ok w) (he:k.pk=u.kid) (hr:r.Ok w) (hrd:r.n=d) (hz:u.kid.size<=900) (hka:Aw Q k) (hra:∀y,r.p=some y->r.R≠[]->¬Q y.block) (hsl:s.W.length<=60000):
  Calls Tryz.prog 21 #[.pointer (some ⟨gs,0,none⟩),.agg k.cells.toArray,r.val,.int .i64 d] w (x6E w gs Q s (delV d r.R u)):=by
 have N:∀w',Below w.heap.size w w'->Calls Tryz.prog 68 #[.agg #[.pointer (some ⟨gs,0,none⟩),.int .i64 d],.agg k.cells.toArray,r.val] w' (y0X w' Q (wayV d r.R u 0)):=fun w' hb=>x9V hd hW u k r w' (hp.keep (fun _=>False) (Only.of_below _ hb) (fun _ _ e=>e)) hs (hk.later hb) he (hr.later hb) hrd (by omega) hka hra;have A6:r.R.length=d:=by have:=hr.ints.size;omega
 cases hO:wayV d r.R u 0 with
 | none=>
  unfold delV;rw [hO] at N ⊢;refine (y1U (some ⟨gs,0,none⟩) d k r 21 w hk (fun w' hb=>(N w' hb).mono ?_) (by decide)).mono fun e w' h=>h;rintro e w2 ⟨f,h2,-⟩;exact ⟨h2 rfl,f⟩
 | some X=>
  obtain ⟨L,Y⟩:=X;rw [hO] at N;obtain ⟨-,-,B5⟩:=x2S u 0 hs L Y hO;have j:=x2R (Z:=((u.kid.size.toNat:Nat):Int)) A6 (by omega) u 0 hs (by omega) L Y hO;have AY:=x9Z A6 u 0 hs L Y hO;have hZ:u.kid.size.toNat<=900:=by omega
  have Bj:=x1D hs;have AZ:delV d r.R u=if Y.live=false then .inl 9
    else if u.kid.size<=2*(u.kid.live - 1) then .inr (x0V L (endV Y false),(endN Y false).bytes::x16 L (endV Y false))
    else if u.whole then .inr (V.of (lay (u.rows.filter fun y=> !decide (y=r.R)) 0),(lay (u.rows.filter fun y=> !decide (y=r.R)) 0).pages)
    else .inl 21:=by
   unfold delV;rw [hO]
  rw [AZ];clear AZ;generalize hOUT:(if Y.live=false then (Sum.inl 9:Int ⊕ (V×List (List Nat))) else _)=OUT;have q:=yH hOUT;clear hOUT;obtain ⟨W,Ap,r0,rr,r1,b1⟩:=x27 w (.cells k.cells.toArray 34) (.cells #[r.val] 24) (.cells kd0.cells.toArray 34);have t:=yH N;have BM:=yH (Kd.cells_length hk.len);have R0:=yH r0;have R1:=yH r1;have RR:=yH rr;have B1:=yH b1;have Am:=yH (show ∀k,Q k->k<w.heap.size from hp.lt);have CP:=yH hp;have C8:=yH hW;have As:=yH hs;have BA:=yH hk;have CH:=yH he;have Be:=yH hd;have Bk:=yH hr;have D4:=yH hrd;have D7:=yH hra;have B4:=yH hsl;have Bw:=yH B5;have B8:=yH j;have BG:=yH AY;have C4:=yH hZ;have Ai:=yH (show u.kid.size<=900 from hz);have B0:k.live=u.kid.live:=by rw [<- he];rfl
  have BZ:k.size=u.kid.size:=by rw [<- he];rfl
  have BP:=yH B0;have BW:=yH BZ;have DF:(0<=k.live/\k.live<=900)/\0<=k.size/\k.size<=900:=by omega
  obtain ⟨RV,BV⟩:∃RV:Rw,RV=r:=⟨_,rfl⟩
  have D9:=yH BV;clear BV;obtain ⟨rp,rn,rc,rR⟩:=r;unfold Rw.val at t RR Ap ⊢;simp only at t RR Ap A6 q ⊢;obtain ⟨du,BU,B6⟩:=UTr;obtain ⟨dk,Az,Ab⟩:=UKd;have AQ:=yH BU;have AR:=yH B6;have z:=yH Az;have H:=yH Ab;have C2:=yH (zero_of_info kz);have Cu:=C2.1;have Cz:=yH A6;clear hd hW hp hs hk he hr hrd hz hka hra hsl N B5 j AY hZ Bj r0 rr r1 b1 BU B6 Az Ab hO A6 B0 BZ
  go_enter Tryz.func21,Tryz.ntmps21
  go_upto_region 1 with fail
  clear Ap;go_upto_region 2 with (first
   | (refine x05 (cells:= #[.pointer (some ⟨gs,0,none⟩),.int .i64 d]) (by rfl) (by rfl) (by simp only [kA,kB,kC];exact x1y _ _) ?_)
   | (refine jL (by rfl) 107 (.tmp 10) (.tmp 16) (by rfl) W.heap.size #[.pointer (some ⟨gs,0,none⟩),.int .i64 d] (by rfl) (by rfl) _ _ (jE W _) STr rfl (x4E _ _) ?_;rw [x03]))
  have AE:=jA W (.cells #[.pointer (some ⟨gs,0,none⟩),.int .i64 d] 107);have AJ:=jE W (.cells #[.pointer (some ⟨gs,0,none⟩),.int .i64 d] 107);generalize W.alloc (.cells #[.pointer (some ⟨gs,0,none⟩),.int .i64 d] 107)=w2 at *;obtain ⟨bt,AW⟩:∃bt,bt=W.heap.size:=⟨_,rfl⟩
  rw [<- AW] at AJ ⊢;have Bh:=yH (show w.heap.size+3<=bt/\bt<w2.heap.size from ⟨by rw [AW];exact (yL R1),(yL AJ)⟩);have T2:=yH AJ;have R2:=yH (x09 AJ);have Bc:=yH (yK AE R0);have Bb:=yH (x0E Bc);have CI:=yH (yK AE R1);have B7:=yH (yK AE RR);have cr:w2.cell? ⟨w.heap.size+1,0,none⟩=some (.slice rp rn rc):=jH w2 (w.heap.size+1) 0 _ _ _ B7;have B2:=yH (B1.trans (AE.mono B1.size));clear AE AJ AW R0 R1 RR B1;go_upto_region 3 with (first
   | (refine jK (by rfl) 107 _ (by rfl) bt 0 (by rfl) [.pointer (some ⟨gs,0,none⟩),.int .i64 d] du R2 AQ AR STr ?_)
   | (refine jK (by rfl) 34 _ (by rfl) w.heap.size 0 (by rfl) k.cells dk Bb z H (by rw [BM.out];exact SKd) ?_)
   | (go_at_call 68;refine (t.out w2 B2).mono ?_;rintro _ a ⟨b3,-,B9⟩;obtain ⟨q5,c5,A5,Cx,rfl,P,Bg,AB⟩:=B9 L Y rfl;have BN:=yH P;have AU:=yH Bg;have CL:=yH AB;have A4:=yH b3;have B3:=yH (B2.trans (b3.mono B2.size));clear b3 B9 P Bg AB))
  obtain ⟨n5,A2⟩:∃n5,n5=A5.length:=⟨_,rfl⟩
  have CR:=yH A2;obtain ⟨A3,-⟩:=x7B AU.out B8;have CC:=yH A3;have BC:=yH (show n5<=901 by have f:=Bw.out;have h2:=AU.length;have h3:=Ai.out;rw [<- h2,<- A2] at f;omega);have Ak:=yH (show Calls Tryz.prog 69 #[.slice q5 n5 c5] a fun e w'=>e= .returned (.bool Y.live)/\w'=a from by
   obtain ⟨A0,m,hA,Ay,AI⟩:=x2T AU.out;have P:=BN.out;rw [A2];rw [hA] at P ⊢;rw [AI.live];refine x7v P ?_;have f:=BC.out;rw [A2,hA] at f;simp at f;omega)
  rw [<- A2];clear A2 A3 t R2 Bb cr;have AC:=yH (yK A4 CI);have T3:=yH (yK A4 T2);have Au:=yH (yK A4 Bc);have BB:=yH (yK A4 B7);go_upto_region 5 with fail
  generalize hlv:Y.live=lv at *;have CX:=yH hlv;clear hlv;cases lv with
  | false=>
   have A:=q.out;rw [if_pos rfl] at A;go_wp2_with (first
    | (go_at_call 69;refine Ak.mono ?_;rintro _ w4 ⟨rfl,e4⟩;obtain rfl:a=w4:=e4.symm)
    | (refine x05 (by rfl) (by rfl) x0T ?_)
    | (refine jL (by rfl) 34 _ _ (by rfl) (w.heap.size+2) kd0.cells.toArray (by rfl) (by rfl) _ _ AC (by rw [jF,x02];exact SKd) rfl (jN Kd.one) ?_))
   refine x0G 8 9 (by kernel_rfl) (w.heap.size+2) _ kd0.cells.toArray _ z H (by rw [jF,x02];exact SKd) (by rfl) (by rfl) (jT _ _ _ _ _ _ AC) ?_;rw [<- A];exact ⟨rfl,B3.trans (Below.setRow (jC _ _) (by omega) _)⟩
  | true=>
   have A:=q.out;rw [if_neg (fun e=>by cases e)] at A;have I:=yH A;clear A q;have Ah:=x4G k BA.len;have CJ:a.cell? ⟨w.heap.size,34,none⟩=some (.int .i64 k.live):=x0m a w.heap.size 34 Au.out Ah.1;have Br:a.cell? ⟨w.heap.size,35,none⟩=some (.int .i64 k.size):=x0m a w.heap.size 35 Au.out Ah.2;have q1:IntKind.i64.wrap (k.live - 1)=k.live - 1:=IntWalk.i64_in _ (by omega);have q2:IntKind.i64.wrap (2*(k.live - 1))=2*(k.live - 1):=IntWalk.i64_in _ (by omega);have At:=yH (show w2.heap.size<=a.heap.size from A4.size);have AK:=yH (CP.keep (fun _=>False) (Only.of_below _ B3) (fun _ _ e=>e));have AT:=yH (show ∀k,Q k->k<w2.heap.size from fun k hk=>by have:=Am.out k hk;have:=B2.size;omega);clear Ah;by_cases hc:k.size<=2*(k.live - 1)
   ·have A:=I.out;rw [if_pos (by rw [<- BP.out,<- BW.out];exact hc)] at A;have G:=yH A;have C9:2*(k.live - 1)>=k.size:=hc;clear A I;have Aj:=yH (show Calls Tryz.prog 71 #[.agg #[.pointer (some ⟨gs,0,none⟩),.int .i64 d],.slice q5 n5 c5,.bool false] a fun e w5=>∃K:Kd,e= .returned (.agg K.cells.toArray)/\K.cells.length=37/\w5.heap[w.heap.size+2]? =some (.cells kd0.cells.toArray 34 (0,0))/\Told2 w gs Q (x0V L (endV Y false)) (puts s ((endN Y false).bytes::x16 L (endV Y false))) (.returned (.tuple #[.agg K.cells.toArray,.int .i64 0])) (w5.setRow (w.heap.size+2) K.cells.toArray) from by
     obtain ⟨A0,m,hA,Ay,AI⟩:=x2T AU.out;have P:=BN.out;have AB:=CL.out;have A3:=CC.out;have h9:=BC.out;have DB:=C4.out;rw [CR.out] at h9 ⊢;rw [hA] at P AB A3 h9 ⊢;have hN:forkN m.row.R false m.k1.pk m.k2.pk=endN Y false:=by
      unfold endN;rw [AI.row,AI.l,AI.r]
     have Bf:A0.length<=900:=by simp at h9;omega
     have Cc:A0.length*(u.kid.size.toNat+1)<=900*901:=Nat.mul_le_mul Bf (by omega);have ht:=x8r (B:=w2.heap.size) (Z:=u.kid.size.toNat) Be P At AT AB AK (by have:=B4.out;omega) (by omega) A3 (by omega) false;rw [hN] at ht;refine ht.mono fun e w5 h5=>x5O h5 ?_ B3 ⟨by omega,by have:=Bh.out;omega⟩ At Am AC;have hf:=x2b Ay (endV Y false) (s.put (endN Y false).bytes) A0.length (jB _);rw [Nat.sub_self,List.drop_zero] at hf;exact hf)
    have R4:=yH (x09 T3);go_wp2_with (first
     | (go_at_call 69;refine Ak.mono ?_;rintro _ w4 ⟨rfl,e4⟩;obtain rfl:a=w4:=e4.symm)
     | (refine jK (by rfl) 107 _ (by rfl) bt 0 (by rfl) [.pointer (some ⟨gs,0,none⟩),.int .i64 d] du R4 AQ AR STr ?_)
     | (go_at_call 71;refine Aj.mono ?_;rintro _ w5 ⟨K,rfl,hl,AD,C⟩;have Ag:=yH hl;have AF:=yH AD;have i:=yH C;clear hl AD C)
     | (refine jL (by rfl) 34 _ _ (by rfl) (w.heap.size+2) K.cells.toArray (by rfl) (by rfl) _ _ AF (by rw [jF,Ag.out];exact SKd) (by simp only [jF,Ag.out,x02]) (jN Kd.one) ?_))
    exact x0G 8 9 (by kernel_rfl) (w.heap.size+2) _ K.cells.toArray _ z H (by rw [jF,Ag.out];exact SKd) (by rfl) (by rfl) (jT _ _ _ _ _ _ AF) (by rw [<- G.out];exact i.out)
   ·have A:=I.out;rw [if_neg (by rw [<- BP.out,<- BW.out];exact hc)] at A;have G:=yH A;have C9:¬2*(k.live - 1)>=k.size:=hc;clear A I;have Ar:=yH (show Calls Tryz.prog 72 #[.agg #[.pointer (some ⟨gs,0,none⟩),.int .i64 d],.agg k.cells.toArray] a (x7x a u) from x7y C8 u k a AK As (BA.later B3) CH (by have:=Ai.out;omega));have R4:=yH (x09 T3);have CQ:=yH (x0E Au);go_upto_region 10 with (first
     | (go_at_call 69;refine Ak.mono ?_;rintro _ w4 ⟨rfl,e4⟩;obtain rfl:a=w4:=e4.symm)
     | (refine jK (by rfl) 107 _ (by rfl) bt 0 (by rfl) [.pointer (some ⟨gs,0,none⟩),.int .i64 d] du R4 AQ AR STr ?_)
     | (refine jK (by rfl) 34 _ (by rfl) w.heap.size 0 (by rfl) k.cells dk CQ z H (by rw [BM.out];exact SKd) ?_)
     | (go_at_call 72;refine Ar.mono ?_;rintro _ w5 ⟨CM,q6,c6,O,rfl,E,Aa,BR,BI,A8,BE⟩;have C3:=yH E;have AM:=yH Aa;have CF:=yH BR;have CT:=yH BI;have CV:=yH A8;have g:=yH BE;clear E Aa BR BI A8 BE))
    have BL:=yH (yK g AC);have T5:=yH (yK g T3);have CS:=yH (yK g BB);have Al:=yH (B3.trans (g.mono B3.size));clear CJ Br;cases hwh:u.whole with
    | false=>
     have AA:CM=21:=CT.out hwh;subst AA;have A:=G.out;rw [hwh,if_neg Bool.false_ne_true] at A;have c:=yH A;clear A G hwh;go_wp2_with (first
      | (refine x05 (by rfl) (by rfl) x0T ?_)
      | (refine jL (by rfl) 34 _ _ (by rfl) (w.heap.size+2) kd0.cells.toArray (by rfl) (by rfl) _ _ BL (by rw [jF,x02];exact SKd) rfl (jN Kd.one) ?_))
     refine x0G 8 9 (by kernel_rfl) (w.heap.size+2) _ kd0.cells.toArray _ z H (by rw [jF,x02];exact SKd) (by rfl) (by rfl) (jT _ _ _ _ _ _ BL) ?_;rw [<- c.out];exact ⟨rfl,Al.trans (Below.setRow (jC _ _) (by omega) _)⟩
    | true=>
     obtain ⟨AA,AL⟩:=CF.out hwh;subst AA;have A:=G.out;rw [hwh,if_pos rfl] at A;have c:=yH A;have AH:=yH AL;have C0:1<=O.length:=by
      have f:=BG.out trivial;rw [<- AL] at f;obtain ⟨x,J,-⟩:=kJ.1 f;exact kP.2 (fun e=>by rw [e] at J;cases J)
     clear A G hwh AL;obtain ⟨v,Ct,Aq,-,CK,Cr,Cq,A7⟩:=x7q C3.out C0;have CY:=Aq;simp only [Value.slice.injEq,true_and] at Aq;obtain ⟨rfl,rfl⟩:=Aq;have Af:O.length<=900:=by have f:=CV.out;have h2:=Ai.out;omega
     have BO:=yH Af;have Bi:=yH (Bk.later Al);have Ba:=yH (show Away v ⟨rp,rn,rc,rR⟩ from fun x J hR e=>by have f:=rw_lt Bk.out x J hR;have h2:=Al.size;have h3:=B3.size;omega);have AX:=yH (show ∀x∈O,x.Ok w5/\Away v x from fun x J=>⟨(AM.out x J).1,fun y hy hR e=>((AM.out x J).2 y hy hR).1 (by rw [e];rfl)⟩);obtain ⟨M,hM⟩:∃M:List Rw,M=O.filter fun x=> !decide (x.R=rR):=⟨_,rfl⟩
     have HM:=yH hM;have BJ:M.map Rw.R=u.rows.filter fun y=> !decide (y=rR):=by
      rw [<- AH.out,hM,List.filter_map];rfl
     have Bt:=yH BJ;have CU:=yH (show M.length<=O.length by rw [hM];exact List.length_filter_le _ _);have AS:=yH (show ∀x∈M,x∈O from fun x J=>by rw [hM] at J;exact (List.mem_filter.1 J).1);have Bu:=yH (show Calls Tryz.prog 77 #[.slice (some ⟨v,0,none⟩) O.length c6,.func (.func 78) #[] #[.pointer (some ⟨w.heap.size+1,0,none⟩)]] w5 fun e w6=>e= .returned (.slice (some ⟨v,0,none⟩) M.length c6)/\Seg w6 v 0 M/\Only (fun k=>k=v) w5 w6 from by
      rw [hM];exact x9Y v 0 c6 (w.heap.size+1) O ⟨rp,rn,rc,rR⟩ w5 A7 AX Bi Ba (jH w5 (w.heap.size+1) 0 _ _ _ CS) (by have h3:=B3.size;have h4:=(yL BB);omega) CK (by omega))
     have BQ:=yH (show ∀w6,Seg w6 v 0 M->Only (fun k=>k=v) w5 w6->(w6.heap[bt]? =some (.cells #[.pointer (some ⟨gs,0,none⟩),.int .i64 d] 107 (0,0)))/\Calls Tryz.prog 74 #[.agg #[.pointer (some ⟨gs,0,none⟩),.int .i64 d],.slice (some ⟨v,0,none⟩) M.length c6,.int .i64 0] w6 fun e w7=>∃K:Kd,e= .returned (.agg K.cells.toArray)/\K.cells.length=37/\w7.heap[w.heap.size+2]? =some (.cells kd0.cells.toArray 34 (0,0))/\x6E w gs Q s OUT (.returned (.tuple #[.agg K.cells.toArray,.int .i64 0])) (w7.setRow (w.heap.size+2) K.cells.toArray) from fun w6 AV E=>by
      have AW:=Bh.out;have Ch:=g.size;have Cm:=E.size;have Cv:=At.out;have Cw:=B3.size;refine ⟨(E.block bt (yL T5) (by omega)).trans T5.out,?_⟩;have BD:PL w6 gs Q s:=(AK.keep (fun _=>False) (Only.of_below _ g) (fun _ _ e=>e)).keep _ E (fun k hk e=>by have:=AT.out k hk;omega);have C7:RowsOk w6 d v Q M:=fun x J=>by
       obtain ⟨f,h2⟩:=AX.out x (AS.out x J);refine ⟨Nd.rw_keep f fun y hy hR=>E.block _ (rw_lt f y hy hR) (h2 y hy hR),?_,h2,fun y hy hR e=>?_⟩
       ·have hl:x.R.length=d:=x1Y As.out x.R (by rw [<- AH.out];exact List.mem_map_of_mem (AS.out x J));have:=f.ints.size;omega
       ·have:=AT.out _ e;have:=((AM.out x (AS.out x J)).2 y hy hR).2;omega
      have D8:=CU.out;have Bf:=BO.out;have o:=x9X Be.out M.length M (some ⟨v,0,none⟩) c6 0 v 0 w6 Q s (jB _) (fun _=>rfl) (by omega) AV C7 BD (by omega) (fun e=>by have:=AT.out _ e;omega) (by have:=B4.out;omega) (by omega);refine o.mono ?_;rintro e w7 ⟨K,Q',rfl,e1,e2,e3,e4,e5⟩;have Cj:(lay (M.map Rw.R) 0).dims d:=x3B fun x J=>by
       obtain ⟨y,hy,rfl⟩:=kJ.1 J;exact x1Y As y.R (by rw [<- AH.out];exact List.mem_map_of_mem (AS.out y hy))
      have CB:=x1C (u:=lay (M.map Rw.R) 0) (by rw [x1X,kH];omega);have A:=c.out;rw [<- Bt.out] at A;have U:=e5.only;have C:Told a gs a.heap.size Q ((V.of (lay (M.map Rw.R) 0)).kid,puts s (lay (M.map Rw.R) 0).pages) (.returned (.agg K.cells.toArray)) w7:=by
       refine ⟨K,Q',rfl,by rw [e1,CB],e2,fun r hr x J hR=>by have:=e3 r hr x J hR;omega,e5.st,fun k hk=>(e5.new k hk).imp id (fun e=>by omega),e4,?_⟩;have hb:=g.out;refine ⟨U.os.trans (E.os.trans hb.os),U.tape.trans (E.tape.trans hb.tape),U.output.trans (E.output.trans hb.output),by have:=U.size;omega,fun k hk hn=>?_⟩;have BX:k≠v:=by omega
       rw [U.block k (by omega) (fun e=>e.elim (fun e=>hn (Or.inl e)) BX),E.block k (by omega) BX];exact hb.block k hk
      obtain ⟨Bz,g1,g2,g3,g4⟩:=x5O C rfl B3 (b:=w.heap.size+2) ⟨by omega,by omega⟩ (jB _) Am AC;exact ⟨Bz,g1,g2,g3,by rw [<- A];exact g4⟩)
     clear hM BJ A7;go_wp2_with (first
      | (go_at_call 77;refine Bu.mono ?_;rintro _ w6 ⟨rfl,AV,E⟩;obtain ⟨BS,o⟩:=BQ.out w6 AV E;have R6:=yH (x09 BS);have C6:=yH o;clear AV E BS o)
      | (refine jK (by rfl) 107 _ (by rfl) bt 0 (by rfl) [.pointer (some ⟨gs,0,none⟩),.int .i64 d] du R6 AQ AR STr ?_)
      | (go_at_call 74;refine C6.mono ?_;rintro _ w7 ⟨K,rfl,hl,AD,C⟩;have Ao:=yH hl;have AF:=yH AD;have i:=yH C;clear hl AD C)
      | (refine jL (by rfl) 34 _ _ (by rfl) (w.heap.size+2) K.cells.toArray (by rfl) (by rfl) _ _ AF (by rw [jF,Ao.out];exact SKd) (by simp only [jF,Ao.out,x02]) (jN Kd.one) ?_))
     exact x0G 8 9 (by kernel_rfl) (w.heap.size+2) _ K.cells.toArray _ z H (by rw [jF,Ao.out];exact SKd) (by rfl) (by rfl) (jT _ _ _ _ _ _ AF) i
end Kt
end Go.Proofs.YtenenciaggbjnaaGreat
