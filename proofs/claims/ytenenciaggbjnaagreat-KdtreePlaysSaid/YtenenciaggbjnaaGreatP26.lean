/- KdLay, KdApp. -/
import Derived.BigRegion
import Derived.Deep.DeepCutAuto
import Derived.Great.BuildSlice
import Derived.Test.YtenenciaggbjnaaGreatP21
set_option maxRecDepth 100000
set_option maxHeartbeats 8000000
set_option linter.all false
namespace Go.Proofs.YtenenciaggbjnaaGreat
namespace Kt
open Go.RowKit Nd Dk Pg
open List renaming setIfInBounds_toArray -> yA, set_cons_zero -> yB, set_cons_succ -> yC
def x2c (w:World) (gs:Nat) (Q:Nat->Prop) (s:Pg.S) (g o:Nat) (L:List Rw) (t:Nat) (e:Ending) (w':World):Prop:=
 ∃(kd:Kd) (Q':Nat->Prop),e= .returned (.agg kd.cells.toArray)/\kd.pk=(lay (L.map Rw.R) t).kid/\kd.Ok w'/\Fsh w kd/\Aw Q' kd/\LayR w w' gs Q Q' (puts s (lay (L.map Rw.R) t).pages) g o L.length
def RowsOk (w:World) (d g:Nat) (Q:Nat->Prop) (L:List Rw):Prop:=∀r∈L,r.Ok w/\r.n=d/\Away g r/\∀x,r.p=some x->r.R≠[]->¬Q x.block
theorem RowsOk.after {w w':World} {d g:Nat} {gs:Nat} {Q Q':Nat->Prop} {s':Pg.S} {L:List Rw} {o n:Nat} (h:RowsOk w d g Q L) (hl:LayR w w' gs Q Q' s' g o n):RowsOk w' d g Q' L:=fun r hr=>by
 obtain ⟨h1,h2,h3,h4⟩:=h r hr
 refine ⟨Nd.rw_keep h1 fun y hy hR=>hl.only.block _ (rw_lt h1 y hy hR) (fun e=>e.elim (h4 y hy hR) (h3 y hy hR)),h2,h3,fun x hx hR e=>?_⟩
 rcases hl.new _ e with e | e
 ·exact h4 x hx hR e
 ·have:=rw_lt h1 x hx hR
  omega
theorem y6g (w:World):Fsh w kd0:=fun r hr x hx hR=>by
 simp only [Kd.rows,kd0,jW,jV,or_false] at hr
 rcases hr with rfl | rfl | rfl<;>cases hx
theorem y7U (Q:Nat->Prop):Aw Q kd0:=fun r hr x hx hR=>by
 simp only [Kd.rows,kd0,jW,jV,or_false] at hr
 rcases hr with rfl | rfl | rfl<;>cases hx
theorem Seg.take {w:World} {g o:Nat} {L:List Rw} (h:Seg w g o L) (k:Nat):Seg w g o (L.take k):=fun j hj=>by
 rw [kX] at hj
 have:=h j (by omega)
 rw [jG,List.getElem?_take_of_lt (by omega),<- jG]
 exact this
theorem Seg.drop {w:World} {g o:Nat} {L:List Rw} (h:Seg w g o L) (k:Nat):Seg w g (o+k) (L.drop k):=fun j hj=>by
 rw [kY] at hj
 have:=h (k+j) (by omega)
 rw [jG,List.getElem?_drop,<- jG,Nat.add_assoc]
 exact this
theorem y3K (p:Option Addr) (n c:Nat) (b:Bool):Tryz.prog.built 101 [(0,.slice p n c),(1,.bool b)]=some #[.slice p n c,.bool b]:=by kernel_rfl
theorem URSe:Tryz.prog.underlying 51=some (.slice (Tryz.prog.elem 51)):=by kernel_rfl
theorem SRSe:(Tryz.prog.info? (Tryz.prog.elem 51)).map (·.size)=some 1:=by kernel_rfl
theorem y0b {gs:Nat} {Q:Nat->Prop} {s:Pg.S} (d:Int) (p:Option Addr) (c t g o:Nat) (w:World) (hp:PL w gs Q s) (hg:g<w.heap.size):
  Calls Tryz.prog 74 #[.agg #[.pointer (some ⟨gs,0,none⟩),.int .i64 d],.slice p 0 c,.int .i64 t] w (x2c w gs Q s g o [] t):=by
 obtain ⟨W,O,L,G,b1⟩:=x1B w (.cells #[.pointer (some ⟨gs,0,none⟩),.int .i64 d] 107) (.cells kd0.cells.toArray 34);have H:=yH G;have M:=yH b1;have J:=yH hp;have I:=yH hg;obtain ⟨P,B,A⟩:=UKd;have E:=yH B;have C:=yH A;have N:=yH (zero_of_info kz);have K:=N.1;clear hp hg L G b1 B A
 go_enter Tryz.func74,Tryz.ntmps74
 go_upto_region 1 with fail
 clear O;go_wp2_with (first
  | (refine x05 (by rfl) (by rfl) x0T ?_)
  | (refine jL (by rfl) 34 _ _ (by rfl) (w.heap.size+1) kd0.cells.toArray (by rfl) (by rfl) _ _ H (by rw [jF,x02];exact SKd) rfl (jN Kd.one) ?_))
 refine x1U 6 (by kernel_rfl) (w.heap.size+1) _ kd0.cells.toArray E C (by rw [jF,x02];exact SKd) (by rfl) (jT _ _ _ _ _ _ H) ?_;exact ⟨kd0,Q,rfl,rfl,x24 _,y6g _,y7U _,(LayR.of_below J M I).set (by omega) I (fun e=>by have:=J.lt _ e;omega) _⟩
def CutL (w:World) (gs:Nat) (Q:Nat->Prop) (s:Pg.S) (g o n m:Nat) (k1 k2:PK) (v8 v9:Value) (x:World):Prop:=∃(b8 b9:Nat) (kd1 kd2:Kd) (Q2:Nat->Prop),v8= .pointer (some ⟨b8,0,none⟩)/\v9= .pointer (some ⟨b9,0,none⟩)/\
 LyS w x gs Q Q2 s g o n m [b8,b9] [kd1,kd2]/\x.heap[b8]? =some (.cells kd1.cells.toArray 34 (0,0))/\x.heap[b9]? =some (.cells kd2.cells.toArray 34 (0,0))/\kd1.pk=k1/\kd2.pk=k2
theorem y4q (L:List Rw) (t:Nat) (s:Pg.S):(puts s (lay (L.map Rw.R) t).pages).W.length<=s.W.length+L.length:=by
 have h:=x1l (lay (L.map Rw.R) t).pages s;rw [x0P,x1X,kH] at h;exact h
theorem y4r {ρ:Operand->Value} {o:Oper} {w:World} {x lo:Operand} (ho:o.op= .slice 51 x (some lo) none none) {g i n c k:Nat} {q:Option Addr} (hx:ρ x= .slice (some ⟨g,i,none⟩) n c) (hl:ρ lo= .int .i64 ((k:Nat):Int)) (hk:k<=n) (hq:q=if c=k then some ⟨g,i,none⟩ else some ⟨g,i+k,none⟩):
  (execOp ρ o).run Tryz.prog w= .ok (.value (.slice q (n - k) (c - k))) w:=by
 rw [y6U ho URSe 1 SRSe hx hl hk,hq]
 congr 2
 congr 1
 split
 ·rfl
 ·rw [Nat.mul_one];by_cases h0:k=0
  ·subst h0;rfl
  ·simp [Addr.add,h0]
theorem y4s {ρ:Operand->Value} {o:Oper} {w:World} {x hi:Operand} (ho:o.op= .slice 51 x none (some hi) none) {g i n c k:Nat} (hx:ρ x= .slice (some ⟨g,i,none⟩) n c) (hl:ρ hi= .int .i64 ((k:Nat):Int)) (hk:k<=c):
  (execOp ρ o).run Tryz.prog w= .ok (.value (.slice (some ⟨g,i,none⟩) k c)) w:=by
 rw [y2v ho URSe 1 SRSe hx hl hk]
 congr 2
 congr 1
 split<;>rfl
theorem x0c {w x:World} {gs b g o n m:Nat} {Q Qx:Nat->Prop} {s:Pg.S} {bs:List Nat} {ks:List Kd} {a c:Value} (h:LyS w x gs Q Qx s g o n m bs ks) (hr:w.heap[b]? =some (.cells #[a,c] 107 (0,0))) (hq:¬Q b) (hg:b≠g):x.rangeAt b 0 [a,c]:=
 x09 ((h.r.only.block b (yL hr) (fun e=>e.elim hq hg)).trans hr)
theorem x9X {gs d:Nat} (hd:1<=d/\d<=8):∀(N:Nat) (L:List Rw) (p:Option Addr) (c t g o:Nat) (w:World) (Q:Nat->Prop) (s:Pg.S),L.length<=N->(L≠[]->p=some ⟨g,o,none⟩)->L.length<=c->Seg w g o L->RowsOk w d g Q L->PL w gs Q s->g<w.heap.size->¬Q g->s.W.length+L.length<100000->t+L.length<=100000000->
  Calls Tryz.prog 74 #[.agg #[.pointer (some ⟨gs,0,none⟩),.int .i64 d],.slice p L.length c,.int .i64 t] w (x2c w gs Q s g o L t):=by
 intro N
 induction N with
 | zero=>
  intro L p c t g o w Q s hN _ _ _ _ hp hg _ _ _;obtain rfl:L=[]:=jZ.1 (by omega);exact y0b d p c t g o w hp hg
 | succ N ih=>
  intro L p c t g o w Q s hN hpa hc hS AX hp hg hqg hsl ht;by_cases hne:L=[]
  ·subst hne;exact y0b d p c t g o w hp hg
  obtain rfl:=hpa hne;clear hpa;have Br:=kP.2 hne;obtain ⟨W,hW,r0,r1,b1⟩:=x1B w (.cells #[.pointer (some ⟨gs,0,none⟩),.int .i64 d] 107) (.cells kd0.cells.toArray 34);have BY:=yH (x5q (some ⟨gs,0,none⟩) d t g o c L W hne (hS.later b1 hg) (fun r hr=>⟨(AX r hr).1.later b1,(AX r hr).2.1,(AX r hr).2.2.1⟩) (by omega) (by omega) (jO hg b1.size) (by omega));have Bc:=x9q (t:=t) (L:=L.map Rw.R) (fun e=>hne (List.map_eq_nil_iff.1 e));have Bv:((L.map Rw.R).headD []).length=d:=by
   cases L with
   | nil=>exact absurd rfl hne
   | cons r K=>
    have:=AX r (by simp);exact this.1.ints.size.symm.trans this.2.1
  rw [Bv,kH] at Bc;have B7:=yH Bc;have DE:=yH hne;have Cj:=yH AX;have HP:=yH hp;have HG:=yH hg;have B9:=yH hqg;have Af:=yH hsl;have HT:=yH ht;have HN:=yH hN;have Ay:=yH hc;have IH:=yH ih;have Cx:=yH hd;have Cv:=yH (show (lay (L.map Rw.R) t).dims d from x3B fun y hy=>by
   obtain ⟨r,hr,rfl⟩:=kJ.1 hy;exact (AX r hr).1.ints.size.symm.trans (AX r hr).2.1)
  have BU:=yH (show (lay (L.map Rw.R) t).size=L.length from by rw [x1X,kH]);obtain ⟨n,hn⟩:∃n,n=L.length:=⟨_,rfl⟩
  rw [<- hn] at BY B7 Af HT HN Ay BU Br ⊢;have BN:=yH hn;have R0:=yH r0;have R1:=yH r1;have B1:=yH b1;have BQ:((n:Int)==0)=false:=by simp;omega
  obtain ⟨du,CE,Bq⟩:=UTr;obtain ⟨dk,Bn,BJ⟩:=UKd;have B4:=yH CE;have B6:=yH Bq;have BW:=yH Bn;have Az:=yH BJ;have HZ:=yH (zero_of_info kz);have DA:=HZ.1;have CK:=yH (x09 r0);clear hd hn hN hc hS AX hp hg hqg hsl ht hne Bc Bv ih r0 r1 b1 CE Bq Bn BJ
  go_enter Tryz.func74,Tryz.ntmps74
  go_upto_region 1 with fail
  clear hW;go_upto_region 5 with (first
   | (refine jK (by rfl) 107 _ (by rfl) w.heap.size 0 (by rfl) [.pointer (some ⟨gs,0,none⟩),.int .i64 d] du CK B4 B6 STr ?_)
   | (go_at_call 88;refine BY.mono ?_;rintro _ w3 ⟨rfl,M,Bp,Bo,CF,C3⟩;have Bd:=yH Bp;have Bm:=yH Bo;have BA:=yH CF;have BE:=yH C3;clear Bp Bo CF C3))
  obtain ⟨m,hm⟩:∃m,n/2=m:=⟨_,rfl⟩
  rw [show (n:Int)/2=(m:Int) from by omega];have DI:m<n:=by omega
  rw [show wrap64 (m:Int)=(m:Int) from by have:=Af.out;unfold wrap64;omega];have CV:=yH (show m+m<=n by omega);have Ao:=yH (show M.length=n from Bd.length_eq.trans BN.symm);rw [hm] at B7;clear hm;have Ax:LayR w w3 gs Q Q s g o n:=((LayR.of_below (n:=n) (o:=o) HP B1 HG).trans (o2:=o) (n2:=n) (LayR.of_turned (HP.keep (fun _=>False) (Only.of_below _ B1) (fun _ _ e=>e)) (BN.out▸BE.out) (jO HG B1.size) B9) ⟨jB _,jB _⟩ ⟨jB _,jB _⟩)
  have Cr:=yH Ax;have A:=yH (show g<w3.heap.size from jO HG Ax.only.size);have AL:=yH (show w3.heap[w.heap.size]? =some (.cells #[.pointer (some ⟨gs,0,none⟩),.int .i64 d] 107 (0,0)) from (BE.only.block _ (yL R0) (by have:=HG.out;omega)).trans R0.out);have By:=yH (show w3.heap[w.heap.size+1]? =some (.cells kd0.cells.toArray 34 (0,0)) from (BE.only.block _ (yL R1) (by have:=HG.out;omega)).trans R1.out);have AM:=yH (show (∀k,Q k->k<w.heap.size) from HP.lt);have Bf:=yH (show RowsOk w3 d g Q M from fun r hr=>by
   have h:=(Cj.out).after Ax r (Bd.mem_iff.1 hr);exact h)
  have BR:=yH Ax.st;clear Ax BE BY R0 R1 CK HP;obtain ⟨q2,Ba⟩:∃q2:Option Addr,q2=if c=m+1 then some ⟨g,o,none⟩ else some ⟨g,o+(m+1),none⟩:=⟨_,rfl⟩
  have Cn:=yH Ba;have Cp:=yH (show M.drop (m+1)≠[]->q2=some ⟨g,o+(m+1),none⟩ from fun h=>by
   have h2:=kP.2 h;rw [kY,Ao.out] at h2;rw [Ba,if_neg (by have:=Ay.out;omega)])
  clear Ba;have BI:=yH (show Seg w3 g o (M.take m) from BA.take m);have BM:=yH (show Seg w3 g (o+(m+1)) (M.drop (m+1)) from BA.drop (m+1));have Ak:=yH (show (M.take m).length=m from by rw [kX,Ao.out];omega);have Am:=yH (show (M.drop (m+1)).length=n - (m+1) from by rw [kY,Ao.out]);obtain ⟨P1,At⟩:∃P1,P1=(lay ((M.take m).map Rw.R) (t+1)):=⟨_,rfl⟩
  obtain ⟨P2,BD⟩:∃P2,P2=(lay ((M.drop (m+1)).map Rw.R) (t+1)):=⟨_,rfl⟩
  have An:=yH (show ∀(x:World) (Qx:Nat->Prop) (bs:List Nat),LyS w3 x gs Q Qx s g o n m bs []->Seg x g o (M.take m)->Calls Tryz.prog 74 #[.agg #[.pointer (some ⟨gs,0,none⟩),.int .i64 d],.slice (some ⟨g,o,none⟩) m c,.int .i64 ((t+1:Nat):Int)] x (fun e x'=>∃(kd:Kd) (Q':Nat->Prop),e= .returned (.agg kd.cells.toArray)/\kd.pk=P1.kid/\kd.Ok x'/\Fsh x kd/\Aw Q' kd/\LayR x x' gs Qx Q' (puts s P1.pages) g o m) from fun x Qx bs hl hsg=>by
   have h:=IH.out (M.take m) (some ⟨g,o,none⟩) c (t+1) g o x Qx s (by have:=Ak.out;have:=HN.out;have:=CV.out;omega) (fun _=>rfl) (by have:=Ak.out;have:=Ay.out;omega) hsg (fun r hr=>Bf.after hl.r r (List.mem_of_mem_take hr)) hl.r.st (hl.glt A) (fun e=>(hl.r.new g e).elim B9.out (fun e=>by have:=A.out;omega)) (by have:=Ak.out;have:=Af.out;omega) (by have:=Ak.out;have:=HT.out;omega);unfold x2c at h;rw [Ak.out,<- At] at h;exact h)
  have AY:=yH (show ∀(x:World) (Qx:Nat->Prop) (bs:List Nat) (ks:List Kd),LyS w3 x gs Q Qx (puts s P1.pages) g o n m bs ks->Seg x g (o+(m+1)) (M.drop (m+1))->Calls Tryz.prog 74 #[.agg #[.pointer (some ⟨gs,0,none⟩),.int .i64 d],.slice q2 (n - (m+1)) (c - (m+1)),.int .i64 ((t+1:Nat):Int)] x (fun e x'=>∃(kd:Kd) (Q':Nat->Prop),e= .returned (.agg kd.cells.toArray)/\kd.pk=P2.kid/\kd.Ok x'/\Fsh x kd/\Aw Q' kd/\LayR x x' gs Qx Q' (puts (puts s P1.pages) P2.pages) g (o+(m+1)) (n - (m+1))) from fun x Qx bs ks hl hsg=>by
   have CY:=y4q (M.take m) (t+1) s;rw [<- At,Ak.out] at CY;have h:=IH.out (M.drop (m+1)) q2 (c - (m+1)) (t+1) g (o+(m+1)) x Qx (puts s P1.pages) (by have:=Am.out;have:=HN.out;omega) Cp (by have:=Am.out;have:=Ay.out;omega) hsg (fun r hr=>Bf.after hl.r r (List.mem_of_mem_drop hr)) hl.r.st (hl.glt A) (fun e=>(hl.r.new g e).elim B9.out (fun e=>by have:=A.out;omega)) (by have:=Am.out;have:=Af.out;omega) (by have:=Am.out;have:=HT.out;omega);unfold x2c at h;rw [Am.out,<- BD] at h;exact h)
  obtain ⟨gm,B5⟩:∃r:Rw,r=M.getD m default:=⟨_,rfl⟩
  have B2:=(BA.out m (by have:=Ao.out;omega)).1;rw [<- B5] at B2;have Av:=yH B2;have Bz:gm∈M:=by rw [B5];exact x3e (by have:=Ao.out;omega)
  have B8:=yH (Bf.out gm Bz);have Ar:=yH (show lay (L.map Rw.R) t= .fork gm.R true P1 P2 from by
   rw [B7.out,<- Bm.out,At,BD,B5,<- List.map_take,<- List.map_drop,x6e (by have:=Ao.out;omega)])
  have Cq:=yH (show P1.size=m from by rw [At,x1X,kH,Ak.out]);have Ct:=yH (show P2.size=n - (m+1) from by rw [BD,x1X,kH,Am.out]);have Cu:=yH (show (puts (puts s P1.pages) P2.pages).W.length<100000 from by
   have h1:=x1l P1.pages s;have h2:=x1l P2.pages (puts s P1.pages);rw [x0P] at h1 h2;have:=Cq.out;have:=Ct.out;have:=Af.out;omega)
  clear B5 B2 Bz At BD IH B7 Bd Bm BA;have q3:IntKind.i64.wrap ((t:Int)+1)=((t+1:Nat):Int):=by rw [IntWalk.i64_in _ (by have:=HT.out;omega)];rfl
  have q4:IntKind.i64.wrap ((m:Int)+1)=((m+1:Nat):Int):=by rw [IntWalk.i64_in _ (by have:=Af.out;omega)];rfl
  have CL:m<=c:=by have:=Ay.out;omega
  go_cut [8,9] from 8 to 36 (fun v8 v9 wx=>CutL w3 gs Q (puts (puts s P1.pages) P2.pages) g o n m P1.kid P2.kid v8 v9 wx)
  case first=>
   have Ah:=yH (LyS.start (m:=m) (n:=n) (o:=o) BR A);have a:=yH (show Seg w3.drew g o (M.take m)/\Seg w3.drew g (o+(m+1)) (M.drop (m+1)) from ⟨BI.out,BM.out⟩);refine kD (S:=fun w'=>w'.rangeAt w.heap.size 0 [.pointer (some ⟨gs,0,none⟩),.int .i64 d]) (by kernel_rfl) (x09 AL) (fun hH=>?_);generalize w3.drew=x0 at *;refine tQ 0 ?_ ?_ ?_;rotate_left
   ·intro w' hSw;refine Eq.trans (b:=Result.ok (Next.value (.agg #[.pointer (some ⟨gs,0,none⟩),.int .i64 d])) w') ?_ ?_
    ·exact x0F 107 (.tmp 3) (by rfl) w.heap.size 0 (by rfl) [.pointer (some ⟨gs,0,none⟩),.int .i64 d] du hSw B4 B6 STr
    ·with_reducible rfl
   refine tK 1 ?_;refine tK 2 ?_;refine tQ 3 ?_ ?_ ?_;rotate_left
   ·intro w' hSw;refine Eq.trans (b:=Result.ok (Next.value (.slice (some ⟨g,o,none⟩) m c)) w') ?_ ?_
    ·exact y4s (x:=.tmp 22) (hi:=.tmp 23) (n:=n) (c:=c) (k:=m) (g:=g) (i:=o) (by rfl) (by rfl) (by rfl) CL
    ·with_reducible rfl
   refine tK 4 ?_;refine tK 5 ?_;refine tQ 7 ?_ ?_ ?_;rotate_left
   ·intro w' hSw;refine Eq.trans (b:=Result.ok (Next.value (.agg #[.pointer (some ⟨gs,0,none⟩),.int .i64 d])) w') ?_ ?_
    ·exact x0F 107 (.tmp 3) (by rfl) w.heap.size 0 (by rfl) [.pointer (some ⟨gs,0,none⟩),.int .i64 d] du hSw B4 B6 STr
    ·with_reducible rfl
   refine tK 8 ?_;refine tK 9 ?_;refine tK 10 ?_;refine tQ 11 ?_ ?_ ?_;rotate_left
   ·intro w' hSw;refine Eq.trans (b:=Result.ok (Next.value (.slice q2 (n - (m+1)) (c - (m+1)))) w') ?_ ?_
    ·exact y4r (x:=.tmp 29) (lo:=.tmp 31) (n:=n) (c:=c) (k:=m+1) (g:=g) (i:=o) (q:=q2) (by rfl) (by rfl) (by rfl) (by omega) Cn
    ·with_reducible rfl
   refine tK 12 ?_;refine tK 13 ?_;refine rY [6,15,16] ?_;refine rC (fun K C=>?_) (rC (fun K C=>?_) (rC (fun K C=>?_) AllReadyH.nil))
   focus
    go_simp;refine (An.out _ _ _ Ah a.1).mono ?_;rintro _ x1 ⟨AQ,Q1,rfl,AI,u,AH,AJ,Y⟩;obtain ⟨CG,Bs⟩:=Ah.call A.out Y ⟨jB _,by omega⟩ (Or.inr (jB _)) u AH AJ (fun k hk=>by cases hk);have SB:=yH (show Seg x1 g (o+(m+1)) (M.drop (m+1)) from fun j hj=>⟨(Y.cell _ (Or.inr (by omega))).trans (a.2 j hj).1,(Y.frozen _).trans (a.2 j hj).2⟩);have AU:=yH AI;have AV:=yH (Kd.cells_length u.len);have A0:=yH CG;have Au:=x0c A0.out AL (fun e=>by have:=AM.out _ e;omega) (by have:=HG.out;omega);clear CG Bs AI u AH AJ Y a;try go_wp2_with fail
    refine C.out _ _ Au (fun hH=>?_);clear C K;try simp only [Act.put,yA,yB,yC]
    have a:=yH (show True/\Seg x1 g (o+(m+1)) (M.drop (m+1)) from ⟨trivial,SB.out⟩);clear SB;refine rY [14,15,16] ?_;refine rC (fun K C=>?_) (rC (fun K C=>?_) (rC (fun K C=>?_) AllReadyH.nil))
    focus
     go_simp;refine (AY.out _ _ _ _ A0 a.2).mono ?_;rintro _ x2 ⟨AA,Q2,rfl,I,B,J,G,H⟩;obtain ⟨Ag,AZ⟩:=A0.call A.out H ⟨by omega,by omega⟩ (Or.inl (by omega)) B J G (fun k hk r hr y hy hR=>by have h:=(A0.kid k hk).2.2 r hr y hy hR;have:=A.out;omega);have AF:=yH I;have AG:=yH (Kd.cells_length B.len);have O:=yH Ag;have AT:=x0c O.out AL (fun e=>by have:=AM.out _ e;omega) (by have:=HG.out;omega);clear Ag AZ I B J G H;try go_wp2_with fail
     refine C.out _ _ AT (fun hH=>?_);clear C K;try simp only [Act.put,yA,yB,yC]
     refine rY [15,16] ?_;refine rC (fun K C=>?_) (rC (fun K C=>?_) AllReadyH.nil)
     focus
      go_simp;have X:=jA x2 (.cells kd0.cells.toArray 34);have E:=yH (O.alloc A (.cells kd0.cells.toArray 34));have U:=yH (jE x2 (.cells kd0.cells.toArray 34));have AB:=x01 hH X;clear X;try go_wp2_with fail
      refine C.out _ _ AB (fun hH=>?_);clear C K;try simp only [Act.put,yA,yB,yC]
      generalize x2.alloc (.cells kd0.cells.toArray 34)=x3 at *;obtain ⟨b8,A4⟩:∃b,x2.heap.size=b:=⟨_,rfl⟩
      rw [A4] at E U ⊢;clear A4;refine rO 16 fun K C=>?_;go_simp;have X:=jA x3 (.cells kd0.cells.toArray 34);have A8:=yH (E.alloc A (.cells kd0.cells.toArray 34));have l:=yH (jE x3 (.cells kd0.cells.toArray 34));have f:=yH (yK X U);have AE:=x01 hH X;clear X;try go_wp2_with fail
      refine C.out _ _ AE (fun hH=>?_);clear C K;try simp only [Act.put,yA,yB,yC]
      generalize x3.alloc (.cells kd0.cells.toArray 34)=x4 at *;obtain ⟨b9,A5⟩:∃b,x3.heap.size=b:=⟨_,rfl⟩
      rw [A5] at A8 l ⊢;have A1:=yH (show b8≠b9 from by have:=(E.box b8 (by simp)).2.1;omega);clear A5
     rotate_left
     focus
      go_simp;have X:=jA x2 (.cells kd0.cells.toArray 34);have E:=yH (O.alloc A (.cells kd0.cells.toArray 34));have P:=yH (jE x2 (.cells kd0.cells.toArray 34));have AB:=x01 hH X;clear X;try go_wp2_with fail
      refine C.out _ _ AB (fun hH=>?_);clear C K;try simp only [Act.put,yA,yB,yC]
      generalize x2.alloc (.cells kd0.cells.toArray 34)=x3 at *;obtain ⟨b9,A5⟩:∃b,x2.heap.size=b:=⟨_,rfl⟩
      rw [A5] at E P ⊢;clear A5;refine rO 15 fun K C=>?_;go_simp;have X:=jA x3 (.cells kd0.cells.toArray 34);have A8:=yH (E.alloc A (.cells kd0.cells.toArray 34));have f:=yH (jE x3 (.cells kd0.cells.toArray 34));have l:=yH (yK X P);have AE:=x01 hH X;clear X;try go_wp2_with fail
      refine C.out _ _ AE (fun hH=>?_);clear C K;try simp only [Act.put,yA,yB,yC]
      generalize x3.alloc (.cells kd0.cells.toArray 34)=x4 at *;obtain ⟨b8,A4⟩:∃b,x3.heap.size=b:=⟨_,rfl⟩
      rw [A4] at A8 f ⊢;have A1:=yH (show b8≠b9 from by have:=(E.box b9 (by simp)).2.1;omega);clear A4
     rotate_left
    rotate_left 2
    focus
     go_simp;have X:=jA x1 (.cells kd0.cells.toArray 34);have O:=yH (A0.alloc A (.cells kd0.cells.toArray 34));have AC:=yH (jE x1 (.cells kd0.cells.toArray 34));have SB:=yH (show True/\Seg (x1.alloc (.cells kd0.cells.toArray 34)) g (o+(m+1)) (M.drop (m+1)) from ⟨trivial,a.2.later X (A0.glt A)⟩);have AT:=x01 hH X;clear X a;try go_wp2_with fail
     refine C.out _ _ AT (fun hH=>?_);clear C K;try simp only [Act.put,yA,yB,yC]
     generalize x1.alloc (.cells kd0.cells.toArray 34)=x2 at *;obtain ⟨b8,A4⟩:∃b,x1.heap.size=b:=⟨_,rfl⟩
     rw [A4] at O AC ⊢;clear A4;have a:=yH SB.out;clear SB;refine rY [14,16] ?_;refine rC (fun K C=>?_) (rC (fun K C=>?_) AllReadyH.nil)
     focus
      go_simp;refine (AY.out _ _ _ _ O a.2).mono ?_;rintro _ x3 ⟨AA,Q2,rfl,I,B,J,G,H⟩;obtain ⟨AR,z⟩:=O.call A.out H ⟨by omega,by omega⟩ (Or.inl (by omega)) B J G (fun k hk r hr y hy hR=>by have h:=(O.kid k hk).2.2 r hr y hy hR;have:=A.out;omega);have U:=yH ((z b8 (by simp)).trans AC.out);have AF:=yH I;have AG:=yH (Kd.cells_length B.len);have E:=yH AR;have AB:=x0c E.out AL (fun e=>by have:=AM.out _ e;omega) (by have:=HG.out;omega);clear AR z I B J G H;try go_wp2_with fail
      refine C.out _ _ AB (fun hH=>?_);clear C K;try simp only [Act.put,yA,yB,yC]
      refine rO 16 fun K C=>?_;go_simp;have X:=jA x3 (.cells kd0.cells.toArray 34);have A8:=yH (E.alloc A (.cells kd0.cells.toArray 34));have l:=yH (jE x3 (.cells kd0.cells.toArray 34));have f:=yH (yK X U);have AE:=x01 hH X;clear X;try go_wp2_with fail
      refine C.out _ _ AE (fun hH=>?_);clear C K;try simp only [Act.put,yA,yB,yC]
      generalize x3.alloc (.cells kd0.cells.toArray 34)=x4 at *;obtain ⟨b9,A5⟩:∃b,x3.heap.size=b:=⟨_,rfl⟩
      rw [A5] at A8 l ⊢;have A1:=yH (show b8≠b9 from by have:=(E.box b8 (by simp)).2.1;omega);clear A5
     rotate_left
     focus
      go_simp;have X:=jA x2 (.cells kd0.cells.toArray 34);have E:=yH (O.alloc A (.cells kd0.cells.toArray 34));have P:=yH (jE x2 (.cells kd0.cells.toArray 34));have U:=yH (yK X AC);have SB:=yH (show True/\Seg (x2.alloc (.cells kd0.cells.toArray 34)) g (o+(m+1)) (M.drop (m+1)) from ⟨trivial,a.2.later X (O.glt A)⟩);have AB:=x01 hH X;clear X a;try go_wp2_with fail
      refine C.out _ _ AB (fun hH=>?_);clear C K;try simp only [Act.put,yA,yB,yC]
      generalize x2.alloc (.cells kd0.cells.toArray 34)=x3 at *;obtain ⟨b9,A5⟩:∃b,x2.heap.size=b:=⟨_,rfl⟩
      rw [A5] at E P ⊢;have A1:=yH (show b8≠b9 from by have:=(O.box b8 (by simp)).2.1;omega);clear A5;have a:=yH SB.out;clear SB;refine rO 14 fun K C=>?_;go_simp;refine (AY.out _ _ _ _ E a.2).mono ?_;rintro _ x4 ⟨AA,Q2,rfl,I,B,J,G,H⟩;obtain ⟨AP,Z⟩:=E.call A.out H ⟨by omega,by omega⟩ (Or.inl (by omega)) B J G (fun k hk r hr y hy hR=>by have h:=(E.kid k hk).2.2 r hr y hy hR;have:=A.out;omega);have l:=yH ((Z b9 (by simp)).trans P.out);have f:=yH ((Z b8 (by simp)).trans U.out);have AF:=yH I;have AG:=yH (Kd.cells_length B.len);have A8:=yH AP;have AE:=x0c A8.out AL (fun e=>by have:=AM.out _ e;omega) (by have:=HG.out;omega);clear AP Z I B J G H;try go_wp2_with fail
      refine C.out _ _ AE (fun hH=>?_);clear C K;try simp only [Act.put,yA,yB,yC]
     rotate_left
    rotate_left 2
    focus
     go_simp;have X:=jA x1 (.cells kd0.cells.toArray 34);have O:=yH (A0.alloc A (.cells kd0.cells.toArray 34));have AD:=yH (jE x1 (.cells kd0.cells.toArray 34));have SB:=yH (show True/\Seg (x1.alloc (.cells kd0.cells.toArray 34)) g (o+(m+1)) (M.drop (m+1)) from ⟨trivial,a.2.later X (A0.glt A)⟩);have AT:=x01 hH X;clear X a;try go_wp2_with fail
     refine C.out _ _ AT (fun hH=>?_);clear C K;try simp only [Act.put,yA,yB,yC]
     generalize x1.alloc (.cells kd0.cells.toArray 34)=x2 at *;obtain ⟨b9,A5⟩:∃b,x1.heap.size=b:=⟨_,rfl⟩
     rw [A5] at O AD ⊢;clear A5;have a:=yH SB.out;clear SB;refine rY [14,15] ?_;refine rC (fun K C=>?_) (rC (fun K C=>?_) AllReadyH.nil)
     focus
      go_simp;refine (AY.out _ _ _ _ O a.2).mono ?_;rintro _ x3 ⟨AA,Q2,rfl,I,B,J,G,H⟩;obtain ⟨AR,z⟩:=O.call A.out H ⟨by omega,by omega⟩ (Or.inl (by omega)) B J G (fun k hk r hr y hy hR=>by have h:=(O.kid k hk).2.2 r hr y hy hR;have:=A.out;omega);have P:=yH ((z b9 (by simp)).trans AD.out);have AF:=yH I;have AG:=yH (Kd.cells_length B.len);have E:=yH AR;have AB:=x0c E.out AL (fun e=>by have:=AM.out _ e;omega) (by have:=HG.out;omega);clear AR z I B J G H;try go_wp2_with fail
      refine C.out _ _ AB (fun hH=>?_);clear C K;try simp only [Act.put,yA,yB,yC]
      refine rO 15 fun K C=>?_;go_simp;have X:=jA x3 (.cells kd0.cells.toArray 34);have A8:=yH (E.alloc A (.cells kd0.cells.toArray 34));have f:=yH (jE x3 (.cells kd0.cells.toArray 34));have l:=yH (yK X P);have AE:=x01 hH X;clear X;try go_wp2_with fail
      refine C.out _ _ AE (fun hH=>?_);clear C K;try simp only [Act.put,yA,yB,yC]
      generalize x3.alloc (.cells kd0.cells.toArray 34)=x4 at *;obtain ⟨b8,A4⟩:∃b,x3.heap.size=b:=⟨_,rfl⟩
      rw [A4] at A8 f ⊢;have A1:=yH (show b8≠b9 from by have:=(E.box b9 (by simp)).2.1;omega);clear A4
     rotate_left
     focus
      go_simp;have X:=jA x2 (.cells kd0.cells.toArray 34);have E:=yH (O.alloc A (.cells kd0.cells.toArray 34));have U:=yH (jE x2 (.cells kd0.cells.toArray 34));have P:=yH (yK X AD);have SB:=yH (show True/\Seg (x2.alloc (.cells kd0.cells.toArray 34)) g (o+(m+1)) (M.drop (m+1)) from ⟨trivial,a.2.later X (O.glt A)⟩);have AB:=x01 hH X;clear X a;try go_wp2_with fail
      refine C.out _ _ AB (fun hH=>?_);clear C K;try simp only [Act.put,yA,yB,yC]
      generalize x2.alloc (.cells kd0.cells.toArray 34)=x3 at *;obtain ⟨b8,A4⟩:∃b,x2.heap.size=b:=⟨_,rfl⟩
      rw [A4] at E U ⊢;have A1:=yH (show b8≠b9 from by have:=(O.box b9 (by simp)).2.1;omega);clear A4;have a:=yH SB.out;clear SB;refine rO 14 fun K C=>?_;go_simp;refine (AY.out _ _ _ _ E a.2).mono ?_;rintro _ x4 ⟨AA,Q2,rfl,I,B,J,G,H⟩;obtain ⟨AP,Z⟩:=E.call A.out H ⟨by omega,by omega⟩ (Or.inl (by omega)) B J G (fun k hk r hr y hy hR=>by have h:=(E.kid k hk).2.2 r hr y hy hR;have:=A.out;omega);have f:=yH ((Z b8 (by simp)).trans U.out);have l:=yH ((Z b9 (by simp)).trans P.out);have AF:=yH I;have AG:=yH (Kd.cells_length B.len);have A8:=yH AP;have AE:=x0c A8.out AL (fun e=>by have:=AM.out _ e;omega) (by have:=HG.out;omega);clear AP Z I B J G H;try go_wp2_with fail
      refine C.out _ _ AE (fun hH=>?_);clear C K;try simp only [Act.put,yA,yB,yC]
     rotate_left
    rotate_left 2
   rotate_left 6
   focus
    go_simp;have X:=jA x0 (.cells kd0.cells.toArray 34);have A0:=yH (Ah.alloc A (.cells kd0.cells.toArray 34));have Aj:=yH (jE x0 (.cells kd0.cells.toArray 34));have SB:=yH (show Seg (x0.alloc (.cells kd0.cells.toArray 34)) g o (M.take m)/\Seg (x0.alloc (.cells kd0.cells.toArray 34)) g (o+(m+1)) (M.drop (m+1)) from ⟨a.1.later X (Ah.glt A),a.2.later X (Ah.glt A)⟩);have Au:=x01 hH X;clear X a;try go_wp2_with fail
    refine C.out _ _ Au (fun hH=>?_);clear C K;try simp only [Act.put,yA,yB,yC]
    generalize x0.alloc (.cells kd0.cells.toArray 34)=x1 at *;obtain ⟨b8,A4⟩:∃b,x0.heap.size=b:=⟨_,rfl⟩
    rw [A4] at A0 Aj ⊢;clear A4;have a:=yH SB.out;clear SB;refine rY [6,16] ?_;refine rC (fun K C=>?_) (rC (fun K C=>?_) AllReadyH.nil)
    focus
     go_simp;refine (An.out _ _ _ A0 a.1).mono ?_;rintro _ x2 ⟨AQ,Q1,rfl,AI,u,AH,AJ,Y⟩;obtain ⟨Ag,AZ⟩:=A0.call A.out Y ⟨jB _,by omega⟩ (Or.inr (jB _)) u AH AJ (fun k hk=>by cases hk);have AC:=yH ((AZ b8 (by simp)).trans Aj.out);have SB:=yH (show Seg x2 g (o+(m+1)) (M.drop (m+1)) from fun j hj=>⟨(Y.cell _ (Or.inr (by omega))).trans (a.2 j hj).1,(Y.frozen _).trans (a.2 j hj).2⟩);have AU:=yH AI;have AV:=yH (Kd.cells_length u.len);have O:=yH Ag;have AT:=x0c O.out AL (fun e=>by have:=AM.out _ e;omega) (by have:=HG.out;omega);clear Ag AZ AI u AH AJ Y a;try go_wp2_with fail
     refine C.out _ _ AT (fun hH=>?_);clear C K;try simp only [Act.put,yA,yB,yC]
     have a:=yH (show True/\Seg x2 g (o+(m+1)) (M.drop (m+1)) from ⟨trivial,SB.out⟩);clear SB;refine rY [14,16] ?_;refine rC (fun K C=>?_) (rC (fun K C=>?_) AllReadyH.nil)
     focus
      go_simp;refine (AY.out _ _ _ _ O a.2).mono ?_;rintro _ x3 ⟨AA,Q2,rfl,I,B,J,G,H⟩;obtain ⟨AR,z⟩:=O.call A.out H ⟨by omega,by omega⟩ (Or.inl (by omega)) B J G (fun k hk r hr y hy hR=>by have h:=(O.kid k hk).2.2 r hr y hy hR;have:=A.out;omega);have U:=yH ((z b8 (by simp)).trans AC.out);have AF:=yH I;have AG:=yH (Kd.cells_length B.len);have E:=yH AR;have AB:=x0c E.out AL (fun e=>by have:=AM.out _ e;omega) (by have:=HG.out;omega);clear AR z I B J G H;try go_wp2_with fail
      refine C.out _ _ AB (fun hH=>?_);clear C K;try simp only [Act.put,yA,yB,yC]
      refine rO 16 fun K C=>?_;go_simp;have X:=jA x3 (.cells kd0.cells.toArray 34);have A8:=yH (E.alloc A (.cells kd0.cells.toArray 34));have l:=yH (jE x3 (.cells kd0.cells.toArray 34));have f:=yH (yK X U);have AE:=x01 hH X;clear X;try go_wp2_with fail
      refine C.out _ _ AE (fun hH=>?_);clear C K;try simp only [Act.put,yA,yB,yC]
      generalize x3.alloc (.cells kd0.cells.toArray 34)=x4 at *;obtain ⟨b9,A5⟩:∃b,x3.heap.size=b:=⟨_,rfl⟩
      rw [A5] at A8 l ⊢;have A1:=yH (show b8≠b9 from by have:=(E.box b8 (by simp)).2.1;omega);clear A5
     rotate_left
     focus
      go_simp;have X:=jA x2 (.cells kd0.cells.toArray 34);have E:=yH (O.alloc A (.cells kd0.cells.toArray 34));have P:=yH (jE x2 (.cells kd0.cells.toArray 34));have U:=yH (yK X AC);have SB:=yH (show True/\Seg (x2.alloc (.cells kd0.cells.toArray 34)) g (o+(m+1)) (M.drop (m+1)) from ⟨trivial,a.2.later X (O.glt A)⟩);have AB:=x01 hH X;clear X a;try go_wp2_with fail
      refine C.out _ _ AB (fun hH=>?_);clear C K;try simp only [Act.put,yA,yB,yC]
      generalize x2.alloc (.cells kd0.cells.toArray 34)=x3 at *;obtain ⟨b9,A5⟩:∃b,x2.heap.size=b:=⟨_,rfl⟩
      rw [A5] at E P ⊢;have A1:=yH (show b8≠b9 from by have:=(O.box b8 (by simp)).2.1;omega);clear A5;have a:=yH SB.out;clear SB;refine rO 14 fun K C=>?_;go_simp;refine (AY.out _ _ _ _ E a.2).mono ?_;rintro _ x4 ⟨AA,Q2,rfl,I,B,J,G,H⟩;obtain ⟨AP,Z⟩:=E.call A.out H ⟨by omega,by omega⟩ (Or.inl (by omega)) B J G (fun k hk r hr y hy hR=>by have h:=(E.kid k hk).2.2 r hr y hy hR;have:=A.out;omega);have l:=yH ((Z b9 (by simp)).trans P.out);have f:=yH ((Z b8 (by simp)).trans U.out);have AF:=yH I;have AG:=yH (Kd.cells_length B.len);have A8:=yH AP;have AE:=x0c A8.out AL (fun e=>by have:=AM.out _ e;omega) (by have:=HG.out;omega);clear AP Z I B J G H;try go_wp2_with fail
      refine C.out _ _ AE (fun hH=>?_);clear C K;try simp only [Act.put,yA,yB,yC]
     rotate_left
    rotate_left 2
    focus
     go_simp;have X:=jA x1 (.cells kd0.cells.toArray 34);have O:=yH (A0.alloc A (.cells kd0.cells.toArray 34));have AD:=yH (jE x1 (.cells kd0.cells.toArray 34));have AC:=yH (yK X Aj);have SB:=yH (show Seg (x1.alloc (.cells kd0.cells.toArray 34)) g o (M.take m)/\Seg (x1.alloc (.cells kd0.cells.toArray 34)) g (o+(m+1)) (M.drop (m+1)) from ⟨a.1.later X (A0.glt A),a.2.later X (A0.glt A)⟩);have AT:=x01 hH X;clear X a;try go_wp2_with fail
     refine C.out _ _ AT (fun hH=>?_);clear C K;try simp only [Act.put,yA,yB,yC]
     generalize x1.alloc (.cells kd0.cells.toArray 34)=x2 at *;obtain ⟨b9,A5⟩:∃b,x1.heap.size=b:=⟨_,rfl⟩
     rw [A5] at O AD ⊢;have A1:=yH (show b8≠b9 from by have:=(A0.box b8 (by simp)).2.1;omega);clear A5;have a:=yH SB.out;clear SB;refine rO 6 fun K C=>?_;go_simp;refine (An.out _ _ _ O a.1).mono ?_;rintro _ x3 ⟨AQ,Q1,rfl,AI,u,AH,AJ,Y⟩;obtain ⟨AR,z⟩:=O.call A.out Y ⟨jB _,by omega⟩ (Or.inr (jB _)) u AH AJ (fun k hk=>by cases hk);have P:=yH ((z b9 (by simp)).trans AD.out);have U:=yH ((z b8 (by simp)).trans AC.out);have SB:=yH (show Seg x3 g (o+(m+1)) (M.drop (m+1)) from fun j hj=>⟨(Y.cell _ (Or.inr (by omega))).trans (a.2 j hj).1,(Y.frozen _).trans (a.2 j hj).2⟩);have AU:=yH AI;have AV:=yH (Kd.cells_length u.len);have E:=yH AR;have AB:=x0c E.out AL (fun e=>by have:=AM.out _ e;omega) (by have:=HG.out;omega);clear AR z AI u AH AJ Y a;try go_wp2_with fail
     refine C.out _ _ AB (fun hH=>?_);clear C K;try simp only [Act.put,yA,yB,yC]
     have a:=yH (show True/\Seg x3 g (o+(m+1)) (M.drop (m+1)) from ⟨trivial,SB.out⟩);clear SB;refine rO 14 fun K C=>?_;go_simp;refine (AY.out _ _ _ _ E a.2).mono ?_;rintro _ x4 ⟨AA,Q2,rfl,I,B,J,G,H⟩;obtain ⟨AP,Z⟩:=E.call A.out H ⟨by omega,by omega⟩ (Or.inl (by omega)) B J G (fun k hk r hr y hy hR=>by have h:=(E.kid k hk).2.2 r hr y hy hR;have:=A.out;omega);have l:=yH ((Z b9 (by simp)).trans P.out);have f:=yH ((Z b8 (by simp)).trans U.out);have AF:=yH I;have AG:=yH (Kd.cells_length B.len);have A8:=yH AP;have AE:=x0c A8.out AL (fun e=>by have:=AM.out _ e;omega) (by have:=HG.out;omega);clear AP Z I B J G H;try go_wp2_with fail
     refine C.out _ _ AE (fun hH=>?_);clear C K;try simp only [Act.put,yA,yB,yC]
    rotate_left
   rotate_left 3
   focus
    go_simp;have X:=jA x0 (.cells kd0.cells.toArray 34);have A0:=yH (Ah.alloc A (.cells kd0.cells.toArray 34));have Ai:=yH (jE x0 (.cells kd0.cells.toArray 34));have SB:=yH (show Seg (x0.alloc (.cells kd0.cells.toArray 34)) g o (M.take m)/\Seg (x0.alloc (.cells kd0.cells.toArray 34)) g (o+(m+1)) (M.drop (m+1)) from ⟨a.1.later X (Ah.glt A),a.2.later X (Ah.glt A)⟩);have Au:=x01 hH X;clear X a;try go_wp2_with fail
    refine C.out _ _ Au (fun hH=>?_);clear C K;try simp only [Act.put,yA,yB,yC]
    generalize x0.alloc (.cells kd0.cells.toArray 34)=x1 at *;obtain ⟨b9,A5⟩:∃b,x0.heap.size=b:=⟨_,rfl⟩
    rw [A5] at A0 Ai ⊢;clear A5;have a:=yH SB.out;clear SB;refine rY [6,15] ?_;refine rC (fun K C=>?_) (rC (fun K C=>?_) AllReadyH.nil)
    focus
     go_simp;refine (An.out _ _ _ A0 a.1).mono ?_;rintro _ x2 ⟨AQ,Q1,rfl,AI,u,AH,AJ,Y⟩;obtain ⟨Ag,AZ⟩:=A0.call A.out Y ⟨jB _,by omega⟩ (Or.inr (jB _)) u AH AJ (fun k hk=>by cases hk);have AD:=yH ((AZ b9 (by simp)).trans Ai.out);have SB:=yH (show Seg x2 g (o+(m+1)) (M.drop (m+1)) from fun j hj=>⟨(Y.cell _ (Or.inr (by omega))).trans (a.2 j hj).1,(Y.frozen _).trans (a.2 j hj).2⟩);have AU:=yH AI;have AV:=yH (Kd.cells_length u.len);have O:=yH Ag;have AT:=x0c O.out AL (fun e=>by have:=AM.out _ e;omega) (by have:=HG.out;omega);clear Ag AZ AI u AH AJ Y a;try go_wp2_with fail
     refine C.out _ _ AT (fun hH=>?_);clear C K;try simp only [Act.put,yA,yB,yC]
     have a:=yH (show True/\Seg x2 g (o+(m+1)) (M.drop (m+1)) from ⟨trivial,SB.out⟩);clear SB;refine rY [14,15] ?_;refine rC (fun K C=>?_) (rC (fun K C=>?_) AllReadyH.nil)
     focus
      go_simp;refine (AY.out _ _ _ _ O a.2).mono ?_;rintro _ x3 ⟨AA,Q2,rfl,I,B,J,G,H⟩;obtain ⟨AR,z⟩:=O.call A.out H ⟨by omega,by omega⟩ (Or.inl (by omega)) B J G (fun k hk r hr y hy hR=>by have h:=(O.kid k hk).2.2 r hr y hy hR;have:=A.out;omega);have P:=yH ((z b9 (by simp)).trans AD.out);have AF:=yH I;have AG:=yH (Kd.cells_length B.len);have E:=yH AR;have AB:=x0c E.out AL (fun e=>by have:=AM.out _ e;omega) (by have:=HG.out;omega);clear AR z I B J G H;try go_wp2_with fail
      refine C.out _ _ AB (fun hH=>?_);clear C K;try simp only [Act.put,yA,yB,yC]
      refine rO 15 fun K C=>?_;go_simp;have X:=jA x3 (.cells kd0.cells.toArray 34);have A8:=yH (E.alloc A (.cells kd0.cells.toArray 34));have f:=yH (jE x3 (.cells kd0.cells.toArray 34));have l:=yH (yK X P);have AE:=x01 hH X;clear X;try go_wp2_with fail
      refine C.out _ _ AE (fun hH=>?_);clear C K;try simp only [Act.put,yA,yB,yC]
      generalize x3.alloc (.cells kd0.cells.toArray 34)=x4 at *;obtain ⟨b8,A4⟩:∃b,x3.heap.size=b:=⟨_,rfl⟩
      rw [A4] at A8 f ⊢;have A1:=yH (show b8≠b9 from by have:=(E.box b9 (by simp)).2.1;omega);clear A4
     rotate_left
     focus
      go_simp;have X:=jA x2 (.cells kd0.cells.toArray 34);have E:=yH (O.alloc A (.cells kd0.cells.toArray 34));have U:=yH (jE x2 (.cells kd0.cells.toArray 34));have P:=yH (yK X AD);have SB:=yH (show True/\Seg (x2.alloc (.cells kd0.cells.toArray 34)) g (o+(m+1)) (M.drop (m+1)) from ⟨trivial,a.2.later X (O.glt A)⟩);have AB:=x01 hH X;clear X a;try go_wp2_with fail
      refine C.out _ _ AB (fun hH=>?_);clear C K;try simp only [Act.put,yA,yB,yC]
      generalize x2.alloc (.cells kd0.cells.toArray 34)=x3 at *;obtain ⟨b8,A4⟩:∃b,x2.heap.size=b:=⟨_,rfl⟩
      rw [A4] at E U ⊢;have A1:=yH (show b8≠b9 from by have:=(O.box b9 (by simp)).2.1;omega);clear A4;have a:=yH SB.out;clear SB;refine rO 14 fun K C=>?_;go_simp;refine (AY.out _ _ _ _ E a.2).mono ?_;rintro _ x4 ⟨AA,Q2,rfl,I,B,J,G,H⟩;obtain ⟨AP,Z⟩:=E.call A.out H ⟨by omega,by omega⟩ (Or.inl (by omega)) B J G (fun k hk r hr y hy hR=>by have h:=(E.kid k hk).2.2 r hr y hy hR;have:=A.out;omega);have f:=yH ((Z b8 (by simp)).trans U.out);have l:=yH ((Z b9 (by simp)).trans P.out);have AF:=yH I;have AG:=yH (Kd.cells_length B.len);have A8:=yH AP;have AE:=x0c A8.out AL (fun e=>by have:=AM.out _ e;omega) (by have:=HG.out;omega);clear AP Z I B J G H;try go_wp2_with fail
      refine C.out _ _ AE (fun hH=>?_);clear C K;try simp only [Act.put,yA,yB,yC]
     rotate_left
    rotate_left 2
    focus
     go_simp;have X:=jA x1 (.cells kd0.cells.toArray 34);have O:=yH (A0.alloc A (.cells kd0.cells.toArray 34));have AC:=yH (jE x1 (.cells kd0.cells.toArray 34));have AD:=yH (yK X Ai);have SB:=yH (show Seg (x1.alloc (.cells kd0.cells.toArray 34)) g o (M.take m)/\Seg (x1.alloc (.cells kd0.cells.toArray 34)) g (o+(m+1)) (M.drop (m+1)) from ⟨a.1.later X (A0.glt A),a.2.later X (A0.glt A)⟩);have AT:=x01 hH X;clear X a;try go_wp2_with fail
     refine C.out _ _ AT (fun hH=>?_);clear C K;try simp only [Act.put,yA,yB,yC]
     generalize x1.alloc (.cells kd0.cells.toArray 34)=x2 at *;obtain ⟨b8,A4⟩:∃b,x1.heap.size=b:=⟨_,rfl⟩
     rw [A4] at O AC ⊢;have A1:=yH (show b8≠b9 from by have:=(A0.box b9 (by simp)).2.1;omega);clear A4;have a:=yH SB.out;clear SB;refine rO 6 fun K C=>?_;go_simp;refine (An.out _ _ _ O a.1).mono ?_;rintro _ x3 ⟨AQ,Q1,rfl,AI,u,AH,AJ,Y⟩;obtain ⟨AR,z⟩:=O.call A.out Y ⟨jB _,by omega⟩ (Or.inr (jB _)) u AH AJ (fun k hk=>by cases hk);have U:=yH ((z b8 (by simp)).trans AC.out);have P:=yH ((z b9 (by simp)).trans AD.out);have SB:=yH (show Seg x3 g (o+(m+1)) (M.drop (m+1)) from fun j hj=>⟨(Y.cell _ (Or.inr (by omega))).trans (a.2 j hj).1,(Y.frozen _).trans (a.2 j hj).2⟩);have AU:=yH AI;have AV:=yH (Kd.cells_length u.len);have E:=yH AR;have AB:=x0c E.out AL (fun e=>by have:=AM.out _ e;omega) (by have:=HG.out;omega);clear AR z AI u AH AJ Y a;try go_wp2_with fail
     refine C.out _ _ AB (fun hH=>?_);clear C K;try simp only [Act.put,yA,yB,yC]
     have a:=yH (show True/\Seg x3 g (o+(m+1)) (M.drop (m+1)) from ⟨trivial,SB.out⟩);clear SB;refine rO 14 fun K C=>?_;go_simp;refine (AY.out _ _ _ _ E a.2).mono ?_;rintro _ x4 ⟨AA,Q2,rfl,I,B,J,G,H⟩;obtain ⟨AP,Z⟩:=E.call A.out H ⟨by omega,by omega⟩ (Or.inl (by omega)) B J G (fun k hk r hr y hy hR=>by have h:=(E.kid k hk).2.2 r hr y hy hR;have:=A.out;omega);have f:=yH ((Z b8 (by simp)).trans U.out);have l:=yH ((Z b9 (by simp)).trans P.out);have AF:=yH I;have AG:=yH (Kd.cells_length B.len);have A8:=yH AP;have AE:=x0c A8.out AL (fun e=>by have:=AM.out _ e;omega) (by have:=HG.out;omega);clear AP Z I B J G H;try go_wp2_with fail
     refine C.out _ _ AE (fun hH=>?_);clear C K;try simp only [Act.put,yA,yB,yC]
    rotate_left
   rotate_left 3;all_goals
    refine rO 17 fun K C=>?_;refine wp_store_row 34 (.tmp 8) (.tmp 27) (by rfl) b8 AQ.cells.toArray (by rfl) (by rfl) _ _ f (by rw [jF,AV.out];exact SKd) (by simp only [jF,AV.out,x02]) (jN Kd.one) ?_;have CI:=yH (A8.set A (b:=b8) (by simp) AQ.cells.toArray);have Be:=yH (jT _ _ _ AQ.cells.toArray _ _ f);have As:=yH ((setRow_other x4 b8 b9 AQ.cells.toArray (by have:=A1.out;omega)).trans l.out);have Cy:=x0c CI.out AL (fun e=>by have:=AM.out _ e;omega) (by have:=HG.out;omega);refine C.out _ _ Cy (fun hH=>?_);clear C K;try simp only [Act.put,yA,yB,yC]
    generalize x4.setRow b8 AQ.cells.toArray=x5 at *;refine rO 18 fun K C=>?_;refine wp_store_row 34 (.tmp 9) (.tmp 35) (by rfl) b9 AA.cells.toArray (by rfl) (by rfl) _ _ As (by rw [jF,AG.out];exact SKd) (by simp only [jF,AG.out,x02]) (jN Kd.one) ?_;have Bk:=yH (CI.set A (b:=b9) (by simp) AA.cells.toArray);have Bb:=yH (jT _ _ _ AA.cells.toArray _ _ As);have BZ:=yH ((setRow_other x5 b9 b8 AA.cells.toArray (by have:=A1.out;omega)).trans Be.out);have Cz:=x0c Bk.out AL (fun e=>by have:=AM.out _ e;omega) (by have:=HG.out;omega);refine C.out _ _ Cz (fun hH=>?_);clear C K;try simp only [Act.put,yA,yB,yC]
    generalize x5.setRow b9 AA.cells.toArray=x6 at *;refine jD ?_;go_wp2_with fail
    go_meet;exact ⟨b8,b9,AQ,AA,Q2,rfl,rfl,Bk.less (fun b hb=>by simp only [jW,jV,or_false] at hb ⊢;omega) (fun k hk=>by simp only [jW,jV,or_false] at hk ⊢;exact hk.symm),BZ.out,Bb.out,AU.out,AF.out⟩
  case rest=>
   obtain ⟨b8,b9,AQ,AA,Q2,rfl,rfl,AO,h8,h9,Bl,Bu⟩:=hcut;obtain ⟨rp,rn,rc,rR⟩:=gm;unfold Rw.val at Av;simp only at Av Ar;have C9:=AO.r.only.size;have BQ:w.heap.size<w3.heap.size:=(yL AL)
   have BT:w.heap.size+1<w3.heap.size:=(yL By)
   have C2:∀k,w.heap.size<=k->k<w3.heap.size->¬Q2 k:=fun k h1 h2 h=>(AO.r.new k h).elim (fun e=>by have:=AM.out k e;omega) (fun e=>by omega);have Cd:=yH (show wc.heap[w.heap.size]? =_ from (AO.r.only.block _ BQ (fun e=>e.elim (fun e=>by have:=AM.out _ e;omega) (fun e=>by have:=HG.out;omega))).trans AL.out);have Cl:=yH (show wc.heap[w.heap.size+1]? =_ from (AO.r.only.block _ BT (fun e=>e.elim (fun e=>by have:=AM.out _ e;omega) (fun e=>by have:=HG.out;omega))).trans By.out);have Cf:=yH (AO.mid.trans Av);have Ca:=yH (show (⟨rp,rn,rc,rR⟩:Rw).Ok wc from (B8.1.later (jC _ _) |> fun h=>Nd.rw_keep h fun y hy hR=>AO.r.only.block _ (rw_lt B8.1 y hy hR) (fun e=>e.elim (B8.2.2.2 y hy hR) (B8.2.2.1 y hy hR))));have Bw:=yH (AO.kid AQ (by simp)).1;have CC:=yH (AO.kid AA (by simp)).1;have BC:=yH (show wc.heap[b8]? =_/\b8<wc.heap.size/\¬Q2 b8/\w3.heap.size<=b8 from ⟨h8,(AO.box b8 (by simp)).2.1,(AO.box b8 (by simp)).2.2,(AO.box b8 (by simp)).1⟩);have BB:=yH (show wc.heap[b9]? =_/\b9<wc.heap.size/\¬Q2 b9/\w3.heap.size<=b9 from ⟨h9,(AO.box b9 (by simp)).2.1,(AO.box b9 (by simp)).2.2,(AO.box b9 (by simp)).1⟩);have Aa:=yH (show w.heap.size+1<w3.heap.size/\w3.heap.size<=wc.heap.size/\g<w.heap.size from ⟨BT,C9,HG.out⟩);have BV:=yH C2;have Bt:=yH (show ¬Q2 g from fun e=>(AO.r.new g e).elim B9.out (fun e=>by have:=A.out;omega));have BS:=yH AO.r;have AU:=yH Bl;have AF:=yH Bu;have AV:=yH (Kd.cells_length Bw.len);have AG:=yH (Kd.cells_length CC.len);have i1:(0:Int)<=m/\(m:Int)<n:=by omega
   clear AO h8 h9 Bl Bu C9 BQ BT C2 q3 q4 CL An AY BI BM;go_upto_region 6 with fail
   refine kD (S:=fun w'=>∀k,k<wc.heap.size->¬Q2 k->k≠w.heap.size+1->w'.heap[k]? =wc.heap[k]?) (by kernel_rfl) (fun k _ _ _=>rfl) (fun hH=>?_);have B3:=yH (show Below wc.heap.size wc wc.drew from (jC _ _).drew);generalize wc.drew=x0 at *;refine tQ 0 ?_ ?_ ?_;rotate_left
   ·intro w' hSw;refine Eq.trans (b:=Result.ok (Next.value (.agg #[.pointer (some ⟨gs,0,none⟩),.int .i64 d])) w') ?_ ?_
    ·exact x0F 107 (.tmp 3) (by rfl) w.heap.size 0 (by rfl) [.pointer (some ⟨gs,0,none⟩),.int .i64 d] du (x09 ((hSw w.heap.size (by have:=Aa.out;omega) (BV.out _ (by omega) (by have:=Aa.out;omega)) (by omega)).trans Cd.out)) B4 B6 STr
    ·with_reducible rfl
   refine tK 1 ?_;refine tK 2 ?_;refine tK 3 ?_;refine tQ 4 ?_ ?_ ?_;rotate_left
   ·intro w' hSw;have y:w'.cell? ⟨g,o+m,none⟩=some (.slice rp rn rc):=(jX (hSw g (by have:=Aa.out;omega) Bt (by have:=Aa.out;omega))).trans Cf.out;go_simp;try with_reducible rfl
   refine tQ 5 ?_ ?_ ?_;rotate_left
   ·intro w' hSw;refine Eq.trans (b:=Result.ok (Next.value (.agg #[.slice rp rn rc,.bool true])) w') ?_ ?_
    ·apply x1A (t:=101) (parts:= #[(0,.tmp 40),(1,.const (.bool true))])
     ·rfl
     ·simp only [kA,kB,kC];exact y3K _ _ _ _
    ·with_reducible rfl
   refine tQ 6 ?_ ?_ ?_;rotate_left
   ·intro w' hSw;refine Eq.trans (b:=Result.ok (Next.value (.agg AQ.cells.toArray)) w') ?_ ?_
    ·exact x0F 34 (.tmp 8) (by rfl) b8 0 (by rfl) AQ.cells dk (x0E ((hSw b8 BC.2.1 BC.2.2.1 (by have:=BC.out;have:=Aa.out;omega)).trans BC.1)) BW Az (by rw [AV.out];exact SKd)
    ·with_reducible rfl
   refine tQ 7 ?_ ?_ ?_;rotate_left
   ·intro w' hSw;refine Eq.trans (b:=Result.ok (Next.value (.agg AA.cells.toArray)) w') ?_ ?_
    ·exact x0F 34 (.tmp 9) (by rfl) b9 0 (by rfl) AA.cells dk (x0E ((hSw b9 BB.2.1 BB.2.2.1 (by have:=BB.out;have:=Aa.out;omega)).trans BB.1)) BW Az (by rw [AG.out];exact SKd)
    ·with_reducible rfl
   refine rO 8 fun K C=>?_;go_simp;refine (x7e ⟨rp,rn,rc,rR⟩ true AQ AA x0 (Ca.later B3) (Bw.later B3) (CC.later B3)).mono ?_;rintro _ y1 ⟨pe,pk,rfl,hE,C,hb,-⟩;have Al:=yH (B3.trans (hb.mono B3.size));have CW:∀k,k<wc.heap.size->¬Q2 k->k≠w.heap.size+1->y1.heap[k]? =wc.heap[k]? :=fun k h1 _ _=>Al.block k h1;have Cw:=yH (BS.st.keep (fun _=>False) (Only.of_below _ Al) (fun _ _ e=>e));have BG:=yH (x7l 1 (by omega) (some ⟨pe,0,none⟩) 1 1 (some ⟨pk,0,none⟩) 2 2 [⟨⟨rp,rn,rc,rR⟩,true⟩] [AQ,AA] d y1 hE C Cw Cu (by
    have h:=y2m (v:=true) Cx (Ar.out▸Cv.out) (by rw [<- Ar.out,BU.out];have:=Af.out;omega);rw [<- AU.out,<- AF.out] at h;exact h))
   clear hE C hb;try go_wp2_with fail
   refine C.out _ _ CW (fun hH=>?_);clear C K;try simp only [Act.put,yA,yB,yC]
   refine rO 9 fun K C=>?_;go_simp;refine BG.mono ?_;rintro _ y2 ⟨kd,rfl,CA,AX,CM,⟨Q3,C1,CJ,C0⟩,ho,-⟩;have HO:=yH ho;have A0:=yH Al.size;have Ck:∀k,k<wc.heap.size->¬Q2 k->k≠w.heap.size+1->y2.heap[k]? =wc.heap[k]? :=fun k h1 h2 _=>(HO.block k (by have:=A0.out;omega) h2).trans (Al.block k h1);have RK:=yH ((HO.block (w.heap.size+1) (by have:=A0.out;have:=Aa.out;omega) (BV.out _ (by omega) (by have:=Aa.out;omega))).trans ((Al.block _ (by have:=Aa.out;omega)).trans Cl.out));have Co:=yH CA;have Ad:=yH AX;have C8:=yH CM;have BR:=yH C1;have CB:=yH CJ;have Ce:=yH C0;have BP:=yH (Kd.cells_length AX.len);clear CA AX CM C1 CJ C0 ho BG;try go_wp2_with fail
   refine C.out _ _ Ck (fun hH=>?_);clear C K;try simp only [Act.put,yA,yB,yC]
   refine rO 10 fun K C=>?_;refine wp_store_row 34 (.tmp 6) (.tmp 45) (by rfl) (w.heap.size+1) kd.cells.toArray (by rfl) (by rfl) _ _ RK (by rw [jF,BP.out];exact SKd) (by simp only [jF,BP.out,x02]) (jN Kd.one) ?_;have CZ:∀k,k<wc.heap.size->¬Q2 k->k≠w.heap.size+1->(y2.setRow (w.heap.size+1) kd.cells.toArray).heap[k]? =wc.heap[k]? :=fun k h1 h2 h3=>(setRow_other y2 (w.heap.size+1) k kd.cells.toArray h3).trans ((HO.block k (by have:=A0.out;omega) h2).trans (Al.block k h1));refine C.out _ _ CZ (fun hH=>?_);clear C K;try simp only [Act.put,yA,yB,yC]
   refine jD ?_;go_wp2_with fail
   refine x1U 6 (by kernel_rfl) (w.heap.size+1) _ kd.cells.toArray BW Az (by rw [jF,BP.out];exact SKd) (by rfl) (jT _ _ _ _ _ _ RK) ?_;have hz:=Aa.out;have DJ:=A0.out;have Cg:=x08 y2 (w.heap.size+1) kd.cells.toArray;have B0:∀r∈kd.rows,r.Ok (y2.setRow (w.heap.size+1) kd.cells.toArray):=fun r hr=>Nd.rw_keep (x06 Ad r hr) (fun x hx hR=>Cg.block _ (rw_lt (x06 Ad r hr) x hx hR) (by have:=C8.out r hr x hx hR;omega));have C6:LayR y1 y2 gs Q2 Q3 _ g o n:=LayR.of_put BR.out CB HO (by omega) Bt;have C4:LayR w y2 gs Q Q3 _ g o n:=((Cr.trans BS ⟨jB _,jB _⟩ ⟨jB _,jB _⟩).trans (LayR.of_below (n:=n) (o:=o) BS.st Al (by omega)) ⟨jB _,jB _⟩ ⟨jB _,jB _⟩).trans C6 ⟨jB _,jB _⟩ ⟨jB _,jB _⟩;have C7:¬Q3 (w.heap.size+1):=fun e=>(CB.out _ e).elim (BV.out _ (by omega) (by omega)) (fun e=>by omega);have CH:(T.fork rR true P1 P2).size<=1048576:=by rw [<- Ar.out,BU.out];have:=Af.out;omega
   have hN:pnOf 1 [⟨⟨rp,rn,rc,rR⟩,true⟩] [AQ,AA]=forkN rR true P1.kid P2.kid:=by rw [<- AU.out,<- AF.out];rfl
   unfold x2c;rw [Ar.out,y0Q CH,y1C,<- hN,<- BN.out];exact ⟨kd,Q3,rfl,Co.out,⟨Ad.len,Ad.ok,B0 _ (by simp [Kd.rows]),B0 _ (by simp [Kd.rows]),B0 _ (by simp [Kd.rows]),Ad.live,Ad.size⟩,(fun r hr x hx hR=>by have:=C8.out r hr x hx hR;omega),Ce.out,C4.set (by omega) hz.2.2 C7 _⟩
theorem y4t (q:Option Addr) (n c:Nat):Instr.fill (fun i=>some (i*1,1)) ((Array.range (1*1)).map ((Value.slice none 0 0).cells[·%(Value.slice none 0 0).cells.size]!)) [(0,.slice q n c)]=some #[.slice q n c]:=by kernel_rfl
theorem y1a {w:World} {o:Oper} {a:Act} {K:Act->World->Prop} {Q:Exit->Act->World->Prop} (x:Operand) (ho:o.op= .buildSlice 51 1 #[(0,x)]) {q:Option Addr} {n c:Nat} (hx:a.eval x= .slice q n c)
  (h:K (a.put o.dst (.slice (some ⟨w.heap.size,0,none⟩) 1 1)) (w.alloc (.cells #[.slice q n c] 24))):o.wp Tryz.prog a w K Q:=by
 obtain ⟨i,C,B,A,E⟩:=info_parts IRs;refine wp_buildSlice 51 24 1 #[(0,x)] ho #[.slice q n c] i _ URSs C B (by rw [A];omega) (by rw [A];omega) ?_ h;rw [A];simp only [kA,kB,kC,hx];exact y4t q n c
structure AppR (B gs d:Nat) (Q:Nat->Prop) (s:Pg.S) (w:World) (v:Value) (L:List Rw) (g c:Nat) (w':World):Prop where
 seg:Seg w' g 0 L
 ok:RowsOk w' d g Q L
 st:PL w' gs Q s
 lt:g<w'.heap.size
 notq:¬Q g
 cap:L.length<=c
 low:B<=g
 only:Only (fun k=>v.ownBlock=some k) w w'
theorem y6h {B gs d:Nat} {Q:Nat->Prop} {s:Pg.S} {w:World} {v:Value} {O:List Rw} {r:Rw} (h:w.ownsRow B 24 1 v O.length (hds O)) (hB:B<=w.heap.size) (hO:∀x∈O++[r],x.Ok w/\x.n=d/\∀y,x.p=some y->x.R≠[]->v.ownBlock≠some y.block/\¬Q y.block) (hQB:∀k,Q k->k<B) (hp:PL w gs Q s) {o:Oper} {a:Act} {K:Act->World->Prop} {Qx:Exit->Act->World->Prop} (y x:Operand)
  (ho:o.op= .call {callee:=.builtin .append,args:= #[y,x],argTypes:= #[51,51]}) (hs:a.eval y=v) (hx:a.eval x= .slice (some ⟨w.heap.size,0,none⟩) 1 1) (hlen:O.length<=100000)
  (hK:∀g c w',AppR B gs d Q s w v (O++[r]) g c w'->K (a.put o.dst (.slice (some ⟨g,0,none⟩) (O.length+1) c)) w'):o.wp Tryz.prog a (w.alloc (.cells #[r.val] 24)) K Qx:=by
 obtain ⟨i,j,I,H,M⟩:=info_parts IRs;have A:=jA w (.cells #[r.val] 24);have l:(w.alloc (.cells #[r.val] 24)).ownsRow B 24 1 v O.length (hds O):=⟨h.1,h.2.imp id (by
  rintro ⟨g,N,J,b,m,X,e⟩;exact ⟨g,N,J,b,m,(A.block _ (yL X)).trans X,e⟩)⟩
 refine x0l y x 51 ho B 24 i _ 1 24 URSs j I H M (by rfl) (by decide) v O.length _ hs l ⟨w.heap.size,0,none⟩ 1 1 (hds [r]) hx (by simp [hds]) (x5Z w r.p r.n r.c r.R) (x1q _) (by unfold maxLen;omega) (by omega) (by simp;omega) fun v' w' k1 k2 k3=>?_;rw [<- x0t] at k1;obtain ⟨g,c,rfl,f,q,L,P,E⟩:=x7q k1 (by omega);have C:Only (fun k=>v.ownBlock=some k) w w':=⟨k2.os.trans A.os,k2.tape.trans A.tape,k2.output.trans A.output,jJ A.size k2.size,fun k hk hne=>(k2.block k (jO hk A.size) (fun e=>hne e.symm)).trans (A.block k hk)⟩
 have G:v.ownBlock=some g\/w.heap.size+1<=g:=by
  rcases k3 with e | e
  ·exact Or.inl e.symm
  ·right;have e:some g=some (w.alloc (.cells #[r.val] 24)).heap.size:=e;have:=Option.some.inj e;simp at this;omega
 refine hK g c w' ⟨E,fun z hz=>?_,hp.keep _ C (fun k hk e=>?_),P,fun e=>by have:=hQB g e;omega,by rw [<- f];exact q,L,C⟩
 ·obtain ⟨U,Z,W⟩:=hO z hz;refine ⟨Nd.rw_keep U fun t ht hR=>C.block _ (rw_lt U t ht hR) (W t ht hR).1,Z,fun t ht hR e=>?_,fun t ht hR=>(W t ht hR).2⟩;rcases G with Y | Y
  ·exact (W t ht hR).1 (by rw [Y,e])
  ·have:=rw_lt U t ht hR;omega
 ·have:=(h.lt k e).1;have:=hQB k hk;omega
end Kt
end Go.Proofs.YtenenciaggbjnaaGreat
