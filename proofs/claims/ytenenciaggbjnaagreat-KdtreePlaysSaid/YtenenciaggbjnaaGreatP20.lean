/- KdEachV, KtWayM, KdClone, KdCols. -/
import Derived.LoopN
import Derived.Lib.SliceRun
import Derived.Maps.AppendAt
import Derived.Test.YtenenciaggbjnaaGreatP19
set_option maxRecDepth 100000
set_option maxHeartbeats 8000000
set_option linter.all false
namespace Go.Proofs.YtenenciaggbjnaaGreat
namespace Kt
open Go.RowKit Nd Dk Pg
open List renaming setIfInBounds_toArray -> yA, set_cons_zero -> yB, set_cons_succ -> yC
abbrev Ent:=List Int×Bool×Nat
def V.ents:V->Nat->List Ent
 | .nil,_=>[]
 | .bad _,_=>[]
 | .fork p v l r,t=>(p,v,t)::(l.ents (t+1)++r.ents (t+1))
structure DoOk (B:Nat) (F:Nat) (cap:Array Value) (I:(Nat->Prop)->List Ent->World->Prop):Prop where
 lt:∀X L w,I X L w->∀k,X k->k<w.heap.size
 later:∀X L w w',I X L w->Below w.heap.size w w'->I X L w'
 run:∀X L w (r:Rw) (v:Bool) (t:Nat),I X L w->r.Ok w->(∀x,r.p=some x->r.R≠[]->¬X x.block/\B<=x.block)->t<=1000000000->L.length<=100000->
  Calls Tryz.prog F (#[.agg #[r.val,.bool v],.int .i64 t]++cap) w fun e w'=>e= .returned (.tuple #[])/\∃X',I X' (L++[(r.R,v,t)]) w'/\(∀k,X' k->X k\/w.heap.size<=k)/\Only X w w'
def y0T (w:World) (I:(Nat->Prop)->List Ent->World->Prop) (X:Nat->Prop) (L:List Ent) (u:V) (t:Nat) (e:Ending) (w':World):Prop:=
 ∃(err:Int) (M:List Ent) (X':Nat->Prop),e= .returned (.int .i64 err)/\I X' (L++M) w'/\(∀k,X' k->X k\/w.heap.size<=k)/\Only X w w'/\(u.whole=true->err=0/\M=u.ents t)/\(u.whole=false->err=21)/\(M.length:Int)<=u.kid.size
theorem x66 {gs:Nat} {d:Int} {k:Kd} {ga oa:Nat} {w:World} (hk:k.Ok w) (hr:w.rangeAt ga oa k.cells) (he:k.pk=PK.none):x64 (some ⟨gs,0,none⟩) d ga oa 0 w:=fun _ hb=>y1J _ d k ga oa _ (hk.later hb) (x01 hr hb) he
theorem NodeBad.later {gs:Nat} {k:Kd} {d:Int} {w w':World} (h:NodeBad gs k d w) (hb:Below w.heap.size w w'):NodeBad gs k d w':=fun w2 h2=>h w2 (hb.trans (h2.mono hb.size))
theorem NodeGood.later {gs:Nat} {k:Kd} {d:Int} {N:PN} {w w':World} (h:NodeGood gs k d N w) (hb:Below w.heap.size w w'):NodeGood gs k d N w':=fun w2 h2=>h w2 (hb.trans (h2.mono hb.size))
theorem x67 {gs:Nat} {d:Int} {k:Kd} {ga oa:Nat} {w:World} (hk:k.Ok w) (hr:w.rangeAt ga oa k.cells) (he:k.pk≠PK.none) (hg:NodeBad gs k d w):x64 (some ⟨gs,0,none⟩) d ga oa 21 w:=fun _ hb=>y4h k ga oa _ (hk.later hb) (x01 hr hb) he (hg.later hb)
def x2x (d:Nat) (W:Pages):Prop:=∀x∈W,∃N,Txt d x.2 N
theorem Forks.texts {d:Nat} {W:Pages} (h:Forks d W):x2x d W:=fun x hx=>by
 obtain ⟨N,hN,_⟩:=h x hx
 exact ⟨N,hN⟩
theorem y30 {N:PN} (h:1<=N.size):N.says≠PK.none:=fun e=>by
 have:N.size=0:=congrArg PK.size e
 omega
theorem y0U {gs d:Nat} {Q:Nat->Prop} {s:Pg.S} {k:Kd} {w:World} (hp:PL w gs Q s) (hW:x2x d s.W) (hk:k.Ok w) (hs:Sees s.W d (.bad k.pk)):NodeBad gs k d w:=by
 obtain ⟨G,C,E,B⟩:=hs;cases ht:x0J s.W k.sum with
 | none=>exact x8j hp hk ht
 | some t=>
  obtain ⟨N,A⟩:∃N,Txt d t N:=by
   unfold x0J at ht;split at ht
   ·rename_i hi
    have:=hW _ (Pg.getD_mem hi);rw [Option.some.inj ht] at this;exact this
   ·cases ht
  exact x9S hp hk ht A (B t N ht A)
theorem x68 {gs d:Nat} {Q:Nat->Prop} {s:Pg.S} {k:Kd} {w:World} {p:List Int} {v:Bool} {l r:V} (hp:PL w gs Q s) (hk:k.Ok w) (he:k.pk=(V.fork p v l r).kid) (hs:Sees s.W d (.fork p v l r)):NodeGood gs k d (forkN p v l.kid r.kid) w:=by
 obtain ⟨B,A,E,C⟩:=hs;refine x8k hp hk ?_ B he.symm;rw [<- A];exact congrArg (x0J s.W) (congrArg PK.sum he)
theorem x0k {d:Nat} {W:Pages} {u:V} (h:Sees W d u):0<=u.kid.size:=(x1G (x0d h).1).1
theorem x69 {E:List En} {KK:List Kd} {p:List Int} {v:Bool} {a b:PK} (h:pnOf 1 E KK=forkN p v a b):∃e k1 k2,E=[e]/\KK=[k1,k2]/\e.row.R=p/\e.live=v/\k1.pk=a/\k2.pk=b:=by
 unfold pnOf forkN at h;simp only [PN.mk.injEq] at h;obtain ⟨_,B,A⟩:=h
 match E,KK,B,A with
 |[e],[k1,k2],B,A=>
  simp only [kB,kC,List.cons.injEq,and_true] at B A;exact ⟨e,k1,k2,rfl,rfl,congrArg PE.row B,congrArg PE.live B,A.1,A.2⟩
 |[],_,B,_=>simp at B
 | _::_::_,_,B,_=>simp at B
 |[_],[],_,A=>simp at A
 |[_],[_],_,A=>simp at A
 |[_],_::_::_::_,_,A=>simp at A
theorem x29 {B mid:Nat} {w:World} {p:Option Addr} {n c:Nat} {q:Option Addr} {m f:Nat} {e:En} {k1 k2:Kd} (h:Fresh B mid w p n c q m f [e] [k1,k2]):n=1/\m=2/\∃ge gk,p=some ⟨ge,0,none⟩/\q=some ⟨gk,0,none⟩/\w.rangeAt ge 0 [e.row.val,.bool e.live]/\w.rangeAt gk 0 k1.cells/\w.rangeAt gk 37 k2.cells/\e.row.Ok w/\k1.Ok w/\k2.Ok w/\B<=ge/\mid<=gk:=by
 have J:n=1:=h.ents.len;have I:m=2:=h.kids.lst.len;subst J I;have H:=h.ents_in (by decide);have G:=h.kids_in (by decide);obtain ⟨ge,C,K⟩:=(h.ents.range (fun e _=>rfl)).resolve_left (by simp);obtain ⟨gk,A,E⟩:=(h.kids.lst.range (fun k E=>Kd.cells_length (h.kids.good k E).1)).resolve_left (by simp);refine ⟨rfl,rfl,ge,gk,C,A,(show w.rangeAt ge 0 e.cells from by have:=K 0 (by simp);simpa using this),by have:=E 0 (by simp);simpa using this,by have:=E 1 (by simp);simpa using this,H.each e (by simp),G.each k1 (by simp),G.each k2 (by simp),?_,?_⟩
 ·exact (h.ents.own.lt ge (by rw [C];rfl)).1
 ·exact (h.kids.lst.own.lt gk (by rw [A];rfl)).1
theorem x4C {gs d B:Nat} {Q:Nat->Prop} {s:Pg.S} {F:Nat} {cap:Array Value} {I:(Nat->Prop)->List Ent->World->Prop} (hW:x2x d s.W) (hF:∀args w,(callFunc F args).run Tryz.prog w= .ok (.enter F args) w) (hI:DoOk B F cap I):∀(u:V) (k:Kd) (ga oa t:Nat) (w:World) (X:Nat->Prop) (L:List Ent),PL w gs Q s->Sees s.W d u->k.Ok w->w.rangeAt ga oa k.cells->k.pk=u.kid->I X L w->(∀j,Q j->¬X j)->(t:Int)+u.kid.size<=1000000->(L.length:Int)+u.kid.size<=100000->B<=w.heap.size->
  Calls Tryz.prog 89 #[.agg #[.pointer (some ⟨gs,0,none⟩),.int .i64 d],.pointer (some ⟨ga,oa,none⟩),.int .i64 t,.func (.func F) #[] cap] w (y0T w I X L u t)
 | .nil,k,ga,oa,t,w,X,L,hp,hs,hk,hr,he,hi,hq,ht,hll,hbw=>by
  refine (x8m (some ⟨gs,0,none⟩) d t 0 ga oa (.func (.func F) #[] cap) w (x66 hk hr he)).mono ?_
  rintro e w' ⟨rfl,hb⟩
  exact ⟨0,[],X,rfl,by rw [kW];exact hI.later _ _ _ _ hi hb,fun _ h=>Or.inl h,Only.of_below _ hb,(fun _=>⟨rfl,rfl⟩),(fun h=>by cases h),Int.le_refl _⟩
 | .bad kk,k,ga,oa,t,w,X,L,hp,hs,hk,hr,he,hi,hq,ht,hll,hbw=>by
  have he':k.pk=kk:=he
  subst he'
  refine (x8m (some ⟨gs,0,none⟩) d t 21 ga oa (.func (.func F) #[] cap) w (x67 hk hr hs.1 (y0U hp hW hk hs))).mono ?_
  rintro e w' ⟨rfl,hb⟩
  exact ⟨21,[],X,rfl,by rw [kW];exact hI.later _ _ _ _ hi hb,fun _ h=>Or.inl h,Only.of_below _ hb,(fun h=>by cases h),(fun _=>rfl),(x1G hs.2.1).1⟩
 | .fork p v l r,k,ga,oa,t,w,X,L,hp,hs,hk,hr,he,hi,hq,ht,hll,hbw=>by
  have ih1:=x4C (gs:=gs) (Q:=Q) hW hF hI l
  have ih2:=x4C (gs:=gs) (Q:=Q) hW hF hI r
  have hgd:=x68 hp hk he hs
  have hsz:(V.fork p v l r).kid.size=1+(l.kid.size+r.kid.size):=x0U p v l.kid r.kid
  have hz1:=x0k hs.2.2.1
  have hz2:=x0k hs.2.2.2
  have hne:k.pk≠PK.none:=by
   rw [he];exact y30 (by rw [x0U];omega)
  have b1:=jA w (.cells #[.pointer (some ⟨gs,0,none⟩),.int .i64 d] 107);have r1:=jE w (.cells #[.pointer (some ⟨gs,0,none⟩),.int .i64 d] 107);have Bb:=yH (x8l k ga oa _ (hk.later b1) (x01 hr b1) hne (hgd.later b1) rfl);have Af:=yH ih1;have Bn:=yH ih2;have HI:=yH (hI.later _ _ _ _ hi b1);have A4:=yH hI;have HP:=yH hp;have HS:=yH hs;have HQ:=yH hq;have HT:=yH (show (t:Int)+(1+(l.kid.size+r.kid.size))<=1000000/\0<=l.kid.size/\0<=r.kid.size/\(L.length:Int)+(1+(l.kid.size+r.kid.size))<=100000 from ⟨by omega,hz1,hz2,by omega⟩);have B6:=yH hsz;have Ar:=yH hbw;have An:=yH (hI.lt _ _ _ hi);have R1:=yH r1;have Au:=yH (x09 r1);have B1:=yH b1;obtain ⟨du,Ba,Ax⟩:=UTr;obtain ⟨dn,BC,AZ⟩:=UNo;obtain ⟨de,Bl,Aa⟩:=UEnt;have AN:=yH Ba;have AO:=yH Ax;have CR:=yH BC;have CN:=yH AZ;have BD:=yH Bl;have Ae:=yH Aa;have q3:IntKind.i64.wrap ((t:Int)+1)=((t+1:Nat):Int):=by rw [IntWalk.i64_in _ (by omega)];rfl
  clear ih1 ih2 hgd hsz hz1 hz2 hne b1 r1 hp hs hk hr he hi hq ht hll hbw Ba Ax BC AZ Bl Aa hI
  go_enter Tryz.func89,Tryz.ntmps89
  go_upto_region 1 with fail
  generalize w.alloc (.cells #[.pointer (some ⟨gs,0,none⟩),.int .i64 d] 107)=w1 at *;go_upto_region 2 with (first
   | (refine jK (by rfl) 107 _ (by rfl) w.heap.size 0 (by rfl) [.pointer (some ⟨gs,0,none⟩),.int .i64 d] du Au AN AO STr ?_)
   | (go_at_call 145;refine Bb.mono ?_;rintro _ J ⟨pe,ne,ce,pk,nk,ck,EE,KK,CP,rfl,BU,BT,b3⟩;have BX:=yH BU;have A6:=yH BT;have B3:=yH b3;clear b3 BU BT)
   | (refine jL (by rfl) 97 (.tmp 9) _ (by rfl) J.heap.size #[.int .u8 1,.slice pe ne ce,.slice pk nk ck] (by rfl) (by rfl) _ _ (jE J _) SNo rfl (x2v 1 pe ne ce pk nk ck) ?_;rw [x03]))
  obtain ⟨e,k1,k2,rfl,rfl,hR,Bf,At,BB⟩:=x69 BX.out;obtain ⟨rfl,rfl,ge,Y,rfl,rfl,AD,AX,AW,AF,AV,Ag,Bk,Bv⟩:=x29 A6.out;obtain ⟨⟨rp,rn,rc,rR⟩,lv⟩:=e;simp only at hR Bf AD AF;subst hR Bf;unfold Rw.val at AD;simp only at AD;have U:=jA J (.cells #[.int .u8 1,.slice (some ⟨ge,0,none⟩) 1 ce,.slice (some ⟨Y,0,none⟩) 2 ck] 97);have Ao:=jE J (.cells #[.int .u8 1,.slice (some ⟨ge,0,none⟩) 1 ce,.slice (some ⟨Y,0,none⟩) 2 ck] 97);have B2:(J.alloc (.cells #[.int .u8 1,.slice (some ⟨ge,0,none⟩) 1 ce,.slice (some ⟨Y,0,none⟩) 2 ck] 97)).heap.size=J.heap.size+1:=by simp
  generalize J.alloc (.cells #[.int .u8 1,.slice (some ⟨ge,0,none⟩) 1 ce,.slice (some ⟨Y,0,none⟩) 2 ck] 97)=w4 at *;have z:=B3.trans (U.mono B3.size);have Ab:=yH z;have Bc:=yH (A4.later _ _ _ _ HI z);have Z:=yH (show ∀j,X j->j<w.heap.size from An.out);have BP:=yH (show w4.rangeAt ge 0 [.slice rp rn rc,.bool lv] from x01 AD U);have BO:=yH Ao;have Aq:=yH (x01 AX U);have Bj:=yH (x01 AW U);have Bo:=yH (show (⟨rp,rn,rc,rR⟩:Rw).Ok w4 from AF.later U);have Ak:=yH (AV.later U);have Ap:=yH (Ag.later U);have B7:=yH At;have BG:=yH BB;have A:=yH (show w.heap.size<w1.heap.size/\w1.heap.size<=J.heap.size/\w4.heap.size=J.heap.size+1/\w1.heap.size<=ge/\w1.heap.size<=Y from ⟨(yL R1),B3.size,B2,Bk,by have:=A6.base;omega⟩);have B4:=yH (yK z R1);have Ay:=yH (show ∀x,rp=some x->rR≠[]->¬X x.block/\B<=x.block from fun x hx hR0=>by
   have E:=(A6.ents.each ⟨⟨rp,rn,rc,rR⟩,lv⟩ (by simp) ⟨rp,rn,rc,rR⟩ (by simp [En.rows])).1.lo x hx hR0;have h3:=A.out;have h4:=Ar.out;exact ⟨fun h=>by have:=An.out _ h;omega,by omega⟩)
  have BS:=yH (show ∀kd∈[k1,k2],∀r∈kd.rows,∀x,r.p=some x->r.R≠[]->w1.heap.size<=x.block from fun kd hkd r hr x hx hR0=>by
   have E:=(A6.kids.lst.each kd hkd r hr).1.lo x hx hR0;have:=A6.base;omega)
  have c1:=jH w4 J.heap.size 1 _ _ _ Ao;clear AD AX AW AF AV Ag Bk Bv U Ao B2 z At BB A6 BX HI An R1 Au Bb;go_wp2_with fail
  refine wp_loop_rounds 2 ?_;rw [rounds_succ];go_upto_region 5 with (first
   | (refine jK (by rfl) 101 _ (by rfl) ge 0 (by rfl) [.slice rp rn rc,.bool lv] de BP BD Ae SEnt ?_)
   | (refine jL (by rfl) 101 (.tmp 12) (.tmp 26) (by rfl) w4.heap.size #[.slice rp rn rc,.bool lv] (by rfl) (by rfl) _ _ (jE w4 _) SEnt rfl (by rfl) ?_;rw [x03]))
  have AS:=jA w4 (.cells #[.slice rp rn rc,.bool lv] 101);have BQ:=jE w4 (.cells #[.slice rp rn rc,.bool lv] 101);generalize w4.alloc (.cells #[.slice rp rn rc,.bool lv] 101)=w5 at *;have q:=yH (A4.run X L w5 ⟨rp,rn,rc,rR⟩ lv t (A4.later _ _ _ _ Bc AS) (Bo.later AS) Ay (by have:=HT.out;omega) (by have:=HT.out;omega));have R5:=yH (x09 BQ);have B5:=yH AS;unfold Rw.val at q;simp only at q;clear AS BQ Bc Bo Ay;go_upto_region 6 with (first
   | (refine jK (by rfl) 101 _ (by rfl) w4.heap.size 0 (by rfl) [.slice rp rn rc,.bool lv] de R5 BD Ae SEnt ?_)
   | (refine q.mono ?_;rintro _ H ⟨rfl,X6,Av,Bm,BI⟩;have Am:=yH Av;have C7:=yH Bm;have Aj:=yH BI;clear Av Bm BI))
  have AM:=yH (show w4.heap.size<H.heap.size from jO (by have h:=(jI (R5.out 0 _ rfl):w4.heap.size<w5.heap.size);exact h) Aj.size);have f:=yH (show ∀j,j<w4.heap.size->¬X j->H.heap[j]? =w4.heap[j]? from fun j hj hx=>(Aj.block j (by have:=B5.size;omega) hx).trans (B5.block j hj));have M:=yH (show ∀j,X6 j->X j\/w4.heap.size<=j from fun j hj=>(C7.out j hj).imp id (fun h=>by have:=B5.size;omega));have Ad:=yH ((Only.of_below X B5).trans Aj.out);have n:=yH ((f.out J.heap.size (by have:=A.out;omega) (fun h=>by have:=Z.out _ h;have:=A.out;omega)).trans BO.out);have A3:=yH ((f.out w.heap.size (by have:=A.out;omega) (fun h=>by have:=Z.out _ h;omega)).trans B4.out);have g:∀kd∈[k1,k2],kd.Ok w4->kd.Ok H:=fun kd hkd h=>by
   have i:∀r∈kd.rows,r.Ok H:=fun r hr=>Nd.rw_keep (x06 h r hr) fun y hy hR=>f.out _ (rw_lt (x06 h r hr) y hy hR) (fun E=>by have:=Z.out _ E;have:=BS.out kd hkd r hr y hy hR;have:=A.out;omega);exact ⟨h.len,h.ok,i _ (by simp [Kd.rows]),i _ (by simp [Kd.rows]),i _ (by simp [Kd.rows]),h.live,h.size⟩
  have Ac:=yH (g k1 (by simp) Ak);have C6:=yH (show ∀r∈k2.rows,∀y,r.p=some y->r.R≠[]->¬X6 y.block from fun r hr y hy hR h=>(M.out _ h).elim (fun h=>by have:=Z.out _ h;have:=BS.out k2 (by simp) r hr y hy hR;have:=A.out;omega) (fun h=>by have:=rw_lt (x06 Ap r hr) y hy hR;omega));have P:=yH (g k2 (by simp) Ap);have A0:=yH (show Y<w4.heap.size from jI (Aq.out 0 _ (by rw [jM (by rw [Kd.cells_length Ak.len];decide)])));have Bd:=yH (show H.rangeAt Y 0 k1.cells from fun j v hv=>(jX (f.out Y A0 (fun E=>by have:=Z.out _ E;have:=A.out;omega))).trans (Aq.out j v hv));have BJ:=yH (show H.rangeAt Y 37 k2.cells from fun j v hv=>(jX (f.out Y A0 (fun E=>by have:=Z.out _ E;have:=A.out;omega))).trans (Bj.out j v hv));have BR:=yH (show PL H gs Q s from ((HP.keep (fun _=>False) (Only.of_below _ B1) (fun _ _ e=>e)).keep (fun _=>False) (Only.of_below _ Ab) (fun _ _ e=>e)).keep X Ad HQ);have BE:=yH (show ∀j,Q j->¬X6 j from fun j hj h=>(M.out j h).elim (HQ.out j hj) (fun h=>by have:=HP.lt j hj;have:=A.out;omega));have G:=yH (show Only X w H from ((Only.of_below X B1).trans (Only.of_below X Ab)).trans Ad.out);have BZ:=yH (Af.out k1 Y 0 (t+1) H.drew X6 (L++[(rR,lv,t)]) (BR.keep (fun _=>False) (Only.of_below _ (jC _ _).drew) (fun _ _ e=>e)) HS.2.2.1 (Ac.later (jC _ _).drew) Bd B7 (A4.later _ _ _ _ Am (jC _ _).drew) BE (by have:=HT.out;omega) (by have:=HT.out;simp only [jQ,kI,List.length_nil];omega) (by have h1:=Ar.out;have E:=G.size;exact jJ h1 E));have CK:=yH (A4.lt _ _ _ Am);have CF:=yH (Kd.cells_length Ac.len);clear g q R5 B5 Ak Ap Aq Bj BO B4 BP Af Am;clear c1;have c2:=jH H J.heap.size 2 _ _ _ n;go_wp2_with fail
  rw [rounds_succ];go_wp2_with fail
  refine wp_loop_rounds 3 ?_;rw [rounds_succ];have O:=yH (show ∀j,w.heap.size<=j->j<w4.heap.size->¬X6 j from fun j h1 E h=>(M.out j h).elim (fun h=>by have:=Z.out _ h;omega) (fun h=>by omega));cases hlw:l.whole with
  | false=>
   have m:=yH hlw;clear hlw;go_upto_region 11 with fail
   refine kD (S:=fun w'=>∀j,j<H.heap.size->¬X6 j->w'.heap[j]? =H.heap[j]?) (by kernel_rfl) (fun _ _ _=>rfl) (fun hH=>?_);refine tQ 0 ?_ ?_ ?_;rotate_left
   ·intro w' hSw;refine Eq.trans (b:=Result.ok (Next.value (.agg #[.pointer (some ⟨gs,0,none⟩),.int .i64 d])) w') ?_ ?_
    ·exact x0F 107 (.tmp 4) (by rfl) w.heap.size 0 (by rfl) [.pointer (some ⟨gs,0,none⟩),.int .i64 d] du (x09 ((hSw w.heap.size (yL A3) (O.out _ (by have:=A.out;omega) (by have:=A.out;omega))).trans A3.out)) AN AO STr
    ·with_reducible rfl
   refine tK 1 ?_;refine tQ 2 ?_ ?_ ?_;rotate_left
   ·intro w' hSw;have y:w'.cell? ⟨J.heap.size,2,none⟩=some (.slice (some ⟨Y,0,none⟩) 2 ck):=(jX (hSw J.heap.size (yL n) (O.out _ (by have:=A.out;omega) (by have:=A.out;omega)))).trans (jH H J.heap.size 2 _ _ _ n);go_simp;try with_reducible rfl
   refine tK 3 ?_;refine tK 4 ?_;refine tK 5 ?_;refine tK 6 ?_;refine tK 7 ?_;refine rO 8 fun K hK=>?_;go_simp;refine BZ.mono ?_;rintro _ a ⟨BV,M1,X7,rfl,AJ,AB,AE,AI,AR,c⟩;obtain rfl:=AR m.out;have Al:=yH AJ;have A1:=yH c;have Ah:=yH AB;have C:=yH AE;have hS:∀j,j<H.heap.size->¬X6 j->a.heap[j]? =H.heap[j]? :=fun j h1 E=>C.block j h1 E;clear AJ AB AE AI AR c;try go_wp2_with fail
   refine hK.out _ _ hS (fun hH=>?_);clear hK K;try simp only [Act.put,yA,yB,yC]
   refine tK 9 ?_;refine jD ?_;go_wp2_with fail
   rw [rounds_succ];go_wp2_with fail
   rw [rounds_succ];go_wp2_with fail
   (try simp only [Exit.inBlock,Exit.then])
   go_ret;refine ⟨21,(rR,lv,t)::M1,X7,rfl,by have h:=Al.out;rw [jR] at h;exact h,fun j hj=>?_,?_,fun h=>?_,fun _=>rfl,?_⟩
   ·rcases Ah.out j hj with h | h
    ·exact (M.out j h).imp id fun h=>by have:=A.out;omega
    ·have E:H.heap.size<=j:=h;have:=AM.out;have:=A.out;exact Or.inr (by omega)
   ·refine ⟨C.os.trans G.os,C.tape.trans G.tape,C.output.trans G.output,jJ G.size C.size,fun j hj hn=>(C.block j (by have:=G.size;exact jO hj this) (fun h=>(M.out j h).elim hn (fun h=>by have:=A.out;omega))).trans (G.block j hj hn)⟩
   ·have E:(l.whole&&r.whole)=true:=h;rw [m.out] at E;cases E
   ·rw [B6.out];have:=A1.out;have:=HT.out;simp only [kI];omega
  | true=>
   have m:=yH hlw;clear hlw;go_upto_region 11 with fail
   refine kD (S:=fun w'=>∀j,j<H.heap.size->¬X6 j->w'.heap[j]? =H.heap[j]?) (by kernel_rfl) (fun _ _ _=>rfl) (fun hH=>?_);refine tQ 0 ?_ ?_ ?_;rotate_left
   ·intro w' hSw;refine Eq.trans (b:=Result.ok (Next.value (.agg #[.pointer (some ⟨gs,0,none⟩),.int .i64 d])) w') ?_ ?_
    ·exact x0F 107 (.tmp 4) (by rfl) w.heap.size 0 (by rfl) [.pointer (some ⟨gs,0,none⟩),.int .i64 d] du (x09 ((hSw w.heap.size (yL A3) (O.out _ (by have:=A.out;omega) (by have:=A.out;omega))).trans A3.out)) AN AO STr
    ·with_reducible rfl
   refine tK 1 ?_;refine tQ 2 ?_ ?_ ?_;rotate_left
   ·intro w' hSw;have y:w'.cell? ⟨J.heap.size,2,none⟩=some (.slice (some ⟨Y,0,none⟩) 2 ck):=(jX (hSw J.heap.size (yL n) (O.out _ (by have:=A.out;omega) (by have:=A.out;omega)))).trans (jH H J.heap.size 2 _ _ _ n);go_simp;try with_reducible rfl
   refine tK 3 ?_;refine tK 4 ?_;refine tK 5 ?_;refine tK 6 ?_;refine tK 7 ?_;refine rO 8 fun K hK=>?_;go_simp;refine BZ.mono ?_;rintro _ a ⟨BV,M1,X7,rfl,AJ,AB,AE,AI,AR,c⟩;obtain rfl:=(AI m).1;obtain rfl:=(AI m).2;have Al:=yH AJ;have A1:=yH c;have Ah:=yH AB;have C:=yH AE;have hS:∀j,j<H.heap.size->¬X6 j->a.heap[j]? =H.heap[j]? :=fun j h1 E=>C.block j h1 E;clear AJ AB AE AI AR c;try go_wp2_with fail
   refine hK.out _ _ hS (fun hH=>?_);clear hK K;try simp only [Act.put,yA,yB,yC]
   refine tK 9 ?_;refine jD ?_;go_wp2_with fail
   have N:=yH (show Only X w a from ⟨C.os.trans G.os,C.tape.trans G.tape,C.output.trans G.output,jJ G.size C.size,fun j hj hn=>(C.block j (by have:=G.size;exact jO hj this) (fun h=>(M.out j h).elim hn (fun h=>by have:=A.out;omega))).trans (G.block j hj hn)⟩);have C2:=yH (show H.heap.size<=a.heap.size from C.size);have o:=yH (show ∀j,X7 j->X j\/w4.heap.size<=j from fun j hj=>(Ah.out j hj).elim (M.out j) (fun h=>Or.inr (by have E:H.heap.size<=j:=h;have:=AM.out;omega)));have A2:=yH (show ∀j,j<H.heap.size->¬X6 j->a.heap[j]? =H.heap[j]? from fun j h1 E=>C.block j h1 E);have BK:=yH ((A2.out w.heap.size (yL A3) (O.out _ (by omega) (by have:=A.out;omega))).trans A3.out);have B8:=yH ((A2.out J.heap.size (yL n) (O.out _ (by have:=A.out;omega) (by have:=A.out;omega))).trans n.out);have BM:=yH (show a.rangeAt Y 37 k2.cells from fun j v hv=>(jX (A2.out Y (by have:=A0.out;have:=AM.out;omega) (O.out _ (by have:=A.out;omega) A0))).trans (BJ.out j v hv));have Az:=yH (show k2.Ok a from by
    have i:∀r∈k2.rows,r.Ok a:=fun r hr=>Nd.rw_keep (x06 P r hr) fun y hy hR=>A2.out _ (rw_lt (x06 P r hr) y hy hR) (C6.out r hr y hy hR);exact ⟨P.len,P.ok,i _ (by simp [Kd.rows]),i _ (by simp [Kd.rows]),i _ (by simp [Kd.rows]),P.live,P.size⟩)
   have Bt:=yH (show PL a gs Q s from (BR.keep (fun _=>False) (Only.of_below _ (jC _ _).drew) (fun _ _ e=>e)).keep X6 C BE);have Bq:=yH (show ∀j,Q j->¬X7 j from fun j hj h=>(o.out j h).elim (HQ.out j hj) (fun h=>by have:=HP.lt j hj;have:=A.out;omega));have BY:=yH (show ∀j,w.heap.size<=j->j<w4.heap.size->¬X7 j from fun j h1 E h=>(o.out j h).elim (fun h=>by have:=Z.out _ h;omega) (fun h=>by omega));have C1:=yH (Bn.out k2 Y 37 (t+1) a.drew X7 (L++[(rR,lv,t)]++l.ents (t+1)) (Bt.keep (fun _=>False) (Only.of_below _ (jC _ _).drew) (fun _ _ e=>e)) HS.2.2.2 (Az.later (jC _ _).drew) BM BG (A4.later _ _ _ _ Al (jC _ _).drew) Bq (by have:=HT.out;omega) (by have:=HT.out;have:=A1.out;simp only [jQ,kI,List.length_nil];omega) (by have h1:=Ar.out;have E:=N.size;exact jJ h1 E));clear O;have O:=BY;rw [rounds_succ];go_upto_region 11 with fail
   refine kD (S:=fun w'=>∀j,j<a.heap.size->¬X7 j->w'.heap[j]? =a.heap[j]?) (by kernel_rfl) (fun _ _ _=>rfl) (fun hH=>?_);refine tQ 0 ?_ ?_ ?_;rotate_left
   ·intro w' hSw;refine Eq.trans (b:=Result.ok (Next.value (.agg #[.pointer (some ⟨gs,0,none⟩),.int .i64 d])) w') ?_ ?_
    ·exact x0F 107 (.tmp 4) (by rfl) w.heap.size 0 (by rfl) [.pointer (some ⟨gs,0,none⟩),.int .i64 d] du (x09 ((hSw w.heap.size (yL BK) (O.out _ (by have:=A.out;omega) (by have:=A.out;omega))).trans BK.out)) AN AO STr
    ·with_reducible rfl
   refine tK 1 ?_;refine tQ 2 ?_ ?_ ?_;rotate_left
   ·intro w' hSw;have y:w'.cell? ⟨J.heap.size,2,none⟩=some (.slice (some ⟨Y,0,none⟩) 2 ck):=(jX (hSw J.heap.size (yL B8) (O.out _ (by have:=A.out;omega) (by have:=A.out;omega)))).trans (jH a J.heap.size 2 _ _ _ B8);go_simp;try with_reducible rfl
   refine tK 3 ?_;refine tK 4 ?_;refine tK 5 ?_;refine tK 6 ?_;refine tK 7 ?_;refine rO 8 fun K hK=>?_;go_simp;refine C1.mono ?_;rintro _ w8 ⟨Bh,M2,X8,rfl,B9,B0,BA,BL,Be,AY⟩;have Bw:=yH B9;have Bg:=yH AY;have C0:=yH B0;have A7:=yH BA;have Bu:=yH BL;have C8:=yH Be;have hS:∀j,j<a.heap.size->¬X7 j->w8.heap[j]? =a.heap[j]? :=fun j h1 E=>A7.block j h1 E;clear B9 B0 BA BL Be AY;try go_wp2_with fail
   refine hK.out _ _ hS (fun hH=>?_);clear hK K;try simp only [Act.put,yA,yB,yC]
   refine tK 9 ?_;refine jD ?_;go_wp2_with fail
   rw [rounds_succ];go_wp2_with fail
   (try simp only [Exit.inBlock,Exit.then])
   go_ret;refine ⟨Bh,(rR,lv,t)::(l.ents (t+1)++M2),X8,rfl,by have h:=Bw.out;simp only [jR] at h;exact h,fun j hj=>?_,?_,fun h=>?_,fun h=>?_,?_⟩
   ·rcases C0.out j hj with h | h
    ·exact (o.out j h).imp id fun h=>by have:=A.out;omega
    ·have E:a.heap.size<=j:=h;have:=AM.out;have:=C2.out;have:=A.out;exact Or.inr (by omega)
   ·refine ⟨A7.os.trans N.os,A7.tape.trans N.tape,A7.output.trans N.output,jJ N.size A7.size,fun j hj hn=>(A7.block j (by have:=N.size;exact jO hj this) (fun h=>(o.out j h).elim hn (fun h=>by have:=A.out;omega))).trans (N.block j hj hn)⟩
   ·have E:(l.whole&&r.whole)=true:=h;rw [m.out,Bool.true_and] at E;obtain ⟨h3,h4⟩:=Bu.out E;exact ⟨h3,by rw [h4];rfl⟩
   ·have E:(l.whole&&r.whole)=false:=h;rw [m.out,Bool.true_and] at E;exact C8.out E
   ·rw [B6.out];have:=A1.out;have:=Bg.out;have:=HT.out;simp only [kI,jQ];omega
structure MSt where
 kid:Kd
 ge:Nat
 ce:Nat
 gk:Nat
 ck:Nat
 row:Rw
 live:Bool
 k1:Kd
 k2:Kd
 side:Bool
instance:Inhabited MSt:=⟨⟨default,0,0,0,0,default,false,default,default,false⟩⟩
def MSt.sideN (m:MSt):Nat:=if m.side then 1 else 0
def MSt.cells (m:MSt):List Value:=m.kid.cells++[.int .u8 1,.slice (some ⟨m.ge,0,none⟩) 1 m.ce,.slice (some ⟨m.gk,0,none⟩) 2 m.ck,.int .i64 m.sideN]
def MSt.rows (m:MSt):List Rw:=m.kid.rows++m.row::(m.k1.rows++m.k2.rows)
def MSt.reads (m:MSt) (k:Nat):Prop:=k=m.ge\/k=m.gk\/∃r∈m.rows,∃x,r.p=some x/\r.R≠[]/\k=x.block
structure MSt.Ok (w:World) (m:MSt):Prop where
 kid:m.kid.Ok w
 ent:w.rangeAt m.ge 0 [m.row.val,.bool m.live]
 entT:w.there m.ge 0 2
 kid1:w.rangeAt m.gk 0 m.k1.cells
 kid2:w.rangeAt m.gk 37 m.k2.cells
 kidT:w.there m.gk 0 74
 row:m.row.Ok w
 k1:m.k1.Ok w
 k2:m.k2.Ok w
 caps:1<=m.ce/\2<=m.ck
 ne:m.ge≠m.gk
 apart:∀r∈m.rows,∀x,r.p=some x->r.R≠[]->x.block≠m.ge/\x.block≠m.gk
theorem MSt.cells_length {m:MSt} (h:m.kid.sum.length=32):m.cells.length=41:=by
 unfold MSt.cells;rw [jQ,Kd.cells_length h];rfl
theorem x3M {w w':World} {g o n:Nat} (h:w.there g o n) (hk:w'.heap[g]? =w.heap[g]?):w'.there g o n:=fun j hj=>by
 obtain ⟨h1,h2⟩:=h j hj
 refine ⟨by rw [jX hk];exact h1,?_⟩
 rw [<- h2]
 unfold World.frozen?
 rw [hk]
theorem x0b {w w':World} {g o:Nat} {cs:List Value} (h:w.rangeAt g o cs) (hk:w'.heap[g]? =w.heap[g]?):w'.rangeAt g o cs:=fun j v hv=>(jX hk).trans (h j v hv)
theorem x1L {w w':World} {k:Kd} (h:k.Ok w) (hk:∀r∈k.rows,∀x,r.p=some x->r.R≠[]->w'.heap[x.block]? =w.heap[x.block]?):k.Ok w':=by
 have A:∀r∈k.rows,r.Ok w':=fun r hr=>Nd.rw_keep (x06 h r hr) (hk r hr);exact ⟨h.len,h.ok,A _ (by simp [Kd.rows]),A _ (by simp [Kd.rows]),A _ (by simp [Kd.rows]),h.live,h.size⟩
theorem MSt.Ok.keep {w w':World} {m:MSt} (h:m.Ok w) (hk:∀k,m.reads k->w'.heap[k]? =w.heap[k]?):m.Ok w':=by
 have C:=hk m.ge (Or.inl rfl);have A:=hk m.gk (Or.inr (Or.inl rfl));have B:∀r∈m.rows,∀x,r.p=some x->r.R≠[]->w'.heap[x.block]? =w.heap[x.block]? :=fun r B x hx hR=>hk _ (Or.inr (Or.inr ⟨r,B,x,hx,hR,rfl⟩));exact ⟨x1L h.kid fun r h1=>B r (by simp [MSt.rows,h1]),x0b h.ent C,x3M h.entT C,x0b h.kid1 A,x0b h.kid2 A,x3M h.kidT A,Nd.rw_keep h.row (B _ (by simp [MSt.rows])),x1L h.k1 fun r h1=>B r (by simp [MSt.rows,h1]),x1L h.k2 fun r h1=>B r (by simp [MSt.rows,h1]),h.caps,h.ne,h.apart⟩
theorem MSt.Ok.lt {w:World} {m:MSt} (h:m.Ok w):∀k,m.reads k->k<w.heap.size:=fun k hk=>by
 rcases hk with rfl | rfl | ⟨r,hr,x,hx,hR,rfl⟩
 ·exact jI (h.ent 0 _ rfl)
 ·exact jI (h.kid1 0 _ (jM (by rw [Kd.cells_length h.k1.len];decide)))
 ·have key:∀r∈m.rows,r.Ok w:=fun r hr=>by
   simp only [MSt.rows,jP,jW] at hr
   rcases hr with h1 | rfl | h1 | h1
   ·exact x06 h.kid r h1
   ·exact h.row
   ·exact x06 h.k1 r h1
   ·exact x06 h.k2 r h1
  exact rw_lt (key r hr) x hx hR
theorem MSt.Ok.later {w w':World} {m:MSt} (h:m.Ok w) (hb:Below w.heap.size w w'):m.Ok w':=h.keep fun k hk=>hb.block k (h.lt k hk)
structure Link (m:MSt) (s:St):Prop where
 row:s.row=m.row.R
 live:s.live=m.live
 l:s.l.kid=m.k1.pk
 r:s.r.kid=m.k2.pk
 side:s.side=m.side
 old:s.old.kid=m.kid.pk
inductive Links:List MSt->List St->Prop
 | nil:Links [] []
 | cons {m:MSt} {s:St} {A:List MSt} {L:List St} (h:Link m s) (t:Links A L):Links (m::A) (s::L)
theorem Links.length {A:List MSt} {L:List St} (h:Links A L):A.length=L.length:=by
 induction h with
 | nil=>rfl
 | cons _ _ ih=>simp [ih]
theorem Links.append {A B:List MSt} {L M:List St} (h:Links A L) (h2:Links B M):Links (A++B) (L++M):=by
 induction h with
 | nil=>exact h2
 | cons h _ ih=>exact .cons h ih
theorem Links.take {A:List MSt} {L:List St} (h:Links A L):∀n,Links (A.take n) (L.take n):=by
 induction h with
 | nil=>intro n;simp;exact .nil
 | cons h _ ih=>
  intro n;cases n with
  | zero=>exact .nil
  | succ n=>exact .cons h (ih n)
theorem Links.get {A:List MSt} {L:List St} (h:Links A L):∀(i:Nat) (s:St),L[i]? =some s->∃m,A[i]? =some m/\Link m s:=by
 induction h with
 | nil=>intro i s hs;simp at hs
 | cons h _ ih=>
  intro i s hs;cases i with
  | zero=>
   simp only [List.getElem?_cons_zero,Option.some.injEq] at hs;subst hs;exact ⟨_,rfl,h⟩
  | succ i=>exact ih i s (by simpa using hs)
structure WayM (B:Nat) (w:World) (A:List MSt):Prop where
 each:∀m∈A,m.Ok w
 new:∀m∈A,B<=m.ge/\B<=m.gk
 part:A.Pairwise fun a b=>(¬a.reads b.ge/\¬a.reads b.gk)/\(¬(∃k,b.reads k/\(k=a.ge\/k=a.gk)))
theorem WayM.keep {B:Nat} {w w':World} {A:List MSt} (h:WayM B w A) (hk:∀m∈A,∀k,m.reads k->w'.heap[k]? =w.heap[k]?):WayM B w' A:=⟨fun m hm=>(h.each m hm).keep (hk m hm),h.new,h.part⟩
theorem WayM.later {B:Nat} {w w':World} {A:List MSt} (h:WayM B w A) (hb:Below w.heap.size w w'):WayM B w' A:=⟨fun m hm=>(h.each m hm).later hb,h.new,h.part⟩
theorem WayM.snoc {B:Nat} {w:World} {A:List MSt} {m:MSt} {N:Nat} (h:WayM B w A) (hm:m.Ok w) (hB:B<=N) (hlt:∀a∈A,∀k,a.reads k->k<N) (hnew:N<=m.ge/\N<=m.gk) (hr:∀a∈A,∀k,m.reads k->k≠a.ge/\k≠a.gk):WayM B w (A++[m]):=by
 refine ⟨fun x C=>?_,fun x C=>?_,?_⟩
 ·rcases jP.1 C with C | C
  ·exact h.each x C
  ·rw [kZ.1 C];exact hm
 ·rcases jP.1 C with C | C
  ·exact h.new x C
  ·rw [kZ.1 C];exact ⟨jJ hB hnew.1,jJ hB hnew.2⟩
 ·rw [List.pairwise_append];refine ⟨h.part,List.pairwise_singleton _ _,fun a ha b hb=>?_⟩;rw [kZ.1 hb];refine ⟨⟨fun e=>by have:=hlt a ha _ e;omega,fun e=>by have:=hlt a ha _ e;omega⟩,fun ⟨k,h1,h2⟩=>?_⟩;obtain ⟨E,G⟩:=hr a ha k h1;exact h2.elim E G
structure WaySt (B bw:Nat) (w:World) (v:Value) (A:List MSt):Prop where
 box:w.heap[bw]? =some (.cells #[v] 109 (0,0))
 own:w.ownsRow B 117 41 v A.length (A.flatMap MSt.cells)
 ne:v.ownBlock≠some bw
 way:WayM B w A
 aside:∀m∈A,∀k,m.reads k->k≠bw/\v.ownBlock≠some k
 low:B<=bw
theorem WaySt.later {B bw:Nat} {w w':World} {v:Value} {A:List MSt} (h:WaySt B bw w v A) (hb:Below w.heap.size w w'):WaySt B bw w' v A:=by
 refine ⟨(hb.block _ (yL h.box)).trans h.box,⟨h.own.1,h.own.2.imp id ?_⟩,h.ne,h.way.later hb,h.aside,h.low⟩;rintro ⟨g,C,E,I,H,G,r⟩;exact ⟨g,C,E,I,H,(hb.block _ (yL G)).trans G,r⟩
theorem y31 {B mid:Nat} {w:World} {ge gk ce ck:Nat} {e:En} {k1 k2:Kd} {k:Kd} (h:Fresh B mid w (some ⟨ge,0,none⟩) 1 ce (some ⟨gk,0,none⟩) 2 ck [e] [k1,k2]) (hk:k.Ok w) (hkr:∀r∈k.rows,∀x,r.p=some x->r.R≠[]->x.block<B) (side:Bool):(MSt.mk k ge ce gk ck e.row e.live k1 k2 side).Ok w/\B<=ge/\B<=gk/\∀j,(MSt.mk k ge ce gk ck e.row e.live k1 k2 side).reads j->B<=j\/∃r∈k.rows,∃x,r.p=some x/\r.R≠[]/\j=x.block:=by
 obtain ⟨-,-,o,m,A,Z,b,W,N,M,U,P,I,O⟩:=x29 h;simp only [Option.some.injEq,Addr.mk.injEq,and_true] at A Z;subst A Z;have l:ge<mid:=h.low.1 ge rfl;have G:∀ {t:TypeId} {sz n c g:Nat} {xs:List Value} {B:Nat},w.ownsRow B t sz (.slice (some ⟨g,0,none⟩) n c) n xs->w.there g 0 (n*sz)/\n<=c:=fun {t sz n c g xs B} ho=>by
  rcases ho.2 with ⟨K,_⟩ | ⟨q,i,d,K,_,a,J,_,f,_⟩
  ·cases K
  ·simp only [Value.slice.injEq,Option.some.injEq,Addr.mk.injEq,and_true,true_and] at K;obtain ⟨rfl,rfl⟩:=K;refine ⟨fun j hj=>⟨?_,jS w g _ _ _ a⟩,J⟩;rw [jH w g _ _ _ _ a,Nat.zero_add,Array.getElem?_eq_getElem (by rw [f];exact jO hj (Nat.mul_le_mul_right _ J))];rfl
 have Y:=G h.ents.own;have tK:=G h.kids.lst.own;have X:∀x,e.row.p=some x->e.row.R≠[]->B<=x.block/\x.block<mid/\x.block≠ge:=fun x C E=>by
  have A:=h.ents.each e (by simp) e.row (by simp [En.rows]);exact ⟨A.1.lo x C E,h.low.2 e (by simp) e.row (by simp [En.rows]) x C E,fun e2=>A.2 x C E (by rw [e2];rfl)⟩
 have L:∀kk∈[k1,k2],∀r∈kk.rows,∀x,r.p=some x->r.R≠[]->mid<=x.block/\x.block≠gk:=fun kk hkk r H x C E=>by
  have A:=h.kids.lst.each kk hkk r H;exact ⟨A.1.lo x C E,fun e2=>A.2 x C E (by rw [e2];rfl)⟩
 have Q:=h.base;refine ⟨⟨hk,b,Y.1,W,N,tK.1,M,U,P,⟨Y.2,tK.2⟩,by simp only;omega,fun r H x C E=>?_⟩,I,by omega,fun j hj=>?_⟩
 ·simp only [MSt.rows,jP,jW] at H;rcases H with A | rfl | A | A
  ·have:=hkr r A x C E;exact ⟨by simp only;omega,by simp only;omega⟩
  ·have:=X x C E;exact ⟨this.2.2,by simp only;omega⟩
  ·have:=L k1 (by simp) r A x C E;exact ⟨by simp only;omega,this.2⟩
  ·have:=L k2 (by simp) r A x C E;exact ⟨by simp only;omega,this.2⟩
 ·rcases hj with rfl | rfl | ⟨r,H,x,C,E,rfl⟩
  ·exact Or.inl I
  ·exact Or.inl (jJ Q O)
  ·simp only [MSt.rows,jP,jW] at H;rcases H with A | rfl | A | A
   ·exact Or.inr ⟨r,A,x,C,E,rfl⟩
   ·exact Or.inl (X x C E).1
   ·have:=(L k1 (by simp) r A x C E).1;exact Or.inl (by omega)
   ·have:=(L k2 (by simp) r A x C E).1;exact Or.inl (by omega)
end Kt
namespace Kt
open Go.RowKit
theorem x6W (w:World):(w.alloc (.cells #[] 24)).ownsRow w.heap.size 24 1 (.slice (some ⟨w.heap.size,0,none⟩) 0 0) 0 []:=
 ⟨rfl,Or.inr ⟨w.heap.size,0,#[],rfl,jB _,jE w _,jB _,by unfold maxLen;omega,rfl,rfl⟩⟩
theorem x7q {w:World} {base n:Nat} {v:Value} {L:List Rw} (h:w.ownsRow base 24 1 v n (hds L)) (hn:1<=n):∃g c,v= .slice (some ⟨g,0,none⟩) n c/\n=L.length/\n<=c/\base<=g/\g<w.heap.size/\Seg w g 0 L:=by
 have G:n=L.length:=by have:=h.1;rw [x1O,Nat.mul_one] at this;exact this.symm
 rcases h.2 with ⟨rfl,M⟩ | ⟨g,C,A,rfl,H,B,E,K,J,I⟩
 ·omega
 ·refine ⟨g,C,rfl,G,E,H,(yL B),fun j hj=>⟨?_,jS w g _ _ _ B⟩⟩;rw [Nat.zero_add,jH w g j A _ _ B];have e:(A.toList.take (n*1))[j]? =(hds L)[j]? :=by rw [I]
  rw [List.getElem?_take_of_lt (by omega)] at e;simp only [hds,kN,jM hj] at e;rw [jG,jM hj]
  simpa using e
def y1M (w:World) (L:List Rw) (e:Ending) (w':World):Prop:=∃g c,e= .returned (.slice (some ⟨g,0,none⟩) L.length c)/\L.length<=c/\w.heap.size<=g/\g<w'.heap.size/\Seg w' g 0 L/\Below w.heap.size w w'
theorem y1N (p:Option Addr) (n c:Nat) (L:List Rw) (w:World) (h:RowsIn w p n c L) (h1:1<=n) (h8:n<=1048576):
  Calls Tryz.prog 91 #[.slice p n c] w (y1M w L):=by
 obtain ⟨U,W,rfl,-⟩:=h.cell 0 (by omega);obtain ⟨g,C,B,G,E⟩:=info_parts IRs;have b:=yH C;have Q:=yH B;have P:=yH G;have O:=yH E;clear C B G E;have A:=jA w (.cells #[] 24);have N:=yH (x6W w);have I:=yH A;have M:=yH (y1v (h.later A) 0);have e:=yH h.size;have R:=yH (show (hds (L.drop 0)).length=n*1 by rw [List.drop_zero,x1O,<- h.size,Nat.mul_one]);have j:∀w',(binOp .eql 51 (.slice (some ⟨U,W,none⟩) n c) (.slice none 0 0)).run Tryz.prog w'= .ok (.bool false) w':=fun w'=>Go.Lib.run_eql_slice_nil w' _ _ _ _ _ _ _ URSs;clear A h
 go_enter Tryz.func91,Tryz.ntmps91
 go_wp2_with ((at_builtin;(refine wpList_append_own_at _ (by rfl) (.tmp 5) (.tmp 6) 51 (by rfl) w.heap.size 24 g (.slice none 0 0) 1 24 URSs b Q P O (by rfl) (by decide) _ 0 [] (by rfl) N ⟨U,W+0,none⟩ n c (hds (L.drop 0)) (by rfl) R M (x1q _) (by unfold maxLen;omega) (by omega) (by simp) ?_);intro v7 w7 hown7 hgrow7 _ _;have d:=yH hown7;have f:=yH hgrow7;clear hown7 hgrow7))
 obtain ⟨Z,a,rfl,Y,i,X,J,H⟩:=x7q (w:=w7) (base:=w.heap.size) (n:=n) (L:=L) (by have h:=d.out;rw [Nat.zero_add,kV,List.drop_zero] at h;exact h) h1;have K:Below w.heap.size w w7:=I.grown f.out (by simp) (fun k hk=>by simp [Value.ownBlock] at hk;omega);go_ret;exact ⟨Z,a,by rw [<- Y];rfl,by omega,X,J,H,K⟩
end Kt
namespace Kt
open Go.RowKit Nd Dk Pg
def liveE (L:List Ent):List (List Int):=(L.filter fun e=>e.2.1).map (·.1)
theorem x2F (L M:List Ent):liveE (L++M)=liveE L++liveE M:=by simp [liveE]
structure ColAt (B b:Nat) (X:Nat->Prop) (L:List Ent) (w:World) (v:Value) (O:List Rw):Prop where
 row:w.heap[b]? =some (.cells #[v] 51 (0,0))
 own:w.ownsRow 0 24 1 v O.length (hds O)
 ok:∀r∈O,r.Ok w/\∀x,r.p=some x->r.R≠[]->¬X x.block/\B<=x.block
 are:O.map Rw.R=liveE L
 mine:∀k,X k↔k=b\/v.ownBlock=some k
 ne:v.ownBlock≠some b
 few:O.length<=1000000
def ColI (B b:Nat) (X:Nat->Prop) (L:List Ent) (w:World):Prop:=∃v O,ColAt B b X L w v O
theorem x4g {w w':World} {v:Value} {n:Nat} {xs:List Value} (h:w.ownsRow 0 24 1 v n xs) (hk:∀k,v.ownBlock=some k->w'.heap[k]? =w.heap[k]?):w'.ownsRow 0 24 1 v n xs:=by
 obtain ⟨H,E⟩:=h;refine ⟨H,E.imp id ?_⟩;rintro ⟨g,B,A,C,G,I,r⟩;exact ⟨g,B,A,C,G,(hk g (by rw [C];rfl)).trans I,r⟩
theorem ColAt.lt {B b:Nat} {X:Nat->Prop} {L:List Ent} {w:World} {v:Value} {O:List Rw} (h:ColAt B b X L w v O):∀k,X k->k<w.heap.size:=fun k hk=>by
 rcases (h.mine k).1 hk with rfl | e
 ·exact (yL h.row)
 ·exact (h.own.lt k e).2
theorem ColAt.later {B b:Nat} {X:Nat->Prop} {L:List Ent} {w w':World} {v:Value} {O:List Rw} (h:ColAt B b X L w v O) (hb:Below w.heap.size w w'):ColAt B b X L w' v O:=
 ⟨(hb.block _ (yL h.row)).trans h.row,x4g h.own fun k e=>hb.block k (h.own.lt k e).2,fun r hr=>⟨(h.ok r hr).1.later hb,(h.ok r hr).2⟩,h.are,h.mine,h.ne,h.few⟩
theorem x6A {w:World} {b:Nat} {v v':Value} {t:TypeId} (h:w.heap[b]? =some (.cells #[v] t (0,0))):(w.setCell ⟨b,0,none⟩ v').heap[b]? =some (.cells #[v'] t (0,0)):=jU w b 0 _ _ v' h
theorem y7R {B b:Nat} (X:Nat->Prop) (L:List Ent) (w:World) (r:Rw) (lv:Bool) (t:Nat) (hi:ColI B b X L w) (hl:L.length<=100000) (hr:r.Ok w) (hx:∀x,r.p=some x->r.R≠[]->¬X x.block/\B<=x.block):
  Calls Tryz.prog 134 #[.agg #[r.val,.bool lv],.int .i64 t,.pointer (some ⟨b,0,none⟩)] w fun e w'=>e= .returned (.tuple #[])/\∃X',ColI B b X' (L++[(r.R,lv,t)]) w'/\(∀k,X' k->X k\/w.heap.size<=k)/\Only X w w':=by
 obtain ⟨v,O,z⟩:=hi;have Z:O.length<=L.length:=by
  have:=congrArg List.length z.are;rw [kH] at this;rw [this];unfold liveE;rw [kH];exact List.length_filter_le _ _
 obtain ⟨H,E,I,rR⟩:=r;unfold Rw.val;simp only;have b1:=jA w (.cells #[.slice H E I,.bool lv] 101);have r1:=jE w (.cells #[.slice H E I,.bool lv] 101);have s1:(w.alloc (.cells #[.slice H E I,.bool lv] 101)).heap.size=w.heap.size+1:=by simp
 have A:=yH (z.later b1);have AE:=yH z.lt;have HR:=yH (hr.later b1);have HX:=yH hx;have HL:=yH hl;have Y:=yH Z;have B1:=yH b1;obtain ⟨AC,m,l,o,n⟩:=info_parts IRs;have HI:=yH m;have A4:=yH l;have AB:=yH o;have AA:=yH n;clear z hr hx hl Z m l o n
 go_enter Tryz.func134,Tryz.ntmps134
 go_upto_region 1 with fail
 generalize w.alloc (.cells #[.slice H E I,.bool lv] 101)=w1 at *;have c0:=jH w1 w.heap.size 0 _ _ _ r1;have c1:=jH w1 w.heap.size 1 _ _ _ r1;have A7:=yH s1;clear r1 b1 s1;cases lv with
 | false=>
  go_wp2_with fail
  go_end0
  exact ⟨rfl,X,⟨v,O,⟨A.row,A.own,A.ok,by rw [x2F,A.are];simp [liveE],A.mine,A.ne,A.few⟩⟩,fun k h=>Or.inl h,Only.of_below _ B1⟩
 | true=>
  have cb:=jH w1 b 0 _ _ _ A.row;have HA:=yH (jE w1 (.cells #[.slice H E I] 24));have bA:=jA w1 (.cells #[.slice H E I] 24);have f:(w1.alloc (.cells #[.slice H E I] 24)).ownsRow 0 24 1 v O.length (hds O):=x4g A.own fun k e=>bA.block k (A.own.lt k e).2;have A3:=yH f;have G:=yH bA;clear f bA;go_upto_region 2 with fail
  go_wp2_with ((at_builtin;refine wpList_append_own_at _ (by rfl) (.tmp 7) (.tmp 10) 51 (by rfl) 0 24 AC (.slice none 0 0) 1 24 URSs HI A4 AB AA (by rfl) (by decide) _ O.length _ (by rfl) A3 ⟨w1.heap.size,0,none⟩ 1 1 (hds [⟨H,E,I,rR⟩]) (by rfl) (by rfl) (x5Z w1 H E I rR) (x1q _) (by have W:=HL.out;have J:=Y.out;unfold maxLen;omega) (by have W:=HL.out;have J:=Y.out;omega) (Nat.zero_le _) ?_);intro v7 w7 hown7 hgrow7 _ hat7;obtain ⟨K,Q,rfl⟩:=x1x hown7;have AK:w7.cell? ⟨b,0,none⟩=some v:=(jX ((hgrow7.block b (jO (yL A.row) G.size) (fun e=>A.ne e.symm)).trans (G.block b (yL A.row)))).trans cb;have N:=yH (((hgrow7.block b (jO (yL A.row) G.size) (fun e=>A.ne e.symm)).trans (G.block b (yL A.row))).trans A.row);have AN:=jS w7 b 0 _ _ N.out;have O7:=yH hown7;have G7:=yH hgrow7;have s:=yH hat7;clear hown7 hgrow7 hat7)
  have AO:w1.heap.size+1<=w7.heap.size:=by have:=G7.size;simpa using this
  have A2:=x6A (v':=.slice K (O.length+1) Q) N;have C:Only (fun k=>k=b) w7 (w7.setCell ⟨b,0,none⟩ (.slice K (O.length+1) Q)):=Only.setCell (P:=fun j=>j=b) w7 (a:=⟨b,0,none⟩) rfl _;generalize w7.setCell ⟨b,0,none⟩ (.slice K (O.length+1) Q)=w8 at *
  go_end0
  have d:(Value.slice K (O.length+1) Q).ownBlock≠some b:=fun e=>by
   rcases s.out with h | h
   ·exact A.ne (h.symm.trans e)
   ·rw [h] at e;have e:=Option.some.inj e;have J:=(yL A.row)
    have h3:=G.size;omega
  have AI:=G.size;have M:∀k,(Value.slice K (O.length+1) Q).ownBlock=some k->v.ownBlock=some k\/w1.heap.size+1<=k:=fun k e=>by
   rcases s.out with h | h
   ·exact Or.inl (h.symm.trans e)
   ·rw [h] at e;have e:=Option.some.inj e;refine Or.inr ?_;rw [<- e];simp
  have U:Only X w1 w8:=by
   have u:=G7.out;refine ⟨C.os.trans (u.os.trans G.os),C.tape.trans (u.tape.trans G.tape),C.output.trans (u.output.trans G.output),by have:=C.size;omega,fun k c hn=>?_⟩;have A6:k≠b:=fun e=>hn ((A.mine k).2 (Or.inl e));rw [C.block k (by omega) A6,u.block k (by omega) (fun e=>hn ((A.mine k).2 (Or.inr e.symm)))];exact G.block k c
  have i:∀r:Rw,r.Ok w1->(∀x,r.p=some x->r.R≠[]->¬X x.block/\B<=x.block)->r.Ok w8:=fun r W J=>Nd.rw_keep W fun y hy hR=>U.block _ (rw_lt W y hy hR) (J y hy hR).1;have g:=O7.out;refine ⟨rfl,fun k=>k=b\/(Value.slice K (O.length+1) Q).ownBlock=some k,⟨.slice K (O.length+1) Q,O++[⟨H,E,I,rR⟩],⟨A2,?_,fun r hr=>?_,?_,fun k=>Iff.rfl,d,?_⟩⟩,fun k c=>?_,?_⟩
  ·rw [jQ,x0t];exact x4g g fun k e=>C.block k ((g.lt k e).2) (fun e2=>d (by rw [e,e2]))
  ·have q:∀r:Rw,r.Ok w1->(∀x,r.p=some x->r.R≠[]->¬X x.block/\B<=x.block)->∀x,r.p=some x->r.R≠[]->¬(x.block=b\/(Value.slice K (O.length+1) Q).ownBlock=some x.block)/\B<=x.block:=fun r W J x hx hR=>⟨fun h=>by
    rcases h with h | h
    ·exact (J x hx hR).1 ((A.mine _).2 (Or.inl h))
    ·rcases M _ h with h | h
     ·exact (J x hx hR).1 ((A.mine _).2 (Or.inr h))
     ·have:=rw_lt W x hx hR;omega,(J x hx hR).2⟩
   rcases jP.1 hr with hr | hr
   ·exact ⟨i r (A.ok r hr).1 (A.ok r hr).2,q r (A.ok r hr).1 (A.ok r hr).2⟩
   ·rw [kZ.1 hr];exact ⟨i _ HR HX,q _ HR HX⟩
  ·rw [List.map_append,A.are,x2F];rfl
  ·rw [jQ];have W:=HL.out;have J:=Y.out;simp only [kI,List.length_nil];omega
  ·rcases c with rfl | c
   ·exact Or.inl ((A.mine _).2 (Or.inl rfl))
   ·rcases M k c with h | h
    ·exact Or.inl ((A.mine _).2 (Or.inr h))
    ·have:=A7.out;exact Or.inr (by omega)
  ·exact (Only.of_below X B1).trans U
theorem y6a {B b:Nat}:DoOk B 134 #[.pointer (some ⟨b,0,none⟩)] (ColI B b) where
 lt:=fun X L w ⟨v,O,h⟩=>h.lt
 later:=fun X L w w' ⟨v,O,h⟩ hb=>⟨v,O,h.later hb⟩
 run:=fun X L w r v t hi hr hx ht hl=>by
  have h:=y7R X L w r v t hi hl hr hx
  exact h
theorem y1O:∀args w,(callFunc 134 args).run Tryz.prog w= .ok (.enter 134 args) w:=enters_of Tryz.func134 (by kernel_rfl) rfl
def deepE (L:List Ent):Nat:=L.foldl (fun m e=>max m e.2.2) 0
theorem y1P (L:List Ent) (e:Ent):deepE (L++[e])=max (deepE L) e.2.2:=by simp [deepE]
def TopI (b:Nat) (X:Nat->Prop) (L:List Ent) (w:World):Prop:=w.heap[b]? =some (.cells #[.int .i64 (deepE L)] 3 (0,0))/\(∀k,X k↔k=b)
theorem topDo {b:Nat} (X:Nat->Prop) (L:List Ent) (w:World) (r:Rw) (lv:Bool) (t:Nat) (hi:TopI b X L w) (ht:t<=1000000000):
  Calls Tryz.prog 90 #[.agg #[r.val,.bool lv],.int .i64 t,.pointer (some ⟨b,0,none⟩)] w fun e w'=>e= .returned (.tuple #[])/\∃X',TopI b X' (L++[(r.R,lv,t)]) w'/\(∀k,X' k->X k\/w.heap.size<=k)/\Only X w w':=by
 obtain ⟨E,I⟩:=hi;obtain ⟨J,G,H,N⟩:=r;unfold Rw.val;simp only;have b1:=jA w (.cells #[.slice J G H,.bool lv] 101);have A:=yH (yK b1 E);have K:=yH I;have O:=yH b1;have M:=yH (y1P L (N,lv,t));clear E I b1;generalize deepE L=D at *
 go_enter Tryz.func90,Tryz.ntmps90
 go_upto_region 1 with fail
 generalize w.alloc (.cells #[.slice J G H,.bool lv] 101)=w1 at *;have Q:=jH w1 b 0 _ _ _ A;have U:=jS w1 b 0 _ _ A;go_wp2_with fail
 have B:=x6A (v':=.int .i64 (max (D:Int) t)) A;have C:Only (fun k=>k=b) w1 (w1.setCell ⟨b,0,none⟩ (.int .i64 (max (D:Int) t))):=Only.setCell (P:=fun j=>j=b) w1 (a:=⟨b,0,none⟩) rfl _
 go_end0
 refine ⟨rfl,X,⟨?_,K.out⟩,fun k h=>Or.inl h,(Only.of_below X O).trans (C.mono fun k e=>(K.out k).2 e)⟩;rw [M.out];have e:((max D t:Nat):Int)=max (D:Int) t:=by omega
 rw [e];exact B
theorem y7S {B b:Nat}:DoOk B 90 #[.pointer (some ⟨b,0,none⟩)] (TopI b) where
 lt:=fun X L w ⟨h,hm⟩ k hk=>by
  rw [(hm k).1 hk]
  exact (yL h)
 later:=fun X L w w' ⟨h,hm⟩ hb=>⟨(hb.block _ (yL h)).trans h,hm⟩
 run:=fun X L w r v t hi hr hx ht hl=>by
  have h:=topDo X L w r v t hi ht
  exact h
theorem y32:∀args w,(callFunc 90 args).run Tryz.prog w= .ok (.enter 90 args) w:=enters_of Tryz.func90 (by kernel_rfl) rfl
end Kt
end Go.Proofs.YtenenciaggbjnaaGreat
