/- KdWayV, KdBack, KdSettle, KdRaiseM. -/
import Derived.RangeFuncNested
import Derived.RangeFuncBound
import Derived.RangeFuncCalls
import Derived.RangeFuncLeaves
import Derived.WalkKit
import Derived.OwnWalkIn
import Derived.TacticsInMore
import Derived.LoopNIn
import Derived.LoopIn
import Derived.Lib.MinMax
import Derived.Test.YtenenciaggbjnaaGreatP22
set_option maxRecDepth 100000
set_option maxHeartbeats 8000000
set_option linter.all false
namespace Go.Proofs.YtenenciaggbjnaaGreat
namespace Kt
open Go.RowKit Nd Dk Pg
def y0X (w:World) (Q:Nat->Prop) (o:Option (List St×St)) (e:Ending) (w':World):Prop:=Below w.heap.size w w'/\
 (o=none->e= .returned (.tuple #[.slice none 0 0,.int .i64 21]))/\(∀L s,o=some (L,s)->∃q c A bw,e= .returned (.tuple #[.slice q A.length c,.int .i64 0])/\WaySt w.heap.size bw w' (.slice q A.length c) A/\Links A (L++[s])/\∀m∈A,∀j,m.reads j->¬Q j)
theorem x9V {gs d:Nat} {Q:Nat->Prop} {s:Pg.S} (hd:1<=d/\d<=8) (hW:x2x d s.W) (u:V) (k:Kd) (r:Rw) (w:World) (hp:PL w gs Q s) (hs:Sees s.W d u) (hk:k.Ok w) (he:k.pk=u.kid) (hr:r.Ok w) (hrd:r.n=d) (hz:u.kid.size<=90000) (hka:Aw Q k) (hra:∀y,r.p=some y->r.R≠[]->¬Q y.block):
  Calls Tryz.prog 68 #[.agg #[.pointer (some ⟨gs,0,none⟩),.int .i64 d],.agg k.cells.toArray,r.val] w (y0X w Q (wayV d r.R u 0)):=by
 obtain ⟨W,A3,z,o,b1⟩:=x1B w (.cells #[.pointer (some ⟨gs,0,none⟩),.int .i64 d] 107) (.cells k.cells.toArray 34);have b2:=jA W (.cells #[r.val] 24);have hb:x2k d [r]=true:=by
  unfold x2k;rw [kF (by omega)];simp [hrd]
 have l:=yH (x43 (some ⟨gs,0,none⟩) d _ 1 1 [r] _ (y4i (hr.later b1)) (by omega));rw [hb] at l;have R0:=yH (x09 z);have A1:=yH z;have AH:=yH o;have g:=yH b2;have B1:=yH b1;have v:=yH (show w.heap.size+2<=W.heap.size from (yL o));have q:=yH (fun (w':World) (hx:Below W.heap.size W w') (bw:Nat) (hbw:W.heap.size<=bw) (hbox:w'.heap[bw]? =some (.cells #[.slice none 0 0] 109 (0,0)))=>x7t (gs:=gs) (B:=w.heap.size) (bw:=bw) hd hW r hrd u k (w.heap.size+1) 0 w' Q (.slice none 0 0) [] (hp.keep (fun _=>False) (Only.of_below _ (b1.trans (hx.mono b1.size))) (fun _ _ e=>e)) hs (hk.later (b1.trans (hx.mono b1.size))) (x01 (x0E o) hx) he (fun x hx1 y hy hR=>⟨by have:=rw_lt (x06 hk x hx1) y hy hR;have:=b1.size;omega,(fun e=>by cases e),(fun a ha=>by cases ha)⟩) ⟨hbox,World.ownsRow_nil _ _ _ _,(fun e=>by cases e),⟨(fun m hm=>by cases hm),(fun m hm=>by cases hm),List.Pairwise.nil⟩,(fun m hm=>by cases hm),jJ b1.size hbw⟩ (jJ b1.size hx.size) (hr.later (b1.trans (hx.mono b1.size))) (fun y hy hR=>⟨by have:=rw_lt hr y hy hR;have:=b1.size;omega,(fun e=>by cases e),(fun a ha=>by cases ha)⟩) (fun e=>by have:=hp.lt _ e;have:=b1.size;omega) (fun j e=>by cases e) hka hra (by simp;omega));obtain ⟨rp,rn,rc,rR⟩:=r;unfold Rw.val at l g q ⊢;simp only at l g q ⊢;obtain ⟨du,f,M⟩:=UTr;have G:=yH f;have I:=yH M;generalize H:wayV d rR u 0=O at *;have A4:=yH (show O=none\/∃L s,O=some (L,s) from by
  cases O with
  | none=>exact Or.inl rfl
  | some x=>exact Or.inr ⟨x.1,x.2,rfl⟩)
 clear H hd hW hp hs hk he hr hrd hz hka hra hb z o b1 b2 f M
 go_enter Tryz.func68,Tryz.ntmps68
 go_upto_region 1 with fail
 clear A3;go_upto_region 4 with (first
  | (refine jK (by rfl) 107 _ (by rfl) w.heap.size 0 (by rfl) [.pointer (some ⟨gs,0,none⟩),.int .i64 d] du R0 G I STr ?_)
  | (go_at_call 87;refine l.mono ?_;rintro _ C ⟨rfl,b3⟩;have i:=yH (g.trans (b3.mono g.size));clear b3))
 have b:=jA C (.cells #[.slice none 0 0] 109);have X:=jE C (.cells #[.slice none 0 0] 109);generalize C.alloc (.cells #[.slice none 0 0] 109)=w4 at *;have B4:=yH (i.trans (b.mono i.size));have R4:=yH (x09 (yK B4 A1));have U:=yH (q.out w4 B4 C.heap.size i.size X);have E:=yH (B1.trans (B4.mono B1.size));have N:=yH (show w.heap.size<=C.heap.size from by have:=i.size;have:=v.out;omega);clear b X q;rcases A4.out with H | ⟨L,s',H⟩
 ·subst H;go_wp2_with (first
   | (refine jK (by rfl) 107 _ (by rfl) w.heap.size 0 (by rfl) [.pointer (some ⟨gs,0,none⟩),.int .i64 d] du R4 G I STr ?_)
   | (go_at_call 131;refine U.mono ?_;rintro _ w5 ⟨Y,hn,-⟩;obtain rfl:=hn rfl;have HO:=yH Y;clear Y hn))
  go_ret2;exact ⟨E.trans (HO.below E.size (fun k e=>e.elim (fun e=>by have:=N.out;omega) (fun e=>by cases e))),(fun _=>rfl),(fun L s' h=>by cases h)⟩
 ·have c:=yH H;go_upto_region 5 with (first
   | (refine jK (by rfl) 107 _ (by rfl) w.heap.size 0 (by rfl) [.pointer (some ⟨gs,0,none⟩),.int .i64 d] du R4 G I STr ?_)
   | (go_at_call 131;refine U.mono ?_;rintro _ w5 ⟨Y,-,Z⟩;obtain ⟨rfl,v',A',J,K,-,P⟩:=Z L s' H;have t:=yH P;clear P;have HO:=yH Y;have A:=yH J;have A0:=yH K;clear Y Z J K))
  clear H;rw [kV] at A;obtain ⟨q5,c5,rfl⟩:=x1x A.own;have cb:=jH w5 C.heap.size 0 _ _ _ A.box;go_wp2_with fail
  go_ret2;refine ⟨E.trans (HO.below E.size (fun k e=>e.elim (fun e=>by have:=N.out;omega) (fun e=>by cases e))),fun h=>(by rw [c.out] at h;cases h),fun L2 s2 h=>?_⟩;rw [c.out] at h;simp only [Option.some.injEq,Prod.mk.injEq] at h;obtain ⟨rfl,rfl⟩:=h;exact ⟨q5,c5,A',C.heap.size,rfl,A.out,A0.out,t.out⟩
theorem x4F {B bw:Nat} {w:World} {q:Option Addr} {c:Nat} {A:List MSt} (h:WaySt B bw w (.slice q A.length c) A) (hA:A≠[]):∃g,q=some ⟨g,0,none⟩/\A.length<=c/\∀i,i<A.length->w.rangeAt g (i*41) (A.getD i default).cells:=by
 have H:∀m∈A,m.cells.length=41:=fun m hm=>MSt.cells_length (h.way.each m hm).kid.len;rcases h.own.2 with ⟨E,K⟩ | ⟨g,M,I,E,_,_,J,_⟩
 ·exact absurd (jZ.1 K) hA
 ·simp only [Value.slice.injEq,true_and] at E;obtain ⟨rfl,rfl⟩:=E;refine ⟨g,rfl,J,fun i hi j u hu=>?_⟩;have G:=y02 (L:=A) H i j u hi hu;have C:=(List.getElem?_eq_some_iff.1 G).1;rw [World.ownsRow.cellAt h.own (i*41+j) (by rw [<- h.own.1];exact C),G]
theorem x3o (m:MSt) (h:m.kid.sum.length=32):m.cells[37]? =some (.int .u8 1)/\m.cells[38]? =some (.slice (some ⟨m.ge,0,none⟩) 1 m.ce)/\m.cells[39]? =some (.slice (some ⟨m.gk,0,none⟩) 2 m.ck)/\m.cells[40]? =some (.int .i64 m.sideN):=by
 have A:=Kd.cells_length h;unfold MSt.cells;refine ⟨?_,?_,?_,?_⟩<;>(rw [kS (by rw [A];omega),A];rfl)
theorem x7v {B bw:Nat} {w:World} {q:Option Addr} {c:Nat} {A:List MSt} {m:MSt} (h:WaySt B bw w (.slice q (A++[m]).length c) (A++[m])) (hA:A.length<=100000):
  Calls Tryz.prog 69 #[.slice q (A++[m]).length c] w fun e w'=>e= .returned (.bool m.live)/\w'=w:=by
 obtain ⟨g,rfl,K,I⟩:=x4F h (by simp);have G:=h.way.each m (by simp);have H:=I A.length (by simp);have E:(A++[m]).getD A.length default=m:=by simp
 rw [E] at H;have L:w.cell? ⟨g,A.length*41+38,none⟩=some (.slice (some ⟨m.ge,0,none⟩) 1 m.ce):=H 38 _ (x3o m G.kid.len).2.1;have J:w.cell? ⟨m.ge,1,none⟩=some (.bool m.live):=by have:=G.ent 1 _ rfl;simpa using this
 have C:(A++[m]).length=A.length+1:=by simp
 rw [C] at K ⊢;generalize A.length=n at *;have N:IntKind.i64.wrap (((n+1:Nat):Int) - 1)=(n:Int):=by rw [IntWalk.i64_in _ (by omega)];omega
 have M:(0:Int)<=n/\(n:Int)<((n+1:Nat):Int):=by omega
 clear h I H G E C
 go_enter Tryz.func69,Tryz.ntmps69
 go_wp2_with fail
 go_ret;exact ⟨rfl,rfl⟩
end Kt
namespace Kt
open Go.RowKit Nd Pg
attribute [local go_sem] Oper.semAt_some
theorem x4i {F:Fence} {m:Nat} {w:World} {ops:Array Oper} {rest:List Oper} {o:Oper} {a:Act} {Q:Exit->Act->World->Prop} (hg:o.guard=none) (ty:TypeId) (x:Operand) (ho:o.op= .load ty x)
  (b i:Nat) (hx:a.eval x= .pointer (some ⟨b,i,none⟩)) (cs:List Value) (d:TypeDesc) (hc:w.rangeAt b i cs)
  (hu:Tryz.prog.underlying ty=some d) (hd:d.isRow=true) (hi:(Tryz.prog.info? ty).map (·.size)=some cs.length)
  (hk:wpListIn F m Tryz.prog ops Q rest (a.put o.dst (.agg cs.toArray)) w):wpListIn F m Tryz.prog ops Q (o::rest) a w:=by
 refine wpListIn_plain hg fun K hK=>?_;unfold Oper.wpIn;refine ⟨by simp [Oper.about,ho],?_⟩;rw [Oper.semAt_plain F _ _ (by rw [ho];intro c hc';cases hc'),x0F ty x ho b i hx cs d hc hu hd hi];exact hK _ _ hk
def x0Q (A:List MSt) (j:Nat):MSt:=A.getD (A.length - 1 - j) default
def KpB (Bs g:Nat) (W W':World):Prop:=W'.heap[Bs]? =W.heap[Bs]? /\W'.heap[g]? =W.heap[g]?
def encB (A:List MSt) (j:Nat):Array Value:= #[.int .i64 ((A.length:Int) - 1 - j),.agg (x0Q A j).cells.toArray]
theorem y4o (m l Bs g c:Nat) (p:Option Addr) (A:List MSt) (hA:A.length<=100000) (hp:A≠[]->p=some ⟨g,0,none⟩/\A.length<=c) (h41:∀m∈A,m.cells.length=41) (J Jx:List Nat->World->Prop) (B0:Nat) (hJa:AbidesFrom B0 J)
  (hY:∀pre x W,J pre W->pre.length<A.length->YieldAt Fence.wide (m - 1) Tryz.prog l (encB A x) W fun e W'=>
   (e= .returned (.bool true)/\J (pre++[x]) W'/\KpB Bs g W W')\/(e= .returned (.bool false)/\Jx (pre++[x]) W'))
  (W:World) (hBs:W.cell? ⟨Bs,0,none⟩=some (.slice p A.length c)) (hx:∀i,i<A.length->W.rangeAt g (i*41) (A.getD i default).cells) (h0:J [] W):
  CallsIn Fence.wide m Tryz.prog 194 #[.func (.yield l) #[] #[],.pointer (some ⟨Bs,0,none⟩)] W fun e W'=>(∃v,e= .returned v)/\
   ((∃ys,ys=List.range A.length/\J ys W')\/(∃pre,True/\Jx pre W')):=by
 obtain ⟨n,Q⟩:∃n,n=A.length:=⟨_,rfl⟩
 rw [<- Q] at hBs hx hA;have H:=yH Q;clear Q;have q0:IntKind.i64.wrap ((n:Int) - 1)=(n:Int) - 1:=IntWalk.i64_in _ (by omega);obtain ⟨d,R,X⟩:=USp;refine callsIn_of_wp Tryz.func194 rfl trivial ?_ rfl;simp only [Tryz.ntmps194,jF,kI,List.length_nil,Nat.reduceAdd,Nat.reduceSub,Array.replicate_succ,Array.replicate_zero,List.push_toArray,List.append_toArray,kV,List.cons_append]
 gi_wp2
 gi_loopw [3] (fun i wr=>∃j:Nat,j<=n/\i= .int .i64 ((n:Int) - 1 - j)/\J (List.range j) wr/\KpB Bs g W wr)
  (fun i _=>(intOf i+1).toNat)
 case atStart=>exact ⟨0,Nat.zero_le _,by simp,h0,rfl,rfl⟩
 case round=>
  obtain ⟨j,hj,rfl,r,O⟩:=hrel;have b:=yH r;have f:=yH O;have cs:=(jX (w:=W) (a:=⟨Bs,0,none⟩) O.1).trans hBs;have HX:=yH (fun i (hi:i<n)=>(show wr.rangeAt g (i*41) (A.getD i default).cells from fun t u hu=>(jX (w:=W) (a:=⟨g,i*41+t,none⟩) O.2).trans (hx i hi t u hu)));clear r O;by_cases hlt:j<n
  ·obtain ⟨k,U⟩:∃k:Nat,k=n - 1 - j:=⟨_,rfl⟩
   have Z:(n:Int) - 1 - j=(k:Int):=by omega
   have G:k<n:=by omega
   rw [Z];obtain ⟨rfl,A2⟩:=hp (fun e=>by have:=H.out;rw [e] at this;simp at this;omega);have i0:(0:Int)<=(k:Int):=by omega
   have i1:(k:Int)<(n:Int):=by omega
   have i2:IntKind.i64.wrap ((k:Int) - 1)=(k:Int) - 1:=IntWalk.i64_in _ (by omega);have z:=yH (HX.out k G);have y:=yH (h41 (A.getD k default) (by
    rw [jG,jM (by rw [<- H.out];exact G)];exact kM _))
   have I:=yH (show (Tryz.prog.info? 117).map (·.size)=some (A.getD k default).cells.length from by rw [y.out];exact SSp);obtain ⟨fn,q,P,s,o,hR⟩:=hY (List.range j) j wr b (by rw [List.length_range,<- H.out];exact hlt);have N:encB A j= #[.int .i64 (k:Int),.agg (A.getD k default).cells.toArray]:=by
    unfold encB x0Q;rw [<- H.out,Z,<- U]
   obtain ⟨C,B⟩:∃C,C=(A.getD k default).cells:=⟨_,rfl⟩
   rw [N,<- B] at o;have HKE:=yH U;have Y:=yH (show wr.rangeAt g (k*41) C from by rw [B];exact z.out);have M:=yH (show (Tryz.prog.info? 117).map (·.size)=some C.length from by rw [B];exact I.out);clear N Z U B z I y
   gi_wp2_with (first | (refine x4i (by rfl) 117 (.tmp 15) (by rfl) g (k*41) (by rfl) C d Y R X M ?_) | gi_in)
   refine ⟨fun h=>(by cases h),hR.mono ?_⟩;rintro _ W3 (⟨rfl,K,E⟩ | ⟨rfl,L⟩)
   ·have HJ3:=yH K;have HK3:=yH (show KpB Bs g W W3 from ⟨E.1.trans f.1,E.2.trans f.2⟩);clear K E o
    gi_wp2
    go_roundw
    case rel=>exact ⟨j+1,by omega,by have:=HKE.out;(first | rw [i2] | skip);congr 1;omega,by rw [List.range_succ];exact HJ3.out,HK3.out⟩
    case measure=>(try rw [i2]);simp [intOf]
   ·gi_wp2
    refine bodyPost_ret (results_none rfl _ _ _) rfl ?_;exact ⟨⟨_,rfl⟩,.inr ⟨_,trivial,L⟩⟩
  ·obtain rfl:j=n:=by omega
   have l1:¬(0:Int)<=(j:Int) - 1 - j:=by omega
   gi_wp2
   go_end0
   exact ⟨⟨_,rfl⟩,.inl (by rw [<- H.out];exact b.out)⟩
theorem x79 (m Bs g c:Nat) (p:Option Addr) (A:List MSt) (hA:A.length<=100000) (hp:A≠[]->p=some ⟨g,0,none⟩/\A.length<=c) (h41:∀m∈A,m.cells.length=41) (w:World) (hBs:w.cell? ⟨Bs,0,none⟩=some (.slice p A.length c)) (hx:∀i,i<A.length->w.rangeAt g (i*41) (A.getD i default).cells):
  SeqStopsK Fence.wide m Tryz.prog 194 #[.pointer (some ⟨Bs,0,none⟩)] (encB A) (KpB Bs g) (fun ys=>ys=List.range A.length) (fun _=>True) A.length w:=fun l J Jx W hW hJ _ hY h0=>
 y4o m l Bs g c p A hA hp h41 J Jx _ hJ hY W ((hW.cell (p:=⟨Bs,0,none⟩) (jI hBs)).trans hBs) (fun i hi j u hu=>(hW.cell (jI (hx i hi j u hu))).trans (hx i hi j u hu)) h0
theorem y0Y (v:Value) (hv:v.oneCell'=true) (w:World):
  Calls Tryz.prog 132 #[v] w fun e w'=>e= .returned (.func (.func 194) #[] #[.pointer (some ⟨w.heap.size,0,none⟩)])/\w'=w.alloc (.cells #[v] 109):=by
 go_enter Tryz.func132,Tryz.ntmps132
 go_wp2_with fail
 go_ret;exact ⟨rfl,rfl⟩
end Kt
namespace Kt
open Go.RowKit Go.Shelf Nd Dk Pg Wl
open List renaming setIfInBounds_toArray -> yA, set_cons_zero -> yB, set_cons_succ -> yC
attribute [local go_sem] Oper.semAt_some
def MSt.on (m:MSt):Int:=if m.side then m.k2.size else m.k1.size
def MSt.off (m:MSt):Int:=if m.side then m.k1.size else m.k2.size
theorem tdiv3 {x b:Int} (h1: -b<=x) (h2:x<=b): -b<=x.tdiv 3/\x.tdiv 3<=b:=by
 rcases Int.le_total 0 x with h | h
 ·rw [Int.tdiv_eq_ediv_of_nonneg h];omega
 ·have A:(-x).tdiv 3= -(x.tdiv 3):=Int.neg_tdiv x 3;rw [Int.tdiv_eq_ediv_of_nonneg (by omega)] at A;omega
def stpM (m:MSt) (i:Int) (st:Int×Int×Int):Int×Int×Int:=
 if ((m.on+st.2.2+m.off+1)*2).tdiv 3+1<max (m.on+st.2.2) m.off then (i,m.kid.live+1,m.kid.live+1 - m.kid.size) else (st.1,m.on+st.2.2+m.off+1,m.on+st.2.2+m.off+1 - m.kid.size)
def foldM (A:List MSt) (pre:List Nat):Int×Int×Int:=pre.foldl (fun st j=>stpM (x0Q A j) ((A.length:Int) - 1 - j) st) ((A.length:Int),0,0)
theorem x4j (A:List MSt) (pre:List Nat) (x:Nat):foldM A (pre++[x])=stpM (x0Q A x) ((A.length:Int) - 1 - x) (foldM A pre):=by
 unfold foldM;rw [List.foldl_append];rfl
structure SzM (m:MSt):Prop where
 k1:0<=m.k1.size/\m.k1.size<=1048576
 k2:0<=m.k2.size/\m.k2.size<=1048576
 size:0<=m.kid.size/\m.kid.size<=1048576
 live:0<=m.kid.live/\m.kid.live<=1048576
theorem SzM.on {m:MSt} (h:SzM m):(0<=m.on/\m.on<=1048576)/\0<=m.off/\m.off<=1048576:=by
 unfold MSt.on MSt.off;cases m.side
 ·exact ⟨h.k1,h.k2⟩
 ·exact ⟨h.k2,h.k1⟩
theorem y37 {m:MSt} (h:SzM m) (i:Int) (st:Int×Int×Int) (b:Nat) (hb: -(b:Int)<=st.2.2/\st.2.2<=b): -((b+4194304:Nat):Int)<=(stpM m i st).2.2/\(stpM m i st).2.2<=((b+4194304:Nat):Int):=by
 have B:=h.on;have A:=h.size;have C:=h.live;unfold stpM;split<;>simp only<;>omega
theorem x2Z {A:List MSt} (h:A≠[]) (x:Nat):x0Q A x∈A:=by
 have B:=kP.2 h;unfold x0Q;rw [jG,jM (by omega)];exact kM _
theorem x9W {A:List MSt} (h:∀m∈A,SzM m) (h0:A≠[]) (pre:List Nat): -((4194304*pre.length:Nat):Int)<=(foldM A pre).2.2/\(foldM A pre).2.2<=((4194304*pre.length:Nat):Int):=by
 obtain ⟨r,B⟩:∃r,r=pre.reverse:=⟨_,rfl⟩
 have:pre=r.reverse:=by rw [B,List.reverse_reverse]
 subst this;clear B
 induction r with
 | nil=>exact ⟨Int.le_refl _,Int.le_refl _⟩
 | cons x r ih=>
  rw [List.reverse_cons,x4j,jQ];have:=y37 (h _ (x2Z h0 x)) ((A.length:Int) - 1 - x) _ _ ih
  simpa [Nat.mul_add] using this
def SetOk (L:List St):Prop:=∀j s,L[j]? =some s->0<=s.on+(x0D (j+1) (L.drop (j+1))).2.2+s.off+1
theorem y38 {m:MSt} {s:St} (h:Link m s):m.on=s.on/\m.off=s.off/\m.kid.live=s.old.kid.live/\m.kid.size=s.old.kid.size:=by
 unfold MSt.on MSt.off St.on St.off;rw [h.l,h.r,h.side,h.old];exact ⟨rfl,rfl,rfl,rfl⟩
theorem x2a (i:Nat) (s:St) (L:List St):x0D i (s::L)=if (s.on+(x0D (i+1) L).2.2+s.off+1)*2/3+1<max (s.on+(x0D (i+1) L).2.2) s.off then (i,s.old.kid.live+1,s.old.kid.live+1 - s.old.kid.size) else ((x0D (i+1) L).1,s.on+(x0D (i+1) L).2.2+s.off+1,s.on+(x0D (i+1) L).2.2+s.off+1 - s.old.kid.size):=by rw [x0D]
theorem x54 {A:List MSt} {L:List St} (hl:Links A L) (h:SetOk L):∀j,j<=A.length->foldM A (List.range j)=((((x0D (A.length - j) (L.drop (A.length - j))).1:Nat):Int),(x0D (A.length - j) (L.drop (A.length - j))).2.1,(x0D (A.length - j) (L.drop (A.length - j))).2.2)
 | 0,_=>by
  rw [Nat.sub_zero,hl.length,List.drop_length]
  show ((A.length:Int),(0:Int),(0:Int))=_
  rw [hl.length]
  rfl
 | j+1,hj=>by
  rw [List.range_succ,x4j,x54 hl h j (by omega)]
  have hlen:=hl.length
  have hi:A.length - (j+1)<L.length:=by omega
  have E:L.drop (A.length - (j+1))=L[A.length - (j+1)]::L.drop (A.length - j):=by
   rw [List.drop_eq_getElem_cons hi]
   congr 2
   omega
  obtain ⟨m,H,J⟩:=hl.get _ _ (jM hi);have G:x0Q A j=m:=by
   unfold x0Q;rw [show A.length - 1 - j=A.length - (j+1) from by omega,jG,H];rfl
  obtain ⟨M,N,K,I⟩:=y38 J;have C:=h _ _ (jM hi);rw [show A.length - (j+1)+1=A.length - j from by omega] at C;rw [G,E];generalize L[A.length - (j+1)]=s at *;have B:x0D (A.length - (j+1)) (s::L.drop (A.length - j))=_:=x2a _ _ _;rw [show A.length - (j+1)+1=A.length - j from by omega] at B;rw [B];generalize x0D (A.length - j) (L.drop (A.length - j))=X at *;obtain ⟨x,y,z⟩:=X;unfold stpM;simp only at C ⊢;rw [M,N,K,I,Int.tdiv_eq_ediv_of_nonneg (by omega)];split
  ·simp only [Prod.mk.injEq,and_true];omega
  ·rfl
def SeI (w:World) (A:List MSt) (pre:List Nat) (W:World):Prop:=
 W.heap[w.heap.size]? =some (.cells #[.int .i64 (foldM A pre).1] 3 (0,0))/\W.heap[w.heap.size+1]? =some (.cells #[.int .i64 (foldM A pre).2.1] 3 (0,0))/\W.heap[w.heap.size+2]? =some (.cells #[.int .i64 (foldM A pre).2.2] 3 (0,0))/\Below w.heap.size w W/\w.heap.size+4<=W.heap.size
theorem x15 {W W':World} {row:Option Nat} {k:Nat} {cs:Array Value} {t:TypeId} {z:Nat×Nat} (h:W.heap[k]? =some (.cells cs t z)) (hg:W.grownBy W' row) (hr:∀r,row=some r->∃o:Obj,W.heap[r]? =some o/\o.isCells=false):W'.heap[k]? =some (.cells cs t z):=(hg.block k (yL h) (fun e=>by
 obtain ⟨o,ho,hc⟩:=hr k e.symm
 rw [h] at ho
 cases ho
 cases hc)).trans h
theorem y39 (w:World) (A:List MSt) {B:Nat} (hB:w.heap.size<=B):OwnFrom B (SeI w A):=fun _ _ _ _ ⟨h0,h1,h2,hb,hs⟩ hg hr=>
 ⟨x15 h0 hg fun r e=>(hr r e).2,x15 h1 hg fun r e=>(hr r e).2,x15 h2 hg fun r e=>(hr r e).2,hb.grown hg hb.size (fun k e=>jJ hB (hr k e).1),jJ hs hg.size⟩
def SeX (w:World) (v:Value) (A:List MSt) (x:Nat) (a':Act) (W:World):Prop:=
 ∃B6,w.heap.size+4<=B6/\a'={tmps:= #[v,undef,.pointer (some ⟨w.heap.size,0,none⟩),.pointer (some ⟨w.heap.size+1,0,none⟩),.pointer (some ⟨w.heap.size+1+1,0,none⟩),.int .i64 ((A.length:Int) - 1 - x),.pointer (some ⟨B6,0,none⟩),undef,undef,v,.int .i64 A.length,v,.func (.func 194) #[] #[.pointer (some ⟨w.heap.size+1+1+1,0,none⟩)],.int .i64 ((A.length:Int) - 1 - x),.agg (x0Q A x).cells.toArray,undef,undef,undef,undef,undef,undef,undef,undef,undef,undef,undef,undef,undef,undef,undef,undef,undef,undef,undef,undef,undef,undef,undef,undef,undef,undef,undef,undef,undef,undef,undef,undef,undef,undef,undef,undef,undef,undef,undef,undef,undef,undef,undef],defers:=[]}/\W.heap[B6]? =some (.cells (x0Q A x).cells.toArray 117 (0,0))
theorem y6d (w:World) (v:Value) (A:List MSt) (B:Nat) (x:Nat) (a':Act):OwnFrom B (fun (_:Unit) W=>SeX w v A x a' W):=fun _ _ _ _ ⟨B6,hB,e,h⟩ hg hr=>
 ⟨B6,hB,e,x15 h hg fun r e=>(hr r e).2⟩
theorem x4G (k:Kd) (h:k.sum.length=32):k.cells[34]? =some (.int .i64 k.live)/\k.cells[35]? =some (.int .i64 k.size):=by
 unfold Kd.cells;refine ⟨?_,?_⟩<;>(rw [kS (by rw [x00,h];omega),x00,h];rfl)
theorem x8p (m:MSt) (h:m.kid.sum.length=32):m.cells[34]? =some (.int .i64 m.kid.live)/\m.cells[35]? =some (.int .i64 m.kid.size):=by
 have A:=Kd.cells_length h;unfold MSt.cells;refine ⟨?_,?_⟩
 ·rw [kR (by rw [A];omega)];exact (x4G m.kid h).1
 ·rw [kR (by rw [A];omega)];exact (x4G m.kid h).2
theorem x0m (w:World) (b j:Nat) {L:List Value} {t:TypeId} {z:Nat×Nat} {v:Value} (h:w.heap[b]? =some (.cells L.toArray t z)) (hv:L[j]? =some v):w.cell? ⟨b,j,none⟩=some v:=(jH w b j _ _ _ h).trans (by simpa using hv)
structure SeW (w W:World) (B6:Nat) (cs:Obj) (h s m:Int) (W':World):Prop where
 r0:W'.heap[w.heap.size]? =some (.cells #[.int .i64 h] 3 (0,0))
 r1:W'.heap[w.heap.size+1]? =some (.cells #[.int .i64 s] 3 (0,0))
 r2:W'.heap[w.heap.size+2]? =some (.cells #[.int .i64 m] 3 (0,0))
 r6:W'.heap[B6]? =some cs
 b:Below w.heap.size w W'
 z:W.heap.size<=W'.heap.size
 k:∀j,j<W.heap.size->j≠w.heap.size->j≠w.heap.size+1->j≠w.heap.size+2->W'.heap[j]? =W.heap[j]?
 o:KeepsOthers W W'
theorem SeW.later {w W W' W'':World} {B6:Nat} {cs:Obj} {h s m:Int} (x:SeW w W B6 cs h s m W') (hb:Below W'.heap.size W' W'') (hB:w.heap.size<=W.heap.size):SeW w W B6 cs h s m W'':=by
 have A:∀ {j:Nat} {o:Obj},W'.heap[j]? =some o->W''.heap[j]? =some o:=fun {j o} e=>(hb.block j (yL e)).trans e;exact ⟨A x.r0,A x.r1,A x.r2,A x.r6,x.b.trans (hb.mono (jJ hB x.z)),jJ x.z hb.size,fun j h1 h2 h3 h4=>(hb.block j (jO h1 x.z)).trans (x.k j h1 h2 h3 h4),x.o.trans ⟨hb.size,fun _ _ e _=>A e⟩⟩
theorem SeW.put {w W W':World} {B6:Nat} {cs:Obj} {h s m:Int} (x:SeW w W B6 cs h s m W') (hB:w.heap.size+3<=B6):(∀v:Int,SeW w W B6 cs v s m (W'.setCell ⟨w.heap.size,0,none⟩ (.int .i64 v)))/\(∀v:Int,SeW w W B6 cs h v m (W'.setCell ⟨w.heap.size+1,0,none⟩ (.int .i64 v)))/\(∀v:Int,SeW w W B6 cs h s v (W'.setCell ⟨w.heap.size+2,0,none⟩ (.int .i64 v))):=by
 have A:∀(k:Nat) (v:Value) {j:Nat},j≠k->(W'.setCell ⟨k,0,none⟩ v).heap[j]? =W'.heap[j]? :=fun k v j e=>Below.heap_setCell _ _ _ _ e;have B:∀(k:Nat) (v:Value),W.heap.size<=(W'.setCell ⟨k,0,none⟩ v).heap.size:=fun k v=>by simpa using x.z
 refine ⟨fun v=>?_,fun v=>?_,fun v=>?_⟩
 ·exact ⟨jU _ _ 0 _ _ _ x.r0,(A _ _ (by omega)).trans x.r1,(A _ _ (by omega)).trans x.r2,(A _ _ (by omega)).trans x.r6,x.b.setCell (jB _) _,B _ _,fun j h1 h2 h3 h4=>(A _ _ h2).trans (x.k j h1 h2 h3 h4),x.o.trans (KeepsOthers.setCell _ _ _)⟩
 ·exact ⟨(A _ _ (by omega)).trans x.r0,jU _ _ 0 _ _ _ x.r1,(A _ _ (by omega)).trans x.r2,(A _ _ (by omega)).trans x.r6,x.b.setCell (show w.heap.size<=w.heap.size+1 by omega) _,B _ _,fun j h1 h2 h3 h4=>(A _ _ h3).trans (x.k j h1 h2 h3 h4),x.o.trans (KeepsOthers.setCell _ _ _)⟩
 ·exact ⟨(A _ _ (by omega)).trans x.r0,(A _ _ (by omega)).trans x.r1,jU _ _ 0 _ _ _ x.r2,(A _ _ (by omega)).trans x.r6,x.b.setCell (show w.heap.size<=w.heap.size+2 by omega) _,B _ _,fun j h1 h2 h3 h4=>(A _ _ h4).trans (x.k j h1 h2 h3 h4),x.o.trans (KeepsOthers.setCell _ _ _)⟩
theorem SeW.cells {w W W':World} {B6:Nat} {cs:Obj} {h s m:Int} (x:SeW w W B6 cs h s m W'):(W'.cell? ⟨w.heap.size,0,none⟩=some (.int .i64 h)/\W'.frozen? ⟨w.heap.size,0,none⟩=false)/\(W'.cell? ⟨w.heap.size+1,0,none⟩=some (.int .i64 s)/\W'.frozen? ⟨w.heap.size+1,0,none⟩=false)/\(W'.cell? ⟨w.heap.size+1+1,0,none⟩=some (.int .i64 m)/\W'.frozen? ⟨w.heap.size+1+1,0,none⟩=false):=
 ⟨⟨jH _ _ 0 _ _ _ x.r0,jS _ _ 0 _ _ x.r0⟩,⟨jH _ _ 0 _ _ _ x.r1,jS _ _ 0 _ _ x.r1⟩,jH _ _ 0 _ _ _ x.r2,jS _ _ 0 _ _ x.r2⟩
theorem y3A {fn:Func} {w2:World} {tmps:Array Value} {p q:Tmp} {g g2 D:Nat} {x y:Int} {R:Ending->World->Prop} (hr:fn.results= #[.cell p 3,.cell q 3]) (hp:tmps.getD p undef= .pointer (some ⟨g,0,none⟩)) (hq:tmps.getD q undef= .pointer (some ⟨g2,0,none⟩)) (hx:w2.cell? ⟨g,0,none⟩=some (.int .i64 x)) (hy:w2.cell? ⟨g2,0,none⟩=some (.int .i64 y)) (hK:w2.heap[D]? =some (.deferred (some []))) (h:R (.returned (.tuple #[.int .i64 x,.int .i64 y])) (w2.putObj D (.deferred none))):bodyPostM Fence.wide 5 Tryz.prog fn R .ret ⟨tmps,[{target:=.collected D,args:= #[]}]⟩ w2:=by
 refine ⟨by simp,.inl ⟨_,_,rfl,run_takeDeferred hK,?_⟩⟩;refine ⟨.tuple #[.int .i64 x,.int .i64 y],?_,h⟩;have E:tmps[p]?.getD undef= .pointer (some ⟨g,0,none⟩):=by simpa using hp
 have C:tmps[q]?.getD undef= .pointer (some ⟨g2,0,none⟩):=by simpa using hq
 have A:=cell_kept hx (grownBy_putObj' _ D (.deferred none)) (fun r e=>by cases e;exact ⟨_,hK,rfl⟩);have B:=cell_kept hy (grownBy_putObj' _ D (.deferred none)) (fun r e=>by cases e;exact ⟨_,hK,rfl⟩);simp [results,hr,go_sem,E,C,A,B]
theorem y1V {B bw:Nat} {w:World} {q:Option Addr} {c:Nat} {A:List MSt} {L:List St} (h:WaySt B bw w (.slice q A.length c) A) (hl:Links A L) (hA:A.length<=1000) (hz:∀m∈A,SzM m) (hL:SetOk L):
  Calls Tryz.prog 70 #[.slice q A.length c] w fun e w'=>e= .returned (.tuple #[.int .i64 (x0D 0 L).1,.int .i64 (x0D 0 L).2.1])/\Below w.heap.size w w':=by
 obtain ⟨n,hn⟩:∃n,n=A.length:=⟨_,rfl⟩
 have HN:=yH hn;have AK:=fun w'=>y0Y (.slice q n c) rfl w';have Am:=yH (x54 hl hL A.length (jB _));have HB:=yH (x9W hz);have HZ:=yH hz;have HA:=yH hA;have Al:=yH h.way;obtain ⟨g,AU,hg,AX⟩:∃g,g<w.heap.size+1/\(A≠[]->q=some ⟨g,0,none⟩/\A.length<=c/\∀i,i<A.length->w.rangeAt g (i*41) (A.getD i default).cells)/\(A≠[]->g<w.heap.size):=by
  by_cases h0:A=[]
  ·exact ⟨0,by omega,fun e=>absurd h0 e,fun e=>absurd h0 e⟩
  ·obtain ⟨g,O,h2,h3⟩:=x4F h h0;have hp:=kP.2 h0;have h5:=MSt.cells_length (h.way.each _ (kM hp)).kid.len;have h4:=jI (h3 0 hp 0 _ (jM (by rw [jG,jM hp];show 0<(A[0]).cells.length;rw [h5];decide)));exact ⟨g,by simp only at h4;omega,fun _=>⟨O,h2,h3⟩,fun _=>h4⟩
 have Ak:=yH AX;have HGZ:=yH AU;have HG:=yH hg;have AZ:=yH (show ∀m∈A,m.cells.length=41 from fun m hm=>MSt.cells_length (h.way.each m hm).kid.len);have Ao:=yH (zero_of_info spz);have B0:=Ao.1;rw [<- hn];clear hn hl hL hz hA h hg AU AX;refine callsIn_wide.1 (callsIn_of_wp_marks (n:=5) Tryz.func70 rfl trivial ?_ rfl);simp only [Tryz.ntmps70,jF,kI,List.length_nil,Nat.reduceAdd,Nat.reduceSub,Array.replicate_succ,Array.replicate_zero,List.push_toArray,List.append_toArray,kV,List.cons_append];refine wpIn_wide.2 ?_;go_wp2_with (go_at_call 132;refine (AK _).mono ?_;rintro _ w4 ⟨rfl,AW⟩;have AV:=yH AW;clear AW)
 have HX4:=yH (show SeI w A [] w4/\w4.heap[w.heap.size+3]? =some (.cells #[.slice q n c] 109 (0,0))/\w4.heap.size=w.heap.size+4 from by
  obtain ⟨W,hW,k0,k1,k2,b3⟩:=x27 w (.cells #[.int .i64 n] 3) (.cells #[.int .i64 0] 3) (.cells #[.int .i64 0] 3);have Ar:W.heap.size=w.heap.size+3:=by rw [<- hW];simp
  have h4:=AV.out;rw [hW] at h4;have b4:=jA W (.cells #[.slice q n c] 109);have h5:=jE W (.cells #[.slice q n c] 109);rw [Ar] at h5;rw [h4];refine ⟨⟨?_,?_,?_,b3.trans (b4.mono b3.size),by simp;omega⟩,h5,by simp;omega⟩
  ·rw [b4.block _ (by omega),k0,HN.out];rfl
  ·rw [b4.block _ (by omega),k1];rfl
  ·rw [b4.block _ (by omega),k2];rfl)
 have Ap:=jH w4 (w.heap.size+3) 0 _ _ _ HX4.2.1;clear AV;refine (wpIn_wide (n:=5)).1 ?_;refine wpIn_rangeFunc_ownH rfl (by omega) (gf:=194) (lb:= #[.pointer (some ⟨w.heap.size+1+1+1,0,none⟩)]) (by rfl) trivial (enters_of Tryz.func194 (by kernel_rfl) rfl)
  (x79 4 (w.heap.size+3) g c q A (by have:=HA.out;omega) (fun h=>⟨(HG.out h).1,(HG.out h).2.1⟩) AZ w4 (by rw [<- HN.out];exact Ap) (fun i hi=>x01 ((HG.out (fun e=>by rw [e] at hi;cases hi)).2.2 i hi) HX4.1.2.2.2.1)) (fun h k=>⟨k.1.trans h.1,k.2.trans h.2⟩) ?kb (jC _ _) (fun _=>rfl)
  (SeI w A) (fun _ _ _=>False) (y39 w A (by rw [HX4.2.2];omega)) (fun _ _ _ _ _ h=>False.elim h) HX4.1
  (SeX w (.slice q n c) A) (y6d _ _ _ _) ?assign ?body ?done (fun _ _ _ _ _ _ h=>False.elim h)
 case kb=>exact fun W l o o' hl _ _ _=>⟨World.putObj_heap_other (by have:=HX4.2.2;omega),World.putObj_heap_other (by have:=HX4.2.2;have:=HGZ.out;omega)⟩
 case assign=>
  intro l pre x W K hI M;have Ae:=yH M;have HI:=yH hI;have Z:A≠[]\/A=[]:=(Decidable.em (A=[])).symm;have AL:=yH (show (x0Q A x).cells.length=41/\∀u∈(x0Q A x).cells,u.oneCell'=true from ⟨by
   rcases Z with h | h
   ·exact AZ.out _ (x2Z h x)
   ·rw [h];rfl,MSt.one⟩)
  have RZ:=yH (jE W (.cells sp0.toArray 117));have Ai:=yH (x03 W sp0.toArray (x0Q A x).cells.toArray 117);have R5:=yH (jE W (.cells (x0Q A x).cells.toArray 117));have K5:=yH (show KeepsFrom w4.heap.size W (W.alloc (.cells (x0Q A x).cells.toArray 117)) from (KeepsOthers.alloc W _).from _);have I5:=yH (y39 w A (B:=w4.heap.size) (by rw [HX4.2.2];omega) pre W _ none HI (World.grownBy_alloc W (.cells (x0Q A x).cells.toArray 117) none) (fun r e=>by cases e));have AR:w.heap.size+4<=W.heap.size:=hI.2.2.2.2;have An:=yH AR;have P5:=yH (show KpB (w.heap.size+3) g W (W.alloc (.cells (x0Q A x).cells.toArray 117)) from ⟨Below.heap_alloc _ _ _ (by omega),Below.heap_alloc _ _ _ (by have:=HGZ.out;omega)⟩);clear hI M AR Z;unfold encB;generalize hcs:(x0Q A x).cells=cs at *;have AS:=yH hcs;clear hcs;simp only [List.zip_toArray,List.zip_cons_cons,List.zip_nil_left,jF,kI,List.length_nil]
  gi_upto_region 5 with fail
  refine x0j (by rfl) ?_;go_wp2_with (refine jL (by rfl) 117 _ _ (by rfl) W.heap.size cs.toArray (by rfl) (by rfl) _ _ RZ (by rw [jF,AL.1];exact SSp) (by simp only [jF,AL.1];rfl) (jN AL.2) ?_;rw [Ai.out])
  refine x18 ?_;exact Ae.out _ _ K5 P5 I5 ⟨_,An.out,by rw [HN.out,AS.out],by rw [AS.out];exact R5.out⟩
 case body=>
  rintro l pre x a' W hl - ⟨r0,r1,r2,A1,v⟩ ⟨t,Az,rfl,r6⟩ AD;have Z:A≠[]:=fun e=>by rw [e] at AD;cases AD
  have AT:=HB.out Z pre;have AM:=x4j A pre x;have AB:=HZ.out _ (x2Z Z x);have I:=(Al.each _ (x2Z Z x)).later A1;have hA:=HA.out;have A5:=yH v;rw [<- HN.out];rw [<- HN.out] at AM;generalize hcs:(x0Q A x).cells.toArray=cs at r6 ⊢;generalize x0Q A x=m at *;generalize hF:foldM A pre=F at *;obtain ⟨hv,sz,C⟩:=F;have AI:=yH AM;have BA: -4194304000<=C/\C<=4194304000:=by simp only at AT;omega
  have A3:=yH (show SeW w W t (.cells cs 117 (0,0)) hv sz C W from ⟨r0,r1,r2,r6,A1,jB _,fun _ _ _ _ _=>rfl,KeepsOthers.refl _⟩);obtain ⟨⟨a,j⟩,⟨s,f⟩,d,f2⟩:=A3.cells;have AJ:W.heap[t]? =some (.cells m.cells.toArray 117 (0,0)):=by rw [r6,<- hcs]
  have J:=x0m W t 39 AJ (x3o m I.kid.len).2.2.1;have A8:=x0m W t 40 AJ (x3o m I.kid.len).2.2.2;have N:=yH (show ∀(w':World),w'.heap[t]? =some (.cells cs 117 (0,0))->w'.cell? ⟨t,34,none⟩=some (.int .i64 m.kid.live)/\w'.cell? ⟨t,35,none⟩=some (.int .i64 m.kid.size) from fun w' h6=>by
   rw [<- hcs] at h6;exact ⟨x0m w' t 34 h6 (x8p m I.kid.len).1,x0m w' t 35 h6 (x8p m I.kid.len).2⟩)
  have s1:W.cell? ⟨m.gk,35,none⟩=some (.int .i64 m.k1.size):=by have:=I.kid1 35 _ (x4G m.k1 I.k1.len).2;simpa using this
  have s2:W.cell? ⟨m.gk,72,none⟩=some (.int .i64 m.k2.size):=by have:=I.kid2 35 _ (x4G m.k2 I.k2.len).2;simpa using this
  have B3:=I.caps.2;have Aj:=AB.on;have B9:=AB.live;have BD:=AB.size;have H:=yH (show w.heap.size+3<=t by omega);have q1:IntKind.i64.wrap (m.on+C)=m.on+C:=IntWalk.i64_in _ (by omega);have q2:IntKind.i64.wrap (m.on+C+m.off)=m.on+C+m.off:=IntWalk.i64_in _ (by omega);have q3:IntKind.i64.wrap (m.on+C+m.off+1)=m.on+C+m.off+1:=IntWalk.i64_in _ (by omega);have q4:IntKind.i64.wrap ((m.on+C+m.off+1)*2)=(m.on+C+m.off+1)*2:=IntWalk.i64_in _ (by omega);have hq: -9000000000<=((m.on+C+m.off+1)*2).tdiv 3/\((m.on+C+m.off+1)*2).tdiv 3<=9000000000:=tdiv3 (by omega) (by omega);have q5:IntKind.i64.wrap (((m.on+C+m.off+1)*2).tdiv 3)=((m.on+C+m.off+1)*2).tdiv 3:=IntWalk.i64_in _ (by omega);have q6:IntKind.i64.wrap (((m.on+C+m.off+1)*2).tdiv 3+1)=((m.on+C+m.off+1)*2).tdiv 3+1:=IntWalk.i64_in _ (by omega);have q7:IntKind.i64.wrap (m.on+C+m.off+1 - m.kid.size)=m.on+C+m.off+1 - m.kid.size:=IntWalk.i64_in _ (by omega);have q8:IntKind.i64.wrap (m.kid.live+1)=m.kid.live+1:=IntWalk.i64_in _ (by omega);have q9:IntKind.i64.wrap (m.kid.live+1 - m.kid.size)=m.kid.live+1 - m.kid.size:=IntWalk.i64_in _ (by omega);have A4:=yH (show ∀(W':World) (st:Int×Int×Int),foldM A (pre++[x])=st->SeW w W t (.cells cs 117 (0,0)) st.1 st.2.1 st.2.2 W'->KeepsFrom w4.heap.size W W'/\KpB (w.heap.size+3) g W W'/\SeI w A (pre++[x]) W' from fun W' st A2 hx=>by
   have O:=HGZ.out;have h2:g≠w.heap.size:=by have:=Ak.out Z;omega
   refine ⟨hx.o.from _,⟨hx.k _ (by omega) (by omega) (by omega) (by omega),hx.k _ (by omega) h2 (by omega) (by omega)⟩,?_⟩;unfold SeI;rw [A2];exact ⟨hx.r0,hx.r1,hx.r2,hx.b,jJ v hx.z⟩)
  clear I AB A1 hF r0 r1 r2 r6 AJ hcs AM AT Aj v;have w1:IntKind.i64.wrap 1=1:=IntWalk.i64_in _ (by omega);have w0:IntKind.i64.wrap 0=0:=IntWalk.i64_in _ (by omega);cases hside:m.side
  focus
   have E:W.cell? ⟨t,40,none⟩=some (.int .i64 0):=by rw [A8];unfold MSt.sideN;rw [hside];rfl
   have R:W.cell? ⟨m.gk,35,none⟩=some (.int .i64 m.on):=by rw [s1];unfold MSt.on;rw [hside];rfl
   have G:W.cell? ⟨m.gk,72,none⟩=some (.int .i64 m.off):=by rw [s2];unfold MSt.off;rw [hside];rfl
   clear A8 s1 s2 hside
   gi_upto_region 6 with fail
   refine x2s (S:=fun w'=>Below W.heap.size W w') (by kernel_rfl) (by rfl) ((jC _ _).drew) (fun hH=>?_);generalize W.drew=x0 at *;refine tK 0 ?_;refine tK 1 ?_;refine tQ 2 ?_ ?_ ?_;rotate_left
   ·intro w' hSw;have y:=(hSw.cell (jI J)).trans J;go_simp;try with_reducible rfl
   refine tK 3 ?_;refine tQ 4 ?_ ?_ ?_;rotate_left
   ·intro w' hSw;have y:=(hSw.cell (jI E)).trans E;go_simp;try with_reducible rfl
   refine tK 5 ?_;refine tK 6 ?_;refine tQ 7 ?_ ?_ ?_;rotate_left
   ·intro w' hSw;have y:=(hSw.cell (jI R)).trans R;go_simp;try with_reducible rfl
   refine tQ 8 ?_ ?_ ?_;rotate_left
   ·intro w' hSw;have y:=(hSw.cell (jI d)).trans d;go_simp;try with_reducible rfl
   refine tK 9 ?_;refine tK 10 ?_;refine tK 11 ?_;refine tQ 12 ?_ ?_ ?_;rotate_left
   ·intro w' hSw;have y:=(hSw.cell (jI J)).trans J;go_simp;try with_reducible rfl
   refine tK 13 ?_;refine tQ 14 ?_ ?_ ?_;rotate_left
   ·intro w' hSw;have y:=(hSw.cell (jI E)).trans E;go_simp;try with_reducible rfl
   refine tK 15 ?_;refine tK 16 ?_;refine tK 17 ?_;refine tQ 18 ?_ ?_ ?_;rotate_left
   ·intro w' hSw;have y:=(hSw.cell (jI G)).trans G;go_simp;try with_reducible rfl
   refine tK 19 ?_;refine tK 20 ?_;refine jD ?_;refine x18 ?_;have U:=yH (A3.later hH (by have:=A5.out;omega));clear hH a j s f d f2 E R G J;obtain ⟨⟨a,j⟩,⟨s,f⟩,d,f2⟩:=U.cells;obtain ⟨Q,Y⟩:=N.out _ U.r6
   gi_upto_region 8 with fail
   have P:=yH ((U.put H).2.1 (m.on+C+m.off+1));clear a j s f d f2 Q Y;generalize x0.setCell ⟨w.heap.size+1,0,none⟩ (.int .i64 (m.on+C+m.off+1))=x1 at *;obtain ⟨⟨a,j⟩,⟨s,f⟩,d,f2⟩:=P.cells;obtain ⟨Q,Y⟩:=N.out _ P.r6;by_cases hC:((m.on+C+m.off+1)*2).tdiv 3+1<max (m.on+C) m.off
   focus
    have AO:max (m.on+C) m.off>((m.on+C+m.off+1)*2).tdiv 3+1:=hC
   rotate_left
   ·
    have AO:¬max (m.on+C) m.off>((m.on+C+m.off+1)*2).tdiv 3+1:=hC;have HC:=yH hC
    gi_wp2
    have O:=AI.out;unfold stpM at O;simp only at O;rw [if_neg (Int.not_lt.2 HC)] at O;exact A4.out _ _ O ((P.put H).2.2 _)
  rotate_left
  focus
   have E:W.cell? ⟨t,40,none⟩=some (.int .i64 1):=by rw [A8];unfold MSt.sideN;rw [hside];rfl
   have R:W.cell? ⟨m.gk,72,none⟩=some (.int .i64 m.on):=by rw [s2];unfold MSt.on;rw [hside];rfl
   have G:W.cell? ⟨m.gk,35,none⟩=some (.int .i64 m.off):=by rw [s1];unfold MSt.off;rw [hside];rfl
   clear A8 s1 s2 hside
   gi_upto_region 6 with fail
   refine x2s (S:=fun w'=>Below W.heap.size W w') (by kernel_rfl) (by rfl) ((jC _ _).drew) (fun hH=>?_);generalize W.drew=x0 at *;refine tK 0 ?_;refine tK 1 ?_;refine tQ 2 ?_ ?_ ?_;rotate_left
   ·intro w' hSw;have y:=(hSw.cell (jI J)).trans J;go_simp;try with_reducible rfl
   refine tK 3 ?_;refine tQ 4 ?_ ?_ ?_;rotate_left
   ·intro w' hSw;have y:=(hSw.cell (jI E)).trans E;go_simp;try with_reducible rfl
   refine tK 5 ?_;refine tK 6 ?_;refine tQ 7 ?_ ?_ ?_;rotate_left
   ·intro w' hSw;have y:=(hSw.cell (jI R)).trans R;go_simp;try with_reducible rfl
   refine tQ 8 ?_ ?_ ?_;rotate_left
   ·intro w' hSw;have y:=(hSw.cell (jI d)).trans d;go_simp;try with_reducible rfl
   refine tK 9 ?_;refine tK 10 ?_;refine tK 11 ?_;refine tQ 12 ?_ ?_ ?_;rotate_left
   ·intro w' hSw;have y:=(hSw.cell (jI J)).trans J;go_simp;try with_reducible rfl
   refine tK 13 ?_;refine tQ 14 ?_ ?_ ?_;rotate_left
   ·intro w' hSw;have y:=(hSw.cell (jI E)).trans E;go_simp;try with_reducible rfl
   refine tK 15 ?_;refine tK 16 ?_;refine tK 17 ?_;refine tQ 18 ?_ ?_ ?_;rotate_left
   ·intro w' hSw;have y:=(hSw.cell (jI G)).trans G;go_simp;try with_reducible rfl
   refine tK 19 ?_;refine tK 20 ?_;refine jD ?_;refine x18 ?_;have U:=yH (A3.later hH (by have:=A5.out;omega));clear hH a j s f d f2 E R G J;obtain ⟨⟨a,j⟩,⟨s,f⟩,d,f2⟩:=U.cells;obtain ⟨Q,Y⟩:=N.out _ U.r6
   gi_upto_region 8 with fail
   have P:=yH ((U.put H).2.1 (m.on+C+m.off+1));clear a j s f d f2 Q Y;generalize x0.setCell ⟨w.heap.size+1,0,none⟩ (.int .i64 (m.on+C+m.off+1))=x1 at *;obtain ⟨⟨a,j⟩,⟨s,f⟩,d,f2⟩:=P.cells;obtain ⟨Q,Y⟩:=N.out _ P.r6;by_cases hC:((m.on+C+m.off+1)*2).tdiv 3+1<max (m.on+C) m.off
   focus
    have AO:max (m.on+C) m.off>((m.on+C+m.off+1)*2).tdiv 3+1:=hC
   rotate_left
   ·
    have AO:¬max (m.on+C) m.off>((m.on+C+m.off+1)*2).tdiv 3+1:=hC;have HC:=yH hC
    gi_wp2
    have O:=AI.out;unfold stpM at O;simp only at O;rw [if_neg (Int.not_lt.2 HC)] at O;exact A4.out _ _ O ((P.put H).2.2 _)
  rotate_left;all_goals
   have HC:=yH hC
   gi_upto_region 9 with fail
   have A0:=yH (P.later (W'':=x1.drew) ((jC _ _).drew) (by have:=A5.out;omega));clear a j s f d f2 Q Y;refine x2s (S:=fun w'=>w'.cell? ⟨t,34,none⟩=some (.int .i64 m.kid.live)) (by kernel_rfl) (by rfl) ((N.out _ A0.r6).1) (fun hH=>?_);generalize x1.drew=x3 at *;refine tK 0 ?_;refine tK 1 ?_;refine tK 2 ?_;refine tQ 3 ?_ ?_ ?_;rotate_left
   ·intro w' hSw;have y:=hSw;go_simp;try with_reducible rfl
   refine tK 4 ?_;refine rO 5 fun K M=>?_;obtain ⟨⟨a,j⟩,-⟩:=A0.cells;go_simp;refine M.out _ _ (N.out _ ((A0.put H).1 ((n:Int) - 1 - x)).r6).1 (fun hH=>?_);clear M K;try simp only [Act.put,yA,yB,yC]
   refine rO 6 fun K M=>?_;obtain ⟨-,⟨s,f⟩,-⟩:=((A0.put H).1 ((n:Int) - 1 - x)).cells;go_simp;refine M.out _ _ (N.out _ ((((A0.put H).1 ((n:Int) - 1 - x)).put H.out).2.1 (m.kid.live+1)).r6).1 (fun hH=>?_);clear M K;try simp only [Act.put,yA,yB,yC]
   refine jD ?_;refine x18 ?_;clear hH;have AN:=yH ((((A0.put H).1 ((n:Int) - 1 - x)).put H.out).2.1 (m.kid.live+1));generalize (x3.setCell ⟨w.heap.size,0,none⟩ (.int .i64 ((n:Int) - 1 - x))).setCell ⟨w.heap.size+1,0,none⟩ (.int .i64 (m.kid.live+1))=x5 at *;obtain ⟨⟨a,j⟩,⟨s,f⟩,d,f2⟩:=AN.cells;obtain ⟨Q,Y⟩:=N.out _ AN.r6
   gi_wp2
   have O:=AI.out;unfold stpM at O;simp only at O;rw [if_pos HC.out] at O;exact A4.out _ _ O ((AN.put H).2.2 _)
 case done=>
  rintro D xs W hD rfl ⟨r0,r1,r2,A1,v⟩ M;have A2:=Am.out;rw [Nat.sub_self,List.drop_zero] at A2;rw [A2] at r0 r1 r2;generalize hX:x0D 0 L=X at r0 r1 r2;obtain ⟨x,y,z⟩:=X;have Ag:=yH hX;clear hX;simp only at r0 r1 r2;have AC:=yH (show w.heap.size+3<=D by have:=HX4.2.2;omega);have A3:=yH (show SeW w W D (.deferred (some [])) x y z W from ⟨r0,r1,r2,M,A1,jB _,fun _ _ _ _ _=>rfl,KeepsOthers.refl _⟩);have A5:=yH v;clear A2 M A1 r0 r1 r2 v;go_upto_region 11 with fail
  refine y1H (S:=fun w'=>SeW w W D (.deferred (some [])) x y z w') (by kernel_rfl) (A3.later (W'':=W.drew) ((jC _ _).drew) (by have:=A5.out;omega)) (fun hH=>?_);have AA:=yH hH;generalize W.drew=x0 at *;refine tQ 0 ?_ ?_ ?_;rotate_left
  ·intro w' hSw;obtain ⟨⟨a,j⟩,⟨s,f⟩,-⟩:=hSw.cells;go_simp;try with_reducible rfl
  refine tQ 1 ?_ ?_ ?_;rotate_left
  ·intro w' hSw;obtain ⟨⟨a,j⟩,⟨s,f⟩,-⟩:=hSw.cells;go_simp;try with_reducible rfl
  refine rO 2 fun K M=>?_;obtain ⟨⟨a,j⟩,-⟩:=AA.cells;go_simp;refine M.out _ _ ((AA.put AC).1 (x:Int)) (fun hH=>?_);clear M K;try simp only [Act.put,yA,yB,yC]
  refine rO 3 fun K M=>?_;obtain ⟨-,⟨s,f⟩,-⟩:=((AA.put AC).1 (x:Int)).cells;go_simp;refine M.out _ _ ((((AA.put AC).1 (x:Int)).put AC.out).2.1 y) (fun hH=>?_);clear M K;try simp only [Act.put,yA,yB,yC]
  refine jD ?_;have A6:=yH hH;clear hH;generalize (x0.setCell ⟨w.heap.size,0,none⟩ (.int .i64 ((x:Nat):Int))).setCell ⟨w.heap.size+1,0,none⟩ (.int .i64 y)=x2 at *;refine x18 ?_;go_wp2_with fail
  exact y3A (p:=2) (q:=3) (by kernel_rfl) rfl rfl A6.cells.1.1 A6.cells.2.1.1 A6.r6 ⟨by rw [Ag.out],A6.b.grown (grownBy_putObj' x2 D (.deferred none)) A6.b.size (fun k e=>by cases e;have:=HX4.2.2;omega)⟩
end Kt
namespace Kt
open Go.RowKit Go.Shelf Nd Dk Pg
def forkM (m:MSt) (a:PK):PN:=if m.side then forkN m.row.R m.live m.k1.pk a else forkN m.row.R m.live a m.k2.pk
def rzM (A:List MSt) (st:PK×Pg.S) (j:Nat):PK×Pg.S:=((forkM (x0Q A j) st.1).says,st.2.put (forkM (x0Q A j) st.1).bytes)
def foldR (A:List MSt) (k:PK) (s:Pg.S) (pre:List Nat):PK×Pg.S:=pre.foldl (rzM A) (k,s)
theorem x4k (A:List MSt) (k:PK) (s:Pg.S) (pre:List Nat) (x:Nat):foldR A k s (pre++[x])=rzM A (foldR A k s pre) x:=by
 unfold foldR;rw [List.foldl_append];rfl
def x16:List St->V->List (List Nat)
 |[],_=>[]
 | s::L,k=>x16 L k++[(if s.side then forkN s.row s.live s.l.kid (x0V L k).kid else forkN s.row s.live (x0V L k).kid s.r.kid).bytes]
theorem y3B (s:St) (L:List St) (k:V):(x0V (s::L) k).kid=(if s.side then forkN s.row s.live s.l.kid (x0V L k).kid else forkN s.row s.live (x0V L k).kid s.r.kid).says:=by
 rw [x0V];split<;>rfl
theorem x2b {A:List MSt} {L:List St} (hl:Links A L) (k:V) (s:Pg.S):∀j,j<=A.length->foldR A k.kid s (List.range j)=((x0V (L.drop (A.length - j)) k).kid,puts s (x16 (L.drop (A.length - j)) k))
 | 0,_=>by
  rw [Nat.sub_zero,hl.length,List.drop_length]
  rfl
 | j+1,hj=>by
  rw [List.range_succ,x4k,x2b hl k s j (by omega)]
  have hlen:=hl.length
  have hi:A.length - (j+1)<L.length:=by omega
  have E:L.drop (A.length - (j+1))=L[A.length - (j+1)]::L.drop (A.length - j):=by
   rw [List.drop_eq_getElem_cons hi]
   congr 2
   omega
  obtain ⟨m,H,B⟩:=hl.get _ _ (jM hi);have G:x0Q A j=m:=by
   unfold x0Q;rw [show A.length - 1 - j=A.length - (j+1) from by omega,jG,H];rfl
  rw [E];generalize L[A.length - (j+1)]=x at *;have C:forkM m (x0V (L.drop (A.length - j)) k).kid=if x.side then forkN x.row x.live x.l.kid (x0V (L.drop (A.length - j)) k).kid else forkN x.row x.live (x0V (L.drop (A.length - j)) k).kid x.r.kid:=by
   unfold forkM;rw [B.side,B.row,B.live,B.l,B.r]
  unfold rzM;rw [G,C,y3B,x16,x13];rfl
structure GoodK (d:Nat) (a:PK):Prop where
 right:a.right d=true
 key:a.key=[]
 zero:0<=a.size
structure GoodM (d:Nat) (Z:Nat) (m:MSt):Prop where
 row:m.row.R.length=d
 k1:GoodK d m.k1.pk
 k2:GoodK d m.k2.pk
 z1:m.k1.pk.size<=Z
 z2:m.k2.pk.size<=Z
theorem x7A {d Z:Nat} {m:MSt} {a:PK} (hd:1<=d/\d<=8) (h:GoodM d Z m) (ha:GoodK d a) (hz:a.size+Z+1<=1048576):((forkM m a).right d=true/\(forkM m a).size<=1048576)/\GoodK d (forkM m a).says/\(forkM m a).says.size<=a.size+Z+1:=by
 have B:=h.z1;have E:=h.z2;have I:=h.k1.zero;have H:=h.k2.zero;have G:=ha.zero;have A:∀n:PN,n.right d=true->1<=n.size->n.size<=a.size+Z+1->n.says.key=[]->(n.right d=true/\n.size<=1048576)/\GoodK d n.says/\n.says.size<=a.size+Z+1:=fun n hr B hs hk=>⟨⟨hr,by omega⟩,⟨x2M hr B (by omega),hk,by show 0<=n.size;omega⟩,hs⟩
 unfold forkM;split
 ·have C:=x0U m.row.R m.live m.k1.pk a;exact A _ (x1b hd h.row h.k1.right ha.right h.k1.key ha.key) (by omega) (by omega) rfl
 ·have C:=x0U m.row.R m.live a m.k2.pk;exact A _ (x1b hd h.row ha.right h.k2.right ha.key h.k2.key) (by omega) (by omega) rfl
theorem y1W {d Z:Nat} {A:List MSt} (hd:1<=d/\d<=8) (h0:A≠[]) (h:∀m∈A,GoodM d Z m) {k:PK} {s:Pg.S} (hk:GoodK d k) (hz:k.size+(A.length*(Z+1):Nat)<=1048576) (pre:List Nat) (hp:pre.length<=A.length):GoodK d (foldR A k s pre).1/\(foldR A k s pre).1.size<=k.size+(pre.length*(Z+1):Nat)/\(foldR A k s pre).2.W.length<=s.W.length+pre.length:=by
 obtain ⟨r,C⟩:∃r,r=pre.reverse:=⟨_,rfl⟩
 have:pre=r.reverse:=by rw [C,List.reverse_reverse]
 subst this;clear C
 induction r with
 | nil=>exact ⟨hk,by simp [foldR],jB _⟩
 | cons x r ih=>
  rw [List.reverse_cons,jQ,List.length_singleton] at hp;obtain ⟨E,H,I⟩:=ih (by omega);rw [List.reverse_cons,x4k,jQ,List.length_singleton];have B:(r.reverse.length+1)*(Z+1)<=A.length*(Z+1):=Nat.mul_le_mul_right _ hp;rw [Nat.add_mul,Nat.one_mul] at B ⊢;obtain ⟨_,G,J⟩:=x7A (a:=(foldR A k s r.reverse).1) hd (h _ (x2Z h0 x)) E (by omega);refine ⟨G,?_,?_⟩
  ·show (forkM (x0Q A x) (foldR A k s r.reverse).1).says.size<=_
   omega
  ·have:=x1l [(forkM (x0Q A x) (foldR A k s r.reverse).1).bytes] (foldR A k s r.reverse).2;have e:puts (foldR A k s r.reverse).2 [(forkM (x0Q A x) (foldR A k s r.reverse).1).bytes]=(rzM A (foldR A k s r.reverse) x).2:=rfl;rw [e] at this;simp only [List.length_singleton] at this;omega
structure StM (w:World) (m:MSt):Prop where
 ent:w.rangeAt m.ge 0 [m.row.val,.bool m.live]
 row:m.row.Ok w
 k1:m.side=true->w.rangeAt m.gk 0 m.k1.cells/\m.k1.Ok w
 k2:m.side=false->w.rangeAt m.gk 37 m.k2.cells/\m.k2.Ok w
 kidT:w.there m.gk 0 74
theorem MSt.Ok.stM {w:World} {m:MSt} (h:m.Ok w):StM w m:=⟨h.ent,h.row,fun _=>⟨h.kid1,h.k1⟩,fun _=>⟨h.kid2,h.k2⟩,h.kidT⟩
theorem StM.keep {w w':World} {m:MSt} (h:StM w m) (hk:∀k,m.reads k->w'.heap[k]? =w.heap[k]?):StM w' m:=by
 have C:=hk m.ge (Or.inl rfl);have A:=hk m.gk (Or.inr (Or.inl rfl));have B:∀r∈m.rows,∀x,r.p=some x->r.R≠[]->w'.heap[x.block]? =w.heap[x.block]? :=fun r B x hx hR=>hk _ (Or.inr (Or.inr ⟨r,B,x,hx,hR,rfl⟩));exact ⟨x0b h.ent C,Nd.rw_keep h.row (B _ (by simp [MSt.rows])),fun e=>⟨x0b (h.k1 e).1 A,x1L (h.k1 e).2 fun r h1=>B r (by simp [MSt.rows,h1])⟩,fun e=>⟨x0b (h.k2 e).1 A,x1L (h.k2 e).2 fun r h1=>B r (by simp [MSt.rows,h1])⟩,x3M h.kidT A⟩
def MSt.at' (m:MSt):Nat:=if m.side then 37 else 0
theorem StM.put {w:World} {m:MSt} (h:StM w m) (hl:m.k1.sum.length=32/\m.k2.sum.length=32) (ha:∀r∈m.rows,∀x,r.p=some x->r.R≠[]->x.block≠m.ge/\x.block≠m.gk) (hne:m.ge≠m.gk) {cs:List Value} (hc:cs.length=37):StM (w.setCells m.gk m.at' cs) m:=by
 have C:=x1P w m.gk m.at' cs;have E:∀k,k<w.heap.size->k≠m.gk->(w.setCells m.gk m.at' cs).heap[k]? =w.heap[k]? :=fun k h1 h2=>C.block k h1 h2;have A:∀r∈m.rows,r.Ok w->r.Ok (w.setCells m.gk m.at' cs):=fun r hr hok=>Nd.rw_keep hok (fun x hx hR=>E _ (rw_lt hok x hx hR) (ha r hr x hx hR).2);have B:∀k:Kd,k.Ok w->(∀r∈k.rows,r∈m.rows)->k.Ok (w.setCells m.gk m.at' cs):=fun k hok hs=>⟨hok.len,hok.ok,A _ (hs _ (by simp [Kd.rows])) hok.lo,A _ (hs _ (by simp [Kd.rows])) hok.hi,A _ (hs _ (by simp [Kd.rows])) hok.key,hok.live,hok.size⟩
 refine ⟨?_,A _ (by simp [MSt.rows]) h.row,fun e=>⟨?_,B _ (h.k1 e).2 (fun r h1=>by simp [MSt.rows,h1])⟩,fun e=>⟨?_,B _ (h.k2 e).2 (fun r h1=>by simp [MSt.rows,h1])⟩,World.there_setCells h.kidT _ _ _⟩
 ·exact World.rangeAt_setCells_apart h.ent _ _ _ (Or.inl hne)
 ·refine World.rangeAt_setCells_apart (h.k1 e).1 _ _ _ (Or.inr (Or.inl ?_));rw [Kd.cells_length hl.1];unfold MSt.at';rw [if_pos e];omega
 ·refine World.rangeAt_setCells_apart (h.k2 e).1 _ _ _ (Or.inr (Or.inr ?_));rw [hc];unfold MSt.at';rw [e];decide
theorem StM.node {w:World} {m:MSt} {kk:Kd} (h:StM w m) (hc:m.ce>=1/\m.ck>=2) (hr:w.rangeAt m.gk m.at' kk.cells) (hk:kk.Ok w):∃E K,EntsIn w (some ⟨m.ge,0,none⟩) 1 m.ce E/\KidsIn w (some ⟨m.gk,0,none⟩) 2 m.ck K/\pnOf 1 E K=forkM m kk.pk:=by
 have C:EntsIn w (some ⟨m.ge,0,none⟩) 1 m.ce [⟨m.row,m.live⟩]:=by
  refine ⟨rfl,hc.1,by decide,fun e he=>by rw [kZ.1 he];exact h.row,Or.inr ⟨m.ge,0,rfl,fun i B=>?_⟩⟩;obtain rfl:i=0:=by simp at B;exact B
  exact ⟨h.ent 0 _ rfl,h.ent 1 _ rfl⟩
 have G:∀a b:Kd,w.rangeAt m.gk 0 a.cells->a.Ok w->w.rangeAt m.gk 37 b.cells->b.Ok w->KidsIn w (some ⟨m.gk,0,none⟩) 2 m.ck [a,b]:=fun a b ra oa rb ob=>by
  refine ⟨rfl,hc.2,by decide,fun e he=>?_,Or.inr ⟨m.gk,0,rfl,fun i B=>?_⟩⟩
  ·simp only [jW,jV,or_false] at he;rcases he with rfl | rfl
   ·exact oa
   ·exact ob
  ·have B:i<2:=B;rcases i with _ | _ | i
   ·exact ra
   ·exact rb
   ·omega
 cases hs:m.side with
 | true=>
  have A:w.rangeAt m.gk 37 kk.cells:=by unfold MSt.at' at hr;rw [hs] at hr;exact hr
  exact ⟨_,_,C,G _ _ (h.k1 hs).1 (h.k1 hs).2 A hk,by unfold forkM;rw [hs];rfl⟩
 | false=>
  have A:w.rangeAt m.gk 0 kk.cells:=by unfold MSt.at' at hr;rw [hs] at hr;exact hr
  exact ⟨_,_,C,G _ _ A hk (h.k2 hs).1 (h.k2 hs).2,by unfold forkM;rw [hs];rfl⟩
theorem WayM.two {B:Nat} {w:World} {A:List MSt} (h:WayM B w A):∀a∈A,∀b∈A,a=b\/(¬a.reads b.ge/\¬a.reads b.gk):=by
 have I:=h.part;clear h
 induction I with
 | nil=>intro a ha;cases ha
 | cons hx _ ih=>
  intro a ha b hb;rcases jW.1 ha with G | C<;>rcases jW.1 hb with H | E
  ·exact Or.inl (G.trans H.symm)
  ·subst G;exact Or.inr (hx b E).1
  ·subst H;exact Or.inr ⟨fun e=>(hx a C).2 ⟨_,e,Or.inl rfl⟩,fun e=>(hx a C).2 ⟨_,e,Or.inr rfl⟩⟩
  ·exact ih a C b E
theorem WayM.take {B:Nat} {w:World} {A:List MSt} (h:WayM B w A) (n:Nat):WayM B w (A.take n):=
 ⟨fun m hm=>h.each m (List.mem_of_mem_take hm),fun m hm=>h.new m (List.mem_of_mem_take hm),h.part.sublist (List.take_sublist n A)⟩
end Kt
end Go.Proofs.YtenenciaggbjnaaGreat
