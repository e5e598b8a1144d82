/- KtIns, KdAsk, KdRowsV, KdTwice, KdBuildBad, KdBuild, KdRowsT. -/
import Derived.BigRegion
import Derived.Test.YtenenciaggbjnaaGreatP23
import Derived.Test.YtenenciaggbjnaaGreatP26
set_option maxRecDepth 100000
set_option maxHeartbeats 8000000
set_option linter.all false
namespace Go.Proofs.YtenenciaggbjnaaGreat
namespace Kt
open Go.RowKit Nd Pg
theorem x3N:∀(L:List St) (i j:Nat),(x0D i L).2=(x0D j L).2
 |[],_,_=>rfl
 | s::L,i,j=>by
  rw [x2a,x2a,x3N L (i+1) (j+1)]
  split<;>rfl
theorem x4l {s:St} {L:List St} (h0:0<=s.on+(x0D 0 L).2.2+s.off+1) (h:SetOk L):SetOk (s::L):=fun j x hx=>by
 cases j with
 | zero=>
  simp only [List.getElem?_cons_zero,Option.some.injEq] at hx
  subst hx
  show 0<=s.on+(x0D (0+1) L).2.2+s.off+1
  rw [x3N L (0+1) 0]
  exact h0
 | succ j=>
  have:=h j x (by simpa using hx)
  show 0<=x.on+(x0D (j+1+1) (L.drop (j+1))).2.2+x.off+1
  rw [x3N _ (j+1+1) (j+1)]
  exact this
structure y0c (W:Pages) (d:Nat) (Z:Int) (s:St):Prop where
 row:s.row.length=d
 l:Sees W d s.l
 r:Sees W d s.r
 old:Sees W d s.old
 zl:s.l.kid.size<=Z
 zr:s.r.kid.size<=Z
 zo:s.old.kid.size<=Z
theorem x1D {d:Nat} {W:Pages} {u:V} (h:Sees W d u):0<=u.kid.live/\u.kid.live<=u.kid.size/\u.kid.size<=1048576:=⟨(x0r (x0d h).1).1,y09 (x0d h).1,(x1G (x0d h).1).2⟩
theorem x7w {d:Nat} {W:Pages} {q:List Int} {lv:Bool} {l r:V} (hs:Sees W d (.fork q lv l r)):q.length=d:=by
 have:=(x1a hs.1.right).2.2.1 ⟨q,lv⟩ (by simp [forkN]);simp only at this;omega
theorem x2R {W:Pages} {d:Nat} {Z:Int} {p:List Int} (hp:p.length=d) (hZ:0<=Z):∀(u:V) (t:Nat),Sees W d u->u.kid.size<=Z->∀L s,wayV d p u t=some (L,s)->∀st∈L++[s],y0c W d Z st
 | .nil,t,_,_,L,s,h,st,hst=>by
  have h:some ([],(⟨p,false,.nil,.nil,false,.nil⟩:St))=some (L,s):=h
  simp only [Option.some.injEq,Prod.mk.injEq] at h
  obtain ⟨rfl,rfl⟩:=h
  rw [kZ.1 hst]
  exact ⟨hp,trivial,trivial,trivial,hZ,hZ,hZ⟩
 | .bad k,t,_,_,L,s,h,st,hst=>by cases h
 | .fork q lv l r,t,hs,hz,L,s,h,st,hst=>by
  have hsz:(V.fork q lv l r).kid.size=1+(l.kid.size+r.kid.size):=x0U q lv l.kid r.kid
  have h1:=x0k hs.2.2.1
  have h2:=x0k hs.2.2.2
  have hme:∀sd,y0c W d Z ⟨q,lv,l,r,sd,.fork q lv l r⟩:=fun sd=>⟨x7w hs,hs.2.2.1,hs.2.2.2,hs,show l.kid.size<=Z by omega,show r.kid.size<=Z by omega,hz⟩
  have hw:wayV d p (.fork q lv l r) t=(if ordC (t%d) p q=0 then some ([],⟨q,lv,l,r,false,.fork q lv l r⟩)
   else if 0<ordC (t%d) p q then (wayV d p r (t+1)).map fun x=>(⟨q,lv,l,r,true,.fork q lv l r⟩::x.1,x.2)
   else (wayV d p l (t+1)).map fun x=>(⟨q,lv,l,r,false,.fork q lv l r⟩::x.1,x.2)):=rfl
  rw [hw] at h
  split at h
  ·simp only [Option.some.injEq,Prod.mk.injEq] at h
   obtain ⟨rfl,rfl⟩:=h
   rw [kZ.1 hst]
   exact hme false
  ·split at h
   ·cases hwr:wayV d p r (t+1) with
    | none=>rw [hwr] at h;cases h
    | some x=>
     rw [hwr] at h
     simp only [Option.map_some,Option.some.injEq,Prod.mk.injEq] at h
     obtain ⟨rfl,rfl⟩:=h
     rcases jW.1 hst with rfl | hst
     ·exact hme true
     ·exact x2R hp hZ r (t+1) hs.2.2.2 (by omega) x.1 x.2 hwr st hst
   ·cases hwl:wayV d p l (t+1) with
    | none=>rw [hwl] at h;cases h
    | some x=>
     rw [hwl] at h
     simp only [Option.map_some,Option.some.injEq,Prod.mk.injEq] at h
     obtain ⟨rfl,rfl⟩:=h
     rcases jW.1 hst with rfl | hst
     ·exact hme false
     ·exact x2R hp hZ l (t+1) hs.2.2.1 (by omega) x.1 x.2 hwl st hst
theorem x2y (s:St) (M:List St) (x:Int) (hx:s.on+(x0D 0 M).2.2=x) (h0:0<=x+s.off+1) (h1:x+s.off<=s.old.kid.size) (h2:0<=s.old.kid.live/\s.old.kid.live<=s.old.kid.size):0<=(x0D 0 (s::M)).2.1/\(x0D 0 (s::M)).2.1<=s.old.kid.size+1/\(x0D 0 (s::M)).2.2=(x0D 0 (s::M)).2.1 - s.old.kid.size:=by
 rw [x2a,x3N M (0+1) 0,hx];split
 ·exact ⟨by simp only;omega,by simp only;omega,rfl⟩
 ·exact ⟨by simp only;omega,by simp only;omega,rfl⟩
theorem x2S {W:Pages} {d:Nat} {p:List Int}:∀(u:V) (t:Nat),Sees W d u->∀L s,wayV d p u t=some (L,s)->(0<=(x0D 0 (L++[s])).2.1/\(x0D 0 (L++[s])).2.1<=u.kid.size+1/\(x0D 0 (L++[s])).2.2=(x0D 0 (L++[s])).2.1 - u.kid.size)/\SetOk (L++[s])/\(((L++[s]).length:Int)<=u.kid.size+1)
 | .nil,t,_,L,s,h=>by
  have h:some ([],(⟨p,false,.nil,.nil,false,.nil⟩:St))=some (L,s):=h
  simp only [Option.some.injEq,Prod.mk.injEq] at h
  obtain ⟨rfl,rfl⟩:=h
  have h00:(V.nil).kid.size=0/\(V.nil).kid.live=0:=⟨rfl,rfl⟩
  exact ⟨x2y ⟨p,false,.nil,.nil,false,.nil⟩ [] 0 rfl (by show (0:Int)<=0+(V.nil).kid.size+1;omega) (by show (0:Int)+(V.nil).kid.size<=(V.nil).kid.size;omega) (by show 0<=(V.nil).kid.live/\(V.nil).kid.live<=(V.nil).kid.size;omega),x4l (by show (0:Int)<=(V.nil).kid.size+0+(V.nil).kid.size+1;omega) (fun j x hx=>by simp at hx),by show (1:Int)<=(V.nil).kid.size+1;omega⟩
 | .bad k,t,_,L,s,h=>by cases h
 | .fork q lv l r,t,hs,L,s,h=>by
  have hsz:(V.fork q lv l r).kid.size=1+(l.kid.size+r.kid.size):=x0U q lv l.kid r.kid
  have h1:=x1D hs.2.2.1
  have h2:=x1D hs.2.2.2
  have h3:=x1D hs
  have hnil:SetOk []:=fun j x hx=>by simp at hx
  have hon:∀sd,(⟨q,lv,l,r,sd,.fork q lv l r⟩:St).on=if sd then r.kid.size else l.kid.size:=fun sd=>rfl
  have hoff:∀sd,(⟨q,lv,l,r,sd,.fork q lv l r⟩:St).off=if sd then l.kid.size else r.kid.size:=fun sd=>rfl
  have key:∀(sd:Bool) (M:List St),0<=(x0D 0 M).2.1->(x0D 0 M).2.1<=(if sd then r.kid.size else l.kid.size)+1->(x0D 0 M).2.2=(x0D 0 M).2.1 - (if sd then r.kid.size else l.kid.size)->SetOk M->
    (0<=(x0D 0 (⟨q,lv,l,r,sd,.fork q lv l r⟩::M)).2.1/\(x0D 0 (⟨q,lv,l,r,sd,.fork q lv l r⟩::M)).2.1<=(V.fork q lv l r).kid.size+1/\(x0D 0 (⟨q,lv,l,r,sd,.fork q lv l r⟩::M)).2.2=(x0D 0 (⟨q,lv,l,r,sd,.fork q lv l r⟩::M)).2.1 - (V.fork q lv l r).kid.size)/\SetOk (⟨q,lv,l,r,sd,.fork q lv l r⟩::M):=fun sd M g1 g2 g3 g4=>by
   have hx:=hon sd
   have hy:=hoff sd
   refine ⟨x2y ⟨q,lv,l,r,sd,.fork q lv l r⟩ M _ rfl ?_ ?_ ⟨h3.1,h3.2.1⟩,x4l ?_ g4⟩
   focus
    rw [hx,hy]
   rotate_left
   focus
    rw [hx,hy]
    show _<=(V.fork q lv l r).kid.size
   rotate_left
   focus
    rw [hx,hy]
   rotate_left
   all_goals
    cases sd<;>simp only [if_true,Bool.false_eq_true,if_false] at * <;>omega
  have hw:wayV d p (.fork q lv l r) t=(if ordC (t%d) p q=0 then some ([],⟨q,lv,l,r,false,.fork q lv l r⟩)
   else if 0<ordC (t%d) p q then (wayV d p r (t+1)).map fun x=>(⟨q,lv,l,r,true,.fork q lv l r⟩::x.1,x.2)
   else (wayV d p l (t+1)).map fun x=>(⟨q,lv,l,r,false,.fork q lv l r⟩::x.1,x.2)):=rfl
  rw [hw] at h
  split at h
  ·simp only [Option.some.injEq,Prod.mk.injEq] at h
   obtain ⟨rfl,rfl⟩:=h
   refine ⟨x2y ⟨q,lv,l,r,false,.fork q lv l r⟩ [] l.kid.size (by show l.kid.size+0=_;omega) (by show 0<=l.kid.size+r.kid.size+1;omega) (by show l.kid.size+r.kid.size<=(V.fork q lv l r).kid.size;omega) ⟨h3.1,h3.2.1⟩,x4l (by show 0<=l.kid.size+0+r.kid.size+1;omega) hnil,by show (1:Int)<=(V.fork q lv l r).kid.size+1;omega⟩
  ·split at h
   ·cases hwr:wayV d p r (t+1) with
    | none=>rw [hwr] at h;cases h
    | some x=>
     rw [hwr] at h
     simp only [Option.map_some,Option.some.injEq,Prod.mk.injEq] at h
     obtain ⟨rfl,rfl⟩:=h
     obtain ⟨⟨g1,g2,g3⟩,g4,g5⟩:=x2S r (t+1) hs.2.2.2 x.1 x.2 hwr
     obtain ⟨k1,k2⟩:=key true (x.1++[x.2]) g1 g2 g3 g4
     exact ⟨k1,k2,by rw [List.cons_append,kI];omega⟩
   ·cases hwl:wayV d p l (t+1) with
    | none=>rw [hwl] at h;cases h
    | some x=>
     rw [hwl] at h
     simp only [Option.map_some,Option.some.injEq,Prod.mk.injEq] at h
     obtain ⟨rfl,rfl⟩:=h
     obtain ⟨⟨g1,g2,g3⟩,g4,g5⟩:=x2S l (t+1) hs.2.2.1 x.1 x.2 hwl
     obtain ⟨k1,k2⟩:=key false (x.1++[x.2]) g1 g2 g3 g4
     exact ⟨k1,k2,by rw [List.cons_append,kI];omega⟩
theorem x7B {W:Pages} {d Z:Nat} {A:List MSt} {L:List St} (hl:Links A L) (h:∀st∈L,y0c W d Z st):(∀m∈A,GoodM d Z m)/\(∀m∈A,SzM m):=by
 induction hl with
 | nil=>exact ⟨fun m B=>(by cases B),fun m B=>by cases B⟩
 | cons hk _ ih=>
  obtain ⟨Q,R⟩:=ih (fun st hst=>h st (by simp [hst]));have C:=h _ (List.mem_cons_self ..);have N:=x1D C.l;have O:=x1D C.r;have E:=x1D C.old;have H:=x0d C.l;have K:=x0d C.r;have J:=x0k C.l;have I:=x0k C.r;have P:=C.zl;have M:=C.zr;have G:=C.row;rw [hk.l] at N H J P;rw [hk.r] at O K I M;rw [hk.old] at E;rw [hk.row] at G;refine ⟨fun m B=>?_,fun m B=>?_⟩
  ·rcases jW.1 B with rfl | B
   ·exact ⟨G,⟨H.1,H.2,J⟩,⟨K.1,K.2,I⟩,P,M⟩
   ·exact Q m B
  ·rcases jW.1 B with rfl | B
   ·exact ⟨⟨J,N.2.2⟩,⟨I,O.2.2⟩,⟨Int.le_trans E.1 E.2.1,E.2.2⟩,⟨E.1,Int.le_trans E.2.1 E.2.2⟩⟩
   ·exact R m B
theorem x2T {A:List MSt} {L:List St} {s:St} (h:Links A (L++[s])):∃A0 m,A=A0++[m]/\Links A0 L/\Link m s:=by
 induction L generalizing A with
 | nil=>
  cases h with
  | cons h1 h2=>
   cases h2
   exact ⟨[],_,rfl,.nil,h1⟩
 | cons x L ih=>
  cases h with
  | cons h1 h2=>
   obtain ⟨A0,m,rfl,B,C⟩:=ih h2;exact ⟨_::A0,m,rfl,.cons h1 B,C⟩
end Kt
namespace Kt
open Go.RowKit Nd Dk Pg
theorem y0d (w:World):RowsIn w none 0 0 []:=⟨rfl,jB _,(fun t ht=>by cases ht),Or.inl rfl⟩
theorem x4m:∀(u:V) (t:Nat),liveE (u.ents t)=u.rows
 | .nil,_=>rfl
 | .bad _,_=>rfl
 | .fork p v l r,t=>by
  show liveE ((p,v,t)::(l.ents (t+1)++r.ents (t+1)))=(if v then [p] else [])++(l.rows++r.rows)
  rw [show (p,v,t)::(l.ents (t+1)++r.ents (t+1))=[(p,v,t)]++(l.ents (t+1)++r.ents (t+1)) from rfl,x2F,x2F,x4m l,x4m r]
  cases v<;>rfl
theorem x6C:∀(L:List Ent) (a:Nat),L.foldl (fun m e=>max m e.2.2) a=max a (deepE L)
 |[],a=>by simp [deepE]
 | e::L,a=>by
  unfold deepE
  rw [List.foldl_cons,List.foldl_cons,x6C L,x6C L]
  omega
theorem x56 (L M:List Ent):deepE (L++M)=max (deepE L) (deepE M):=by
 unfold deepE;rw [List.foldl_append,x6C M];rfl
theorem x3O:∀(u:T) (t:Nat),1<=t->deepE ((V.of u).ents t)=if u.height=0 then 0 else t - 1+u.height
 | .nil,t,_=>rfl
 | .fork p v l r,t,ht=>by
  show deepE ([(p,v,t)]++((V.of l).ents (t+1)++(V.of r).ents (t+1)))=_
  rw [x56,x56,x3O l (t+1) (by omega),x3O r (t+1) (by omega)]
  have h1:deepE [(p,v,t)]=t:=by simp [deepE]
  have A:(T.fork p v l r).height=1+max l.height r.height:=rfl
  rw [h1,A]
  split<;>split<;>split<;>omega
def x7x (w:World) (u:V) (e:Ending) (w':World):Prop:=∃(err:Int) (q:Option Addr) (c:Nat) (O:List Rw),e= .returned (.tuple #[.slice q O.length c,.int .i64 err])/\w'.ownsRow w.heap.size 24 1 (.slice q O.length c) O.length (hds O)/\(∀r∈O,r.Ok w'/\∀x,r.p=some x->r.R≠[]->(Value.slice q O.length c).ownBlock≠some x.block/\w.heap.size<=x.block)/\(u.whole=true->err=0/\O.map Rw.R=u.rows)/\(u.whole=false->err=21)/\(O.length:Int)<=u.kid.size/\Below w.heap.size w w'
theorem x7y {gs d:Nat} {Q:Nat->Prop} {s:Pg.S} (hW:x2x d s.W) (u:V) (k:Kd) (w:World) (hp:PL w gs Q s) (hs:Sees s.W d u) (hk:k.Ok w) (he:k.pk=u.kid) (hz:u.kid.size<=90000):
  Calls Tryz.prog 72 #[.agg #[.pointer (some ⟨gs,0,none⟩),.int .i64 d],.agg k.cells.toArray] w (x7x w u):=by
 obtain ⟨W,f,o,a,b1⟩:=x1B w (.cells #[.pointer (some ⟨gs,0,none⟩),.int .i64 d] 107) (.cells k.cells.toArray 34);have P:=jA W (.cells #[.slice none 0 0] 51);have n:=jE W (.cells #[.slice none 0 0] 51);have C:=b1.trans (P.mono b1.size);have A:ColI w.heap.size W.heap.size (fun k=>k=W.heap.size) [] (W.alloc (.cells #[.slice none 0 0] 51)):=⟨.slice none 0 0,[],⟨n,⟨rfl,Or.inl ⟨rfl,rfl⟩⟩,(fun r hr=>by cases hr),rfl,fun k=>⟨Or.inl,fun h=>h.elim id (fun h=>by cases h)⟩,(fun h=>by cases h),by simp⟩⟩
 have HE:=yH (x4C (gs:=gs) (Q:=Q) (B:=w.heap.size) hW y1O (y6a (B:=w.heap.size) (b:=W.heap.size)) u k (w.heap.size+1) 0 0 (W.alloc (.cells #[.slice none 0 0] 51)) (fun k=>k=W.heap.size) [] (hp.keep (fun _=>False) (Only.of_below _ C) (fun _ _ e=>e)) hs (hk.later C) (x01 (x0E a) P) he A (fun j hj e=>by have:=hp.lt j hj;have:=b1.size;omega) (by omega) (by simp;omega) C.size);have R0:=yH (x09 (yK P o));have Z:=yH C;have I:=yH (show w.heap.size+2<=W.heap.size from (yL a));obtain ⟨du,N,J⟩:=UTr;have R:=yH N;have c:=yH J;clear hW hp hs hk he hz o a b1 P n C A N J
 go_enter Tryz.func72,Tryz.ntmps72
 go_upto_region 1 with fail
 clear f;go_upto_region 2 with fail
 generalize W.alloc (.cells #[.slice none 0 0] 51)=w2 at *;go_upto_region 3 with (first
  | (refine jK (by rfl) 107 _ (by rfl) w.heap.size 0 (by rfl) [.pointer (some ⟨gs,0,none⟩),.int .i64 d] du R0 R c STr ?_)
  | (go_at_call 89;refine HE.mono ?_;rintro _ t ⟨l,M,X3,rfl,⟨v,O,A⟩,G,p,y,m,L⟩;have E:=yH A;have z:=yH G;have HO:=yH p;have HW:=yH y;have HB:=yH m;have i:=yH L;clear A G p y m L))
 obtain ⟨q3,c3,rfl⟩:=x1x E.own;have c1:=jH t W.heap.size 0 _ _ _ E.row;go_wp2_with fail
 go_ret2;have Y:Below w.heap.size w t:=Z.trans (HO.below Z.size (fun k e=>by have:=I.out;omega));refine ⟨l,q3,c3,O,rfl,?_,fun r hr=>⟨(E.ok r hr).1,fun x G hR=>⟨fun e=>?_,((E.ok r hr).2 x G hR).2⟩⟩,fun h=>?_,HB.out,?_,Y⟩
 ·obtain ⟨H,K⟩:=E.own;refine ⟨H,K.imp id ?_⟩;rintro ⟨g,X,U,q,hg,hh,r⟩;refine ⟨g,X,U,q,?_,hh,r⟩;have hX:X3 g:=(E.mine g).2 (Or.inr (by rw [q];rfl));have:=I.out;have:=Z.size;rcases z.out g hX with h | h
  ·omega
  ·omega
 ·exact ((E.ok r hr).2 x G hR).1 ((E.mine _).2 (Or.inr e))
 ·obtain ⟨H,K⟩:=HW.out h;refine ⟨H,?_⟩;rw [E.are,K,kV,x4m]
 ·have H:=E.are;have K:=congrArg List.length H;rw [kH,kV] at K;have h3:(liveE M).length<=M.length:=by
   unfold liveE;rw [kH];exact List.length_filter_le _ _
  have:=i.out;omega
theorem x7C {gs d:Nat} {Q:Nat->Prop} {s:Pg.S} (hd:1<=d/\d<=8) (hW:x2x d s.W) (u:V) (k:Kd) (w:World) (hp:PL w gs Q s) (hs:Sees s.W d u) (hk:k.Ok w) (he:k.pk=u.kid) (hz:u.kid.size<=90000):
  Calls Tryz.prog 28 #[.pointer (some ⟨gs,0,none⟩),.agg k.cells.toArray,.int .i64 d] w fun e w'=>Below w.heap.size w w'/\((u.whole=true->e= .returned (.tuple #[.int .i64 (deepE (u.ents 1)),.int .i64 0]))/\(u.whole=false->e= .returned (.tuple #[.int .i64 0,.int .i64 21]))):=by
 have b1:=jA w (.cells k.cells.toArray 34);have r1:=jE w (.cells k.cells.toArray 34);have x:=yH (fun w'=>x43 (some ⟨gs,0,none⟩) d none 0 0 [] w' (y0d w') (by omega));rw [show x2k d []=true from by unfold x2k;rw [kF (by omega)];rfl] at x;have HE:=yH (fun (w':World) (K:Below w.heap.size w w') (hr:w'.rangeAt w.heap.size 0 k.cells) (b:Nat) (hbl:w.heap.size<=b) (E:w'.heap[b]? =some (.cells #[.int .i64 (0:Nat)] 3 (0,0)))=>x4C (gs:=gs) (Q:=Q) (B:=0) hW y32 (y7S (B:=0) (b:=b)) u k w.heap.size 0 1 w' (fun k=>k=b) [] (hp.keep (fun _=>False) (Only.of_below _ K) (fun _ _ e=>e)) hs (hk.later K) hr he ⟨E,fun _=>Iff.rfl⟩ (fun j hj e=>by have:=hp.lt j hj;omega) (by omega) (by simp;omega) (Nat.zero_le _));have R1:=yH r1;have B1:=yH b1;have r:=yH (show u.whole=true\/u.whole=false from by cases u.whole<;>simp);obtain ⟨du,c,X⟩:=UTr;obtain ⟨dk,U,I⟩:=UKd;have J:=yH c;have N:=yH X;have AI:=yH U;have A3:=yH I;clear hd hW hp hs hk he hz b1 r1 c X U I
 go_enter Tryz.func28,Tryz.ntmps28
 go_upto_region 1 with fail
 generalize w.alloc (.cells k.cells.toArray 34)=w1 at *;go_upto_region 2 with (first
  | (refine x05 (cells:= #[.pointer (some ⟨gs,0,none⟩),.int .i64 d]) (by rfl) (by rfl) (by simp only [kA,kB,kC];exact x1y _ _) ?_)
  | (refine jL (by rfl) 107 (.tmp 8) (.tmp 13) (by rfl) w1.heap.size #[.pointer (some ⟨gs,0,none⟩),.int .i64 d] (by rfl) (by rfl) _ _ (jE w1 _) STr rfl (x4E _ _) ?_;rw [x03]))
 have L:=jA w1 (.cells #[.pointer (some ⟨gs,0,none⟩),.int .i64 d] 107);have E:=jE w1 (.cells #[.pointer (some ⟨gs,0,none⟩),.int .i64 d] 107);generalize w1.alloc (.cells #[.pointer (some ⟨gs,0,none⟩),.int .i64 d] 107)=w2 at *;have R2:=yH E;have q:=yH (x09 E);have t:=yH (yK L R1);have B2:=yH (B1.trans (L.mono B1.size));clear L E;go_upto_region 4 with (first
  | (refine jK (by rfl) 107 (.tmp 8) (by rfl) w1.heap.size 0 (by rfl) [.pointer (some ⟨gs,0,none⟩),.int .i64 d] du q J N STr ?_)
  | (go_at_call 87;refine (x.out w2).mono ?_;rintro _ A ⟨rfl,g⟩;have P:=yH (B2.trans (g.mono B2.size));have R3:=yH (yK g R2);have p:=yH (yK g t);clear g))
 go_upto_region 5 with fail
 have G:=jA A (.cells #[.int .i64 0] 3);have Z:=jE A (.cells #[.int .i64 0] 3);have R:Calls Tryz.prog 89 #[.agg #[.pointer (some ⟨gs,0,none⟩),.int .i64 d],.pointer (some ⟨w.heap.size,0,none⟩),.int .i64 1,.func (.func 90) #[] #[.pointer (some ⟨A.heap.size,0,none⟩)]] (A.alloc (.cells #[.int .i64 0] 3)) (y0T (A.alloc (.cells #[.int .i64 0] 3)) (TopI A.heap.size) (fun k=>k=A.heap.size) [] u 1):=HE.out _ (P.trans (G.mono P.size)) (x0E (yK G p)) A.heap.size P.size Z;have f:=yH R;have R4:=yH (x09 (yK G R3));have l:=yH (P.trans (G.mono P.size));have Y:=yH P.size;clear R G Z HE x;generalize A.alloc (.cells #[.int .i64 0] 3)=w4 at *;rcases r.out with C | C
 ·have H:=yH C;clear C;go_upto_region 6 with (first
   | (refine jK (by rfl) 107 (.tmp 8) (by rfl) w1.heap.size 0 (by rfl) [.pointer (some ⟨gs,0,none⟩),.int .i64 d] du R4 J N STr ?_)
   | (go_at_call 89;refine f.mono ?_;rintro _ w5 ⟨z,M,X5,rfl,⟨hc,hm⟩,m,a,i,K,O⟩;obtain ⟨rfl,rfl⟩:=i H.out;have HC:=yH hc;have y:=yH a;clear hc hm m a i K O))
  have c1:=jH w5 A.heap.size 0 _ _ _ HC;rw [kV] at c1;have n:=yH (show u.whole=true->u.whole=false->False from fun h1 h2=>by rw [h1] at h2;cases h2);obtain ⟨D,v⟩:∃D,deepE (u.ents 1)=D:=⟨_,rfl⟩
  rw [v] at c1;have o:=yH v;clear v;go_wp2_with fail
  go_ret2;exact ⟨l.trans (y.below l.size (fun k e=>by have:=Y.out;omega)),(fun _=>by rw [o.out];rfl),(fun h=>(n.out H h).elim)⟩
 ·have H:=yH C;clear C;go_upto_region 6 with (first
   | (refine jK (by rfl) 107 (.tmp 8) (by rfl) w1.heap.size 0 (by rfl) [.pointer (some ⟨gs,0,none⟩),.int .i64 d] du R4 J N STr ?_)
   | (go_at_call 89;refine f.mono ?_;rintro _ w5 ⟨z,M,X5,rfl,hi,m,a,i,K,O⟩;obtain rfl:=K H.out;have y:=yH a;clear hi m a i K O))
  go_wp2_with fail
  go_ret2;exact ⟨l.trans (y.below l.size (fun k e=>by have:=Y.out;omega)),(fun h=>by rw [H.out] at h;cases h),(fun _=>rfl)⟩
end Kt
namespace Kt
open Go.RowKit Nd
open List renaming setIfInBounds_toArray -> yA, set_cons_zero -> yB, set_cons_succ -> yC
def Twice (L:List Rw):Prop:=∃j,j+1<L.length/\(L.getD j default).R=(L.getD (j+1) default).R
def TwRel (w:World) (L:List Rw) (n:Nat) (i:Value) (wr:World):Prop:=∃k m:Nat,(k+1<=n\/k=0)/\i= .int .i64 k/\(∀j,j<k->(L.getD j default).R≠(L.getD (j+1) default).R)/\wr=w.drewN m
def y7V (w:World) (L:List Rw) (e:Ending) (w':World):Prop:=∃b:Bool,e= .returned (.bool b)/\(b=true↔Twice L)/\∃j,w'=w.drewN j
theorem y3L (p:Option Addr) (n c:Nat) (L:List Rw) (w:World) (h:RowsIn w p n c L) (hn:n<=1000000000):
  Calls Tryz.prog 92 #[.slice p n c] w (y7V w L):=by
 have H:=yH h;have U:=yH h.size;have z:IntKind.i64.wrap ((n:Int) - 1)=(n:Int) - 1:=IntWalk.i64_in _ (by omega);clear h
 go_enter Tryz.func92,Tryz.ntmps92
 go_wp2_with fail
 go_loopw [3,7] (fun _ i wr=>TwRel w L n i wr) (fun _ i _=>n - (intOf i).toNat)
 case atStart=>exact ⟨0,0,Or.inr rfl,rfl,(fun j hj=>by omega),rfl⟩
 case round=>
  obtain ⟨k,m,s,rfl,G,rfl⟩:=hrel;have W:=yH (show Below w.heap.size w (w.drewN m) from Below.drewN (jC _ _) m);have A:=yH G;clear G;by_cases hlt:k+1<n
  ·have b1:(k:Int)<(n:Int) - 1:=by omega
   obtain ⟨g,o,rfl,Z,B⟩:=H.cell k (by omega);obtain ⟨g',y,X,Y,I⟩:=H.cell (k+1) hlt;simp only [Option.some.injEq,Addr.mk.injEq,and_true] at X;obtain ⟨rfl,rfl⟩:=X;have t:(0:Int)<=k/\(k:Int)<n:=by omega
   have x:(0:Int)<=(k:Int)+1/\(k:Int)+1<n:=by omega
   have q2:IntKind.i64.wrap ((k:Int)+1)=(k:Int)+1:=IntWalk.i64_in _ (by omega);have u:((k:Int)+1).toNat=k+1:=by omega
   have E:=yH Z;have C:=yH Y;have M:=yH (show ∀b:Bool,b=decide ((L.getD k default).R=(L.getD (k+1) default).R)->b=true->Twice L from fun b hb h=>⟨k,by rw [<- U.out];exact hlt,by rw [h] at hb;exact of_decide_eq_true hb.symm⟩);have N:=yH (show decide ((L.getD k default).R=(L.getD (k+1) default).R)=false->∀j,j<k+1->(L.getD j default).R≠(L.getD (j+1) default).R from fun h j hj=>by
    rcases Nat.lt_or_ge j k with Q | Q
    ·exact A.out j Q
    ·obtain rfl:j=k:=by omega
     exact of_decide_eq_false h)
   have J:=yH (fun w' (hb:Below w.heap.size w w')=>x3D _ _ _ _ _ _ _ _ w' (B.ints.later hb) (I.ints.later hb) B.top);clear Z Y B I;generalize L.getD k default=r1 at *;generalize L.getD (k+1) default=r2 at *;obtain ⟨p1,n1,l,e⟩:=r1;obtain ⟨v,r,a,d⟩:=r2;unfold Rw.val at E C;simp only at E C M N J;cases hb:decide (e=d) with
   | true=>
    rw [hb] at J;have O:=yH (M.out true hb.symm rfl);clear hb M N A;go_upto_region 4 with fail
    refine kD (S:=fun w'=>Below w.heap.size w w') (by kernel_rfl) W.drew (fun hH=>?_);refine tK 0 ?_;refine tK 1 ?_;refine tK 2 ?_;refine tQ 3 ?_ ?_ ?_;rotate_left
    ·intro w' hSw;have P:=(hSw.cell (jI E)).trans E.out;go_simp;try with_reducible rfl
    refine tK 4 ?_;refine tK 5 ?_;refine tK 6 ?_;refine tK 7 ?_;refine tQ 8 ?_ ?_ ?_;rotate_left
    ·intro w' hSw;have P:=(hSw.cell (jI C)).trans C.out;go_simp;try with_reducible rfl
    refine rO 9 fun K hK=>?_;go_simp;refine (J.out _ hH).mono ?_;rintro _ q ⟨rfl,f,rfl⟩;try go_wp2_with fail
    refine hK.out _ _ (Below.drewN (jC _ _) _) (fun hH=>?_);clear hK K;try simp only [Act.put,yA,yB,yC]
    refine jD ?_;go_wp2_with fail
    go_ret;exact ⟨true,rfl,⟨fun _=>O.out,fun _=>rfl⟩,_,rfl⟩
   | false=>
    rw [hb] at J;have HZ:=yH (N.out hb);clear hb M N A;go_upto_region 4 with fail
    refine kD (S:=fun w'=>Below w.heap.size w w') (by kernel_rfl) W.drew (fun hH=>?_);refine tK 0 ?_;refine tK 1 ?_;refine tK 2 ?_;refine tQ 3 ?_ ?_ ?_;rotate_left
    ·intro w' hSw;have P:=(hSw.cell (jI E)).trans E.out;go_simp;try with_reducible rfl
    refine tK 4 ?_;refine tK 5 ?_;refine tK 6 ?_;refine tK 7 ?_;refine tQ 8 ?_ ?_ ?_;rotate_left
    ·intro w' hSw;have P:=(hSw.cell (jI C)).trans C.out;go_simp;try with_reducible rfl
    refine rO 9 fun K hK=>?_;go_simp;refine (J.out _ hH).mono ?_;rintro _ q ⟨rfl,f,rfl⟩;try go_wp2_with fail
    refine hK.out _ _ (Below.drewN (jC _ _) _) (fun hH=>?_);clear hK K;try simp only [Act.put,yA,yB,yC]
    refine jD ?_;go_wp2_with fail
    go_roundw
    case rel=>exact ⟨k+1,_,Or.inl hlt,by go_num,HZ.out,rfl⟩
    case measure=>simp [intOf];omega
  ·have b1:¬(k:Int)<(n:Int) - 1:=by omega
   have O:=yH (show ¬Twice L from fun ⟨j,hj,he⟩=>A.out j (by rw [<- U.out] at hj;omega) he);go_wp2_with fail
   go_ret;exact ⟨false,rfl,⟨(fun h=>by cases h),fun h=>absurd h O⟩,_,rfl⟩
end Kt
namespace Kt
open Go.RowKit Nd Dk Pg
theorem x59 {ops:Array Oper} {rest:List Oper} {o:Oper} {a:Act} {w:World} {Q:Exit->Act->World->Prop} (hw:Region.wanted o (yielded ops a.tmps)=true) (ty:TypeId) (x:Operand) (ho:o.op= .load ty x)
  (b i:Nat) (hx:a.eval x= .pointer (some ⟨b,i,none⟩)) (cs:List Value) (d:TypeDesc) (hc:w.rangeAt b i cs)
  (hu:Tryz.prog.underlying ty=some d) (hd:d.isRow=true) (hi:(Tryz.prog.info? ty).map (·.size)=some cs.length)
  (h:wpList Tryz.prog ops Q rest (a.put o.dst (.agg cs.toArray)) w):wpList Tryz.prog ops Q (o::rest) a w:=
 BigFrame.wpList_want hw fun _ hK=>wp_load_mid ty x ho b i hx cs d hc hu hd hi (hK _ _ h)
theorem y3M {a d:Nat} {M:List Rw} {L:List (List Int)} (hd:∀y∈L,y.length=d) (hs:M.map Rw.R=sortP a L):Twice M↔¬L.Nodup:=by
 have H:=x17 a L;have C:=x2D (a:=a) hd;have B:∀y∈sortP a L,y.length=d:=fun y hy=>hd y (H.mem_iff.1 hy);rw [<- H.nodup_iff];have J:M.length=(sortP a L).length:=by rw [<- hs,kH]
 have A:∀j (h:j<(sortP a L).length),(M.getD j default).R=(sortP a L)[j]:=fun j h=>by
  have N:j<M.length:=by omega
  rw [<- x6e N,hs,jG,jM h];rfl
 generalize sortP a L=S at *;constructor
 ·rintro ⟨j,I,E⟩ G;rw [A j (by omega),A (j+1) (by omega)] at E;exact (List.pairwise_iff_getElem.1 G) j (j+1) (by omega) (by omega) (by omega) E
 ·intro G;apply Classical.byContradiction;intro ht;apply G;rw [List.nodup_iff_pairwise_ne,List.pairwise_iff_getElem];intro i j hi I hij E;apply ht;refine ⟨i,by omega,?_⟩;rw [A i (by omega),A (i+1) (by omega)];by_cases h1:i+1=j
  ·subst h1;exact E
  ·have s1:=(List.pairwise_iff_getElem.1 C) i (i+1) hi (by omega) (by omega);have K:=(List.pairwise_iff_getElem.1 C) (i+1) j (by omega) I (by omega);rw [<- E] at K;exact x22 ((B _ (kM _)).trans (B _ (kM _)).symm) K s1
def x8s (w:World) (gs:Nat) (Q:Nat->Prop) (s:Pg.S) (L:List Rw) (e:Ending) (w':World):Prop:=
 (¬(L.map Rw.R).Nodup/\e= .returned (.tuple #[.agg kd0.cells.toArray,.int .i64 8])/\Below w.heap.size w w')\/
 ((L.map Rw.R).Nodup/\∃(kd:Kd) (Q':Nat->Prop),e= .returned (.tuple #[.agg kd.cells.toArray,.int .i64 0])/\kd.pk=(lay (L.map Rw.R) 0).kid/\kd.Ok w'/\Fsh w kd/\Aw Q' kd/\PL w' gs Q' (puts s (lay (L.map Rw.R) 0).pages)/\(∀k,Q' k->Q k\/w.heap.size<=k)/\Only Q w w')
theorem x6D {w:World} {g o c:Nat} {M:List Rw} (h:Seg w g o M) (hok:∀r∈M,r.Ok w) (hc:M.length<=c):RowsIn w (some ⟨g,o,none⟩) M.length c M:=⟨rfl,hc,hok,Or.inr ⟨g,o,rfl,fun i hi=>(h i hi).1⟩⟩
theorem y1b {gs d:Nat} {Q:Nat->Prop} {s:Pg.S} (hd:1<=d/\d<=8) (p:Option Addr) (n c:Nat) (L:List Rw) (w:World) (hL:RowsIn w p n c L) (hn:1<=n) (hdim:∀r∈L,r.n=d) (haq:∀r∈L,∀x,r.p=some x->r.R≠[]->¬Q x.block) (hp:PL w gs Q s) (hsl:s.W.length+n<100000):
  Calls Tryz.prog 36 #[.pointer (some ⟨gs,0,none⟩),.slice p n c,.int .i64 d] w (x8s w gs Q s L):=by
 have b1:=jA w (.cells kd0.cells.toArray 34);have r1:=jE w (.cells kd0.cells.toArray 34);have AE:x2k d L=true:=by
  unfold x2k;rw [kF (by omega)];simp only [Bool.true_and,Bool.not_eq_true',List.any_eq_false,decide_eq_true_eq];intro r B;have:=hdim r B;omega
 have HT:=yH (fun w' (I:Below w.heap.size w w')=>x43 (some ⟨gs,0,none⟩) d p n c L w' (hL.later I) (by omega));rw [AE] at HT;have At:=yH (fun w' (I:Below w.heap.size w w')=>y1N p n c L w' (hL.later I) hn (by omega));have J:=yH hL.size;have AB:=yH (show ∀y∈L.map Rw.R,y.length=d from fun y hy=>by
  obtain ⟨r,B,rfl⟩:=kJ.1 hy;exact (hL.each r B).ints.size.symm.trans (hdim r B))
 have a:=yH (show ∀r∈L,r.Ok w/\r.n=d from fun r B=>⟨hL.each r B,hdim r B⟩);have HP:=yH hp;have Aq:=yH haq;have b:=yH hsl;have Ab:=yH hd;have R1:=yH r1;have B1:=yH b1;have e1:¬(n:Int)>1048576:=by omega
 obtain ⟨du,AX,AC⟩:=UTr;obtain ⟨dk,A7,l⟩:=UKd;have q:=yH AX;have t:=yH AC;have AP:=yH A7;have m:=yH l;have HZ:=yH (zero_of_info kz);have BO:=HZ.1;clear hL AE hdim haq hp hsl hd b1 r1 AX AC A7 l
 go_enter Tryz.func36,Tryz.ntmps36
 go_upto_region 1 with fail
 generalize w.alloc (.cells kd0.cells.toArray 34)=w1 at *;go_upto_region 2 with (first
  | (refine x05 (cells:= #[.pointer (some ⟨gs,0,none⟩),.int .i64 d]) (by rfl) (by rfl) (by simp only [kA,kB,kC];exact x1y _ _) ?_)
  | (refine jL (by rfl) 107 (.tmp 8) (.tmp 12) (by rfl) w1.heap.size #[.pointer (some ⟨gs,0,none⟩),.int .i64 d] (by rfl) (by rfl) _ _ (jE w1 _) STr rfl (x4E _ _) ?_;rw [x03]))
 have A1:=jA w1 (.cells #[.pointer (some ⟨gs,0,none⟩),.int .i64 d] 107);have A3:=jE w1 (.cells #[.pointer (some ⟨gs,0,none⟩),.int .i64 d] 107);generalize w1.alloc (.cells #[.pointer (some ⟨gs,0,none⟩),.int .i64 d] 107)=w2 at *;have R2:=yH (x09 A3);have Av:=yH A3;have B7:=yH (yK A1 R1);have B2:=yH (B1.trans (A1.mono B1.size));clear A1 A3;go_upto_region 5 with (first
  | (refine x59 (by rfl) 107 (.tmp 8) (by rfl) w1.heap.size 0 (by rfl) [.pointer (some ⟨gs,0,none⟩),.int .i64 d] du R2 q t STr ?_)
  | (go_at_call 87;refine (HT.out w2 B2).mono ?_;rintro _ w3 ⟨rfl,b3⟩;have B3:=yH (B2.trans (b3.mono B2.size));have R3:=yH (yK b3 B7);have Aa:=yH (yK b3 Av);clear b3)
  | (go_at_call 91;refine (At.out w3 B3).mono ?_;rintro _ w4 ⟨P,cc,rfl,AV,f,AW,AQ,b4⟩;have B4:=yH (B3.trans (b4.mono B3.size));have R4:=yH (yK b4 R3);have A2:=yH (yK b4 Aa);have A:=yH (show w3.heap.size<=P/\P<w4.heap.size from ⟨f,AW⟩);have AJ:=yH AV;have B8:=yH AQ;clear b4 AV f AW AQ))
 have BA:=yH (x09 A2);have E:=yH (show w.heap.size<=w3.heap.size from B3.size);have Ac:=yH (show w1.heap.size<w3.heap.size from (yL Aa));have A0:=yH (x5q (some ⟨gs,0,none⟩) d 0 P 0 cc L w4 (fun e=>by have h:=J.out;rw [e] at h;simp at h;omega) B8 (fun r B=>⟨(a.out r B).1.later B4.out,(a.out r B).2,fun y hy hR=>by have:=rw_lt (a.out r B).1 y hy hR;have:=A.out;have:=E.out;omega⟩) (by have:=Ab.out;omega) (by omega) A.2 (by have:=J.out;have:=b.out;omega));rw [Nat.zero_mod] at A0;rw [<- J.out] at A0 ⊢;go_upto_region 6 with (first
  | (refine jK (by rfl) 107 (.tmp 8) (by rfl) w1.heap.size 0 (by rfl) [.pointer (some ⟨gs,0,none⟩),.int .i64 d] du BA q t STr ?_)
  | (go_at_call 88;refine A0.mono ?_;rintro _ K ⟨rfl,M,AA,A8,AY,AN⟩;have Z:=yH AA;have Am:=yH A8;have AT:=yH AY;have j:=yH AN;clear AA A8 AY AN))
 have H:=yH (show M.length=n from Z.length_eq.trans J.symm);have R5:=yH ((j.only.block _ (yL R4) (by have:=A.out;have:=E.out;have:=(yL R3);omega)).trans R4.out);have Ap:=yH ((j.only.block _ (yL A2) (by have:=A.out;have:=Ac.out;omega)).trans A2.out);have AD:=yH (show ∀r∈M,r.Ok K from fun r B=>by
  have h:=a.out r (Z.mem_iff.1 B);exact Nd.rw_keep (h.1.later B4) fun y hy hR=>j.only.block _ (rw_lt (h.1.later B4) y hy hR) (by have:=rw_lt h.1 y hy hR;have:=A.out;have:=E.out;omega))
 have Ag:=y3L (some ⟨P,0,none⟩) n cc M K (by have h:=x6D AT.out AD (c:=cc) (by have h1:=H.out;have h2:=AJ.out;have h3:=J.out;omega);rw [H.out] at h;exact h) (by have:=b.out;omega);have AF:=yH Ag;have AM:=yH (y3M AB Am);clear Ag;have i:=yH (show Only (fun k=>k=P) w4 K from j.only);have AH:=yH (show w.heap.size<w1.heap.size/\w1.heap.size<w3.heap.size from ⟨(yL R1),Ac.out⟩);have X:=yH (show Only (fun k=>k=P) w K from (Only.of_below _ B4).trans i.out);by_cases hnd:(L.map Rw.R).Nodup
 ·have O:=yH hnd;have B5:=yH (show ∀w',Below K.heap.size K w'->Calls Tryz.prog 74 #[.agg #[.pointer (some ⟨gs,0,none⟩),.int .i64 d],.slice (some ⟨P,0,none⟩) n cc,.int .i64 0] w' (x2c w' gs Q s P 0 M 0) from fun w' I=>by
   have As:PL K gs Q s:=(HP.keep _ (X.out) (fun k hk e=>by have:=HP.lt k hk;have:=A.out;have:=E.out;omega))
   have h:=x9X (gs:=gs) Ab n M (some ⟨P,0,none⟩) cc 0 P 0 w' Q s (by have:=H.out;omega) (fun _=>rfl) (by have h1:=H.out;have h2:=AJ.out;have h3:=J.out;omega) (AT.later I (by have:=A.2;have:=i.size;omega)) (fun r B=>by
    have h:=a.out r (Z.mem_iff.1 B);refine ⟨(AD.out r B).later I,h.2,fun y hy hR=>by have:=rw_lt h.1 y hy hR;have:=A.out;have:=E.out;omega,Aq.out r (Z.mem_iff.1 B)⟩) (As.keep (fun _=>False) (Only.of_below _ I) (fun _ _ e=>e)) (by have:=A.2;have:=i.size;have:=I.size;omega) (fun e=>by have:=HP.lt _ e;have:=A.out;have:=E.out;omega) (by have:=H.out;have:=b.out;omega) (by have:=H.out;have:=b.out;omega)
   rw [H.out] at h;exact h)
  have AZ:lay (M.map Rw.R) 0=lay (L.map Rw.R) 0:=(x5N AB (Z.map Rw.R).symm).symm;have AI:=yH AZ;clear hnd AZ;go_wp2_with (first
   | (go_at_call 92;refine AF.mono ?_;rintro _ w6 ⟨tb,rfl,U,jj,N⟩;obtain rfl:tb=false:=(by rw [Bool.eq_false_iff];intro h;exact AM.1 (U.1 h) O);have o:=yH (show Below K.heap.size K w6 from by rw [N];exact Below.drewN (jC _ _) _);have R6:=yH (yK o R5);have Au:=yH (x09 (yK o Ap));have B9:=yH (B5.out w6 o);clear U N)
   | (refine jK (by rfl) 107 (.tmp 8) (by rfl) w1.heap.size 0 (by rfl) [.pointer (some ⟨gs,0,none⟩),.int .i64 d] du Au q t STr ?_)
   | (go_at_call 74;refine B9.mono ?_;rintro _ w7 ⟨kd,Q7,rfl,AS,v,Af,AK,z⟩;have Ax:=yH AS;have C:=yH v;have AR:=yH Af;have Ao:=yH AK;have g:=yH z;have u:=yH (Kd.cells_length v.len);have R7:=yH ((z.only.block _ (yL R6) (fun e=>e.elim (fun e=>by have:=HP.lt _ e;omega) (fun e=>by have:=A.out;have:=AH.out;omega))).trans R6.out);clear AS v Af AK z)
   | (refine jL (by rfl) 34 _ _ (by rfl) w.heap.size kd.cells.toArray (by rfl) (by rfl) _ _ R7 (by rw [jF,u.out];exact SKd) (by simp only [jF,u.out,x02]) (jN Kd.one) ?_))
  refine x0G 6 7 (by kernel_rfl) w.heap.size _ kd.cells.toArray _ AP m (by rw [jF,u.out];exact SKd) (by rfl) (by rfl) (jT _ _ _ _ _ _ R7) ?_;have BR:=o.size;have h4:=i.size;have BT:=AH.out;have f:=A.out;have Az:=E.out;have G:=x08 w7 w.heap.size kd.cells.toArray;have BS:w.heap.size+1<w6.heap.size:=by omega
  have Y:∀r∈kd.rows,r.Ok (w7.setRow w.heap.size kd.cells.toArray):=fun r B=>Nd.rw_keep (x06 C r B) (fun x hx hR=>G.block _ (rw_lt (x06 C r B) x hx hR) (by have:=AR.out r B x hx hR;omega));have B0:¬Q7 w.heap.size:=fun e=>(g.new _ e).elim (fun e=>by have:=HP.lt _ e;omega) (fun e=>by omega);refine Or.inr ⟨O.out,kd,Q7,rfl,by rw [Ax.out,AI.out],⟨C.len,C.ok,Y _ (by simp [Kd.rows]),Y _ (by simp [Kd.rows]),Y _ (by simp [Kd.rows]),C.live,C.size⟩,(fun r B x hx hR=>by have:=AR.out r B x hx hR;omega),Ao.out,?_,(fun k hk=>(g.new k hk).imp id (fun e=>by omega)),?_⟩
  ·rw [<- AI.out];exact g.st.keep _ G (fun k hk e=>B0 (e▸hk))
  ·have hf:=X.out;have I:=Only.of_below (fun k:Nat=>k=P) o;have hl:=g.only;refine ⟨G.os.trans (hl.os.trans (I.os.trans hf.os)),G.tape.trans (hl.tape.trans (I.tape.trans hf.tape)),G.output.trans (hl.output.trans (I.output.trans hf.output)),by have:=hf.size;have:=hl.size;have:=G.size;omega,fun k hk hn=>?_⟩;have:=hf.size;have:=hl.size;rw [G.block k (by omega) (by omega),hl.block k (by omega) (fun e=>e.elim hn (fun e=>by omega)),I.block k (by omega) (by omega)];exact hf.block k hk (by omega)
 ·have O:=yH hnd;clear hnd;go_wp2_with (first
   | (go_at_call 92;refine AF.mono ?_;rintro _ w6 ⟨tb,rfl,U,jj,N⟩;obtain rfl:tb=true:=U.2 (AM.2 O);have o:=yH (show Below K.heap.size K w6 from by rw [N];exact Below.drewN (jC _ _) _);have R6:=yH (yK o R5);clear U N)
   | (refine x05 (by rfl) (by rfl) x0T ?_)
   | (refine jL (by rfl) 34 _ _ (by rfl) w.heap.size kd0.cells.toArray (by rfl) (by rfl) _ _ R6 (by rw [jF,x02];exact SKd) rfl (jN Kd.one) ?_))
  refine x0G 6 7 (by kernel_rfl) w.heap.size _ kd0.cells.toArray _ AP m (by rw [jF,x02];exact SKd) (by rfl) (by rfl) (jT _ _ _ _ _ _ R6) ?_;refine Or.inl ⟨O.out,rfl,?_⟩;have f:=A.out;have Az:=E.out;have AG:Below w.heap.size w K:=X.below (jB _) (fun k e=>by omega);exact (AG.trans (o.mono AG.size)).trans (Below.setRow (jC _ _) (jB _) _)
theorem x1Y {d:Nat} {W:Pages}:∀ {u:V},Sees W d u->∀y∈u.rows,y.length=d
 | .nil,_,y,hy=>by cases hy
 | .bad _,_,y,hy=>by cases hy
 | .fork p v l r,h,y,hy=>by
  have hy:y∈(if v then [p] else [])++(l.rows++r.rows):=hy
  rcases jP.1 hy with hy | hy
  ·have hp:=(x1a h.1.right).2.2.1 ⟨p,v⟩ (by simp [forkN])
   have hy:y=p:=by cases v<;>simp at hy;exact hy
   rw [hy]
   simp only at hp
   omega
  ·rcases jP.1 hy with hy | hy
   ·exact x1Y h.2.2.1 y hy
   ·exact x1Y h.2.2.2 y hy
def y4u (w:World) (u:V) (e:Ending) (w':World):Prop:=Below w.heap.size w w'/\
 (u.whole=true->∃(q:Option Addr) (c:Nat) (M:List Rw),e= .returned (.tuple #[.slice q M.length c,.int .i64 0])/\RowsIn w' q M.length c M/\M.map Rw.R=sortP 0 u.rows/\(∀r∈M,∀x,r.p=some x->r.R≠[]->w.heap.size<=x.block)/\(M≠[]->∃g o,q=some ⟨g,o,none⟩/\w.heap.size<=g))/\
 (u.whole=false->e= .returned (.tuple #[.slice none 0 0,.int .i64 21]))
theorem y4v {gs d:Nat} {Q:Nat->Prop} {s:Pg.S} (hd:1<=d/\d<=8) (hW:x2x d s.W) (u:V) (k:Kd) (w:World) (hp:PL w gs Q s) (hs:Sees s.W d u) (hk:k.Ok w) (he:k.pk=u.kid) (hz:u.kid.size<=90000):
  Calls Tryz.prog 27 #[.pointer (some ⟨gs,0,none⟩),.agg k.cells.toArray,.int .i64 d] w (y4u w u):=by
 have b1:=jA w (.cells k.cells.toArray 34);have r1:=jE w (.cells k.cells.toArray 34);have HT:=yH (fun w'=>x43 (some ⟨gs,0,none⟩) d none 0 0 [] w' (y0d w') (by omega));rw [show x2k d []=true from by unfold x2k;rw [kF (by omega)];rfl] at HT;have HE:=yH (fun (w':World) (b:Below w.heap.size w w')=>x7y (gs:=gs) (Q:=Q) hW u k w' (hp.keep (fun _=>False) (Only.of_below _ b) (fun _ _ e=>e)) hs (hk.later b) he hz);have AN:=yH (show ∀y∈u.rows,y.length=d from x1Y hs);have o:=yH (Kd.cells_length hk.len);have A8:=yH hd;have AZ:=yH hz;have R1:=yH r1;have B1:=yH b1;have AP:=yH (show u.whole=true\/u.whole=false from by cases u.whole<;>simp);obtain ⟨du,A4,A0⟩:=UTr;obtain ⟨dk,t,N⟩:=UKd;have G:=yH A4;have J:=yH A0;have AD:=yH t;have U:=yH N;clear hd hW hp hs hk he hz b1 r1 A4 A0 t N
 go_enter Tryz.func27,Tryz.ntmps27
 go_upto_region 1 with fail
 generalize w.alloc (.cells k.cells.toArray 34)=w1 at *;go_upto_region 2 with (first
  | (refine x05 (cells:= #[.pointer (some ⟨gs,0,none⟩),.int .i64 d]) (by rfl) (by rfl) (by simp only [kA,kB,kC];exact x1y _ _) ?_)
  | (refine jL (by rfl) 107 (.tmp 8) (.tmp 13) (by rfl) w1.heap.size #[.pointer (some ⟨gs,0,none⟩),.int .i64 d] (by rfl) (by rfl) _ _ (jE w1 _) STr rfl (x4E _ _) ?_;rw [x03]))
 have Y:=jA w1 (.cells #[.pointer (some ⟨gs,0,none⟩),.int .i64 d] 107);have j:=jE w1 (.cells #[.pointer (some ⟨gs,0,none⟩),.int .i64 d] 107);generalize w1.alloc (.cells #[.pointer (some ⟨gs,0,none⟩),.int .i64 d] 107)=w2 at *;have R2:=yH j;have AU:=yH (x09 j);have AW:=yH (yK Y R1);have B2:=yH (B1.trans (Y.mono B1.size));clear Y j;go_upto_region 4 with (first
  | (refine jK (by rfl) 107 (.tmp 8) (by rfl) w1.heap.size 0 (by rfl) [.pointer (some ⟨gs,0,none⟩),.int .i64 d] du AU G J STr ?_)
  | (go_at_call 87;refine (HT.out w2).mono ?_;rintro _ w3 ⟨rfl,b3⟩;have Z:=yH (B2.trans (b3.mono B2.size));have R3:=yH (yK b3 R2);have AM:=yH (yK b3 AW);clear b3))
 have A2:=yH (x09 R3);have P:=yH (x0E AM);rcases AP.out with I | I
 ·have C:=yH I;clear I;go_upto_region 5 with (first
   | (refine jK (by rfl) 107 (.tmp 8) (by rfl) w1.heap.size 0 (by rfl) [.pointer (some ⟨gs,0,none⟩),.int .i64 d] du A2 G J STr ?_)
   | (refine jK (by rfl) 34 _ (by rfl) w.heap.size 0 (by rfl) k.cells dk P AD U (by rw [o.out];exact SKd) ?_)
   | (go_at_call 72;refine (HE.out w3 Z).mono ?_;rintro _ w4 ⟨AT,q,c,O,rfl,A,L,hw,b,K,B⟩;obtain ⟨rfl,A7⟩:=hw C.out;have A6:=yH A;have H:=yH L;have f:=yH A7;have AL:=yH K;have m:=yH (Z.trans (B.mono Z.size));have R4:=yH (yK B R3);clear A L hw b A7 K B))
  have AG:=yH (x09 R4);have AV:=yH (show w.heap.size<=w3.heap.size/\w1.heap.size<w3.heap.size from ⟨Z.size,(yL R3)⟩);by_cases h0:O.length=0
  ·have hO:=jZ.1 h0;subst hO;have E:=yH (y15 (some ⟨gs,0,none⟩) d 0 c q w4 (by have:=A8.out;omega) (by omega));have AA:=f.out;have AX:=yH AA;clear AA h0;simp only [List.length_nil];go_wp2_with (first
    | (refine jK (by rfl) 107 (.tmp 8) (by rfl) w1.heap.size 0 (by rfl) [.pointer (some ⟨gs,0,none⟩),.int .i64 d] du AG G J STr ?_)
    | (go_at_call 88;refine E.mono ?_;rintro _ w5 ⟨rfl,b5⟩;have B5:=yH (m.trans (b5.mono m.size));clear b5))
   go_ret2;refine ⟨B5.out,fun _=>⟨q,c,[],rfl,⟨rfl,Nat.zero_le _,(fun r hr=>by cases hr),Or.inl rfl⟩,?_,(fun r hr=>by cases hr),fun h=>absurd rfl h⟩,fun h=>by rw [C.out] at h;cases h⟩;have h:=AX.out;rw [kC] at h;rw [kC,<- h];rfl
  ·obtain ⟨g,c',hv,hn,hc,a,A3,X⟩:=x7q A6.out (by omega);simp only [Value.slice.injEq,true_and] at hv;obtain ⟨rfl,rfl⟩:=hv;have hO:O≠[]:=fun e=>h0 (by rw [e];rfl);have E:=yH (x5q (some ⟨gs,0,none⟩) d 0 g 0 c O w4 hO X (fun r hr=>⟨(H.out r hr).1,by
    have h1:=(H.out r hr).1.ints.size;have h2:=AN.out r.R (by rw [<- f.out];exact List.mem_map_of_mem hr);omega,fun x hx hR e=>((H.out r hr).2 x hx hR).1 (by rw [e];rfl)⟩) (by have:=A8.out;omega) (by omega) A3 (by have:=AL.out;have:=AZ.out;omega))
   rw [Nat.zero_mod] at E;have p:=yH (show w3.heap.size<=g/\O.length<=c from ⟨a,hc⟩);obtain ⟨n,l⟩:∃n,n=O.length:=⟨_,rfl⟩
   rw [<- l] at E p ⊢;have AY:=yH l;clear h0 hO hn hc a A3 X l;go_wp2_with (first
    | (refine jK (by rfl) 107 (.tmp 8) (by rfl) w1.heap.size 0 (by rfl) [.pointer (some ⟨gs,0,none⟩),.int .i64 d] du AG G J STr ?_)
    | (go_at_call 88;refine E.mono ?_;rintro _ w5 ⟨rfl,M,z,v,A5,AC⟩;have i:=yH z;have AK:=yH v;have AO:=yH A5;have AF:=yH AC;clear z v A5 AC))
   go_ret2;have AR:M.length=n:=i.length_eq.trans AY.symm;have A1:∀r∈M,r.Ok w5:=fun r hr=>by
    have h:=H.out r (i.mem_iff.1 hr);exact Nd.rw_keep h.1 fun y hy hR=>AF.only.block _ (rw_lt h.1 y hy hR) (fun e=>(h.2 y hy hR).1 (by rw [e];rfl))
   have An:=AV.out;have a:=p.out;refine ⟨m.trans (AF.only.below m.size (fun k e=>by omega)),fun _=>⟨some ⟨g,0,none⟩,c,M,by rw [AR];rfl,x6D AO A1 (by omega),by rw [AK.out,f.out],fun r hr x hx hR=>?_,fun _=>⟨g,0,rfl,by omega⟩⟩,fun h=>by rw [C.out] at h;cases h⟩;have h:=((H.out r (i.mem_iff.1 hr)).2 x hx hR).2;omega
 ·have C:=yH I;clear I;go_wp2_with (first
   | (refine jK (by rfl) 107 (.tmp 8) (by rfl) w1.heap.size 0 (by rfl) [.pointer (some ⟨gs,0,none⟩),.int .i64 d] du A2 G J STr ?_)
   | (refine jK (by rfl) 34 _ (by rfl) w.heap.size 0 (by rfl) k.cells dk P AD U (by rw [o.out];exact SKd) ?_)
   | (go_at_call 72;refine (HE.out w3 Z).mono ?_;rintro _ w4 ⟨AT,q,c,O,rfl,A,L,hw,b,K,B⟩;obtain rfl:=b C.out;have m:=yH (Z.trans (B.mono Z.size));clear A L hw b K B))
  go_ret2;exact ⟨m.out,fun h=>(by rw [C.out] at h;cases h),fun _=>rfl⟩
end Kt
end Go.Proofs.YtenenciaggbjnaaGreat
