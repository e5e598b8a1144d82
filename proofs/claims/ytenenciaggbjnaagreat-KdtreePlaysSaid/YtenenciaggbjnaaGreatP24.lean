/- KdRaise. -/
import Derived.Test.YtenenciaggbjnaaGreatP23
set_option maxRecDepth 100000
set_option maxHeartbeats 8000000
set_option linter.all false
namespace Go.Proofs.YtenenciaggbjnaaGreat
namespace Kt
open Go.RowKit Go.Shelf Nd Dk Pg Wl
attribute [local go_sem] Oper.semAt_some
def isC (w:World) (k:Nat):Prop:=∀o:Obj,w.heap[k]? =some o->o.isCells=true
theorem x4H {w:World} {k o:Nat} {v:Value} (h:w.cell? ⟨k,o,none⟩=some v):isC w k:=fun x hx=>by
 cases x with
 | cells c t z=>rfl
 | _=>simp [World.cell?,hx] at h
theorem PL.low {w:World} {g b:Nat} {Q:Nat->Prop} {s:Pg.S} (h:PL w g Q s) (hb:w.cell? ⟨g,0,none⟩=some (.map (some b))):PL w g (fun k=>Q k/\(k=b\/isC w k)) s:=by
 obtain ⟨C,I,h⟩:=h;have B:C=some b:=by
  have:=h.c0;rw [hb] at this
  simpa using this.symm
 have A:∀ {p:Option Addr} {m c:Nat} {t:List Nat},TQ Q w p m c t->TQ (fun k=>Q k/\(k=b\/isC w k)) w p m c t:=fun {p m c t} ht=>⟨ht.tx,fun x hx hne=>⟨ht.own x hx hne,Or.inr (by
  obtain ⟨N,M,E,H⟩:=ht.tx.bytes.ne hne;rw [hx] at E;cases E
  exact x4H (H 0 (kP.2 hne)))⟩,ht.le⟩
 refine ⟨C,I,h.row,?_,?_,⟨h.mine,Or.inr (x4H h.c0)⟩,fun k hk=>h.lt k hk.1,h.ok⟩
 ·exact h.pages.imp id fun ⟨b',L,h1,h2,h3⟩=>⟨b',L,h1,h2,⟨⟨h3.mine,Or.inl (by rw [B] at h1;exact (Option.some.inj h1).symm)⟩,h3.map,fun e he=>A (h3.text e he)⟩⟩
 ·exact h.clash.imp id fun ⟨c,x,y,h1,h2,h3⟩=>⟨c,x,y,h1,h2,by
   obtain ⟨p,m,k,q,n,l,G,K,J⟩:=h3.row;exact ⟨⟨h3.mine,Or.inr (fun o ho=>by rw [G] at ho;cases ho;rfl)⟩,p,m,k,q,n,l,G,A K,A J⟩⟩
structure RaW (w:World) (gs d:Nat) (Q:Nat->Prop) (A:List MSt) (b0:Nat) (st:PK×Pg.S) (kk:Kd) (Q':Nat->Prop) (W:World):Prop where
 r3:W.heap[w.heap.size]? =some (.cells #[.pointer (some ⟨gs,0,none⟩),.int .i64 d] 107 (0,0))
 r5:W.heap[w.heap.size+1]? =some (.cells kk.cells.toArray 34 (0,0))
 r6:W.heap[w.heap.size+2]? =some (.cells kd0.cells.toArray 34 (0,0))
 ok:kk.Ok W
 pk:kk.pk=st.1
 aw:Aw Q' kk
 far:∀m∈A,∀r∈kk.rows,∀x,r.p=some x->r.R≠[]->x.block≠m.gk
 pl:PL W gs Q' st.2
 sub:∀k,Q' k->Q k\/w.heap.size+4<=k
 norm:∀k,Q' k->k=b0\/isC W k
 map:W.cell? ⟨gs,0,none⟩=some (.map (some b0))
 each:∀m∈A,StM W m
 only:Only (fun k=>Q k\/∃m∈A,k=m.gk) w W
 z:w.heap.size+4<=W.heap.size
def RaI (w:World) (gs d:Nat) (Q:Nat->Prop) (A:List MSt) (b0:Nat) (k0:Kd) (s0:Pg.S) (pre:List Nat) (W:World):Prop:=
 ∃kk Q',RaW w gs d Q A b0 (foldR A k0.pk s0 pre) kk Q' W/\(pre=[]->kk=k0)/\(pre≠[]->∀r∈kk.rows,∀x,r.p=some x->r.R≠[]->w.heap.size+4<=x.block)
theorem y3C {W W':World} {row:Option Nat} {k:Nat} (h:isC W k) (hg:W.grownBy W' row) (hk:k<W.heap.size) (hr:∀r,row=some r->∃o:Obj,W.heap[r]? =some o/\o.isCells=false):isC W' k:=fun o ho=>by
 refine h o ((hg.block k hk (fun e=>?_)).symm.trans ho)
 obtain ⟨o',ho',hc⟩:=hr k e.symm
 rw [h o' ho'] at hc
 cases hc
theorem y3D {w:World} {r:Rw} (h:r.Ok w):∀x,r.p=some x->r.R≠[]->isC w x.block:=fun x hx hR=>by
 rcases h.ints.at' with h0 | ⟨g,o,hp,hc⟩
 ·exact absurd h0 hR
 ·rw [hx] at hp
  obtain rfl:x=⟨g,o,none⟩:=by simpa using hp
  exact x4H (hc 0 (kP.2 hR))
theorem y3E {W:World} {m:MSt} (h:StM W m):isC W m.ge/\isC W m.gk/\(∀x,m.row.p=some x->m.row.R≠[]->isC W x.block):=by
 refine ⟨x4H (h.ent 0 _ rfl),?_,fun x hx hR=>?_⟩
 ·have B:=(h.kidT 0 (by decide)).1;obtain ⟨v,A⟩:=Option.isSome_iff_exists.1 B;exact x4H A
 ·exact y3D h.row x hx hR
theorem y3F {w:World} {gs d:Nat} {Q:Nat->Prop} {A:List MSt} {b0:Nat} {st:PK×Pg.S} {kk:Kd} {Q':Nat->Prop} {W W':World} {row:Option Nat} (h:RaW w gs d Q A b0 st kk Q' W) (hb:b0<w.heap.size) (hg:W.grownBy W' row) (hr:∀r,row=some r->w.heap.size<=r/\∃o:Obj,W.heap[r]? =some o/\o.isCells=false):RaW w gs d Q A b0 st kk Q' W':=by
 have G:∀r,row=some r->∃o:Obj,W.heap[r]? =some o/\o.isCells=false:=fun r e=>(hr r e).2;have E:∀k,k<W.heap.size->isC W k->W'.heap[k]? =W.heap[k]? :=fun k hk M=>hg.block k hk (fun e=>by
  obtain ⟨o,J,L⟩:=G k e.symm;rw [M o J] at L;cases L)
 have H:∀k,k<w.heap.size->W'.heap[k]? =W.heap[k]? :=fun k hk=>hg.block k (by have:=h.z;omega) (fun e=>by have:=(hr k e.symm).1;omega);have O:∀k,Q' k->W'.heap[k]? =W.heap[k]? :=fun k hk=>(h.norm k hk).elim (fun e=>H k (by rw [e];exact hb)) (fun e=>E k (h.pl.lt k hk) e);have K:∀r:Rw,r.Ok W->∀x,r.p=some x->r.R≠[]->W'.heap[x.block]? =W.heap[x.block]? :=fun r hr x hx hR=>E _ (rw_lt hr x hx hR) (y3D hr x hx hR);obtain ⟨P,Y,U⟩:=h.pl;have C:∀k:Kd,k.Ok W->k.Ok W':=fun k hk=>x1L hk fun r hr=>K r (x06 hk r hr);refine ⟨x15 h.r3 hg G,x15 h.r5 hg G,x15 h.r6 hg G,C _ h.ok,h.pk,h.aw,h.far,⟨P,Y,U.keep hg.size O⟩,h.sub,fun k hk=>(h.norm k hk).imp id (fun e=>y3C e hg (h.pl.lt k hk) G),?_,fun m hm=>?_,?_,jJ h.z hg.size⟩
 ·exact (jX (w:=W) (a:=⟨gs,0,none⟩) (O gs (PL.mine h.pl))).trans h.map
 ·have B:=h.each m hm;have M:=y3E B;have N:=E m.ge (jI (B.ent 0 _ rfl)) M.1;have I:W'.heap[m.gk]? =W.heap[m.gk]? :=E m.gk (by
   have X:=(B.kidT 0 (by decide)).1;obtain ⟨v,Z⟩:=Option.isSome_iff_exists.1 X;exact jI Z) M.2.1
  exact ⟨x0b B.ent N,Nd.rw_keep B.row (K _ B.row),fun e=>⟨x0b (B.k1 e).1 I,C _ (B.k1 e).2⟩,fun e=>⟨x0b (B.k2 e).1 I,C _ (B.k2 e).2⟩,x3M B.kidT I⟩
 ·have J:=h.only;exact ⟨hg.os.trans J.os,hg.tape.trans J.tape,hg.output.trans J.output,jJ J.size hg.size,fun k hk L=>(H k hk).trans (J.block k hk L)⟩
theorem y6e (w:World) (gs d:Nat) (Q:Nat->Prop) (A:List MSt) (b0:Nat) (k0:Kd) (s0:Pg.S) (hb:b0<w.heap.size) {B:Nat} (hB:w.heap.size<=B):OwnFrom B (RaI w gs d Q A b0 k0 s0):=fun _ _ _ _ ⟨kk,Q',h,h1,h2⟩ hg hr=>
 ⟨kk,Q',y3F h hb hg fun r e=>⟨jJ hB (hr r e).1,(hr r e).2⟩,h1,h2⟩
def RaE (w:World) (k0:Kd) (W:World):Prop:=W.heap[w.heap.size+1]? =some (.cells k0.cells.toArray 34 (0,0))/\W.heap[w.heap.size+2]? =some (.cells kd0.cells.toArray 34 (0,0))/\Below w.heap.size w W/\w.heap.size+4<=W.heap.size
def RaJ (w:World) (gs d:Nat) (Q:Nat->Prop) (A:List MSt) (b0:Nat) (k0:Kd) (s0:Pg.S) (pre:List Nat) (W:World):Prop:=(A≠[]/\RaI w gs d Q A b0 k0 s0 pre W)\/(A=[]/\RaE w k0 W)
theorem y3G (w:World) (gs d:Nat) (Q:Nat->Prop) (A:List MSt) (b0:Nat) (k0:Kd) (s0:Pg.S) (hb:b0<w.heap.size) {B:Nat} (hB:w.heap.size<=B):OwnFrom B (RaJ w gs d Q A b0 k0 s0):=fun s W W' row h hg hr=>by
 rcases h with ⟨h0,h⟩ | ⟨h0,h1,h2,h3,h4⟩
 ·exact Or.inl ⟨h0,y6e w gs d Q A b0 k0 s0 hb hB s W W' row h hg hr⟩
 ·exact Or.inr ⟨h0,x15 h1 hg fun r e=>(hr r e).2,x15 h2 hg fun r e=>(hr r e).2,h3.grown hg h3.size (fun k e=>jJ hB (hr k e).1),jJ h4 hg.size⟩
def RaX (w:World) (gs d:Nat) (v kv:Value) (A:List MSt) (x:Nat) (a':Act) (W:World):Prop:=
 ∃B8,w.heap.size+4<=B8/\a'={tmps:= #[.agg #[.pointer (some ⟨gs,0,none⟩),.int .i64 d],v,kv,.pointer (some ⟨w.heap.size,0,none⟩),undef,.pointer (some ⟨w.heap.size+1,0,none⟩),.pointer (some ⟨w.heap.size+1+1,0,none⟩),undef,.pointer (some ⟨B8,0,none⟩),v,.func (.func 194) #[] #[.pointer (some ⟨w.heap.size+1+1+1,0,none⟩)],.int .i64 ((A.length:Int) - 1 - x),.agg (x0Q A x).cells.toArray,undef,undef,undef,undef,undef,undef,undef,undef,undef,undef,undef,undef],defers:=[]}/\W.heap[B8]? =some (.cells (x0Q A x).cells.toArray 117 (0,0))
theorem y6f (w:World) (gs d:Nat) (v kv:Value) (A:List MSt) (B:Nat) (x:Nat) (a':Act):OwnFrom B (fun (_:Unit) W=>RaX w gs d v kv A x a' W):=fun _ _ _ _ ⟨B8,hB,e,h⟩ hg hr=>
 ⟨B8,hB,e,x15 h hg fun r e=>(hr r e).2⟩
def y3H (w:World) (gs:Nat) (Q:Nat->Prop) (A:List MSt) (k0:Kd) (st:PK×Pg.S) (e:Ending) (w':World):Prop:=
 ∃kd Q',e= .returned (.agg kd.cells.toArray)/\kd.pk=st.1/\kd.Ok w'/\((A=[]/\kd=k0)\/Fsh w kd)/\PL w' gs Q' st.2/\(∀k,Q' k->Q k\/w.heap.size<=k)/\Aw Q' kd/\Only (fun k=>Q k\/∃m∈A,k=m.gk) w w'
theorem y1X {w:World} {b n:Nat} (h:w.there b 0 n) (o m:Nat) (ho:o+m<=n):w.there b o m:=fun j hj=>by
 have:=h (o+j) (by omega)
 simpa using this
theorem x55 {w:World} {m:MSt} (h:m.Ok w):m.ge<w.heap.size/\m.gk<w.heap.size:=⟨h.lt _ (Or.inl rfl),h.lt _ (Or.inr (Or.inl rfl))⟩
section
variable {B:Nat} {w:World} {gs d:Nat} {Q:Nat->Prop} {A:List MSt} {b0:Nat} {st:PK×Pg.S} {kk:Kd} {Q':Nat->Prop} {W:World} {m:MSt}
theorem RaW.notQ (h:RaW w gs d Q A b0 st kk Q' W) (hQ:∀k,Q k->k<w.heap.size) {k:Nat} (hk:k<w.heap.size+4) (hn:¬Q k):¬Q' k:=fun e=>(h.sub k e).elim hn (fun e=>by omega)
theorem RaW.set (h:RaW w gs d Q A b0 st kk Q' W) (hm:m∈A) (hwy:WayM B w A) (hwg:∀m∈A,∀k,m.reads k->¬Q k) (hQ:∀k,Q k->k<w.heap.size):
  PL (W.setCells m.gk m.at' kk.cells) gs Q' st.2/\StM (W.setCells m.gk m.at' kk.cells) m/\(W.setCells m.gk m.at' kk.cells).rangeAt m.gk m.at' kk.cells/\kk.Ok (W.setCells m.gk m.at' kk.cells)/\W.there m.gk m.at' 37/\W.heap.size=(W.setCells m.gk m.at' kk.cells).heap.size:=by
 have H:=x1P W m.gk m.at' kk.cells;have C:=hwy.each m hm;have I:=x55 C;have E:=Kd.cells_length h.ok.len;have G:W.there m.gk m.at' 37:=y1X (h.each m hm).kidT _ _ (by unfold MSt.at';split<;>omega);refine ⟨h.pl.keep _ H (fun k hk e=>h.notQ hQ (by rw [e];omega) (by rw [e];exact hwg m hm _ (Or.inr (Or.inl rfl))) hk),(h.each m hm).put ⟨C.k1.len,C.k2.len⟩ C.apart C.ne E,World.rangeAt_setCells_same _ _ _ _ (by rw [E];exact G),x1L h.ok fun r hr x hx hR=>H.block _ (rw_lt (x06 h.ok r hr) x hx hR) (h.far m hm r hr x hx hR),G,?_⟩;exact ((x0S m.gk kk.cells m.at' W).1).symm
theorem RaW.step (h:RaW w gs d Q A b0 st kk Q' W) (hm:m∈A) (hwy:WayM B w A) (hwg:∀m∈A,∀k,m.reads k->¬Q k) (hQ:∀k,Q k->k<w.heap.size) (hgQ:Q gs) (hb0:b0<w.heap.size) {W2:World} {kd:Kd} {Q6:Nat->Prop} (hpk:kd.pk=(forkM m kk.pk).says) (hok:kd.Ok W2) (hfs:Fsh (W.setCells m.gk m.at' kk.cells) kd)
  (hpl:PL W2 gs Q6 (st.2.put (forkM m kk.pk).bytes)) (hsub:∀k,Q6 k->Q' k\/(W.setCells m.gk m.at' kk.cells).heap.size<=k) (haw:Aw Q6 kd) (ho2:Only Q' (W.setCells m.gk m.at' kk.cells) W2) (hms:Mst gs (W.setCells m.gk m.at' kk.cells) W2):
  RaW w gs d Q A b0 ((forkM m st.1).says,st.2.put (forkM m st.1).bytes) kd (fun k=>Q6 k/\(k=b0\/isC W2 k)) (W2.setRow (w.heap.size+1) kd.cells.toArray)/\(∀B',w.heap.size+4<=B'->KeepsFrom B' W (W2.setRow (w.heap.size+1) kd.cells.toArray))/\(∀j,j<w.heap.size+4->¬Q j->j≠m.gk->j≠w.heap.size+1->(W2.setRow (w.heap.size+1) kd.cells.toArray).heap[j]? =W.heap[j]?)/\∀r∈kd.rows,∀x,r.p=some x->r.R≠[]->w.heap.size+4<=x.block:=by
 have N:=x1P W m.gk m.at' kk.cells;have I:=hwy.each m hm;have g:=x55 I;have l:=h.z;have P:W.heap.size=(W.setCells m.gk m.at' kk.cells).heap.size:=((x0S m.gk kk.cells m.at' W).1).symm;rw [<- P] at hsub;have K:∀r∈kd.rows,∀x,r.p=some x->r.R≠[]->W.heap.size<=x.block:=fun r hr x hx hR=>by rw [P];exact hfs r hr x hx hR
 generalize hW1:W.setCells m.gk m.at' kk.cells=W1 at *;have f:=ho2.size;have C:=x08 W2 (w.heap.size+1) kd.cells.toArray;have i:gs<w.heap.size:=hQ gs hgQ;have G:=fun {k:Nat}=>h.notQ (k:=k) hQ;have H:∀j,j<W.heap.size->¬Q' j->j≠m.gk->j≠w.heap.size+1->(W2.setRow (w.heap.size+1) kd.cells.toArray).heap[j]? =W.heap[j]? :=fun j h1 h2 h3 h4=>(C.block j (by omega) h4).trans ((ho2.block j (by omega) h2).trans (N.block j h1 h3));have U:¬Q (w.heap.size+1):=fun e=>by have:=hQ _ e;omega
 have M:¬Q6 (w.heap.size+1):=fun e=>(hsub _ e).elim (G (by omega) U) (fun e=>by omega);have Y:gs≠m.gk:=fun e=>hwg m hm _ (Or.inr (Or.inl rfl)) (e▸hgQ);have O:W1.cell? ⟨gs,0,none⟩=some (.map (some b0)):=(jX (w:=W) (a:=⟨gs,0,none⟩) (N.block gs (by omega) Y)).trans h.map;have J:=hms b0 O;have b:W2.heap[w.heap.size+1]? =some (.cells kk.cells.toArray 34 (0,0)):=(ho2.block _ (by omega) (G (by omega) U)).trans ((N.block _ (by omega) (by omega)).trans h.r5);have X:∀r∈kd.rows,∀x,r.p=some x->r.R≠[]->(W2.setRow (w.heap.size+1) kd.cells.toArray).heap[x.block]? =W2.heap[x.block]? :=fun r hr x hx hR=>C.block _ (rw_lt (x06 hok r hr) x hx hR) (by have:=K r hr x hx hR;omega);refine ⟨⟨?_,?_,?_,x1L hok X,by rw [hpk,h.pk],fun r hr x hx hR e=>haw r hr x hx hR e.1,fun m' hm' r hr x hx hR=>?_,?_,fun k hk=>?_,fun k hk=>hk.2.imp id (fun e=>?_),?_,fun m' hm'=>?_,?_,?_⟩,fun B' hB'=>?_,fun j h1 h2 h3 h4=>H j (by omega) (G h1 h2) h3 h4,fun r hr x hx hR=>by have:=K r hr x hx hR;omega⟩
 ·exact (H _ (by omega) (G (by omega) (fun e=>by have:=hQ _ e;omega)) (by omega) (by omega)).trans h.r3
 ·exact jT _ _ _ _ _ _ b
 ·exact (H _ (by omega) (G (by omega) (fun e=>by have:=hQ _ e;omega)) (by omega) (by omega)).trans h.r6
 ·have:=K r hr x hx hR;have:=(x55 (hwy.each m' hm')).2;omega
 ·rw [<- h.pk];exact (PL.low hpl J).keep _ C (fun k hk e=>M (e▸hk.1))
 ·rcases hsub k hk.1 with e | e
  ·exact h.sub k e
  ·right;omega
 ·intro o ho';refine e o ?_;rw [<- C.block k (hpl.lt k hk.1) (fun e2=>M (e2▸hk.1))];exact ho'
 ·exact (jX (w:=W2) (a:=⟨gs,0,none⟩) (C.block gs (by omega) (by omega))).trans J
 ·have E:=(hwy.each m' hm').lt;have c:StM W1 m':=by
   rcases hwy.two m' hm' m hm with e | e
   ·subst e;rw [<- hW1];exact (h.each m' hm').put ⟨I.k1.len,I.k2.len⟩ I.apart I.ne (Kd.cells_length h.ok.len)
   ·exact (h.each m' hm').keep fun k hk=>N.block k (by have:=E k hk;omega) (fun e2=>e.2 (e2▸hk))
  exact c.keep fun k hk=>(C.block k (by have:=E k hk;omega) (by have:=E k hk;omega)).trans (ho2.block k (by have:=E k hk;omega) (G (by have:=E k hk;omega) (hwg m' hm' k hk)))
 ·have L:=h.only;refine ⟨C.os.trans (ho2.os.trans (N.os.trans L.os)),C.tape.trans (ho2.tape.trans (N.tape.trans L.tape)),C.output.trans (ho2.output.trans (N.output.trans L.output)),jJ L.size (by have:=C.size;omega),fun k hk hn=>?_⟩;rw [H k (by omega) (G (by omega) (fun e=>hn (Or.inl e))) (fun e=>hn (Or.inr ⟨m,hm,e⟩)) (by omega)];exact L.block k hk hn
 ·have:=C.size;omega
 ·refine ⟨by have:=C.size;omega,fun k o hk ho' hc=>?_⟩;have Z:=(yL ho')
  rw [H k Z (fun e=>?_) (by omega) (by omega)]
  ·exact ho'
  ·rcases h.norm k e with e | e
   ·omega
   ·rw [e o ho'] at hc;cases hc
end
theorem y1Y {B gs d:Nat} {w W w':World} {Q:Nat->Prop} {A:List MSt} {b0 D:Nat} {k0:Kd} {s0:Pg.S} (hb0:b0<w.heap.size) (hk:k0.Ok w) (hka:Aw Q k0) (hp:PL w gs Q s0) (hD:w.heap.size+4<=D) (hK:W.heap[D]? =some (.deferred (some []))) (hJ:RaJ w gs d Q A b0 k0 s0 (List.range A.length) W):
  ∃kd:Kd,W.heap[w.heap.size+1]? =some (.cells kd.cells.toArray 34 (0,0))/\W.heap[w.heap.size+2]? =some (.cells kd0.cells.toArray 34 (0,0))/\kd.cells.length=37/\∀w',w'=(W.setRow (w.heap.size+2) kd.cells.toArray).putObj D (.deferred none)->y3H w gs Q A k0 (foldR A k0.pk s0 (List.range A.length)) (.returned (.agg kd.cells.toArray)) w':=by
 have Z:∀cs:Array Value,(W.setRow (w.heap.size+2) cs).grownBy ((W.setRow (w.heap.size+2) cs).putObj D (.deferred none)) (some D):=fun cs=>grownBy_putObj' _ D (.deferred none);have Y:=hp.lt;rcases hJ with ⟨R,K,X,h,-,M⟩ | ⟨R,N,P,I,g⟩
 ·have O:List.range A.length≠[]:=fun e=>R (jZ.1 (by simpa using congrArg List.length e));have M:=M O;refine ⟨K,h.r5,h.r6,Kd.cells_length h.ok.len,?_⟩;rintro w' rfl;have E:=x08 W (w.heap.size+2) K.cells.toArray;have C:=Z K.cells.toArray;have f:=h.z;have J:∀k,k<W.heap.size->k≠w.heap.size+2->k≠D->((W.setRow (w.heap.size+2) K.cells.toArray).putObj D (.deferred none)).heap[k]? =W.heap[k]? :=fun k N P I=>(C.block k (by have:=E.size;omega) (fun e=>I (Option.some.inj e))).trans (E.block k N P);have L:¬isC W D:=fun e=>by
   have:=e _ hK;cases this
  have U:∀k,X k->((W.setRow (w.heap.size+2) K.cells.toArray).putObj D (.deferred none)).heap[k]? =W.heap[k]? :=fun k hk=>J k (h.pl.lt k hk) (fun e=>h.notQ Y (by omega) (fun e2=>by have:=Y _ e2;omega) hk) (fun e=>by
   subst e;rcases h.norm _ hk with e | e
   ·omega
   ·exact L e)
  obtain ⟨a,c,b⟩:=h.pl;refine ⟨K,X,rfl,h.pk,x1L h.ok fun r hr x hx hR=>J _ (rw_lt (x06 h.ok r hr) x hx hR) (by have:=M r hr x hx hR;omega) (fun e=>L (e▸y3D (x06 h.ok r hr) x hx hR)),Or.inr fun r hr x hx hR=>by have:=M r hr x hx hR;omega,⟨a,c,b.keep (jJ E.size C.size) U⟩,fun k hk=>(h.sub k hk).imp id (fun e=>by omega),h.aw,?_⟩;have G:=h.only;exact ⟨C.os.trans (E.os.trans G.os),C.tape.trans (E.tape.trans G.tape),C.output.trans (E.output.trans G.output),jJ G.size (jJ E.size C.size),fun k hk hn=>(J k (by omega) (by omega) (by omega)).trans (G.block k hk hn)⟩
 ·refine ⟨k0,N,P,Kd.cells_length hk.len,?_⟩;rintro w' rfl;have E:=x08 W (w.heap.size+2) k0.cells.toArray;have C:=Z k0.cells.toArray;have H:Only (fun _=>False) w ((W.setRow (w.heap.size+2) k0.cells.toArray).putObj D (.deferred none)):=⟨C.os.trans (E.os.trans I.os),C.tape.trans (E.tape.trans I.tape),C.output.trans (E.output.trans I.output),jJ I.size (jJ E.size C.size),fun k hk _=>(C.block k (by have:=E.size;omega) (fun e=>by have:=Option.some.inj e;omega)).trans ((E.block k (by omega) (by omega)).trans (I.block k hk))⟩
  subst R;exact ⟨k0,Q,rfl,rfl,x1L hk fun r hr x hx hR=>H.block _ (rw_lt (x06 hk r hr) x hx hR) (fun e=>e),Or.inl ⟨rfl,rfl⟩,hp.keep _ H (fun _ _ e=>e),fun k hk=>Or.inl hk,hka,H.mono (fun _ e=>e.elim)⟩
theorem y3I {fn:Func} {w2:World} {tmps:Array Value} {p:Tmp} {ty:TypeId} {d:TypeDesc} {g D:Nat} {t:TypeId} {cs:Array Value} {R:Ending->World->Prop} (hr:fn.results= #[.cell p ty]) (hu:Tryz.prog.underlying ty=some d) (hd:d.isRow=true) (hi:(Tryz.prog.info? ty).map (·.size)=some cs.size) (hp:tmps.getD p undef= .pointer (some ⟨g,0,none⟩)) (hg:w2.heap[g]? =some (.cells cs t (0,0))) (hK:w2.heap[D]? =some (.deferred (some []))) (h:R (.returned (.agg cs)) (w2.putObj D (.deferred none))):bodyPostM Fence.wide 5 Tryz.prog fn R .ret ⟨tmps,[{target:=.collected D,args:= #[]}]⟩ w2:=by
 refine ⟨by simp,.inl ⟨_,_,rfl,run_takeDeferred hK,?_⟩⟩;refine ⟨.agg cs,?_,h⟩;have A:(w2.putObj D (.deferred none)).heap[g]? =some (.cells cs t (0,0)):=x15 hg (grownBy_putObj' _ D (.deferred none)) (fun r e=>by cases e;exact ⟨_,hK,rfl⟩);exact results_cell_row hr tmps _ g t cs (0,0) d hp A hu (by cases d<;>first | rfl | (cases hd)) hi
theorem kl_nd {w:World} {b:Nat} {m:MSt} (h:w.rangeAt b 0 m.cells) (hl:m.kid.sum.length=32):w.rangeAt b 37 [.int .u8 1,.slice (some ⟨m.ge,0,none⟩) 1 m.ce,.slice (some ⟨m.gk,0,none⟩) 2 m.ck]:=fun j v hv=>by
 have hj:j<3:=(List.getElem?_eq_some_iff.1 hv).1
 obtain ⟨h1,h2,h3,_⟩:=x3o m hl
 rcases j with _ | _ | _ | j
 ·cases hv;simpa using h 37 _ h1
 ·cases hv;simpa using h 38 _ h2
 ·cases hv;simpa using h 39 _ h3
 ·omega
theorem x8q {B gs d Z g:Nat} {w:World} {q:Option Addr} {c:Nat} {A:List MSt} {k0:Kd} {Q:Nat->Prop} {s0:Pg.S} (hd:1<=d/\d<=8) (hq:A≠[]->q=some ⟨g,0,none⟩/\A.length<=c/\∀i,i<A.length->w.rangeAt g (i*41) (A.getD i default).cells)
  (hw:WayM B w A) (hwg:∀m∈A,∀k,m.reads k->k≠g/\¬Q k) (hqg:A≠[]->¬Q g) (hA:A.length<=1000) (hk:k0.Ok w) (hka:Aw Q k0) (hkf:∀m∈A,∀r∈k0.rows,∀x,r.p=some x->r.R≠[]->x.block≠m.gk) (hp:PL w gs Q s0) (hs0:A≠[]->s0.W≠[]) (hsl:s0.W.length+A.length<=90000)
  (hgk:GoodK d k0.pk) (hgm:∀m∈A,GoodM d Z m) (hz:k0.pk.size+(A.length*(Z+1):Nat)<=1048576):
  Calls Tryz.prog 73 #[.agg #[.pointer (some ⟨gs,0,none⟩),.int .i64 d],.slice q A.length c,.agg k0.cells.toArray] w (y3H w gs Q A k0 (foldR A k0.pk s0 (List.range A.length))):=by
 obtain ⟨n,hn⟩:∃n,n=A.length:=⟨_,rfl⟩
 have HN:=yH hn;obtain ⟨kv,Ab⟩:∃kv:Value,kv= .agg k0.cells.toArray:=⟨_,rfl⟩
 have BL:=yH Ab;have AV:=fun w'=>y0Y (.slice q n c) rfl w';have Ac:=yH (show ∀m∈A,m.cells.length=41 from fun m hm=>MSt.cells_length (hw.each m hm).kid.len);obtain ⟨b0,Am,Ad⟩:∃b0,b0<w.heap.size/\(A≠[]->w.cell? ⟨gs,0,none⟩=some (.map (some b0))):=by
  obtain ⟨mp,cl,hs⟩:=hp;by_cases I:A=[]
  ·exact ⟨gs,hs.lt gs hs.mine,fun e=>absurd I e⟩
  ·rcases hs.pages with ⟨_,h2⟩ | ⟨b,L,h1,_,h3⟩
   ·exact absurd h2 (hs0 I)
   ·exact ⟨b,hs.lt b h3.mine,fun _=>by rw [hs.c0,h1]⟩
 have Aa:A≠[]->g<w.heap.size:=fun I=>by
  have Ag:=kP.2 I;have h3:=(hq I).2.2 0 Ag;have h5:=Ac.out (A.getD 0 default) (by rw [jG,jM Ag];exact kM _);exact jI (h3 0 _ (jM (by rw [h5];decide)))
 obtain ⟨W3,AS,t0,t1,t2,b3⟩:=x27 w (.cells #[.pointer (some ⟨gs,0,none⟩),.int .i64 d] 107) (.cells k0.cells.toArray 34) (.cells kd0.cells.toArray 34);have B2:W3.heap.size=w.heap.size+3:=by rw [<- AS];simp
 have b4:=jA W3 (.cells #[.slice q n c] 109);have t3:=jE W3 (.cells #[.slice q n c] 109);rw [B2] at t3;have H:=b3.trans (b4.mono b3.size);have Bj:=yH (show A≠[]->RaI w gs d Q A b0 k0 s0 [] (W3.alloc (.cells #[.slice q n c] 109)) from fun I=>by
  have BI:=PL.low hp (Ad I);refine ⟨k0,_,⟨(b4.block _ (by omega)).trans t0,(b4.block _ (by omega)).trans t1,(b4.block _ (by omega)).trans t2,hk.later H,rfl,fun r hr x hx hR h=>hka r hr x hx hR h.1,hkf,BI.keep (fun _=>False) (Only.of_below _ H) (fun _ _ e=>e),fun k h=>Or.inl h.1,fun k h=>h.2.imp id (fun e=>?_),?_,fun m hm=>((hw.each m hm).later H).stM,Only.of_below _ H,by simp;omega⟩,fun _=>rfl,fun e=>absurd rfl e⟩
  ·intro o ho;exact e o (by rw [<- H.block k (hp.lt k h.1)];exact ho)
  ·rw [H.cell (hp.lt gs (PL.mine hp))];exact Ad I)
 have Bs:=yH t3;have BT:=yH ((b4.block _ (by omega)).trans t1);have BX:=yH ((b4.block _ (by omega)).trans t2);have HS4:=yH (show (W3.alloc (.cells #[.slice q n c] 109)).heap.size=w.heap.size+4 by simp;omega);have Az:=yH H;have AC:=yH Am;have AU:=yH Aa;have HQ:=yH hq;have A7:=yH hw;have Av:=yH hwg;have Bd:=yH hqg;have HA:=yH hA;have BO:=yH hk;have Bn:=yH hka;have Bm:=yH hp;have A3:=yH (show ∀k,Q k->k<w.heap.size from hp.lt);have Ba:=yH (PL.mine hp);have BK:=yH hsl;have BW:=yH hgm;have Bq:=yH hd;have Bh:=yH (fun (I:A≠[])=>y1W (k:=k0.pk) (s:=s0) hd I hgm hgk hz);have BV:=yH hz;obtain ⟨du,B4,Aj⟩:=UTr;obtain ⟨dk,Ai,AL⟩:=UKd;obtain ⟨dn,Ap,AJ⟩:=UNo;have BE:=yH B4;have BM:=yH Aj;have A8:=yH Ai;have X:=yH AL;have BP:=yH Ap;have B9:=yH AJ;have Bk:=yH (zero_of_info spz);have Bl:=yH (zero_of_info kz);have CH:=Bk.1;have CK:=Bl.1;rw [<- hn,<- Ab];clear hn Ab hq hw hwg hqg hA hk hka hkf hp hs0 hsl hgk hgm hz hd Am Ad Aa t0 t1 t2 b3 B2 b4 t3 H B4 Aj Ai AL Ap AJ;refine callsIn_wide.1 (callsIn_of_wp_marks (n:=5) Tryz.func73 rfl trivial ?_ rfl);simp only [Tryz.ntmps73,jF,kI,List.length_nil,Nat.reduceAdd,Nat.reduceSub,Array.replicate_succ,Array.replicate_zero,List.push_toArray,List.append_toArray,kV,List.cons_append];refine wpIn_wide.2 ?_;go_wp2_with (go_at_call 132;refine (AV _).mono ?_;rintro _ w4 ⟨rfl,B1⟩;have B0:=yH B1;clear B1)
 obtain rfl:w4=W3.alloc (.cells #[.slice q n c] 109):=by
  have h:=B0.out;rw [BL.out] at h;exact h.trans (congrArg (fun x=>World.alloc x (.cells #[.slice q n c] 109)) AS)
 generalize W3.alloc (.cells #[.slice q n c] 109)=w4 at *;clear AS B0;have Bi:=jH w4 (w.heap.size+3) 0 _ _ _ Bs;have Bc:=yH (show RaJ w gs d Q A b0 k0 s0 [] w4 from by
  by_cases I:A=[]
  ·exact Or.inr ⟨I,BT.out,BX.out,Az.out,by rw [HS4.out];omega⟩
  ·exact Or.inl ⟨I,Bj.out I⟩)
 refine (wpIn_wide (n:=5)).1 ?_;refine wpIn_rangeFunc_ownH rfl (by omega) (gf:=194) (lb:= #[.pointer (some ⟨w.heap.size+1+1+1,0,none⟩)]) (by rfl) trivial (enters_of Tryz.func194 (by kernel_rfl) rfl)
  (x79 4 (w.heap.size+3) (if A=[] then w.heap.size+3 else g) c q A (by have:=HA.out;omega) (fun h=>⟨by rw [if_neg h];exact (HQ.out h).1,(HQ.out h).2.1⟩) Ac w4 (by rw [<- HN.out];exact Bi) (fun i hi=>by
   have I:A≠[]:=fun e=>by rw [e] at hi;cases hi
   rw [if_neg I];exact x01 ((HQ.out I).2.2 i hi) Az)) (fun h k=>⟨k.1.trans h.1,k.2.trans h.2⟩) ?kb (jC _ _) (fun _=>rfl)
  (RaJ w gs d Q A b0 k0 s0) (fun _ _ _=>False) (y3G w gs d Q A b0 k0 s0 AC (by rw [HS4.out];omega)) (fun _ _ _ _ _ h=>False.elim h) Bc
  (RaX w gs d (.slice q n c) kv A) (y6f _ _ _ _ _ _ _) ?assign ?body ?done (fun _ _ _ _ _ _ h=>False.elim h)
 case kb=>exact fun W l o o' hl _ _ _=>⟨World.putObj_heap_other (by have:=HS4.out;omega),World.putObj_heap_other (by
  have:=HS4.out;split
  ·omega
  ·have:=AU.out ‹_›;omega)⟩
 case assign=>
  intro l pre x W K f hK;have BG:=yH hK;have HI:=yH f;have C:A≠[]\/A=[]:=(Decidable.em (A=[])).symm;have AW:=yH (show (x0Q A x).cells.length=41/\∀u∈(x0Q A x).cells,u.oneCell'=true from ⟨by
   rcases C with h | h
   ·exact Ac.out _ (x2Z h x)
   ·rw [h];rfl,MSt.one⟩)
  have RZ:=yH (jE W (.cells sp0.toArray 117));have BN:=yH (x03 W sp0.toArray (x0Q A x).cells.toArray 117);have R5:=yH (jE W (.cells (x0Q A x).cells.toArray 117));have K5:=yH (show KeepsFrom w4.heap.size W (W.alloc (.cells (x0Q A x).cells.toArray 117)) from (KeepsOthers.alloc W _).from _);have I5:=yH (y3G w gs d Q A b0 k0 s0 AC (B:=w4.heap.size) (by rw [HS4.out];omega) pre W _ none HI (World.grownBy_alloc W (.cells (x0Q A x).cells.toArray 117) none) (fun r e=>by cases e));have Ao:w.heap.size+4<=W.heap.size:=by
   rcases f with ⟨_,_,_,h,_⟩ | ⟨_,_,_,_,h⟩
   ·exact h.z
   ·exact h
  have Bb:=yH Ao;have P5:=yH (show KpB (w.heap.size+3) (if A=[] then w.heap.size+3 else g) W (W.alloc (.cells (x0Q A x).cells.toArray 117)) from ⟨Below.heap_alloc _ _ _ (by omega),Below.heap_alloc _ _ _ (by
   split
   ·omega
   ·have:=AU.out ‹_›;omega)⟩)
  clear f hK Ao C;unfold encB;generalize hcs:(x0Q A x).cells=cs at *;have At:=yH hcs;clear hcs;simp only [List.zip_toArray,List.zip_cons_cons,List.zip_nil_left,jF,kI,List.length_nil];refine x0j (by rfl) ?_;go_wp2_with (refine jL (by rfl) 117 _ _ (by rfl) W.heap.size cs.toArray (by rfl) (by rfl) _ _ RZ (by rw [jF,AW.1];exact SSp) (by simp only [jF,AW.1];rfl) (jN AW.2) ?_;rw [BN.out])
  refine x18 ?_;exact BG.out _ _ K5 P5 I5 ⟨_,Bb.out,by rw [HN.out,At.out],by rw [At.out];exact R5.out⟩
 case body=>
  rintro l pre x a' W hl - hJ ⟨B8,CG,rfl,r8⟩ AI;have C:A≠[]:=fun e=>by rw [e] at AI;cases AI
  obtain ⟨J,Q',f,-,-⟩:RaI w gs d Q A b0 k0 s0 pre W:=by
   rcases hJ with ⟨_,h⟩ | ⟨h,_⟩
   ·exact h
   ·exact absurd h C
  have hwg:∀m∈A,∀k,m.reads k->¬Q k:=fun m hm k hk=>(Av.out m hm k hk).2;have j:=x2Z C x;obtain ⟨Aq,Bf,BR⟩:=Bh.out C pre (by omega);have Ay:=BW.out _ j;have AH:(pre.length+1)*(Z+1)<=A.length*(Z+1):=Nat.mul_le_mul_right _ (by omega);rw [Nat.add_mul,Nat.one_mul] at AH;have BU:=BV.out;obtain ⟨N,-,-⟩:=x7A (a:=(foldR A k0.pk s0 pre).1) Bq Ay Aq (by omega);have hsl:=BK.out;have AQ:=x4k A k0.pk s0 pre x;have Ar:B8≠(x0Q A x).gk:=by have:=(x55 (A7.each _ j)).2;omega
  rw [<- HN.out];generalize hcs:(x0Q A x).cells.toArray=cs at r8 ⊢;unfold rzM at AQ;generalize x0Q A x=m at *;generalize foldR A k0.pk s0 pre=st at *;have P:=A7.each m j;obtain ⟨a1,a2,a3,a4,a5,a6⟩:=f.set j A7 hwg A3;have A4:W.heap[B8]? =some (.cells m.cells.toArray 117 (0,0)):=by rw [r8,<- hcs]
  have BZ:=x0m W B8 39 A4 (x3o m P.kid.len).2.2.1;have A5:=x0m W B8 40 A4 (x3o m P.kid.len).2.2.2;have A6:=x1P W m.gk m.at' J.cells;have AP:=(yL A4)
  have AE:=(A6.block B8 AP Ar).trans A4;have hz:=f.z;have B7:=x55 P;have AM:=(A6.block w.heap.size (by omega) (by omega)).trans f.r3;have AN:=(A6.block (w.heap.size+1) (by omega) (by omega)).trans f.r5;obtain ⟨E,KE,hE,B3,AZ⟩:=a2.node P.caps a3 a4;rw [<- f.pk] at N;have A2:=x7l 1 (by omega) _ 1 m.ce _ 2 m.ck E KE (d:Int) _ hE B3 a1 (by omega) (by rw [AZ];exact N);rw [AZ] at A2;have A1:=yH A2;have AY:=yH (show ∀M,Only Q' (W.setCells m.gk m.at' J.cells) M->M.heap[w.heap.size+1]? =some (.cells J.cells.toArray 34 (0,0)) from fun M y=>(y.block _ (by omega) (f.notQ A3 (by omega) (fun e=>by have:=A3.out _ e;omega))).trans AN);have AK:=yH (show W.setCells m.gk m.at' J.cells=W.setCells m.gk m.at' J.cells from rfl);have t:=yH (show ∀(M:World) (G:Kd) (Q6:Nat->Prop),G.pk=(forkM m J.pk).says->G.Ok M->Fsh (W.setCells m.gk m.at' J.cells) G->PL M gs Q6 (st.2.put (forkM m J.pk).bytes)->(∀k,Q6 k->Q' k\/(W.setCells m.gk m.at' J.cells).heap.size<=k)->Aw Q6 G->Only Q' (W.setCells m.gk m.at' J.cells) M->Mst gs (W.setCells m.gk m.at' J.cells) M->
    KeepsFrom w4.heap.size W (M.setRow (w.heap.size+1) G.cells.toArray)/\KpB (w.heap.size+3) (if A=[] then w.heap.size+3 else g) W (M.setRow (w.heap.size+1) G.cells.toArray)/\RaJ w gs d Q A b0 k0 s0 (pre++[x]) (M.setRow (w.heap.size+1) G.cells.toArray) from fun M G Q6 e1 e2 e3 e4 e5 e6 e7 e8=>by
   obtain ⟨b1,b2,b3,b4⟩:=f.step j A7 hwg A3 Ba AC e1 e2 e3 e4 e5 e6 e7 e8;have Aa:=AU.out C;refine ⟨b2 _ (by rw [HS4.out];omega),⟨b3 _ (by omega) (fun e=>by have:=A3.out _ e;omega) (by omega) (by omega),?_⟩,Or.inl ⟨C,G,(fun k=>Q6 k/\(k=b0\/isC M k)),?_,fun e=>(by simp at e),fun _=>b4⟩⟩
   ·rw [if_neg C];exact b3 _ (by omega) (Bd.out C) (fun e=>(Av.out m j _ (Or.inr (Or.inl rfl))).1 e.symm) (by omega)
   ·rw [AQ];exact b1)
  have B6:=yH (x0E f.r5);have O:=yH (Kd.cells_length f.ok.len);have AB:=yH a5;have A0:=yH (x09 AM);have AR:=yH (kl_nd (x7r AE) P.kid.len);have CA:=P.caps.2;clear hJ f hwg Aq Bf BR Ay AH BU N hsl AQ Ar hcs P a1 a2 a3 a4 a5 a6 A4 A6 AE hz B7 AM AN hE B3 AZ A2 r8 AP
  gi_upto_region 3 with fail
  cases hside:m.side
  focus
   skip
   have An:W.cell? ⟨B8,40,none⟩=some (.int .i64 0):=by rw [A5];unfold MSt.sideN;rw [hside];rfl
   have v:m.at'=0:=by unfold MSt.at';rw [hside];rfl
   rw [v] at AB AK t A0 AR A1 AY;clear A5 hside v;refine x0j (by rfl) ?_;go_wp2_with (first
    | (refine jK (by rfl) 34 (.tmp 5) (by rfl) (w.heap.size+1) 0 (by rfl) J.cells dk B6 A8 X (by rw [O.out];exact SKd) ?_)
    | (refine wpList_store_mid (by rfl) 34 (.tmp 19) (.tmp 18) (by rfl) m.gk 0 J.cells.toArray (by rfl) (by rfl) (by rw [jF,O.out];exact AB.out) (by rw [jF,O.out];exact SKd) (jN Kd.one) ?_;rw [List.toList_toArray]))
   refine x18 ?_;generalize W.setCells m.gk 0 J.cells=W1 at *
  rotate_left
  focus
   skip
   have An:W.cell? ⟨B8,40,none⟩=some (.int .i64 1):=by rw [A5];unfold MSt.sideN;rw [hside];rfl
   have v:m.at'=37:=by unfold MSt.at';rw [hside];rfl
   rw [v] at AB AK t A0 AR A1 AY;clear A5 hside v;refine x0j (by rfl) ?_;go_wp2_with (first
    | (refine jK (by rfl) 34 (.tmp 5) (by rfl) (w.heap.size+1) 0 (by rfl) J.cells dk B6 A8 X (by rw [O.out];exact SKd) ?_)
    | (refine wpList_store_mid (by rfl) 34 (.tmp 19) (.tmp 18) (by rfl) m.gk 37 J.cells.toArray (by rfl) (by rfl) (by rw [jF,O.out];exact AB.out) (by rw [jF,O.out];exact SKd) (jN Kd.one) ?_;rw [List.toList_toArray]))
   refine x18 ?_;generalize W.setCells m.gk 37 J.cells=W1 at *
  rotate_left;all_goals
   clear BZ An
   gi_upto_region 4 with fail
   refine x0j (by rfl) ?_;go_wp2_with (first
    | (refine jK (by rfl) 107 (.tmp 3) (by rfl) w.heap.size 0 (by rfl) [.pointer (some ⟨gs,0,none⟩),.int .i64 d] du A0 BE BM STr ?_)
    | (refine jK (by rfl) 97 (.tmp 21) (by rfl) B8 37 (by rfl) [.int .u8 1,.slice (some ⟨m.ge,0,none⟩) 1 m.ce,.slice (some ⟨m.gk,0,none⟩) 2 m.ck] dn AR BP B9 SNo ?_)
    | (go_at_call 133;refine A1.mono ?_;rintro _ M ⟨G,rfl,Ax,AT,BA,⟨Q6,B5,Ak,As⟩,y,AG⟩;have HF:=yH (t.out M G Q6 Ax AT BA B5 Ak As y AG);have Bp:=yH (AY.out M y);have U:=yH (Kd.cells_length AT.len);clear Ax AT BA B5 Ak As y AG)
    | (refine jL (by rfl) 34 (.tmp 5) _ (by rfl) (w.heap.size+1) G.cells.toArray (by rfl) (by rfl) _ _ Bp (by rw [jF,U.out];exact SKd) (by simp only [jF,U.out,O.out]) (jN Kd.one) ?_))
   refine x18 ?_;exact HF.out
 case done=>
  rintro D xs W hD rfl hJ hK;have Y:∃G:Kd,W.heap[w.heap.size+1]? =some (.cells G.cells.toArray 34 (0,0))/\W.heap[w.heap.size+2]? =some (.cells kd0.cells.toArray 34 (0,0))/\G.cells.length=37/\∀w',w'=(W.setRow (w.heap.size+2) G.cells.toArray).putObj D (.deferred none)->y3H w gs Q A k0 (foldR A k0.pk s0 (List.range A.length)) (.returned (.agg G.cells.toArray)) w':=y1Y (w':=W) (B:=0) AC BO Bn Bm (by have:=HS4.out;omega) hK hJ;obtain ⟨G,h5,h6,Ah,Y⟩:=Y;have HK:=yH hK;have H5:=yH (x0E h5);have H6:=yH h6;have U:=yH Ah;have HF:=yH Y;have BQ:=yH (show D≠w.heap.size+2 by have:=HS4.out;omega);clear hJ hK h5 h6 Ah Y;go_wp2_with (first
   | (refine jK (by rfl) 34 (.tmp 5) (by rfl) (w.heap.size+1) 0 (by rfl) G.cells dk H5 A8 X (by rw [U.out];exact SKd) ?_)
   | (refine jL (by rfl) 34 (.tmp 6) _ (by rfl) (w.heap.size+2) G.cells.toArray (by rfl) (by rfl) _ _ H6 (by rw [jF,U.out];exact SKd) (by simp only [jF,U.out,x02]) (jN Kd.one) ?_))
  exact y3I (p:=6) (by kernel_rfl) A8 X (by rw [jF,U.out];exact SKd) (by rfl) (jT _ _ _ _ _ _ H6) ((setRow_other _ _ _ _ BQ).trans HK.out) (by rw [HN.out];exact HF.out _ rfl)
end Kt
end Go.Proofs.YtenenciaggbjnaaGreat
