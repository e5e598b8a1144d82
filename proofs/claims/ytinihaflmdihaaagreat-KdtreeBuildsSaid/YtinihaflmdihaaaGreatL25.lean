/- KdRaise. -/
import Derived.Test.YtinihaflmdihaaaGreatL24
set_option maxRecDepth 100000
set_option maxHeartbeats 8000000
set_option linter.all false
namespace Go.Proofs.YtinihaflmdihaaaGreat.Kt
open Go.RowKit Go.Shelf Go.Proofs.YtinihaflmdihaaaGreat.Nd Go.Proofs.YtinihaflmdihaaaGreat.Dk Go.Proofs.YtinihaflmdihaaaGreat.Pg Go.Proofs.YtinihaflmdihaaaGreat.Wl
attribute [local go_sem] Oper.semAt_some
def isC (w:World) (k:Nat):Prop:=∀o:Obj,w.heap[k]? =some o→o.isCells=true
theorem x3b {w:World} {k o:Nat} {v:Value} (h:w.cell? ⟨k,o,none⟩=some v):isC w k:=fun x hx=>by
 cases x with
 | cells c t z=>rfl
 | _=>simp [World.cell?,hx] at h
theorem PL.low {w:World} {g b:Nat} {Q:Nat→Prop} {s:Pg.S} (h:PL w g Q s) (hb:w.cell? ⟨g,0,none⟩=some (.map (some b))):PL w g (fun k=>Q k∧(k=b∨isC w k)) s:=by
 obtain ⟨G,K,h⟩:=h
 have B:G=some b:=by
  have:=h.c0
  rw [hb] at this
  simpa using this.symm
 have A:∀ {p:Option Addr} {m c:Nat} {t:List Nat},TQ Q w p m c t→TQ (fun k=>Q k∧(k=b∨isC w k)) w p m c t:=fun {p m c t} ht=>⟨ht.tx,fun x hx hne=>⟨ht.own x hx hne,Or.inr (by
  obtain ⟨N,M,E,J⟩:=ht.tx.bytes.ne hne
  rw [hx] at E
  cases E
  exact x3b (J 0 (List.length_pos_iff.2 hne)))⟩,ht.le⟩
 refine ⟨G,K,h.row,?_,?_,⟨h.mine,Or.inr (x3b h.c0)⟩,fun k hk=>h.lt k hk.1,h.ok⟩
 ·exact h.pages.imp id fun ⟨b',L,h1,h2,h3⟩=>⟨b',L,h1,h2,⟨⟨h3.mine,Or.inl (by rw [B] at h1;exact (Option.some.inj h1).symm)⟩,h3.map,fun e he=>A (h3.text e he)⟩⟩
 ·exact h.clash.imp id fun ⟨c,x,y,h1,h2,h3⟩=>⟨c,x,y,h1,h2,by
   obtain ⟨p,m,k,q,n,l,C,I,H⟩:=h3.row
   exact ⟨⟨h3.mine,Or.inr (fun o ho=>by rw [C] at ho;cases ho;rfl)⟩,p,m,k,q,n,l,C,A I,A H⟩⟩
structure RaW (w:World) (gs d:Nat) (Q:Nat→Prop) (A:List MSt) (b0:Nat) (st:PK×Pg.S) (kk:Kd) (Q':Nat→Prop) (W:World):Prop where
 r3:W.heap[w.heap.size]? =some (.cells #[.pointer (some ⟨gs,0,none⟩),.int .i64 d] 91 (0,0))
 r5:W.heap[w.heap.size+1]? =some (.cells kk.cells.toArray 34 (0,0))
 r6:W.heap[w.heap.size+2]? =some (.cells kd0.cells.toArray 34 (0,0))
 ok:kk.Ok W
 pk:kk.pk=st.1
 aw:Aw Q' kk
 far:∀m∈A,∀r∈kk.rows,∀x,r.p=some x→r.R≠[]→x.block≠m.gk
 pl:PL W gs Q' st.2
 sub:∀k,Q' k→Q k∨w.heap.size+4≤k
 norm:∀k,Q' k→k=b0∨isC W k
 map:W.cell? ⟨gs,0,none⟩=some (.map (some b0))
 each:∀m∈A,StM W m
 only:Only (fun k=>Q k∨∃m∈A,k=m.gk) w W
 z:w.heap.size+4≤W.heap.size
def RaI (w:World) (gs d:Nat) (Q:Nat→Prop) (A:List MSt) (b0:Nat) (k0:Kd) (s0:Pg.S) (pre:List Nat) (W:World):Prop:=
 ∃kk Q',RaW w gs d Q A b0 (foldR A k0.pk s0 pre) kk Q' W∧(pre=[]→kk=k0)∧(pre≠[]→∀r∈kk.rows,∀x,r.p=some x→r.R≠[]→w.heap.size+4≤x.block)
theorem y1W {W W':World} {row:Option Nat} {k:Nat} (h:isC W k) (hg:W.grownBy W' row) (hk:k<W.heap.size) (hr:∀r,row=some r→∃o:Obj,W.heap[r]? =some o∧o.isCells=false):isC W' k:=fun o ho=>by
 refine h o ((hg.block k hk (fun e=>?_)).symm.trans ho)
 obtain ⟨o',ho',hc⟩:=hr k e.symm
 rw [h o' ho'] at hc
 cases hc
theorem y1X {w:World} {r:Rw} (h:r.Ok w):∀x,r.p=some x→r.R≠[]→isC w x.block:=fun x hx hR=>by
 rcases h.ints.at' with h0 | ⟨g,o,hp,hc⟩
 ·exact absurd h0 hR
 ·rw [hx] at hp
  obtain rfl:x=⟨g,o,none⟩:=by simpa using hp
  exact x3b (hc 0 (List.length_pos_iff.2 hR))
theorem y1Y {W:World} {m:MSt} (h:StM W m):isC W m.ge∧isC W m.gk∧(∀x,m.row.p=some x→m.row.R≠[]→isC W x.block):=by
 refine ⟨x3b (h.ent 0 _ rfl),?_,fun x hx hR=>?_⟩
 ·have B:=(h.kidT 0 (by decide)).1
  obtain ⟨v,A⟩:=Option.isSome_iff_exists.1 B
  exact x3b A
 ·exact y1X h.row x hx hR
theorem y1Z {w:World} {gs d:Nat} {Q:Nat→Prop} {A:List MSt} {b0:Nat} {st:PK×Pg.S} {kk:Kd} {Q':Nat→Prop} {W W':World} {row:Option Nat} (h:RaW w gs d Q A b0 st kk Q' W) (hb:b0<w.heap.size) (hg:W.grownBy W' row) (hr:∀r,row=some r→w.heap.size≤r∧∃o:Obj,W.heap[r]? =some o∧o.isCells=false):RaW w gs d Q A b0 st kk Q' W':=by
 have G:∀r,row=some r→∃o:Obj,W.heap[r]? =some o∧o.isCells=false:=fun r e=>(hr r e).2
 have E:∀k,k<W.heap.size→isC W k→W'.heap[k]? =W.heap[k]? :=fun k hk M=>hg.block k hk (fun e=>by
  obtain ⟨o,J,L⟩:=G k e.symm
  rw [M o J] at L
  cases L)
 have H:∀k,k<w.heap.size→W'.heap[k]? =W.heap[k]? :=fun k hk=>hg.block k (by have:=h.z;omega) (fun e=>by have:=(hr k e.symm).1;omega)
 have O:∀k,Q' k→W'.heap[k]? =W.heap[k]? :=fun k hk=>(h.norm k hk).elim (fun e=>H k (by rw [e];exact hb)) (fun e=>E k (h.pl.lt k hk) e)
 have K:∀r:Rw,r.Ok W→∀x,r.p=some x→r.R≠[]→W'.heap[x.block]? =W.heap[x.block]? :=fun r hr x hx hR=>E _ (rw_lt hr x hx hR) (y1X hr x hx hR)
 obtain ⟨P,Z,Y⟩:=h.pl
 have C:∀k:Kd,k.Ok W→k.Ok W':=fun k hk=>x1I hk fun r hr=>K r (x05 hk r hr)
 refine ⟨x0r h.r3 hg G,x0r h.r5 hg G,x0r h.r6 hg G,C _ h.ok,h.pk,h.aw,h.far,⟨P,Z,Y.keep hg.size O⟩,h.sub,fun k hk=>(h.norm k hk).imp id (fun e=>y1W e hg (h.pl.lt k hk) G),?_,fun m hm=>?_,?_,Nat.le_trans h.z hg.size⟩
 ·exact (World.cell?_of_block (w:=W) (a:=⟨gs,0,none⟩) (O gs (PL.mine h.pl))).trans h.map
 ·have B:=h.each m hm
  have M:=y1Y B
  have N:=E m.ge (block_lt_of_cell (B.ent 0 _ rfl)) M.1
  have I:W'.heap[m.gk]? =W.heap[m.gk]? :=E m.gk (by
   have X:=(B.kidT 0 (by decide)).1
   obtain ⟨v,U⟩:=Option.isSome_iff_exists.1 X
   exact block_lt_of_cell U) M.2.1
  exact ⟨x0Y B.ent N,Nd.rw_keep B.row (K _ B.row),fun e=>⟨x0Y (B.k1 e).1 I,C _ (B.k1 e).2⟩,fun e=>⟨x0Y (B.k2 e).1 I,C _ (B.k2 e).2⟩,x2g B.kidT I⟩
 ·have J:=h.only
  exact ⟨hg.os.trans J.os,hg.tape.trans J.tape,hg.output.trans J.output,Nat.le_trans J.size hg.size,fun k hk L=>(H k hk).trans (J.block k hk L)⟩
theorem y4r (w:World) (gs d:Nat) (Q:Nat→Prop) (A:List MSt) (b0:Nat) (k0:Kd) (s0:Pg.S) (hb:b0<w.heap.size) {B:Nat} (hB:w.heap.size≤B):OwnFrom B (RaI w gs d Q A b0 k0 s0):=fun _ _ _ _ ⟨kk,Q',h,h1,h2⟩ hg hr=>
 ⟨kk,Q',y1Z h hb hg fun r e=>⟨Nat.le_trans hB (hr r e).1,(hr r e).2⟩,h1,h2⟩
def RaE (w:World) (k0:Kd) (W:World):Prop:=W.heap[w.heap.size+1]? =some (.cells k0.cells.toArray 34 (0,0))∧W.heap[w.heap.size+2]? =some (.cells kd0.cells.toArray 34 (0,0))∧Below w.heap.size w W∧w.heap.size+4≤W.heap.size
def RaJ (w:World) (gs d:Nat) (Q:Nat→Prop) (A:List MSt) (b0:Nat) (k0:Kd) (s0:Pg.S) (pre:List Nat) (W:World):Prop:=(A≠[]∧RaI w gs d Q A b0 k0 s0 pre W)∨(A=[]∧RaE w k0 W)
theorem y1a (w:World) (gs d:Nat) (Q:Nat→Prop) (A:List MSt) (b0:Nat) (k0:Kd) (s0:Pg.S) (hb:b0<w.heap.size) {B:Nat} (hB:w.heap.size≤B):OwnFrom B (RaJ w gs d Q A b0 k0 s0):=fun s W W' row h hg hr=>by
 rcases h with ⟨h0,h⟩ | ⟨h0,h1,h2,h3,h4⟩
 ·exact Or.inl ⟨h0,y4r w gs d Q A b0 k0 s0 hb hB s W W' row h hg hr⟩
 ·exact Or.inr ⟨h0,x0r h1 hg fun r e=>(hr r e).2,x0r h2 hg fun r e=>(hr r e).2,h3.grown hg h3.size (fun k e=>Nat.le_trans hB (hr k e).1),Nat.le_trans h4 hg.size⟩
def RaX (w:World) (gs d:Nat) (v kv:Value) (A:List MSt) (x:Nat) (a':Act) (W:World):Prop:=
 ∃B8,w.heap.size+4≤B8∧a'={tmps:= #[.agg #[.pointer (some ⟨gs,0,none⟩),.int .i64 d],v,kv,.pointer (some ⟨w.heap.size,0,none⟩),undef,.pointer (some ⟨w.heap.size+1,0,none⟩),.pointer (some ⟨w.heap.size+1+1,0,none⟩),undef,.pointer (some ⟨B8,0,none⟩),v,.func (.func 153) #[] #[.pointer (some ⟨w.heap.size+1+1+1,0,none⟩)],.int .i64 ((A.length:Int) - 1 - x),.agg (x0P A x).cells.toArray,undef,undef,undef,undef,undef,undef,undef,undef,undef,undef,undef,undef],defers:=[]}∧W.heap[B8]? =some (.cells (x0P A x).cells.toArray 101 (0,0))
theorem y4s (w:World) (gs d:Nat) (v kv:Value) (A:List MSt) (B:Nat) (x:Nat) (a':Act):OwnFrom B (fun (_:Unit) W=>RaX w gs d v kv A x a' W):=fun _ _ _ _ ⟨B8,hB,e,h⟩ hg hr=>
 ⟨B8,hB,e,x0r h hg fun r e=>(hr r e).2⟩
def y1b (w:World) (gs:Nat) (Q:Nat→Prop) (A:List MSt) (k0:Kd) (st:PK×Pg.S) (e:Ending) (w':World):Prop:=
 ∃kd Q',e= .returned (.agg kd.cells.toArray)∧kd.pk=st.1∧kd.Ok w'∧((A=[]∧kd=k0)∨Fsh w kd)∧PL w' gs Q' st.2∧(∀k,Q' k→Q k∨w.heap.size≤k)∧Aw Q' kd∧Only (fun k=>Q k∨∃m∈A,k=m.gk) w w'
theorem x9r {w:World} {b n:Nat} (h:w.there b 0 n) (o m:Nat) (ho:o+m≤n):w.there b o m:=fun j hj=>by
 have:=h (o+j) (by omega)
 simpa using this
theorem x4M {w:World} {m:MSt} (h:m.Ok w):m.ge<w.heap.size∧m.gk<w.heap.size:=⟨h.lt _ (Or.inl rfl),h.lt _ (Or.inr (Or.inl rfl))⟩
section
variable {B:Nat} {w:World} {gs d:Nat} {Q:Nat→Prop} {A:List MSt} {b0:Nat} {st:PK×Pg.S} {kk:Kd} {Q':Nat→Prop} {W:World} {m:MSt}
theorem RaW.notQ (h:RaW w gs d Q A b0 st kk Q' W) (hQ:∀k,Q k→k<w.heap.size) {k:Nat} (hk:k<w.heap.size+4) (hn:¬Q k):¬Q' k:=fun e=>(h.sub k e).elim hn (fun e=>by omega)
theorem RaW.set (h:RaW w gs d Q A b0 st kk Q' W) (hm:m∈A) (hwy:WayM B w A) (hwg:∀m∈A,∀k,m.reads k→¬Q k) (hQ:∀k,Q k→k<w.heap.size):
  PL (W.setCells m.gk m.at' kk.cells) gs Q' st.2∧StM (W.setCells m.gk m.at' kk.cells) m∧(W.setCells m.gk m.at' kk.cells).rangeAt m.gk m.at' kk.cells∧kk.Ok (W.setCells m.gk m.at' kk.cells)∧W.there m.gk m.at' 37∧W.heap.size=(W.setCells m.gk m.at' kk.cells).heap.size:=by
 have H:=x13 W m.gk m.at' kk.cells
 have C:=hwy.each m hm
 have I:=x4M C
 have E:=Kd.cells_length h.ok.len
 have G:W.there m.gk m.at' 37:=x9r (h.each m hm).kidT _ _ (by unfold MSt.at';split<;>omega)
 refine ⟨h.pl.keep _ H (fun k hk e=>h.notQ hQ (by rw [e];omega) (by rw [e];exact hwg m hm _ (Or.inr (Or.inl rfl))) hk),(h.each m hm).put ⟨C.k1.len,C.k2.len⟩ C.apart C.ne E,World.rangeAt_setCells_same _ _ _ _ (by rw [E];exact G),x1I h.ok fun r hr x hx hR=>H.block _ (rw_lt (x05 h.ok r hr) x hx hR) (h.far m hm r hr x hx hR),G,?_⟩
 exact ((x0R m.gk kk.cells m.at' W).1).symm
theorem RaW.step (h:RaW w gs d Q A b0 st kk Q' W) (hm:m∈A) (hwy:WayM B w A) (hwg:∀m∈A,∀k,m.reads k→¬Q k) (hQ:∀k,Q k→k<w.heap.size) (hgQ:Q gs) (hb0:b0<w.heap.size) {W2:World} {kd:Kd} {Q6:Nat→Prop} (hpk:kd.pk=(forkM m kk.pk).says) (hok:kd.Ok W2) (hfs:Fsh (W.setCells m.gk m.at' kk.cells) kd)
  (hpl:PL W2 gs Q6 (st.2.put (forkM m kk.pk).bytes)) (hsub:∀k,Q6 k→Q' k∨(W.setCells m.gk m.at' kk.cells).heap.size≤k) (haw:Aw Q6 kd) (ho2:Only Q' (W.setCells m.gk m.at' kk.cells) W2) (hms:Mst gs (W.setCells m.gk m.at' kk.cells) W2):
  RaW w gs d Q A b0 ((forkM m st.1).says,st.2.put (forkM m st.1).bytes) kd (fun k=>Q6 k∧(k=b0∨isC W2 k)) (W2.setRow (w.heap.size+1) kd.cells.toArray)∧(∀B',w.heap.size+4≤B'→KeepsFrom B' W (W2.setRow (w.heap.size+1) kd.cells.toArray))∧(∀j,j<w.heap.size+4→¬Q j→j≠m.gk→j≠w.heap.size+1→(W2.setRow (w.heap.size+1) kd.cells.toArray).heap[j]? =W.heap[j]?)∧∀r∈kd.rows,∀x,r.p=some x→r.R≠[]→w.heap.size+4≤x.block:=by
 have N:=x13 W m.gk m.at' kk.cells
 have I:=hwy.each m hm
 have f:=x4M I
 have l:=h.z
 have P:W.heap.size=(W.setCells m.gk m.at' kk.cells).heap.size:=((x0R m.gk kk.cells m.at' W).1).symm
 rw [← P] at hsub
 have J:∀r∈kd.rows,∀x,r.p=some x→r.R≠[]→W.heap.size≤x.block:=fun r hr x hx hR=>by rw [P];exact hfs r hr x hx hR
 generalize hW1:W.setCells m.gk m.at' kk.cells=W1 at *
 have i:=ho2.size
 have C:=x0C W2 (w.heap.size+1) kd.cells.toArray
 have g:gs<w.heap.size:=hQ gs hgQ
 have G:=fun {k:Nat}=>h.notQ (k:=k) hQ
 have H:∀j,j<W.heap.size→¬Q' j→j≠m.gk→j≠w.heap.size+1→(W2.setRow (w.heap.size+1) kd.cells.toArray).heap[j]? =W.heap[j]? :=fun j h1 h2 h3 h4=>(C.block j (by omega) h4).trans ((ho2.block j (by omega) h2).trans (N.block j h1 h3))
 have X:¬Q (w.heap.size+1):=fun e=>by have:=hQ _ e;omega
 have M:¬Q6 (w.heap.size+1):=fun e=>(hsub _ e).elim (G (by omega) X) (fun e=>by omega)
 have Y:gs≠m.gk:=fun e=>hwg m hm _ (Or.inr (Or.inl rfl)) (e▸hgQ)
 have O:W1.cell? ⟨gs,0,none⟩=some (.map (some b0)):=(World.cell?_of_block (w:=W) (a:=⟨gs,0,none⟩) (N.block gs (by omega) Y)).trans h.map
 have K:=hms b0 O
 have Z:W2.heap[w.heap.size+1]? =some (.cells kk.cells.toArray 34 (0,0)):=(ho2.block _ (by omega) (G (by omega) X)).trans ((N.block _ (by omega) (by omega)).trans h.r5)
 have U:∀r∈kd.rows,∀x,r.p=some x→r.R≠[]→(W2.setRow (w.heap.size+1) kd.cells.toArray).heap[x.block]? =W2.heap[x.block]? :=fun r hr x hx hR=>C.block _ (rw_lt (x05 hok r hr) x hx hR) (by have:=J r hr x hx hR;omega)
 refine ⟨⟨?_,?_,?_,x1I hok U,by rw [hpk,h.pk],fun r hr x hx hR e=>haw r hr x hx hR e.1,fun m' hm' r hr x hx hR=>?_,?_,fun k hk=>?_,fun k hk=>hk.2.imp id (fun e=>?_),?_,fun m' hm'=>?_,?_,?_⟩,fun B' hB'=>?_,fun j h1 h2 h3 h4=>H j (by omega) (G h1 h2) h3 h4,fun r hr x hx hR=>by have:=J r hr x hx hR;omega⟩
 ·exact (H _ (by omega) (G (by omega) (fun e=>by have:=hQ _ e;omega)) (by omega) (by omega)).trans h.r3
 ·exact setRow_heap _ _ _ _ _ _ Z
 ·exact (H _ (by omega) (G (by omega) (fun e=>by have:=hQ _ e;omega)) (by omega) (by omega)).trans h.r6
 ·have:=J r hr x hx hR
  have:=(x4M (hwy.each m' hm')).2
  omega
 ·rw [← h.pk]
  exact (PL.low hpl K).keep _ C (fun k hk e=>M (e▸hk.1))
 ·rcases hsub k hk.1 with e | e
  ·exact h.sub k e
  ·right;omega
 ·intro o ho'
  refine e o ?_
  rw [← C.block k (hpl.lt k hk.1) (fun e2=>M (e2▸hk.1))]
  exact ho'
 ·exact (World.cell?_of_block (w:=W2) (a:=⟨gs,0,none⟩) (C.block gs (by omega) (by omega))).trans K
 ·have E:=(hwy.each m' hm').lt
  have c:StM W1 m':=by
   rcases hwy.two m' hm' m hm with e | e
   ·subst e
    rw [← hW1]
    exact (h.each m' hm').put ⟨I.k1.len,I.k2.len⟩ I.apart I.ne (Kd.cells_length h.ok.len)
   ·exact (h.each m' hm').keep fun k hk=>N.block k (by have:=E k hk;omega) (fun e2=>e.2 (e2▸hk))
  exact c.keep fun k hk=>(C.block k (by have:=E k hk;omega) (by have:=E k hk;omega)).trans (ho2.block k (by have:=E k hk;omega) (G (by have:=E k hk;omega) (hwg m' hm' k hk)))
 ·have L:=h.only
  refine ⟨C.os.trans (ho2.os.trans (N.os.trans L.os)),C.tape.trans (ho2.tape.trans (N.tape.trans L.tape)),C.output.trans (ho2.output.trans (N.output.trans L.output)),Nat.le_trans L.size (by have:=C.size;omega),fun k hk hn=>?_⟩
  rw [H k (by omega) (G (by omega) (fun e=>hn (Or.inl e))) (fun e=>hn (Or.inr ⟨m,hm,e⟩)) (by omega)]
  exact L.block k hk hn
 ·have:=C.size
  omega
 ·refine ⟨by have:=C.size;omega,fun k o hk ho' hc=>?_⟩
  have b:=(yL ho')
  rw [H k b (fun e=>?_) (by omega) (by omega)]
  ·exact ho'
  ·rcases h.norm k e with e | e
   ·omega
   ·rw [e o ho'] at hc
    cases hc
end
theorem x9s {B gs d:Nat} {w W w':World} {Q:Nat→Prop} {A:List MSt} {b0 D:Nat} {k0:Kd} {s0:Pg.S} (hb0:b0<w.heap.size) (hk:k0.Ok w) (hka:Aw Q k0) (hp:PL w gs Q s0) (hD:w.heap.size+4≤D) (hK:W.heap[D]? =some (.deferred (some []))) (hJ:RaJ w gs d Q A b0 k0 s0 (List.range A.length) W):
  ∃kd:Kd,W.heap[w.heap.size+1]? =some (.cells kd.cells.toArray 34 (0,0))∧W.heap[w.heap.size+2]? =some (.cells kd0.cells.toArray 34 (0,0))∧kd.cells.length=37∧∀w',w'=(W.setRow (w.heap.size+2) kd.cells.toArray).putObj D (.deferred none)→y1b w gs Q A k0 (foldR A k0.pk s0 (List.range A.length)) (.returned (.agg kd.cells.toArray)) w':=by
 have Y:∀cs:Array Value,(W.setRow (w.heap.size+2) cs).grownBy ((W.setRow (w.heap.size+2) cs).putObj D (.deferred none)) (some D):=fun cs=>grownBy_putObj' _ D (.deferred none)
 have X:=hp.lt
 rcases hJ with ⟨P,K,Z,h,-,M⟩ | ⟨P,U,R,J,f⟩
 ·have N:List.range A.length≠[]:=fun e=>P (List.length_eq_zero_iff.1 (by simpa using congrArg List.length e))
  have M:=M N
  refine ⟨K,h.r5,h.r6,Kd.cells_length h.ok.len,?_⟩
  rintro w' rfl
  have E:=x0C W (w.heap.size+2) K.cells.toArray
  have C:=Y K.cells.toArray
  have g:=h.z
  have I:∀k,k<W.heap.size→k≠w.heap.size+2→k≠D→((W.setRow (w.heap.size+2) K.cells.toArray).putObj D (.deferred none)).heap[k]? =W.heap[k]? :=fun k U R J=>(C.block k (by have:=E.size;omega) (fun e=>J (Option.some.inj e))).trans (E.block k U R)
  have L:¬isC W D:=fun e=>by
   have:=e _ hK
   cases this
  have O:∀k,Z k→((W.setRow (w.heap.size+2) K.cells.toArray).putObj D (.deferred none)).heap[k]? =W.heap[k]? :=fun k hk=>I k (h.pl.lt k hk) (fun e=>h.notQ X (by omega) (fun e2=>by have:=X _ e2;omega) hk) (fun e=>by
   subst e
   rcases h.norm _ hk with e | e
   ·omega
   ·exact L e)
  obtain ⟨a,c,b⟩:=h.pl
  refine ⟨K,Z,rfl,h.pk,x1I h.ok fun r hr x hx hR=>I _ (rw_lt (x05 h.ok r hr) x hx hR) (by have:=M r hr x hx hR;omega) (fun e=>L (e▸y1X (x05 h.ok r hr) x hx hR)),Or.inr fun r hr x hx hR=>by have:=M r hr x hx hR;omega,⟨a,c,b.keep (Nat.le_trans E.size C.size) O⟩,fun k hk=>(h.sub k hk).imp id (fun e=>by omega),h.aw,?_⟩
  have H:=h.only
  exact ⟨C.os.trans (E.os.trans H.os),C.tape.trans (E.tape.trans H.tape),C.output.trans (E.output.trans H.output),Nat.le_trans H.size (Nat.le_trans E.size C.size),fun k hk hn=>(I k (by omega) (by omega) (by omega)).trans (H.block k hk hn)⟩
 ·refine ⟨k0,U,R,Kd.cells_length hk.len,?_⟩
  rintro w' rfl
  have E:=x0C W (w.heap.size+2) k0.cells.toArray
  have C:=Y k0.cells.toArray
  have G:Only (fun _=>False) w ((W.setRow (w.heap.size+2) k0.cells.toArray).putObj D (.deferred none)):=⟨C.os.trans (E.os.trans J.os),C.tape.trans (E.tape.trans J.tape),C.output.trans (E.output.trans J.output),Nat.le_trans J.size (Nat.le_trans E.size C.size),fun k hk _=>(C.block k (by have:=E.size;omega) (fun e=>by have:=Option.some.inj e;omega)).trans ((E.block k (by omega) (by omega)).trans (J.block k hk))⟩
  subst P
  exact ⟨k0,Q,rfl,rfl,x1I hk fun r hr x hx hR=>G.block _ (rw_lt (x05 hk r hr) x hx hR) (fun e=>e),Or.inl ⟨rfl,rfl⟩,hp.keep _ G (fun _ _ e=>e),fun k hk=>Or.inl hk,hka,G.mono (fun _ e=>e.elim)⟩
theorem y1c {fn:Func} {w2:World} {tmps:Array Value} {p:Tmp} {ty:TypeId} {d:TypeDesc} {g D:Nat} {t:TypeId} {cs:Array Value} {R:Ending→World→Prop} (hr:fn.results= #[.cell p ty]) (hu:Tryz.prog.underlying ty=some d) (hd:d.isRow=true) (hi:(Tryz.prog.info? ty).map (·.size)=some cs.size) (hp:tmps.getD p undef= .pointer (some ⟨g,0,none⟩)) (hg:w2.heap[g]? =some (.cells cs t (0,0))) (hK:w2.heap[D]? =some (.deferred (some []))) (h:R (.returned (.agg cs)) (w2.putObj D (.deferred none))):bodyPostM Fence.wide 5 Tryz.prog fn R .ret ⟨tmps,[{target:=.collected D,args:= #[]}]⟩ w2:=by
 refine ⟨by simp,.inl ⟨_,_,rfl,run_takeDeferred hK,?_⟩⟩
 refine ⟨.agg cs,?_,h⟩
 have A:(w2.putObj D (.deferred none)).heap[g]? =some (.cells cs t (0,0)):=x0r hg (grownBy_putObj' _ D (.deferred none)) (fun r e=>by cases e;exact ⟨_,hK,rfl⟩)
 exact results_cell_row hr tmps _ g t cs (0,0) d hp A hu (by cases d<;>first | rfl | (cases hd)) hi
theorem kl_nd {w:World} {b:Nat} {m:MSt} (h:w.rangeAt b 0 m.cells) (hl:m.kid.sum.length=32):w.rangeAt b 37 [.int .u8 1,.slice (some ⟨m.ge,0,none⟩) 1 m.ce,.slice (some ⟨m.gk,0,none⟩) 2 m.ck]:=fun j v hv=>by
 have hj:j<3:=(List.getElem?_eq_some_iff.1 hv).1
 obtain ⟨h1,h2,h3,_⟩:=x39 m hl
 rcases j with _ | _ | _ | j
 ·cases hv;simpa using h 37 _ h1
 ·cases hv;simpa using h 38 _ h2
 ·cases hv;simpa using h 39 _ h3
 ·omega
theorem x7Z {B gs d Z g:Nat} {w:World} {q:Option Addr} {c:Nat} {A:List MSt} {k0:Kd} {Q:Nat→Prop} {s0:Pg.S} (hd:1≤d∧d≤8) (hq:A≠[]→q=some ⟨g,0,none⟩∧A.length≤c∧∀i,i<A.length→w.rangeAt g (i*41) (A.getD i default).cells)
  (hw:WayM B w A) (hwg:∀m∈A,∀k,m.reads k→k≠g∧¬Q k) (hqg:A≠[]→¬Q g) (hA:A.length≤1000) (hk:k0.Ok w) (hka:Aw Q k0) (hkf:∀m∈A,∀r∈k0.rows,∀x,r.p=some x→r.R≠[]→x.block≠m.gk) (hp:PL w gs Q s0) (hs0:A≠[]→s0.W≠[]) (hsl:s0.W.length+A.length≤90000)
  (hgk:GoodK d k0.pk) (hgm:∀m∈A,GoodM d Z m) (hz:k0.pk.size+(A.length*(Z+1):Nat)≤1048576):
  Calls Tryz.prog 58 #[.agg #[.pointer (some ⟨gs,0,none⟩),.int .i64 d],.slice q A.length c,.agg k0.cells.toArray] w (y1b w gs Q A k0 (foldR A k0.pk s0 (List.range A.length))):=by
 obtain ⟨n,hn⟩:∃n,n=A.length:=⟨_,rfl⟩
 have HN:=yH hn
 obtain ⟨kv,Ag⟩:∃kv:Value,kv= .agg k0.cells.toArray:=⟨_,rfl⟩
 have Bi:=yH Ag
 have Ai:=fun w'=>x8z (.slice q n c) rfl w'
 have Af:=yH (show ∀m∈A,m.cells.length=41 from fun m hm=>MSt.cells_length (hw.each m hm).kid.len)
 obtain ⟨b0,BE,Ak⟩:∃b0,b0<w.heap.size∧(A≠[]→w.cell? ⟨gs,0,none⟩=some (.map (some b0))):=by
  obtain ⟨mp,cl,hs⟩:=hp
  by_cases N:A=[]
  ·exact ⟨gs,hs.lt gs hs.mine,fun e=>absurd N e⟩
  ·rcases hs.pages with ⟨_,h2⟩ | ⟨b,L,h1,_,h3⟩
   ·exact absurd h2 (hs0 N)
   ·exact ⟨b,hs.lt b h3.mine,fun _=>by rw [hs.c0,h1]⟩
 have Ad:A≠[]→g<w.heap.size:=fun N=>by
  have B0:=List.length_pos_iff.2 N
  have h3:=(hq N).2.2 0 B0
  have h5:=Af.out (A.getD 0 default) (by rw [List.getD_eq_getElem?_getD,List.getElem?_eq_getElem B0];exact List.getElem_mem _)
  exact block_lt_of_cell (h3 0 _ (List.getElem?_eq_getElem (by rw [h5];decide)))
 obtain ⟨W3,Ac,t0,t1,t2,b3⟩:=x37 w (.cells #[.pointer (some ⟨gs,0,none⟩),.int .i64 d] 91) (.cells k0.cells.toArray 34) (.cells kd0.cells.toArray 34)
 have BA:W3.heap.size=w.heap.size+3:=by rw [← Ac];simp
 have b4:Below W3.heap.size W3 (W3.alloc (.cells #[.slice q n c] 93)):=(Below.refl _ _).alloc (Nat.le_refl _) _
 have t3:=heap_alloc_new W3 (.cells #[.slice q n c] 93)
 rw [BA] at t3
 have U:=b3.trans (b4.mono b3.size)
 have Be:=yH (show A≠[]→RaI w gs d Q A b0 k0 s0 [] (W3.alloc (.cells #[.slice q n c] 93)) from fun N=>by
  have BZ:=PL.low hp (Ak N)
  refine ⟨k0,_,⟨(b4.block _ (by omega)).trans t0,(b4.block _ (by omega)).trans t1,(b4.block _ (by omega)).trans t2,hk.later U,rfl,fun r hr x hx hR h=>hka r hr x hx hR h.1,hkf,BZ.keep (fun _=>False) (Only.of_below _ U) (fun _ _ e=>e),fun k h=>Or.inl h.1,fun k h=>h.2.imp id (fun e=>?_),?_,fun m hm=>((hw.each m hm).later U).stM,Only.of_below _ U,by simp;omega⟩,fun _=>rfl,fun e=>absurd rfl e⟩
  ·intro o ho
   exact e o (by rw [← U.block k (hp.lt k h.1)];exact ho)
  ·rw [U.cell (hp.lt gs (PL.mine hp))]
   exact Ak N)
 have Bh:=yH t3
 have Bk:=yH ((b4.block _ (by omega)).trans t1)
 have Bc:=yH ((b4.block _ (by omega)).trans t2)
 have HS4:=yH (show (W3.alloc (.cells #[.slice q n c] 93)).heap.size=w.heap.size+4 by simp;omega)
 have B4:=yH U
 have AF:=yH BE
 have Aj:=yH Ad
 have HQ:=yH hq
 have AD:=yH hw
 have Ap:=yH hwg
 have Ba:=yH hqg
 have HA:=yH hA
 have Bp:=yH hk
 have BT:=yH hka
 have Bb:=yH hp
 have A3:=yH (show ∀k,Q k→k<w.heap.size from hp.lt)
 have Bq:=yH (PL.mine hp)
 have BY:=yH hsl
 have Bt:=yH hgm
 have BS:=yH hd
 have Br:=yH (fun (N:A≠[])=>x9q (k:=k0.pk) (s:=s0) hd N hgm hgk hz)
 have Bv:=yH hz
 obtain ⟨du,B3,Az⟩:=UTr
 obtain ⟨dk,BC,AU⟩:=UKd
 obtain ⟨dn,BI,AP⟩:=UNo
 have BG:=yH B3
 have B9:=yH Az
 have AO:=yH BC
 have A1:=yH AU
 have Ay:=yH BI
 have AV:=yH AP
 have BP:=yH (zero_of_info spz)
 have BO:=yH (zero_of_info kz)
 have CL:=BP.out.1
 have C9:=BO.out.1
 rw [← hn,← Ag]
 clear hn Ag hq hw hwg hqg hA hk hka hkf hp hs0 hsl hgk hgm hz hd BE Ak Ad t0 t1 t2 b3 BA b4 t3 U B3 Az BC AU BI AP
 refine callsIn_wide.1 (callsIn_of_wp_marks (n:=5) Tryz.func58 rfl trivial ?_ rfl)
 simp only [Tryz.ntmps58,List.size_toArray,List.length_cons,List.length_nil,Nat.reduceAdd,Nat.reduceSub,Array.replicate_succ,Array.replicate_zero,List.push_toArray,List.append_toArray,List.nil_append,List.cons_append]
 refine wpIn_wide.2 ?_
 go_wp2_with (go_at_call 107;refine (Ai _).mono ?_;rintro _ w4 ⟨rfl,BD⟩;have Au:=yH BD;clear BD)
 obtain rfl:w4=W3.alloc (.cells #[.slice q n c] 93):=by
  have h:=Au.out
  rw [Bi.out] at h
  exact h.trans (congrArg (fun x=>World.alloc x (.cells #[.slice q n c] 93)) Ac)
 generalize W3.alloc (.cells #[.slice q n c] 93)=w4 at *
 clear Ac Au
 have BX:=cell_of_row w4 (w.heap.size+3) 0 _ _ _ Bh.out
 have Bs:=yH (show RaJ w gs d Q A b0 k0 s0 [] w4 from by
  by_cases N:A=[]
  ·exact Or.inr ⟨N,Bk.out,Bc.out,B4.out,by rw [HS4.out];omega⟩
  ·exact Or.inl ⟨N,Be.out N⟩)
 refine (wpIn_wide (n:=5)).1 ?_
 refine wpIn_rangeFunc_ownH rfl (by omega) (gf:=153) (lb:= #[.pointer (some ⟨w.heap.size+1+1+1,0,none⟩)]) (by rfl) trivial (enters_of Tryz.func153 (by kernel_rfl) rfl)
  (x65 4 (w.heap.size+3) (if A=[] then w.heap.size+3 else g) c q A (by have:=HA.out;omega) (fun h=>⟨by rw [if_neg h];exact (HQ.out h).1,(HQ.out h).2.1⟩) Af.out w4 (by rw [← HN.out];exact BX) (fun i hi=>by
   have N:A≠[]:=fun e=>by rw [e] at hi;cases hi
   rw [if_neg N]
   exact x02 ((HQ.out N).2.2 i hi) B4.out)) (fun h k=>⟨k.1.trans h.1,k.2.trans h.2⟩) ?kb (Below.refl _ _) (fun _=>rfl)
  (RaJ w gs d Q A b0 k0 s0) (fun _ _ _=>False) (y1a w gs d Q A b0 k0 s0 AF.out (by rw [HS4.out];omega)) (fun _ _ _ _ _ h=>False.elim h) Bs.out
  (RaX w gs d (.slice q n c) kv A) (y4s _ _ _ _ _ _ _) ?assign ?body ?done (fun _ _ _ _ _ _ h=>False.elim h)
 case kb=>exact fun W l o o' hl _ _ _=>⟨World.putObj_heap_other (by have:=HS4.out;omega),World.putObj_heap_other (by
  have:=HS4.out
  split
  ·omega
  ·have:=Aj.out ‹_›;omega)⟩
 case assign=>
  intro l pre x W K j hK
  have Bl:=yH hK
  have HI:=yH j
  have H:A≠[]∨A=[]:=(Decidable.em (A=[])).symm
  have Aa:=yH (show (x0P A x).cells.length=41∧∀u∈(x0P A x).cells,u.oneCell'=true from ⟨by
   rcases H with h | h
   ·exact Af.out _ (x27 h x)
   ·rw [h];rfl,MSt.one⟩)
  have RZ:=yH (heap_alloc_new W (.cells sp0.toArray 101))
  have Bo:=yH (x04 W sp0.toArray (x0P A x).cells.toArray 101)
  have R5:=yH (heap_alloc_new W (.cells (x0P A x).cells.toArray 101))
  have K5:=yH (show KeepsFrom w4.heap.size W (W.alloc (.cells (x0P A x).cells.toArray 101)) from (KeepsOthers.alloc W _).from _)
  have I5:=yH (y1a w gs d Q A b0 k0 s0 AF.out (B:=w4.heap.size) (by rw [HS4.out];omega) pre W _ none HI.out (World.grownBy_alloc W (.cells (x0P A x).cells.toArray 101) none) (fun r e=>by cases e))
  have BK:w.heap.size+4≤W.heap.size:=by
   rcases j with ⟨_,_,_,h,_⟩ | ⟨_,_,_,_,h⟩
   ·exact h.z
   ·exact h
  have Bn:=yH BK
  have P5:=yH (show KpB (w.heap.size+3) (if A=[] then w.heap.size+3 else g) W (W.alloc (.cells (x0P A x).cells.toArray 101)) from ⟨Below.heap_alloc _ _ _ (by omega),Below.heap_alloc _ _ _ (by
   split
   ·omega
   ·have:=Aj.out ‹_›;omega)⟩)
  clear j hK BK H
  unfold encB
  generalize hcs:(x0P A x).cells=cs at *
  have BJ:=yH hcs
  clear hcs
  simp only [List.zip_toArray,List.zip_cons_cons,List.zip_nil_left,List.size_toArray,List.length_cons,List.length_nil]
  refine x0X (by rfl) ?_
  go_wp2_with (refine wpList_store_row (by rfl) 101 _ _ (by rfl) W.heap.size cs.toArray (by rfl) (by rfl) _ _ RZ.out (by rw [List.size_toArray,Aa.out.1];exact SSp) (by simp only [List.size_toArray,Aa.out.1];rfl) (all_oneCell_toArray Aa.out.2) ?_;rw [Bo.out])
  refine x0f ?_
  exact Bl.out _ _ K5.out P5.out I5.out ⟨_,Bn.out,by rw [HN.out,BJ.out],by rw [BJ.out];exact R5.out⟩
 case body=>
  rintro l pre x a' W hl - hJ ⟨B8,CB,rfl,r8⟩ AQ
  have H:A≠[]:=fun e=>by rw [e] at AQ;cases AQ
  obtain ⟨P,Q',j,-,-⟩:RaI w gs d Q A b0 k0 s0 pre W:=by
   rcases hJ with ⟨_,h⟩ | ⟨h,_⟩
   ·exact h
   ·exact absurd h H
  have hwg:∀m∈A,∀k,m.reads k→¬Q k:=fun m hm k hk=>(Ap.out m hm k hk).2
  have A2:=x27 H x
  obtain ⟨Aq,Bd,BQ⟩:=Br.out H pre (by omega)
  have B5:=Bt.out _ A2
  have AY:(pre.length+1)*(Z+1)≤A.length*(Z+1):=Nat.mul_le_mul_right _ (by omega)
  rw [Nat.add_mul,Nat.one_mul] at AY
  have BW:=Bv.out
  obtain ⟨X,-,-⟩:=x66 (a:=(foldR A k0.pk s0 pre).1) BS.out B5 Aq (by omega)
  have hsl:=BY.out
  have Ah:=x44 A k0.pk s0 pre x
  have BB:B8≠(x0P A x).gk:=by have:=(x4M (AD.out.each _ A2)).2;omega
  rw [← HN.out]
  generalize hcs:(x0P A x).cells.toArray=cs at r8 ⊢
  unfold rzM at Ah
  generalize x0P A x=m at *
  generalize foldR A k0.pk s0 pre=st at *
  have Y:=AD.out.each m A2
  obtain ⟨a1,a2,a3,a4,a5,a6⟩:=j.set A2 AD.out hwg A3.out
  have AB:W.heap[B8]? =some (.cells m.cells.toArray 101 (0,0)):=by rw [r8,← hcs]
  have Ar:=x1A W B8 39 AB (x39 m Y.kid.len).2.2.1
  have AM:=x1A W B8 40 AB (x39 m Y.kid.len).2.2.2
  have AE:=x13 W m.gk m.at' P.cells
  have AS:=(yL AB)
  have AX:=(AE.block B8 AS BB).trans AB
  have hz:=j.z
  have Ax:=x4M Y
  have AT:=(AE.block w.heap.size (by omega) (by omega)).trans j.r3
  have AR:=(AE.block (w.heap.size+1) (by omega) (by omega)).trans j.r5
  obtain ⟨E,KE,hE,At,Ab⟩:=a2.node Y.caps a3 a4
  rw [← j.pk] at X
  have AC:=x6e 1 (by omega) _ 1 m.ce _ 2 m.ck E KE (d:Int) _ hE At a1 (by omega) (by rw [Ab];exact X)
  rw [Ab] at AC
  have A0:=yH AC
  have AG:=yH (show ∀J,Only Q' (W.setCells m.gk m.at' P.cells) J→J.heap[w.heap.size+1]? =some (.cells P.cells.toArray 34 (0,0)) from fun J I=>(I.block _ (by omega) (j.notQ A3.out (by omega) (fun e=>by have:=A3.out _ e;omega))).trans AR)
  have AZ:=yH (show W.setCells m.gk m.at' P.cells=W.setCells m.gk m.at' P.cells from rfl)
  have y:=yH (show ∀(J:World) (C:Kd) (Q6:Nat→Prop),C.pk=(forkM m P.pk).says→C.Ok J→Fsh (W.setCells m.gk m.at' P.cells) C→PL J gs Q6 (st.2.put (forkM m P.pk).bytes)→(∀k,Q6 k→Q' k∨(W.setCells m.gk m.at' P.cells).heap.size≤k)→Aw Q6 C→Only Q' (W.setCells m.gk m.at' P.cells) J→Mst gs (W.setCells m.gk m.at' P.cells) J→
    KeepsFrom w4.heap.size W (J.setRow (w.heap.size+1) C.cells.toArray)∧KpB (w.heap.size+3) (if A=[] then w.heap.size+3 else g) W (J.setRow (w.heap.size+1) C.cells.toArray)∧RaJ w gs d Q A b0 k0 s0 (pre++[x]) (J.setRow (w.heap.size+1) C.cells.toArray) from fun J C Q6 e1 e2 e3 e4 e5 e6 e7 e8=>by
   obtain ⟨b1,b2,b3,b4⟩:=j.step A2 AD.out hwg A3.out Bq.out AF.out e1 e2 e3 e4 e5 e6 e7 e8
   have Ad:=Aj.out H
   refine ⟨b2 _ (by rw [HS4.out];omega),⟨b3 _ (by omega) (fun e=>by have:=A3.out _ e;omega) (by omega) (by omega),?_⟩,Or.inl ⟨H,C,(fun k=>Q6 k∧(k=b0∨isC J k)),?_,fun e=>(by simp at e),fun _=>b4⟩⟩
   ·rw [if_neg H]
    exact b3 _ (by omega) (Ba.out H) (fun e=>(Ap.out m A2 _ (Or.inr (Or.inl rfl))).1 e.symm) (by omega)
   ·rw [Ah]
    exact b1)
  have Av:=yH (x0E j.r5)
  have M:=yH (Kd.cells_length j.ok.len)
  have AL:=yH a5
  have t:=yH (x09 AT)
  have AK:=yH (kl_nd (x6j AX) Y.kid.len)
  have CM:=Y.caps.2
  clear hJ j hwg Aq Bd BQ B5 AY BW X hsl Ah BB hcs Y a1 a2 a3 a4 a5 a6 AB AE AX hz Ax AT AR hE At Ab AC r8 AS
  gi_upto_region 3 with fail
  cases hside:m.side
  ·skip
   have Al:W.cell? ⟨B8,40,none⟩=some (.int .i64 0):=by rw [AM];unfold MSt.sideN;rw [hside];rfl
   have A6:m.at'=0:=by unfold MSt.at';rw [hside];rfl
   rw [A6] at AL AZ y t AK A0 AG
   clear AM hside A6
   refine x0X (by rfl) ?_
   go_wp2_with (first
    | (refine wpList_load_mid (by rfl) 34 (.tmp 5) (by rfl) (w.heap.size+1) 0 (by rfl) P.cells dk Av.out AO.out A1.out (by rw [M.out];exact SKd) ?_)
    | (refine wpList_store_mid (by rfl) 34 (.tmp 19) (.tmp 18) (by rfl) m.gk 0 P.cells.toArray (by rfl) (by rfl) (by rw [List.size_toArray,M.out];exact AL.out) (by rw [List.size_toArray,M.out];exact SKd) (all_oneCell_toArray Kd.one) ?_;rw [List.toList_toArray]))
   refine x0f ?_
   generalize W.setCells m.gk 0 P.cells=W1 at *
   clear Ar Al
   gi_upto_region 4 with fail
   refine x0X (by rfl) ?_
   go_wp2_with (first
    | (refine wpList_load_mid (by rfl) 91 (.tmp 3) (by rfl) w.heap.size 0 (by rfl) [.pointer (some ⟨gs,0,none⟩),.int .i64 d] du t.out BG.out B9.out STr ?_)
    | (refine wpList_load_mid (by rfl) 81 (.tmp 21) (by rfl) B8 37 (by rfl) [.int .u8 1,.slice (some ⟨m.ge,0,none⟩) 1 m.ce,.slice (some ⟨m.gk,0,none⟩) 2 m.ck] dn AK.out Ay.out AV.out SNo ?_)
    | (go_at_call 108;refine A0.out.mono ?_;rintro _ J ⟨C,rfl,AA,f,A4,⟨Q6,A7,A5,A8⟩,I,O⟩;have HF:=yH (y.out J C Q6 AA f A4 A7 A5 A8 I O);have Ae:=yH (AG.out J I);have G:=yH (Kd.cells_length f.len);clear AA f A4 A7 A5 A8 I O)
    | (refine wpList_store_row (by rfl) 34 (.tmp 5) _ (by rfl) (w.heap.size+1) C.cells.toArray (by rfl) (by rfl) _ _ Ae.out (by rw [List.size_toArray,G.out];exact SKd) (by simp only [List.size_toArray,G.out,M.out]) (all_oneCell_toArray Kd.one) ?_))
   refine x0f ?_
   exact HF.out
  ·skip
   have Al:W.cell? ⟨B8,40,none⟩=some (.int .i64 1):=by rw [AM];unfold MSt.sideN;rw [hside];rfl
   have A6:m.at'=37:=by unfold MSt.at';rw [hside];rfl
   rw [A6] at AL AZ y t AK A0 AG
   clear AM hside A6
   refine x0X (by rfl) ?_
   go_wp2_with (first
    | (refine wpList_load_mid (by rfl) 34 (.tmp 5) (by rfl) (w.heap.size+1) 0 (by rfl) P.cells dk Av.out AO.out A1.out (by rw [M.out];exact SKd) ?_)
    | (refine wpList_store_mid (by rfl) 34 (.tmp 19) (.tmp 18) (by rfl) m.gk 37 P.cells.toArray (by rfl) (by rfl) (by rw [List.size_toArray,M.out];exact AL.out) (by rw [List.size_toArray,M.out];exact SKd) (all_oneCell_toArray Kd.one) ?_;rw [List.toList_toArray]))
   refine x0f ?_
   generalize W.setCells m.gk 37 P.cells=W1 at *
   clear Ar Al
   gi_upto_region 4 with fail
   refine x0X (by rfl) ?_
   go_wp2_with (first
    | (refine wpList_load_mid (by rfl) 91 (.tmp 3) (by rfl) w.heap.size 0 (by rfl) [.pointer (some ⟨gs,0,none⟩),.int .i64 d] du t.out BG.out B9.out STr ?_)
    | (refine wpList_load_mid (by rfl) 81 (.tmp 21) (by rfl) B8 37 (by rfl) [.int .u8 1,.slice (some ⟨m.ge,0,none⟩) 1 m.ce,.slice (some ⟨m.gk,0,none⟩) 2 m.ck] dn AK.out Ay.out AV.out SNo ?_)
    | (go_at_call 108;refine A0.out.mono ?_;rintro _ J ⟨C,rfl,AA,f,A4,⟨Q6,A7,A5,A8⟩,I,O⟩;have HF:=yH (y.out J C Q6 AA f A4 A7 A5 A8 I O);have Ae:=yH (AG.out J I);have G:=yH (Kd.cells_length f.len);clear AA f A4 A7 A5 A8 I O)
    | (refine wpList_store_row (by rfl) 34 (.tmp 5) _ (by rfl) (w.heap.size+1) C.cells.toArray (by rfl) (by rfl) _ _ Ae.out (by rw [List.size_toArray,G.out];exact SKd) (by simp only [List.size_toArray,G.out,M.out]) (all_oneCell_toArray Kd.one) ?_))
   refine x0f ?_
   exact HF.out
 case done=>
  rintro D xs W hD rfl hJ hK
  have v:∃C:Kd,W.heap[w.heap.size+1]? =some (.cells C.cells.toArray 34 (0,0))∧W.heap[w.heap.size+2]? =some (.cells kd0.cells.toArray 34 (0,0))∧C.cells.length=37∧∀w',w'=(W.setRow (w.heap.size+2) C.cells.toArray).putObj D (.deferred none)→y1b w gs Q A k0 (foldR A k0.pk s0 (List.range A.length)) (.returned (.agg C.cells.toArray)) w':=x9s (w':=W) (B:=0) AF.out Bp.out BT.out Bb.out (by have:=HS4.out;omega) hK hJ
  obtain ⟨C,h5,h6,Ao,v⟩:=v
  have HK:=yH hK
  have H5:=yH (x0E h5)
  have H6:=yH h6
  have G:=yH Ao
  have HF:=yH v
  have BV:=yH (show D≠w.heap.size+2 by have:=HS4.out;omega)
  clear hJ hK h5 h6 Ao v
  go_wp2_with (first
   | (refine wpList_load_mid (by rfl) 34 (.tmp 5) (by rfl) (w.heap.size+1) 0 (by rfl) C.cells dk H5.out AO.out A1.out (by rw [G.out];exact SKd) ?_)
   | (refine wpList_store_row (by rfl) 34 (.tmp 6) _ (by rfl) (w.heap.size+2) C.cells.toArray (by rfl) (by rfl) _ _ H6.out (by rw [List.size_toArray,G.out];exact SKd) (by simp only [List.size_toArray,G.out,x01]) (all_oneCell_toArray Kd.one) ?_))
  exact y1c (p:=6) (by kernel_rfl) AO.out A1.out (by rw [List.size_toArray,G.out];exact SKd) (by rfl) (setRow_heap _ _ _ _ _ _ H6.out) ((setRow_other _ _ _ _ BV.out).trans HK.out) (by rw [HN.out];exact HF.out _ rfl)
end Go.Proofs.YtinihaflmdihaaaGreat.Kt
