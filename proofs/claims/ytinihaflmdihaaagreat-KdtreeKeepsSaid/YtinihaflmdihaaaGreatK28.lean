/- KdRaise. -/
import Derived.Test.YtinihaflmdihaaaGreatK27
set_option maxRecDepth 100000
set_option maxHeartbeats 8000000
set_option linter.all false
namespace Go.Proofs.YtinihaflmdihaaaGreat.Kt
open Go.RowKit Go.Shelf Go.Proofs.YtinihaflmdihaaaGreat.Nd Go.Proofs.YtinihaflmdihaaaGreat.Dk Go.Proofs.YtinihaflmdihaaaGreat.Pg Go.Proofs.YtinihaflmdihaaaGreat.Wl
attribute [local go_sem] Oper.semAt_some
def isC (w:World) (k:Nat):Prop:=∀o:Obj,w.heap[k]? =some o→o.isCells=true
theorem isC_cell {w:World} {k o:Nat} {v:Value} (h:w.cell? ⟨k,o,none⟩=some v):isC w k:=fun x hx=>by
 cases x with
 | cells c t z=>rfl
 | _=>simp [World.cell?,hx] at h
theorem PL.low {w:World} {g b:Nat} {Q:Nat→Prop} {s:Pg.S} (h:PL w g Q s) (hb:w.cell? ⟨g,0,none⟩=some (.map (some b))):PL w g (fun k=>Q k∧(k=b∨isC w k)) s:=by
 obtain ⟨mp,cl,h⟩:=h
 have hmp:mp=some b:=by
  have:=h.c0
  rw [hb] at this
  simpa using this.symm
 have htq:∀ {p:Option Addr} {m c:Nat} {t:List Nat},TQ Q w p m c t→TQ (fun k=>Q k∧(k=b∨isC w k)) w p m c t:=fun {p m c t} ht=>⟨ht.tx,fun x hx hne=>⟨ht.own x hx hne,Or.inr (by
  obtain ⟨g',o',hp,hc⟩:=ht.tx.bytes.ne hne
  rw [hx] at hp
  cases hp
  exact isC_cell (hc 0 (List.length_pos_iff.2 hne)))⟩,ht.le⟩
 refine ⟨mp,cl,h.row,?_,?_,⟨h.mine,Or.inr (isC_cell h.c0)⟩,fun k hk=>h.lt k hk.1,h.ok⟩
 ·exact h.pages.imp id fun ⟨b',L,h1,h2,h3⟩=>⟨b',L,h1,h2,⟨⟨h3.mine,Or.inl (by rw [hmp] at h1;exact (Option.some.inj h1).symm)⟩,h3.map,fun e he=>htq (h3.text e he)⟩⟩
 ·exact h.clash.imp id fun ⟨c,x,y,h1,h2,h3⟩=>⟨c,x,y,h1,h2,by
   obtain ⟨p,m,k,q,n,l,e1,e2,e3⟩:=h3.row
   exact ⟨⟨h3.mine,Or.inr (fun o ho=>by rw [e1] at ho;cases ho;rfl)⟩,p,m,k,q,n,l,e1,htq e2,htq e3⟩⟩
structure RaW (w:World) (gs d:Nat) (Q:Nat→Prop) (A:List MSt) (b0:Nat) (st:PK×Pg.S) (kk:Kd) (Q':Nat→Prop) (W:World):Prop where
 r3:W.heap[w.heap.size]? =some (.cells #[.pointer (some ⟨gs,0,none⟩),.int .i64 d] 91 (0,0))
 r5:W.heap[w.heap.size+1]? =some (.cells kk.cells.toArray 34 (0,0))
 r6:W.heap[w.heap.size+2]? =some (.cells kd0.cells.toArray 34 (0,0))
 ok:kk.Ok W
 pk:kk.pk=st.1
 aw:Aw Q' kk
 far:∀m∈A,∀r∈kk.rows,∀x,r.p=some x→r.R≠[]→x.block≠m.gk
 pl:PL W gs Q' st.2
 sub:∀k,Q' k→Q k∨w.heap.size+4≤k
 norm:∀k,Q' k→k=b0∨isC W k
 map:W.cell? ⟨gs,0,none⟩=some (.map (some b0))
 each:∀m∈A,StM W m
 only:Only (fun k=>Q k∨∃m∈A,k=m.gk) w W
 z:w.heap.size+4≤W.heap.size
def RaI (w:World) (gs d:Nat) (Q:Nat→Prop) (A:List MSt) (b0:Nat) (k0:Kd) (s0:Pg.S) (pre:List Nat) (W:World):Prop:=
 ∃kk Q',RaW w gs d Q A b0 (foldR A k0.pk s0 pre) kk Q' W∧(pre=[]→kk=k0)∧(pre≠[]→∀r∈kk.rows,∀x,r.p=some x→r.R≠[]→w.heap.size+4≤x.block)
theorem isC_grown {W W':World} {row:Option Nat} {k:Nat} (h:isC W k) (hg:W.grownBy W' row) (hk:k<W.heap.size) (hr:∀r,row=some r→∃o:Obj,W.heap[r]? =some o∧o.isCells=false):isC W' k:=fun o ho=>by
 refine h o ((hg.block k hk (fun e=>?_)).symm.trans ho)
 obtain ⟨o',ho',hc⟩:=hr k e.symm
 rw [h o' ho'] at hc
 cases hc
theorem rw_isC {w:World} {r:Rw} (h:r.Ok w):∀x,r.p=some x→r.R≠[]→isC w x.block:=fun x hx hR=>by
 rcases h.ints.at' with h0 | ⟨g,o,hp,hc⟩
 ·exact absurd h0 hR
 ·rw [hx] at hp
  obtain rfl:x=⟨g,o,none⟩:=by simpa using hp
  exact isC_cell (hc 0 (List.length_pos_iff.2 hR))
theorem reads_isC {W:World} {m:MSt} (h:StM W m):isC W m.ge∧isC W m.gk∧(∀x,m.row.p=some x→m.row.R≠[]→isC W x.block):=by
 refine ⟨isC_cell (h.ent 0 _ rfl),?_,fun x hx hR=>?_⟩
 ·have h1:=(h.kidT 0 (by decide)).1
  obtain ⟨v,hv⟩:=Option.isSome_iff_exists.1 h1
  exact isC_cell hv
 ·exact rw_isC h.row x hx hR
theorem raW_grown {w:World} {gs d:Nat} {Q:Nat→Prop} {A:List MSt} {b0:Nat} {st:PK×Pg.S} {kk:Kd} {Q':Nat→Prop} {W W':World} {row:Option Nat} (h:RaW w gs d Q A b0 st kk Q' W) (hb:b0<w.heap.size) (hg:W.grownBy W' row) (hr:∀r,row=some r→w.heap.size≤r∧∃o:Obj,W.heap[r]? =some o∧o.isCells=false):RaW w gs d Q A b0 st kk Q' W':=by
 have hr2:∀r,row=some r→∃o:Obj,W.heap[r]? =some o∧o.isCells=false:=fun r e=>(hr r e).2
 have hblk:∀k,k<W.heap.size→isC W k→W'.heap[k]? =W.heap[k]? :=fun k hk hc=>hg.block k hk (fun e=>by
  obtain ⟨o,ho,hn⟩:=hr2 k e.symm
  rw [hc o ho] at hn
  cases hn)
 have hlow:∀k,k<w.heap.size→W'.heap[k]? =W.heap[k]? :=fun k hk=>hg.block k (by have:=h.z;omega) (fun e=>by have:=(hr k e.symm).1;omega)
 have hQ:∀k,Q' k→W'.heap[k]? =W.heap[k]? :=fun k hk=>(h.norm k hk).elim (fun e=>hlow k (by rw [e];exact hb)) (fun e=>hblk k (h.pl.lt k hk) e)
 have hrw:∀r:Rw,r.Ok W→∀x,r.p=some x→r.R≠[]→W'.heap[x.block]? =W.heap[x.block]? :=fun r hr x hx hR=>hblk _ (rw_lt hr x hx hR) (rw_isC hr x hx hR)
 obtain ⟨mp,cl,hs⟩:=h.pl
 have hkeepK:∀k:Kd,k.Ok W→k.Ok W':=fun k hk=>kd_keep hk fun r hr=>hrw r (kd_rows_ok hk r hr)
 refine ⟨box_grown h.r3 hg hr2,box_grown h.r5 hg hr2,box_grown h.r6 hg hr2,hkeepK _ h.ok,h.pk,h.aw,h.far,⟨mp,cl,hs.keep hg.size hQ⟩,h.sub,fun k hk=>(h.norm k hk).imp id (fun e=>isC_grown e hg (h.pl.lt k hk) hr2),?_,fun m hm=>?_,?_,Nat.le_trans h.z hg.size⟩
 ·exact (World.cell?_of_block (w:=W) (a:=⟨gs,0,none⟩) (hQ gs (PL.mine h.pl))).trans h.map
 ·have hm':=h.each m hm
  have hc:=reads_isC hm'
  have hge:=hblk m.ge (block_lt_of_cell (hm'.ent 0 _ rfl)) hc.1
  have hgk:W'.heap[m.gk]? =W.heap[m.gk]? :=hblk m.gk (by
   have h1:=(hm'.kidT 0 (by decide)).1
   obtain ⟨v,hv⟩:=Option.isSome_iff_exists.1 h1
   exact block_lt_of_cell hv) hc.2.1
  exact ⟨range_keep hm'.ent hge,Nd.rw_keep hm'.row (hrw _ hm'.row),fun e=>⟨range_keep (hm'.k1 e).1 hgk,hkeepK _ (hm'.k1 e).2⟩,fun e=>⟨range_keep (hm'.k2 e).1 hgk,hkeepK _ (hm'.k2 e).2⟩,there_keep hm'.kidT hgk⟩
 ·have ho:=h.only
  exact ⟨hg.os.trans ho.os,hg.tape.trans ho.tape,hg.output.trans ho.output,Nat.le_trans ho.size hg.size,fun k hk hn=>(hlow k hk).trans (ho.block k hk hn)⟩
theorem raI_own (w:World) (gs d:Nat) (Q:Nat→Prop) (A:List MSt) (b0:Nat) (k0:Kd) (s0:Pg.S) (hb:b0<w.heap.size) {B:Nat} (hB:w.heap.size≤B):OwnFrom B (RaI w gs d Q A b0 k0 s0):=fun _ _ _ _ ⟨kk,Q',h,h1,h2⟩ hg hr=>
 ⟨kk,Q',raW_grown h hb hg fun r e=>⟨Nat.le_trans hB (hr r e).1,(hr r e).2⟩,h1,h2⟩
def RaE (w:World) (k0:Kd) (W:World):Prop:=W.heap[w.heap.size+1]? =some (.cells k0.cells.toArray 34 (0,0))∧W.heap[w.heap.size+2]? =some (.cells kd0.cells.toArray 34 (0,0))∧Below w.heap.size w W∧w.heap.size+4≤W.heap.size
def RaJ (w:World) (gs d:Nat) (Q:Nat→Prop) (A:List MSt) (b0:Nat) (k0:Kd) (s0:Pg.S) (pre:List Nat) (W:World):Prop:=(A≠[]∧RaI w gs d Q A b0 k0 s0 pre W)∨(A=[]∧RaE w k0 W)
theorem raJ_own (w:World) (gs d:Nat) (Q:Nat→Prop) (A:List MSt) (b0:Nat) (k0:Kd) (s0:Pg.S) (hb:b0<w.heap.size) {B:Nat} (hB:w.heap.size≤B):OwnFrom B (RaJ w gs d Q A b0 k0 s0):=fun s W W' row h hg hr=>by
 rcases h with ⟨h0,h⟩ | ⟨h0,h1,h2,h3,h4⟩
 ·exact Or.inl ⟨h0,raI_own w gs d Q A b0 k0 s0 hb hB s W W' row h hg hr⟩
 ·exact Or.inr ⟨h0,box_grown h1 hg fun r e=>(hr r e).2,box_grown h2 hg fun r e=>(hr r e).2,h3.grown hg h3.size (fun k e=>Nat.le_trans hB (hr k e).1),Nat.le_trans h4 hg.size⟩
def RaX (w:World) (gs d:Nat) (v kv:Value) (A:List MSt) (x:Nat) (a':Act) (W:World):Prop:=
 ∃B8,w.heap.size+4≤B8∧a'={tmps:= #[.agg #[.pointer (some ⟨gs,0,none⟩),.int .i64 d],v,kv,.pointer (some ⟨w.heap.size,0,none⟩),undef,.pointer (some ⟨w.heap.size+1,0,none⟩),.pointer (some ⟨w.heap.size+1+1,0,none⟩),undef,.pointer (some ⟨B8,0,none⟩),v,.func (.func 153) #[] #[.pointer (some ⟨w.heap.size+1+1+1,0,none⟩)],.int .i64 ((A.length:Int) - 1 - x),.agg (backAt A x).cells.toArray,undef,undef,undef,undef,undef,undef,undef,undef,undef,undef,undef,undef],defers:=[]}∧W.heap[B8]? =some (.cells (backAt A x).cells.toArray 101 (0,0))
theorem raX_own (w:World) (gs d:Nat) (v kv:Value) (A:List MSt) (B:Nat) (x:Nat) (a':Act):OwnFrom B (fun (_:Unit) W=>RaX w gs d v kv A x a' W):=fun _ _ _ _ ⟨B8,hB,e,h⟩ hg hr=>
 ⟨B8,hB,e,box_grown h hg fun r e=>(hr r e).2⟩
def Raised (w:World) (gs:Nat) (Q:Nat→Prop) (A:List MSt) (k0:Kd) (st:PK×Pg.S) (e:Ending) (w':World):Prop:=
 ∃kd Q',e= .returned (.agg kd.cells.toArray)∧kd.pk=st.1∧kd.Ok w'∧((A=[]∧kd=k0)∨Fsh w kd)∧PL w' gs Q' st.2∧(∀k,Q' k→Q k∨w.heap.size≤k)∧Aw Q' kd∧Only (fun k=>Q k∨∃m∈A,k=m.gk) w w'
theorem there_part {w:World} {b n:Nat} (h:w.there b 0 n) (o m:Nat) (ho:o+m≤n):w.there b o m:=fun j hj=>by
 have:=h (o+j) (by omega)
 simpa using this
theorem stM_lt {w:World} {m:MSt} (h:m.Ok w):m.ge<w.heap.size∧m.gk<w.heap.size:=⟨h.lt _ (Or.inl rfl),h.lt _ (Or.inr (Or.inl rfl))⟩
section
variable {B:Nat} {w:World} {gs d:Nat} {Q:Nat→Prop} {A:List MSt} {b0:Nat} {st:PK×Pg.S} {kk:Kd} {Q':Nat→Prop} {W:World} {m:MSt}
theorem RaW.notQ (h:RaW w gs d Q A b0 st kk Q' W) (hQ:∀k,Q k→k<w.heap.size) {k:Nat} (hk:k<w.heap.size+4) (hn:¬Q k):¬Q' k:=fun e=>(h.sub k e).elim hn (fun e=>by omega)
theorem RaW.set (h:RaW w gs d Q A b0 st kk Q' W) (hm:m∈A) (hwy:WayM B w A) (hwg:∀m∈A,∀k,m.reads k→¬Q k) (hQ:∀k,Q k→k<w.heap.size):
  PL (W.setCells m.gk m.at' kk.cells) gs Q' st.2∧StM (W.setCells m.gk m.at' kk.cells) m∧(W.setCells m.gk m.at' kk.cells).rangeAt m.gk m.at' kk.cells∧kk.Ok (W.setCells m.gk m.at' kk.cells)∧W.there m.gk m.at' 37∧W.heap.size=(W.setCells m.gk m.at' kk.cells).heap.size:=by
 have ho:=only_cells W m.gk m.at' kk.cells
 have hmo:=hwy.each m hm
 have hlt:=stM_lt hmo
 have hl:=Kd.cells_length h.ok.len
 have ht:W.there m.gk m.at' 37:=there_part (h.each m hm).kidT _ _ (by unfold MSt.at';split<;>omega)
 refine ⟨h.pl.keep _ ho (fun k hk e=>h.notQ hQ (by rw [e];omega) (by rw [e];exact hwg m hm _ (Or.inr (Or.inl rfl))) hk),(h.each m hm).put ⟨hmo.k1.len,hmo.k2.len⟩ hmo.apart hmo.ne hl,World.rangeAt_setCells_same _ _ _ _ (by rw [hl];exact ht),kd_keep h.ok fun r hr x hx hR=>ho.block _ (rw_lt (kd_rows_ok h.ok r hr) x hx hR) (h.far m hm r hr x hx hR),ht,?_⟩
 exact ((size_setCells m.gk kk.cells m.at' W).1).symm
theorem RaW.step (h:RaW w gs d Q A b0 st kk Q' W) (hm:m∈A) (hwy:WayM B w A) (hwg:∀m∈A,∀k,m.reads k→¬Q k) (hQ:∀k,Q k→k<w.heap.size) (hgQ:Q gs) (hb0:b0<w.heap.size) {W2:World} {kd:Kd} {Q6:Nat→Prop} (hpk:kd.pk=(forkM m kk.pk).says) (hok:kd.Ok W2) (hfs:Fsh (W.setCells m.gk m.at' kk.cells) kd)
  (hpl:PL W2 gs Q6 (st.2.put (forkM m kk.pk).bytes)) (hsub:∀k,Q6 k→Q' k∨(W.setCells m.gk m.at' kk.cells).heap.size≤k) (haw:Aw Q6 kd) (ho2:Only Q' (W.setCells m.gk m.at' kk.cells) W2) (hms:Mst gs (W.setCells m.gk m.at' kk.cells) W2):
  RaW w gs d Q A b0 ((forkM m st.1).says,st.2.put (forkM m st.1).bytes) kd (fun k=>Q6 k∧(k=b0∨isC W2 k)) (W2.setRow (w.heap.size+1) kd.cells.toArray)∧(∀B',w.heap.size+4≤B'→KeepsFrom B' W (W2.setRow (w.heap.size+1) kd.cells.toArray))∧(∀j,j<w.heap.size+4→¬Q j→j≠m.gk→j≠w.heap.size+1→(W2.setRow (w.heap.size+1) kd.cells.toArray).heap[j]? =W.heap[j]?)∧∀r∈kd.rows,∀x,r.p=some x→r.R≠[]→w.heap.size+4≤x.block:=by
 have ho:=only_cells W m.gk m.at' kk.cells
 have hmo:=hwy.each m hm
 have hlt:=stM_lt hmo
 have hz:=h.z
 have hs1:W.heap.size=(W.setCells m.gk m.at' kk.cells).heap.size:=((size_setCells m.gk kk.cells m.at' W).1).symm
 rw [← hs1] at hsub
 have hfs':∀r∈kd.rows,∀x,r.p=some x→r.R≠[]→W.heap.size≤x.block:=fun r hr x hx hR=>by rw [hs1];exact hfs r hr x hx hR
 generalize hW1:W.setCells m.gk m.at' kk.cells=W1 at *
 have hs2:=ho2.size
 have ho3:=only_setRow W2 (w.heap.size+1) kd.cells.toArray
 have hgl:gs<w.heap.size:=hQ gs hgQ
 have hnq:=fun {k:Nat}=>h.notQ (k:=k) hQ
 have hk3:∀j,j<W.heap.size→¬Q' j→j≠m.gk→j≠w.heap.size+1→(W2.setRow (w.heap.size+1) kd.cells.toArray).heap[j]? =W.heap[j]? :=fun j h1 h2 h3 h4=>(ho3.block j (by omega) h4).trans ((ho2.block j (by omega) h2).trans (ho.block j h1 h3))
 have hbx:¬Q (w.heap.size+1):=fun e=>by have:=hQ _ e;omega
 have hq6x:¬Q6 (w.heap.size+1):=fun e=>(hsub _ e).elim (hnq (by omega) hbx) (fun e=>by omega)
 have hgsk:gs≠m.gk:=fun e=>hwg m hm _ (Or.inr (Or.inl rfl)) (e▸hgQ)
 have hmap1:W1.cell? ⟨gs,0,none⟩=some (.map (some b0)):=(World.cell?_of_block (w:=W) (a:=⟨gs,0,none⟩) (ho.block gs (by omega) hgsk)).trans h.map
 have hmap2:=hms b0 hmap1
 have hr5:W2.heap[w.heap.size+1]? =some (.cells kk.cells.toArray 34 (0,0)):=(ho2.block _ (by omega) (hnq (by omega) hbx)).trans ((ho.block _ (by omega) (by omega)).trans h.r5)
 have hrow:∀r∈kd.rows,∀x,r.p=some x→r.R≠[]→(W2.setRow (w.heap.size+1) kd.cells.toArray).heap[x.block]? =W2.heap[x.block]? :=fun r hr x hx hR=>ho3.block _ (rw_lt (kd_rows_ok hok r hr) x hx hR) (by have:=hfs' r hr x hx hR;omega)
 refine ⟨⟨?_,?_,?_,kd_keep hok hrow,by rw [hpk,h.pk],fun r hr x hx hR e=>haw r hr x hx hR e.1,fun m' hm' r hr x hx hR=>?_,?_,fun k hk=>?_,fun k hk=>hk.2.imp id (fun e=>?_),?_,fun m' hm'=>?_,?_,?_⟩,fun B' hB'=>?_,fun j h1 h2 h3 h4=>hk3 j (by omega) (hnq h1 h2) h3 h4,fun r hr x hx hR=>by have:=hfs' r hr x hx hR;omega⟩
 ·exact (hk3 _ (by omega) (hnq (by omega) (fun e=>by have:=hQ _ e;omega)) (by omega) (by omega)).trans h.r3
 ·exact setRow_heap _ _ _ _ _ _ hr5
 ·exact (hk3 _ (by omega) (hnq (by omega) (fun e=>by have:=hQ _ e;omega)) (by omega) (by omega)).trans h.r6
 ·have:=hfs' r hr x hx hR
  have:=(stM_lt (hwy.each m' hm')).2
  omega
 ·rw [← h.pk]
  exact (PL.low hpl hmap2).keep _ ho3 (fun k hk e=>hq6x (e▸hk.1))
 ·rcases hsub k hk.1 with e | e
  ·exact h.sub k e
  ·right;omega
 ·intro o ho'
  refine e o ?_
  rw [← ho3.block k (hpl.lt k hk.1) (fun e2=>hq6x (e2▸hk.1))]
  exact ho'
 ·exact (World.cell?_of_block (w:=W2) (a:=⟨gs,0,none⟩) (ho3.block gs (by omega) (by omega))).trans hmap2
 ·have hlt':=(hwy.each m' hm').lt
  have hsm:StM W1 m':=by
   rcases hwy.two m' hm' m hm with e | e
   ·subst e
    rw [← hW1]
    exact (h.each m' hm').put ⟨hmo.k1.len,hmo.k2.len⟩ hmo.apart hmo.ne (Kd.cells_length h.ok.len)
   ·exact (h.each m' hm').keep fun k hk=>ho.block k (by have:=hlt' k hk;omega) (fun e2=>e.2 (e2▸hk))
  exact hsm.keep fun k hk=>(ho3.block k (by have:=hlt' k hk;omega) (by have:=hlt' k hk;omega)).trans (ho2.block k (by have:=hlt' k hk;omega) (hnq (by have:=hlt' k hk;omega) (hwg m' hm' k hk)))
 ·have hw0:=h.only
  refine ⟨ho3.os.trans (ho2.os.trans (ho.os.trans hw0.os)),ho3.tape.trans (ho2.tape.trans (ho.tape.trans hw0.tape)),ho3.output.trans (ho2.output.trans (ho.output.trans hw0.output)),Nat.le_trans hw0.size (by have:=ho3.size;omega),fun k hk hn=>?_⟩
  rw [hk3 k (by omega) (hnq (by omega) (fun e=>hn (Or.inl e))) (fun e=>hn (Or.inr ⟨m,hm,e⟩)) (by omega)]
  exact hw0.block k hk hn
 ·have:=ho3.size
  omega
 ·refine ⟨by have:=ho3.size;omega,fun k o hk ho' hc=>?_⟩
  have hkl:=(yL ho')
  rw [hk3 k hkl (fun e=>?_) (by omega) (by omega)]
  ·exact ho'
  ·rcases h.norm k e with e | e
   ·omega
   ·rw [e o ho'] at hc
    cases hc
end
theorem raised_fin {B gs d:Nat} {w W w':World} {Q:Nat→Prop} {A:List MSt} {b0 D:Nat} {k0:Kd} {s0:Pg.S} (hb0:b0<w.heap.size) (hk:k0.Ok w) (hka:Aw Q k0) (hp:PL w gs Q s0) (hD:w.heap.size+4≤D) (hK:W.heap[D]? =some (.deferred (some []))) (hJ:RaJ w gs d Q A b0 k0 s0 (List.range A.length) W):
  ∃kd:Kd,W.heap[w.heap.size+1]? =some (.cells kd.cells.toArray 34 (0,0))∧W.heap[w.heap.size+2]? =some (.cells kd0.cells.toArray 34 (0,0))∧kd.cells.length=37∧∀w',w'=(W.setRow (w.heap.size+2) kd.cells.toArray).putObj D (.deferred none)→Raised w gs Q A k0 (foldR A k0.pk s0 (List.range A.length)) (.returned (.agg kd.cells.toArray)) w':=by
 have hg:∀cs:Array Value,(W.setRow (w.heap.size+2) cs).grownBy ((W.setRow (w.heap.size+2) cs).putObj D (.deferred none)) (some D):=fun cs=>grownBy_putObj' _ D (.deferred none)
 have hQ:=hp.lt
 rcases hJ with ⟨h0,kk,Q',h,-,hf⟩ | ⟨h0,h1,h2,h3,h4⟩
 ·have hne:List.range A.length≠[]:=fun e=>h0 (List.length_eq_zero_iff.1 (by simpa using congrArg List.length e))
  have hf:=hf hne
  refine ⟨kk,h.r5,h.r6,Kd.cells_length h.ok.len,?_⟩
  rintro w' rfl
  have ho:=only_setRow W (w.heap.size+2) kk.cells.toArray
  have hgg:=hg kk.cells.toArray
  have hz:=h.z
  have key:∀k,k<W.heap.size→k≠w.heap.size+2→k≠D→((W.setRow (w.heap.size+2) kk.cells.toArray).putObj D (.deferred none)).heap[k]? =W.heap[k]? :=fun k h1 h2 h3=>(hgg.block k (by have:=ho.size;omega) (fun e=>h3 (Option.some.inj e))).trans (ho.block k h1 h2)
  have hDc:¬isC W D:=fun e=>by
   have:=e _ hK
   cases this
  have hQk:∀k,Q' k→((W.setRow (w.heap.size+2) kk.cells.toArray).putObj D (.deferred none)).heap[k]? =W.heap[k]? :=fun k hk=>key k (h.pl.lt k hk) (fun e=>h.notQ hQ (by omega) (fun e2=>by have:=hQ _ e2;omega) hk) (fun e=>by
   subst e
   rcases h.norm _ hk with e | e
   ·omega
   ·exact hDc e)
  obtain ⟨mp,cl,hs⟩:=h.pl
  refine ⟨kk,Q',rfl,h.pk,kd_keep h.ok fun r hr x hx hR=>key _ (rw_lt (kd_rows_ok h.ok r hr) x hx hR) (by have:=hf r hr x hx hR;omega) (fun e=>hDc (e▸rw_isC (kd_rows_ok h.ok r hr) x hx hR)),Or.inr fun r hr x hx hR=>by have:=hf r hr x hx hR;omega,⟨mp,cl,hs.keep (Nat.le_trans ho.size hgg.size) hQk⟩,fun k hk=>(h.sub k hk).imp id (fun e=>by omega),h.aw,?_⟩
  have hw0:=h.only
  exact ⟨hgg.os.trans (ho.os.trans hw0.os),hgg.tape.trans (ho.tape.trans hw0.tape),hgg.output.trans (ho.output.trans hw0.output),Nat.le_trans hw0.size (Nat.le_trans ho.size hgg.size),fun k hk hn=>(key k (by omega) (by omega) (by omega)).trans (hw0.block k hk hn)⟩
 ·refine ⟨k0,h1,h2,Kd.cells_length hk.len,?_⟩
  rintro w' rfl
  have ho:=only_setRow W (w.heap.size+2) k0.cells.toArray
  have hgg:=hg k0.cells.toArray
  have hall:Only (fun _=>False) w ((W.setRow (w.heap.size+2) k0.cells.toArray).putObj D (.deferred none)):=⟨hgg.os.trans (ho.os.trans h3.os),hgg.tape.trans (ho.tape.trans h3.tape),hgg.output.trans (ho.output.trans h3.output),Nat.le_trans h3.size (Nat.le_trans ho.size hgg.size),fun k hk _=>(hgg.block k (by have:=ho.size;omega) (fun e=>by have:=Option.some.inj e;omega)).trans ((ho.block k (by omega) (by omega)).trans (h3.block k hk))⟩
  subst h0
  exact ⟨k0,Q,rfl,rfl,kd_keep hk fun r hr x hx hR=>hall.block _ (rw_lt (kd_rows_ok hk r hr) x hx hR) (fun e=>e),Or.inl ⟨rfl,rfl⟩,hp.keep _ hall (fun _ _ e=>e),fun k hk=>Or.inl hk,hka,hall.mono (fun _ e=>e.elim)⟩
theorem ret_markK {fn:Func} {w2:World} {tmps:Array Value} {p:Tmp} {ty:TypeId} {d:TypeDesc} {g D:Nat} {t:TypeId} {cs:Array Value} {R:Ending→World→Prop} (hr:fn.results= #[.cell p ty]) (hu:Tryz.prog.underlying ty=some d) (hd:d.isRow=true) (hi:(Tryz.prog.info? ty).map (·.size)=some cs.size) (hp:tmps.getD p undef= .pointer (some ⟨g,0,none⟩)) (hg:w2.heap[g]? =some (.cells cs t (0,0))) (hK:w2.heap[D]? =some (.deferred (some []))) (h:R (.returned (.agg cs)) (w2.putObj D (.deferred none))):bodyPostM Fence.wide 5 Tryz.prog fn R .ret ⟨tmps,[{target:=.collected D,args:= #[]}]⟩ w2:=by
 refine ⟨by simp,.inl ⟨_,_,rfl,run_takeDeferred hK,?_⟩⟩
 refine ⟨.agg cs,?_,h⟩
 have hg':(w2.putObj D (.deferred none)).heap[g]? =some (.cells cs t (0,0)):=box_grown hg (grownBy_putObj' _ D (.deferred none)) (fun r e=>by cases e;exact ⟨_,hK,rfl⟩)
 exact results_cell_row hr tmps _ g t cs (0,0) d hp hg' hu (by cases d<;>first | rfl | (cases hd)) hi
theorem kl_nd {w:World} {b:Nat} {m:MSt} (h:w.rangeAt b 0 m.cells) (hl:m.kid.sum.length=32):w.rangeAt b 37 [.int .u8 1,.slice (some ⟨m.ge,0,none⟩) 1 m.ce,.slice (some ⟨m.gk,0,none⟩) 2 m.ck]:=fun j v hv=>by
 have hj:j<3:=(List.getElem?_eq_some_iff.1 hv).1
 obtain ⟨h1,h2,h3,_⟩:=mst_get m hl
 rcases j with _ | _ | _ | j
 ·cases hv;simpa using h 37 _ h1
 ·cases hv;simpa using h 38 _ h2
 ·cases hv;simpa using h 39 _ h3
 ·omega
theorem raise_any {B gs d Z g:Nat} {w:World} {q:Option Addr} {c:Nat} {A:List MSt} {k0:Kd} {Q:Nat→Prop} {s0:Pg.S} (hd:1≤d∧d≤8) (hq:A≠[]→q=some ⟨g,0,none⟩∧A.length≤c∧∀i,i<A.length→w.rangeAt g (i*41) (A.getD i default).cells)
  (hw:WayM B w A) (hwg:∀m∈A,∀k,m.reads k→k≠g∧¬Q k) (hqg:A≠[]→¬Q g) (hA:A.length≤1000) (hk:k0.Ok w) (hka:Aw Q k0) (hkf:∀m∈A,∀r∈k0.rows,∀x,r.p=some x→r.R≠[]→x.block≠m.gk) (hp:PL w gs Q s0) (hs0:A≠[]→s0.W≠[]) (hsl:s0.W.length+A.length≤90000)
  (hgk:GoodK d k0.pk) (hgm:∀m∈A,GoodM d Z m) (hz:k0.pk.size+(A.length*(Z+1):Nat)≤1048576):
  Calls Tryz.prog 58 #[.agg #[.pointer (some ⟨gs,0,none⟩),.int .i64 d],.slice q A.length c,.agg k0.cells.toArray] w (Raised w gs Q A k0 (foldR A k0.pk s0 (List.range A.length))):=by
 obtain ⟨n,hn⟩:∃n,n=A.length:=⟨_,rfl⟩
 have HN:=yH hn
 obtain ⟨kv,hkv⟩:∃kv:Value,kv= .agg k0.cells.toArray:=⟨_,rfl⟩
 have HKV:=yH hkv
 have hback:=fun w'=>back_any (.slice q n c) rfl w'
 have H41:=yH (show ∀m∈A,m.cells.length=41 from fun m hm=>MSt.cells_length (hw.each m hm).kid.len)
 obtain ⟨b0,hb0,hbm⟩:∃b0,b0<w.heap.size∧(A≠[]→w.cell? ⟨gs,0,none⟩=some (.map (some b0))):=by
  obtain ⟨mp,cl,hs⟩:=hp
  by_cases h0:A=[]
  ·exact ⟨gs,hs.lt gs hs.mine,fun e=>absurd h0 e⟩
  ·rcases hs.pages with ⟨_,h2⟩ | ⟨b,L,h1,_,h3⟩
   ·exact absurd h2 (hs0 h0)
   ·exact ⟨b,hs.lt b h3.mine,fun _=>by rw [hs.c0,h1]⟩
 have hgl:A≠[]→g<w.heap.size:=fun h0=>by
  have hpo:=List.length_pos_iff.2 h0
  have h3:=(hq h0).2.2 0 hpo
  have h5:=H41.out (A.getD 0 default) (by rw [List.getD_eq_getElem?_getD,List.getElem?_eq_getElem hpo];exact List.getElem_mem _)
  exact block_lt_of_cell (h3 0 _ (List.getElem?_eq_getElem (by rw [h5];decide)))
 obtain ⟨W3,hW3,t0,t1,t2,b3⟩:=three_alloc w (.cells #[.pointer (some ⟨gs,0,none⟩),.int .i64 d] 91) (.cells k0.cells.toArray 34) (.cells kd0.cells.toArray 34)
 have hs3:W3.heap.size=w.heap.size+3:=by rw [← hW3];simp
 have b4:Below W3.heap.size W3 (W3.alloc (.cells #[.slice q n c] 93)):=(Below.refl _ _).alloc (Nat.le_refl _) _
 have t3:=heap_alloc_new W3 (.cells #[.slice q n c] 93)
 rw [hs3] at t3
 have b34:=b3.trans (b4.mono b3.size)
 have HRA:=yH (show A≠[]→RaI w gs d Q A b0 k0 s0 [] (W3.alloc (.cells #[.slice q n c] 93)) from fun h0=>by
  have hpl:=PL.low hp (hbm h0)
  refine ⟨k0,_,⟨(b4.block _ (by omega)).trans t0,(b4.block _ (by omega)).trans t1,(b4.block _ (by omega)).trans t2,hk.later b34,rfl,fun r hr x hx hR h=>hka r hr x hx hR h.1,hkf,hpl.keep (fun _=>False) (Only.of_below _ b34) (fun _ _ e=>e),fun k h=>Or.inl h.1,fun k h=>h.2.imp id (fun e=>?_),?_,fun m hm=>((hw.each m hm).later b34).stM,Only.of_below _ b34,by simp;omega⟩,fun _=>rfl,fun e=>absurd rfl e⟩
  ·intro o ho
   exact e o (by rw [← b34.block k (hp.lt k h.1)];exact ho)
  ·rw [b34.cell (hp.lt gs (PL.mine hp))]
   exact hbm h0)
 have HT3:=yH t3
 have HT1:=yH ((b4.block _ (by omega)).trans t1)
 have HT2:=yH ((b4.block _ (by omega)).trans t2)
 have HS4:=yH (show (W3.alloc (.cells #[.slice q n c] 93)).heap.size=w.heap.size+4 by simp;omega)
 have HB4:=yH b34
 have HB0:=yH hb0
 have HGL:=yH hgl
 have HQ:=yH hq
 have HWY:=yH hw
 have HWG:=yH hwg
 have HQG:=yH hqg
 have HA:=yH hA
 have HK0:=yH hk
 have HKA:=yH hka
 have HPL:=yH hp
 have HQL:=yH (show ∀k,Q k→k<w.heap.size from hp.lt)
 have HQS:=yH (PL.mine hp)
 have HSL:=yH hsl
 have HGM:=yH hgm
 have HDD:=yH hd
 have HFG:=yH (fun (h0:A≠[])=>foldR_good (k:=k0.pk) (s:=s0) hd h0 hgm hgk hz)
 have HZZ:=yH hz
 obtain ⟨du,hdu,hdr⟩:=UTr
 obtain ⟨dk,hdk,hdkr⟩:=UKd
 obtain ⟨dn,hdn,hdnr⟩:=UNo
 have HDU:=yH hdu
 have HDR:=yH hdr
 have HDK:=yH hdk
 have HDKR:=yH hdkr
 have HDN:=yH hdn
 have HDNR:=yH hdnr
 have HZ1:=yH (zero_of_info spz)
 have HZ2:=yH (zero_of_info kz)
 have hz1:=HZ1.out.1
 have hz2:=HZ2.out.1
 rw [← hn,← hkv]
 clear hn hkv hq hw hwg hqg hA hk hka hkf hp hs0 hsl hgk hgm hz hd hb0 hbm hgl t0 t1 t2 b3 hs3 b4 t3 b34 hdu hdr hdk hdkr hdn hdnr
 refine callsIn_wide.1 (callsIn_of_wp_marks (n:=5) Tryz.func58 rfl trivial ?_ rfl)
 simp only [Tryz.ntmps58,List.size_toArray,List.length_cons,List.length_nil,Nat.reduceAdd,Nat.reduceSub,Array.replicate_succ,Array.replicate_zero,List.push_toArray,List.append_toArray,List.nil_append,List.cons_append]
 refine wpIn_wide.2 ?_
 go_wp2_with (go_at_call 107;refine (hback _).mono ?_;rintro _ w4 ⟨rfl,hw4⟩;have HW4:=yH hw4;clear hw4)
 obtain rfl:w4=W3.alloc (.cells #[.slice q n c] 93):=by
  have h:=HW4.out
  rw [HKV.out] at h
  exact h.trans (congrArg (fun x=>World.alloc x (.cells #[.slice q n c] 93)) hW3)
 generalize W3.alloc (.cells #[.slice q n c] 93)=w4 at *
 clear hW3 HW4
 have hBs:=cell_of_row w4 (w.heap.size+3) 0 _ _ _ HT3.out
 have HJ0:=yH (show RaJ w gs d Q A b0 k0 s0 [] w4 from by
  by_cases h0:A=[]
  ·exact Or.inr ⟨h0,HT1.out,HT2.out,HB4.out,by rw [HS4.out];omega⟩
  ·exact Or.inl ⟨h0,HRA.out h0⟩)
 refine (wpIn_wide (n:=5)).1 ?_
 refine wpIn_rangeFunc_ownH rfl (by omega) (gf:=153) (lb:= #[.pointer (some ⟨w.heap.size+1+1+1,0,none⟩)]) (by rfl) trivial (enters_of Tryz.func153 (by kernel_rfl) rfl)
  (back_stops 4 (w.heap.size+3) (if A=[] then w.heap.size+3 else g) c q A (by have:=HA.out;omega) (fun h=>⟨by rw [if_neg h];exact (HQ.out h).1,(HQ.out h).2.1⟩) H41.out w4 (by rw [← HN.out];exact hBs) (fun i hi=>by
   have h0:A≠[]:=fun e=>by rw [e] at hi;cases hi
   rw [if_neg h0]
   exact range_later ((HQ.out h0).2.2 i hi) HB4.out)) (fun h k=>⟨k.1.trans h.1,k.2.trans h.2⟩) ?kb (Below.refl _ _) (fun _=>rfl)
  (RaJ w gs d Q A b0 k0 s0) (fun _ _ _=>False) (raJ_own w gs d Q A b0 k0 s0 HB0.out (by rw [HS4.out];omega)) (fun _ _ _ _ _ h=>False.elim h) HJ0.out
  (RaX w gs d (.slice q n c) kv A) (raX_own _ _ _ _ _ _ _) ?assign ?body ?done (fun _ _ _ _ _ _ h=>False.elim h)
 case kb=>exact fun W l o o' hl _ _ _=>⟨World.putObj_heap_other (by have:=HS4.out;omega),World.putObj_heap_other (by
  have:=HS4.out
  split
  ·omega
  ·have:=HGL.out ‹_›;omega)⟩
 case assign=>
  intro l pre x W K hI hK
  have HKK:=yH hK
  have HI:=yH hI
  have hA0:A≠[]∨A=[]:=(Decidable.em (A=[])).symm
  have HCL:=yH (show (backAt A x).cells.length=41∧∀u∈(backAt A x).cells,u.oneCell'=true from ⟨by
   rcases hA0 with h | h
   ·exact H41.out _ (back_mem h x)
   ·rw [h];rfl,MSt.one⟩)
  have RZ:=yH (heap_alloc_new W (.cells sp0.toArray 101))
  have HSR:=yH (setRow_alloc W sp0.toArray (backAt A x).cells.toArray 101)
  have R5:=yH (heap_alloc_new W (.cells (backAt A x).cells.toArray 101))
  have K5:=yH (show KeepsFrom w4.heap.size W (W.alloc (.cells (backAt A x).cells.toArray 101)) from (KeepsOthers.alloc W _).from _)
  have I5:=yH (raJ_own w gs d Q A b0 k0 s0 HB0.out (B:=w4.heap.size) (by rw [HS4.out];omega) pre W _ none HI.out (World.grownBy_alloc W (.cells (backAt A x).cells.toArray 101) none) (fun r e=>by cases e))
  have hws:w.heap.size+4≤W.heap.size:=by
   rcases hI with ⟨_,_,_,h,_⟩ | ⟨_,_,_,_,h⟩
   ·exact h.z
   ·exact h
  have HWS:=yH hws
  have P5:=yH (show KpB (w.heap.size+3) (if A=[] then w.heap.size+3 else g) W (W.alloc (.cells (backAt A x).cells.toArray 101)) from ⟨Below.heap_alloc _ _ _ (by omega),Below.heap_alloc _ _ _ (by
   split
   ·omega
   ·have:=HGL.out ‹_›;omega)⟩)
  clear hI hK hws hA0
  unfold encB
  generalize hcs:(backAt A x).cells=cs at *
  have HCS:=yH hcs
  clear hcs
  simp only [List.zip_toArray,List.zip_cons_cons,List.zip_nil_left,List.size_toArray,List.length_cons,List.length_nil]
  refine region_list_round (by rfl) ?_
  go_wp2_with (refine wpList_store_row (by rfl) 101 _ _ (by rfl) W.heap.size cs.toArray (by rfl) (by rfl) _ _ RZ.out (by rw [List.size_toArray,HCL.out.1];exact SSp) (by simp only [List.size_toArray,HCL.out.1];rfl) (all_oneCell_toArray HCL.out.2) ?_;rw [HSR.out])
  refine nrm_normal ?_
  exact HKK.out _ _ K5.out P5.out I5.out ⟨_,HWS.out,by rw [HN.out,HCS.out],by rw [HCS.out];exact R5.out⟩
 case body=>
  rintro l pre x a' W hl - hJ ⟨B8,hB8,rfl,r8⟩ hlen
  have hA0:A≠[]:=fun e=>by rw [e] at hlen;cases hlen
  obtain ⟨kk,Q',hI,-,-⟩:RaI w gs d Q A b0 k0 s0 pre W:=by
   rcases hJ with ⟨_,h⟩ | ⟨h,_⟩
   ·exact h
   ·exact absurd h hA0
  have hwg:∀m∈A,∀k,m.reads k→¬Q k:=fun m hm k hk=>(HWG.out m hm k hk).2
  have hmA:=back_mem hA0 x
  obtain ⟨hg1,hg2,hg3⟩:=HFG.out hA0 pre (by omega)
  have hmz:=HGM.out _ hmA
  have hmul:(pre.length+1)*(Z+1)≤A.length*(Z+1):=Nat.mul_le_mul_right _ (by omega)
  rw [Nat.add_mul,Nat.one_mul] at hmul
  have hzz:=HZZ.out
  obtain ⟨hgood,-,-⟩:=forkM_good (a:=(foldR A k0.pk s0 pre).1) HDD.out hmz hg1 (by omega)
  have hsl:=HSL.out
  have hsn:=foldR_snoc A k0.pk s0 pre x
  have hxr:B8≠(backAt A x).gk:=by have:=(stM_lt (HWY.out.each _ hmA)).2;omega
  rw [← HN.out]
  generalize hcs:(backAt A x).cells.toArray=cs at r8 ⊢
  unfold rzM at hsn
  generalize backAt A x=m at *
  generalize foldR A k0.pk s0 pre=st at *
  have hmo:=HWY.out.each m hmA
  obtain ⟨a1,a2,a3,a4,a5,a6⟩:=hI.set hmA HWY.out hwg HQL.out
  have hr8:W.heap[B8]? =some (.cells m.cells.toArray 101 (0,0)):=by rw [r8,← hcs]
  have g39:=cell_of_lrow W B8 39 hr8 (mst_get m hmo.kid.len).2.2.1
  have g40:=cell_of_lrow W B8 40 hr8 (mst_get m hmo.kid.len).2.2.2
  have ho1:=only_cells W m.gk m.at' kk.cells
  have hB8l:=(yL hr8)
  have hr81:=(ho1.block B8 hB8l hxr).trans hr8
  have hz:=hI.z
  have hltm:=stM_lt hmo
  have hr31:=(ho1.block w.heap.size (by omega) (by omega)).trans hI.r3
  have hr51:=(ho1.block (w.heap.size+1) (by omega) (by omega)).trans hI.r5
  obtain ⟨E,KE,hE,hKE,hpn⟩:=a2.node hmo.caps a3 a4
  rw [← hI.pk] at hgood
  have hput:=kput_any 1 (by omega) _ 1 m.ce _ 2 m.ck E KE (d:Int) _ hE hKE a1 (by omega) (by rw [hpn];exact hgood)
  rw [hpn] at hput
  have HPUT:=yH hput
  have HBX:=yH (show ∀w6,Only Q' (W.setCells m.gk m.at' kk.cells) w6→w6.heap[w.heap.size+1]? =some (.cells kk.cells.toArray 34 (0,0)) from fun w6 ho6=>(ho6.block _ (by omega) (hI.notQ HQL.out (by omega) (fun e=>by have:=HQL.out _ e;omega))).trans hr51)
  have HSET:=yH (show W.setCells m.gk m.at' kk.cells=W.setCells m.gk m.at' kk.cells from rfl)
  have HEND:=yH (show ∀(w6:World) (kd:Kd) (Q6:Nat→Prop),kd.pk=(forkM m kk.pk).says→kd.Ok w6→Fsh (W.setCells m.gk m.at' kk.cells) kd→PL w6 gs Q6 (st.2.put (forkM m kk.pk).bytes)→(∀k,Q6 k→Q' k∨(W.setCells m.gk m.at' kk.cells).heap.size≤k)→Aw Q6 kd→Only Q' (W.setCells m.gk m.at' kk.cells) w6→Mst gs (W.setCells m.gk m.at' kk.cells) w6→
    KeepsFrom w4.heap.size W (w6.setRow (w.heap.size+1) kd.cells.toArray)∧KpB (w.heap.size+3) (if A=[] then w.heap.size+3 else g) W (w6.setRow (w.heap.size+1) kd.cells.toArray)∧RaJ w gs d Q A b0 k0 s0 (pre++[x]) (w6.setRow (w.heap.size+1) kd.cells.toArray) from fun w6 kd Q6 e1 e2 e3 e4 e5 e6 e7 e8=>by
   obtain ⟨b1,b2,b3,b4⟩:=hI.step hmA HWY.out hwg HQL.out HQS.out HB0.out e1 e2 e3 e4 e5 e6 e7 e8
   have hgl:=HGL.out hA0
   refine ⟨b2 _ (by rw [HS4.out];omega),⟨b3 _ (by omega) (fun e=>by have:=HQL.out _ e;omega) (by omega) (by omega),?_⟩,Or.inl ⟨hA0,kd,(fun k=>Q6 k∧(k=b0∨isC w6 k)),?_,fun e=>(by simp at e),fun _=>b4⟩⟩
   ·rw [if_neg hA0]
    exact b3 _ (by omega) (HQG.out hA0) (fun e=>(HWG.out m hmA _ (Or.inr (Or.inl rfl))).1 e.symm) (by omega)
   ·rw [hsn]
    exact b1)
  have HRK:=yH (range_kd hI.r5)
  have HCK:=yH (Kd.cells_length hI.ok.len)
  have HTH:=yH a5
  have HR31:=yH (range_tr hr31)
  have HND:=yH (kl_nd (range_st hr81) hmo.kid.len)
  have hck:=hmo.caps.2
  clear hJ hI hwg hg1 hg2 hg3 hmz hmul hzz hgood hsl hsn hxr hcs hmo a1 a2 a3 a4 a5 a6 hr8 ho1 hr81 hz hltm hr31 hr51 hE hKE hpn hput r8 hB8l
  gi_upto_region 3 with fail
  cases hside:m.side
  ·skip
   have e40:W.cell? ⟨B8,40,none⟩=some (.int .i64 0):=by rw [g40];unfold MSt.sideN;rw [hside];rfl
   have hat:m.at'=0:=by unfold MSt.at';rw [hside];rfl
   rw [hat] at HTH HSET HEND HR31 HND HPUT HBX
   clear g40 hside hat
   refine region_list_round (by rfl) ?_
   go_wp2_with (first
    | (refine wpList_load_mid (by rfl) 34 (.tmp 5) (by rfl) (w.heap.size+1) 0 (by rfl) kk.cells dk HRK.out HDK.out HDKR.out (by rw [HCK.out];exact SKd) ?_)
    | (refine wpList_store_mid (by rfl) 34 (.tmp 19) (.tmp 18) (by rfl) m.gk 0 kk.cells.toArray (by rfl) (by rfl) (by rw [List.size_toArray,HCK.out];exact HTH.out) (by rw [List.size_toArray,HCK.out];exact SKd) (all_oneCell_toArray Kd.one) ?_;rw [List.toList_toArray]))
   refine nrm_normal ?_
   generalize W.setCells m.gk 0 kk.cells=W1 at *
   clear g39 e40
   gi_upto_region 4 with fail
   refine region_list_round (by rfl) ?_
   go_wp2_with (first
    | (refine wpList_load_mid (by rfl) 91 (.tmp 3) (by rfl) w.heap.size 0 (by rfl) [.pointer (some ⟨gs,0,none⟩),.int .i64 d] du HR31.out HDU.out HDR.out STr ?_)
    | (refine wpList_load_mid (by rfl) 81 (.tmp 21) (by rfl) B8 37 (by rfl) [.int .u8 1,.slice (some ⟨m.ge,0,none⟩) 1 m.ce,.slice (some ⟨m.gk,0,none⟩) 2 m.ck] dn HND.out HDN.out HDNR.out SNo ?_)
    | (go_at_call 108;refine HPUT.out.mono ?_;rintro _ w6 ⟨kd,rfl,hpk,hok,hfs,⟨Q6,hp6,hq6,haw⟩,ho6,hms6⟩;have HF:=yH (HEND.out w6 kd Q6 hpk hok hfs hp6 hq6 haw ho6 hms6);have HR5:=yH (HBX.out w6 ho6);have HCD:=yH (Kd.cells_length hok.len);clear hpk hok hfs hp6 hq6 haw ho6 hms6)
    | (refine wpList_store_row (by rfl) 34 (.tmp 5) _ (by rfl) (w.heap.size+1) kd.cells.toArray (by rfl) (by rfl) _ _ HR5.out (by rw [List.size_toArray,HCD.out];exact SKd) (by simp only [List.size_toArray,HCD.out,HCK.out]) (all_oneCell_toArray Kd.one) ?_))
   refine nrm_normal ?_
   exact HF.out
  ·skip
   have e40:W.cell? ⟨B8,40,none⟩=some (.int .i64 1):=by rw [g40];unfold MSt.sideN;rw [hside];rfl
   have hat:m.at'=37:=by unfold MSt.at';rw [hside];rfl
   rw [hat] at HTH HSET HEND HR31 HND HPUT HBX
   clear g40 hside hat
   refine region_list_round (by rfl) ?_
   go_wp2_with (first
    | (refine wpList_load_mid (by rfl) 34 (.tmp 5) (by rfl) (w.heap.size+1) 0 (by rfl) kk.cells dk HRK.out HDK.out HDKR.out (by rw [HCK.out];exact SKd) ?_)
    | (refine wpList_store_mid (by rfl) 34 (.tmp 19) (.tmp 18) (by rfl) m.gk 37 kk.cells.toArray (by rfl) (by rfl) (by rw [List.size_toArray,HCK.out];exact HTH.out) (by rw [List.size_toArray,HCK.out];exact SKd) (all_oneCell_toArray Kd.one) ?_;rw [List.toList_toArray]))
   refine nrm_normal ?_
   generalize W.setCells m.gk 37 kk.cells=W1 at *
   clear g39 e40
   gi_upto_region 4 with fail
   refine region_list_round (by rfl) ?_
   go_wp2_with (first
    | (refine wpList_load_mid (by rfl) 91 (.tmp 3) (by rfl) w.heap.size 0 (by rfl) [.pointer (some ⟨gs,0,none⟩),.int .i64 d] du HR31.out HDU.out HDR.out STr ?_)
    | (refine wpList_load_mid (by rfl) 81 (.tmp 21) (by rfl) B8 37 (by rfl) [.int .u8 1,.slice (some ⟨m.ge,0,none⟩) 1 m.ce,.slice (some ⟨m.gk,0,none⟩) 2 m.ck] dn HND.out HDN.out HDNR.out SNo ?_)
    | (go_at_call 108;refine HPUT.out.mono ?_;rintro _ w6 ⟨kd,rfl,hpk,hok,hfs,⟨Q6,hp6,hq6,haw⟩,ho6,hms6⟩;have HF:=yH (HEND.out w6 kd Q6 hpk hok hfs hp6 hq6 haw ho6 hms6);have HR5:=yH (HBX.out w6 ho6);have HCD:=yH (Kd.cells_length hok.len);clear hpk hok hfs hp6 hq6 haw ho6 hms6)
    | (refine wpList_store_row (by rfl) 34 (.tmp 5) _ (by rfl) (w.heap.size+1) kd.cells.toArray (by rfl) (by rfl) _ _ HR5.out (by rw [List.size_toArray,HCD.out];exact SKd) (by simp only [List.size_toArray,HCD.out,HCK.out]) (all_oneCell_toArray Kd.one) ?_))
   refine nrm_normal ?_
   exact HF.out
 case done=>
  rintro D xs W hD rfl hJ hK
  have hfin:∃kd:Kd,W.heap[w.heap.size+1]? =some (.cells kd.cells.toArray 34 (0,0))∧W.heap[w.heap.size+2]? =some (.cells kd0.cells.toArray 34 (0,0))∧kd.cells.length=37∧∀w',w'=(W.setRow (w.heap.size+2) kd.cells.toArray).putObj D (.deferred none)→Raised w gs Q A k0 (foldR A k0.pk s0 (List.range A.length)) (.returned (.agg kd.cells.toArray)) w':=raised_fin (w':=W) (B:=0) HB0.out HK0.out HKA.out HPL.out (by have:=HS4.out;omega) hK hJ
  obtain ⟨kd,h5,h6,h37,hfin⟩:=hfin
  have HK:=yH hK
  have H5:=yH (range_kd h5)
  have H6:=yH h6
  have HCD:=yH h37
  have HF:=yH hfin
  have HDW:=yH (show D≠w.heap.size+2 by have:=HS4.out;omega)
  clear hJ hK h5 h6 h37 hfin
  go_wp2_with (first
   | (refine wpList_load_mid (by rfl) 34 (.tmp 5) (by rfl) (w.heap.size+1) 0 (by rfl) kd.cells dk H5.out HDK.out HDKR.out (by rw [HCD.out];exact SKd) ?_)
   | (refine wpList_store_row (by rfl) 34 (.tmp 6) _ (by rfl) (w.heap.size+2) kd.cells.toArray (by rfl) (by rfl) _ _ H6.out (by rw [List.size_toArray,HCD.out];exact SKd) (by simp only [List.size_toArray,HCD.out,kd0_size]) (all_oneCell_toArray Kd.one) ?_))
  exact ret_markK (p:=6) (by kernel_rfl) HDK.out HDKR.out (by rw [List.size_toArray,HCD.out];exact SKd) (by rfl) (setRow_heap _ _ _ _ _ _ H6.out) ((setRow_other _ _ _ _ HDW.out).trans HK.out) (by rw [HN.out];exact HF.out _ rfl)
end Go.Proofs.YtinihaflmdihaaaGreat.Kt
