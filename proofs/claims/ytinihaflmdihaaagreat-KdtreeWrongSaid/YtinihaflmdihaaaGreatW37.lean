/- KdRaiseM. -/
import Derived.Test.YtinihaflmdihaaaGreatW1
import Derived.Test.YtinihaflmdihaaaGreatW23
import Derived.Test.YtinihaflmdihaaaGreatW24
import Derived.Test.YtinihaflmdihaaaGreatW36
set_option maxRecDepth 100000
set_option maxHeartbeats 8000000
set_option linter.unusedVariables false
set_option linter.unusedSimpArgs false
namespace Go.Proofs.YtinihaflmdihaaaGreat.Kt
open Go.RowKit Go.Shelf Go.Proofs.YtinihaflmdihaaaGreat.Nd Go.Proofs.YtinihaflmdihaaaGreat.Dk Go.Proofs.YtinihaflmdihaaaGreat.Pg
open List renaming setIfInBounds_toArray → sA, set_cons_zero → sZ, set_cons_succ → sS
def forkM (m:MSt) (a:PK):PN:=if m.side then forkN m.row.R m.live m.k1.pk a else forkN m.row.R m.live a m.k2.pk
def rzM (A:List MSt) (st:PK×Pg.S) (j:Nat):PK×Pg.S:=((forkM (backAt A j) st.1).says,st.2.put (forkM (backAt A j) st.1).bytes)
def foldR (A:List MSt) (k:PK) (s:Pg.S) (pre:List Nat):PK×Pg.S:=pre.foldl (rzM A) (k,s)
theorem foldR_snoc (A:List MSt) (k:PK) (s:Pg.S) (pre:List Nat) (x:Nat):foldR A k s (pre++[x])=rzM A (foldR A k s pre) x:=by
 unfold foldR
 rw [List.foldl_append]
 rfl
def raiseP:List St→V→List (List Nat)
 |[],_=>[]
 | s::L,k=>raiseP L k++[(if s.side then forkN s.row s.live s.l.kid (raiseV L k).kid else forkN s.row s.live (raiseV L k).kid s.r.kid).bytes]
theorem raise_kid (s:St) (L:List St) (k:V):(raiseV (s::L) k).kid=(if s.side then forkN s.row s.live s.l.kid (raiseV L k).kid else forkN s.row s.live (raiseV L k).kid s.r.kid).says:=by
 rw [raiseV]
 split<;>rfl
theorem foldR_raise {A:List MSt} {L:List St} (hl:Links A L) (k:V) (s:Pg.S):∀j,j≤A.length→foldR A k.kid s (List.range j)=((raiseV (L.drop (A.length - j)) k).kid,puts s (raiseP (L.drop (A.length - j)) k))
 | 0,_=>by
  rw [Nat.sub_zero,hl.length,List.drop_length]
  rfl
 | j+1,hj=>by
  rw [List.range_succ,foldR_snoc,foldR_raise hl k s j (by omega)]
  have hlen:=hl.length
  have hi:A.length - (j+1)<L.length:=by omega
  have hd:L.drop (A.length - (j+1))=L[A.length - (j+1)]::L.drop (A.length - j):=by
   rw [List.drop_eq_getElem_cons hi]
   congr 2
   omega
  obtain ⟨m,hm,hk⟩:=hl.get _ _ (List.getElem?_eq_getElem hi)
  have hb:backAt A j=m:=by
   unfold backAt
   rw [show A.length - 1 - j=A.length - (j+1) from by omega,List.getD_eq_getElem?_getD,hm]
   rfl
  rw [hd]
  generalize L[A.length - (j+1)]=x at *
  have hf:forkM m (raiseV (L.drop (A.length - j)) k).kid=if x.side then forkN x.row x.live x.l.kid (raiseV (L.drop (A.length - j)) k).kid else forkN x.row x.live (raiseV (L.drop (A.length - j)) k).kid x.r.kid:=by
   unfold forkM
   rw [hk.side,hk.row,hk.live,hk.l,hk.r]
  unfold rzM
  rw [hb,hf,raise_kid,raiseP,puts_append]
  rfl
structure GoodK (d:Nat) (a:PK):Prop where
 right:a.right d=true
 key:a.key=[]
 zero:0≤a.size
structure GoodM (d:Nat) (Z:Nat) (m:MSt):Prop where
 row:m.row.R.length=d
 k1:GoodK d m.k1.pk
 k2:GoodK d m.k2.pk
 z1:m.k1.pk.size≤Z
 z2:m.k2.pk.size≤Z
theorem forkM_good {d Z:Nat} {m:MSt} {a:PK} (hd:1≤d∧d≤8) (h:GoodM d Z m) (ha:GoodK d a) (hz:a.size+Z+1≤1048576):((forkM m a).right d=true∧(forkM m a).size≤1048576)∧GoodK d (forkM m a).says∧(forkM m a).says.size≤a.size+Z+1:=by
 have h1:=h.z1
 have h2:=h.z2
 have z1:=h.k1.zero
 have z2:=h.k2.zero
 have z0:=ha.zero
 have key:∀n:PN,n.right d=true→1≤n.size→n.size≤a.size+Z+1→n.says.key=[]→(n.right d=true∧n.size≤1048576)∧GoodK d n.says∧n.says.size≤a.size+Z+1:=fun n hr h1 hs hk=>⟨⟨hr,by omega⟩,⟨says_right hr h1 (by omega),hk,by show 0≤n.size;omega⟩,hs⟩
 unfold forkM
 split
 ·have hf:=fork_size m.row.R m.live m.k1.pk a
  exact key _ (fork_right hd h.row h.k1.right ha.right h.k1.key ha.key) (by omega) (by omega) rfl
 ·have hf:=fork_size m.row.R m.live a m.k2.pk
  exact key _ (fork_right hd h.row ha.right h.k2.right ha.key h.k2.key) (by omega) (by omega) rfl
theorem foldR_good {d Z:Nat} {A:List MSt} (hd:1≤d∧d≤8) (h0:A≠[]) (h:∀m∈A,GoodM d Z m) {k:PK} {s:Pg.S} (hk:GoodK d k) (hz:k.size+(A.length*(Z+1):Nat)≤1048576) (pre:List Nat) (hp:pre.length≤A.length):GoodK d (foldR A k s pre).1∧(foldR A k s pre).1.size≤k.size+(pre.length*(Z+1):Nat)∧(foldR A k s pre).2.W.length≤s.W.length+pre.length:=by
 obtain ⟨r,hr⟩:∃r,r=pre.reverse:=⟨_,rfl⟩
 have:pre=r.reverse:=by rw [hr,List.reverse_reverse]
 subst this
 clear hr
 induction r with
 | nil=>exact ⟨hk,by simp [foldR],Nat.le_refl _⟩
 | cons x r ih=>
  rw [List.reverse_cons,List.length_append,List.length_singleton] at hp
  obtain ⟨h1,h2,h3⟩:=ih (by omega)
  rw [List.reverse_cons,foldR_snoc,List.length_append,List.length_singleton]
  have hmul:(r.reverse.length+1)*(Z+1)≤A.length*(Z+1):=Nat.mul_le_mul_right _ hp
  rw [Nat.add_mul,Nat.one_mul] at hmul ⊢
  obtain ⟨_,h5,h6⟩:=forkM_good (a:=(foldR A k s r.reverse).1) hd (h _ (back_mem h0 x)) h1 (by omega)
  refine ⟨h5,?_,?_⟩
  ·show (forkM (backAt A x) (foldR A k s r.reverse).1).says.size≤_
   omega
  ·have:=puts_few [(forkM (backAt A x) (foldR A k s r.reverse).1).bytes] (foldR A k s r.reverse).2
   have e:puts (foldR A k s r.reverse).2 [(forkM (backAt A x) (foldR A k s r.reverse).1).bytes]=(rzM A (foldR A k s r.reverse) x).2:=rfl
   rw [e] at this
   simp only [List.length_singleton] at this
   omega
structure StM (w:World) (m:MSt):Prop where
 ent:w.rangeAt m.ge 0 [m.row.val,.bool m.live]
 row:m.row.Ok w
 k1:m.side=true→w.rangeAt m.gk 0 m.k1.cells∧m.k1.Ok w
 k2:m.side=false→w.rangeAt m.gk 37 m.k2.cells∧m.k2.Ok w
 kidT:w.there m.gk 0 74
theorem MSt.Ok.stM {w:World} {m:MSt} (h:m.Ok w):StM w m:=⟨h.ent,h.row,fun _=>⟨h.kid1,h.k1⟩,fun _=>⟨h.kid2,h.k2⟩,h.kidT⟩
theorem StM.keep {w w':World} {m:MSt} (h:StM w m) (hk:∀k,m.reads k→w'.heap[k]? =w.heap[k]?):StM w' m:=by
 have hg:=hk m.ge (Or.inl rfl)
 have hkk:=hk m.gk (Or.inr (Or.inl rfl))
 have hr:∀r∈m.rows,∀x,r.p=some x→r.R≠[]→w'.heap[x.block]? =w.heap[x.block]? :=fun r hr x hx hR=>hk _ (Or.inr (Or.inr ⟨r,hr,x,hx,hR,rfl⟩))
 exact ⟨range_keep h.ent hg,Nd.rw_keep h.row (hr _ (by simp [MSt.rows])),fun e=>⟨range_keep (h.k1 e).1 hkk,kd_keep (h.k1 e).2 fun r h1=>hr r (by simp [MSt.rows,h1])⟩,fun e=>⟨range_keep (h.k2 e).1 hkk,kd_keep (h.k2 e).2 fun r h1=>hr r (by simp [MSt.rows,h1])⟩,there_keep h.kidT hkk⟩
def MSt.at' (m:MSt):Nat:=if m.side then 37 else 0
theorem StM.put {w:World} {m:MSt} (h:StM w m) (hl:m.k1.sum.length=32∧m.k2.sum.length=32) (ha:∀r∈m.rows,∀x,r.p=some x→r.R≠[]→x.block≠m.ge∧x.block≠m.gk) (hne:m.ge≠m.gk) {cs:List Value} (hc:cs.length=37):StM (w.setCells m.gk m.at' cs) m:=by
 have ho:=only_cells w m.gk m.at' cs
 have hk:∀k,k<w.heap.size→k≠m.gk→(w.setCells m.gk m.at' cs).heap[k]? =w.heap[k]? :=fun k h1 h2=>ho.block k h1 h2
 have hrow:∀r∈m.rows,r.Ok w→r.Ok (w.setCells m.gk m.at' cs):=fun r hr hok=>Nd.rw_keep hok (fun x hx hR=>hk _ (rw_lt hok x hx hR) (ha r hr x hx hR).2)
 have hkd:∀k:Kd,k.Ok w→(∀r∈k.rows,r∈m.rows)→k.Ok (w.setCells m.gk m.at' cs):=fun k hok hs=>⟨hok.len,hok.ok,hrow _ (hs _ (by simp [Kd.rows])) hok.lo,hrow _ (hs _ (by simp [Kd.rows])) hok.hi,hrow _ (hs _ (by simp [Kd.rows])) hok.key,hok.live,hok.size⟩
 refine ⟨?_,hrow _ (by simp [MSt.rows]) h.row,fun e=>⟨?_,hkd _ (h.k1 e).2 (fun r h1=>by simp [MSt.rows,h1])⟩,fun e=>⟨?_,hkd _ (h.k2 e).2 (fun r h1=>by simp [MSt.rows,h1])⟩,World.there_setCells h.kidT _ _ _⟩
 ·exact World.rangeAt_setCells_apart h.ent _ _ _ (Or.inl hne)
 ·refine World.rangeAt_setCells_apart (h.k1 e).1 _ _ _ (Or.inr (Or.inl ?_))
  rw [Kd.cells_length hl.1]
  unfold MSt.at'
  rw [if_pos e]
  omega
 ·refine World.rangeAt_setCells_apart (h.k2 e).1 _ _ _ (Or.inr (Or.inr ?_))
  rw [hc]
  unfold MSt.at'
  rw [e]
  decide
theorem StM.node {w:World} {m:MSt} {kk:Kd} (h:StM w m) (hc:m.ce≥1∧m.ck≥2) (hr:w.rangeAt m.gk m.at' kk.cells) (hk:kk.Ok w):∃E K,EntsIn w (some ⟨m.ge,0,none⟩) 1 m.ce E∧KidsIn w (some ⟨m.gk,0,none⟩) 2 m.ck K∧pnOf 1 E K=forkM m kk.pk:=by
 have hE:EntsIn w (some ⟨m.ge,0,none⟩) 1 m.ce [⟨m.row,m.live⟩]:=by
  refine ⟨rfl,hc.1,by decide,fun e he=>by rw [List.mem_singleton.1 he];exact h.row,Or.inr ⟨m.ge,0,rfl,fun i hi=>?_⟩⟩
  obtain rfl:i=0:=by simp at hi;exact hi
  exact ⟨h.ent 0 _ rfl,h.ent 1 _ rfl⟩
 have hK:∀a b:Kd,w.rangeAt m.gk 0 a.cells→a.Ok w→w.rangeAt m.gk 37 b.cells→b.Ok w→KidsIn w (some ⟨m.gk,0,none⟩) 2 m.ck [a,b]:=fun a b ra oa rb ob=>by
  refine ⟨rfl,hc.2,by decide,fun e he=>?_,Or.inr ⟨m.gk,0,rfl,fun i hi=>?_⟩⟩
  ·simp only [List.mem_cons,List.not_mem_nil,or_false] at he
   rcases he with rfl | rfl
   ·exact oa
   ·exact ob
  ·have hi:i<2:=hi
   rcases i with _ | _ | i
   ·exact ra
   ·exact rb
   ·omega
 cases hs:m.side with
 | true=>
  have hr':w.rangeAt m.gk 37 kk.cells:=by unfold MSt.at' at hr;rw [hs] at hr;exact hr
  exact ⟨_,_,hE,hK _ _ (h.k1 hs).1 (h.k1 hs).2 hr' hk,by unfold forkM;rw [hs];rfl⟩
 | false=>
  have hr':w.rangeAt m.gk 0 kk.cells:=by unfold MSt.at' at hr;rw [hs] at hr;exact hr
  exact ⟨_,_,hE,hK _ _ hr' hk (h.k2 hs).1 (h.k2 hs).2,by unfold forkM;rw [hs];rfl⟩
theorem WayM.two {B:Nat} {w:World} {A:List MSt} (h:WayM B w A):∀a∈A,∀b∈A,a=b∨(¬a.reads b.ge∧¬a.reads b.gk):=by
 have hp:=h.part
 clear h
 induction hp with
 | nil=>intro a ha;cases ha
 | cons hx _ ih=>
  intro a ha b hb
  rcases List.mem_cons.1 ha with e1 | ha1<;>rcases List.mem_cons.1 hb with e2 | hb1
  ·exact Or.inl (e1.trans e2.symm)
  ·subst e1
   exact Or.inr (hx b hb1).1
  ·subst e2
   exact Or.inr ⟨fun e=>(hx a ha1).2 ⟨_,e,Or.inl rfl⟩,fun e=>(hx a ha1).2 ⟨_,e,Or.inr rfl⟩⟩
  ·exact ih a ha1 b hb1
theorem WayM.take {B:Nat} {w:World} {A:List MSt} (h:WayM B w A) (n:Nat):WayM B w (A.take n):=
 ⟨fun m hm=>h.each m (List.mem_of_mem_take hm),fun m hm=>h.new m (List.mem_of_mem_take hm),h.part.sublist (List.take_sublist n A)⟩
end Go.Proofs.YtinihaflmdihaaaGreat.Kt
