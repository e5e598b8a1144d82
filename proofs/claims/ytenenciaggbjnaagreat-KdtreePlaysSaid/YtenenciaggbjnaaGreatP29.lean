/- KtBst, KtNew, KtChg, KlFns, KlBound, KtFine, KlAliveP. -/
import Derived.Lib.MinMax
import Derived.Test.YtenenciaggbjnaaGreatP28
set_option maxRecDepth 100000
set_option maxHeartbeats 8000000
set_option linter.all false
namespace Go.Proofs.YtenenciaggbjnaaGreat
namespace Kt
open Go.RowKit Nd Pg
def T.ents:T->List (List Int)
 | .nil=>[]
 | .fork p _ l r=>p::(l.ents++r.ents)
def T.bst (d:Nat):T->Nat->Prop
 | .nil,_=>True
 | .fork p _ l r,t=>(∀x∈l.ents,lessP (t%d) x p=true)/\(∀x∈r.ents,lessP (t%d) p x=true)/\l.bst d (t+1)/\r.bst d (t+1)
theorem x2G:∀(u:T),∀x∈u.all,x∈u.ents
 | .nil,x,h=>by cases h
 | .fork p v l r,x,h=>by
  unfold T.all at h
  unfold T.ents
  rcases jP.1 h with h | h
  ·rcases jP.1 h with h | h
   ·exact List.mem_cons_of_mem _ (List.mem_append_left _ (x2G l x h))
   ·exact List.mem_cons_of_mem _ (List.mem_append_right _ (x2G r x h))
  ·cases v with
   | true=>
    rw [if_pos rfl] at h
    rw [kZ.1 h]
    exact List.mem_cons_self
   | false=>simp at h
theorem x2z {d:Nat}:∀ {u:T} {t:Nat},u.bst d t->u.all.Nodup
 | .nil,_,_=>List.nodup_nil
 | .fork p v l r,t,h=>by
  obtain ⟨h1,h2,h3,h4⟩:=h
  unfold T.all
  have il:∀x∈l.all,lessP (t%d) x p=true:=fun x hx=>h1 x (x2G l x hx)
  have ir:∀x∈r.all,lessP (t%d) p x=true:=fun x hx=>h2 x (x2G r x hx)
  rw [List.nodup_append,List.nodup_append]
  refine ⟨⟨x2z h3,x2z h4,fun a ha b hb e=>?_⟩,?_,fun a ha b hb e=>?_⟩
  ·subst e
   have:=x2O (il a ha) (ir a hb)
   rw [x0z] at this
   cases this
  ·cases v<;>simp
  ·cases v with
   | true=>
    rw [if_pos rfl] at hb
    have hb:=kZ.1 hb
    subst e hb
    rcases jP.1 ha with ha | ha
    ·have:=il a ha
     rw [x0z] at this
     cases this
    ·have:=ir a ha
     rw [x0z] at this
     cases this
   | false=>simp at hb
theorem x30:∀(n:Nat) (L:List (List Int)) (t:Nat),L.length<=n->∀x∈(layP n L t).ents,x∈L
 | 0,L,t,h,x,hx=>by cases hx
 | n+1,L,t,h,x,hx=>by
  rw [layP] at hx
  by_cases hL:L=[]
  ·rw [if_pos hL] at hx
   cases hx
  ·rw [if_neg hL] at hx
   have hp:=kP.2 hL
   have l1:((sortP (t%(L.headD []).length) L).take (L.length/2)).length<=n:=by rw [kX,x0I];omega
   have B:((sortP (t%(L.headD []).length) L).drop (L.length/2+1)).length<=n:=by rw [kY,x0I];omega
   have C:=x30 n _ (t+1) l1
   have A:=x30 n _ (t+1) B
   refine (x17 (t%(L.headD []).length) L).mem_iff.1 ?_
   unfold T.ents at hx
   rcases jW.1 hx with rfl | hx
   ·rw [jG,jM (by rw [x0I];omega)]
    exact kM _
   ·rcases jP.1 hx with hx | hx
    ·exact List.mem_of_mem_take (C x hx)
    ·exact List.mem_of_mem_drop (A x hx)
theorem x7z {L:List (List Int)} {t:Nat}:∀x∈(lay L t).ents,x∈L:=x30 _ L t (jB _)
theorem x80 {d:Nat}:∀(n:Nat) (L:List (List Int)) (t:Nat),L.length<=n->(∀y∈L,y.length=d)->L.Nodup->(layP n L t).bst d t
 | 0,L,t,_,_,_=>trivial
 | n+1,L,t,h,hd,hn=>by
  rw [layP]
  by_cases hL:L=[]
  ·rw [if_pos hL]
   trivial
  ·rw [if_neg hL]
   have hp:=kP.2 hL
   have he:(L.headD []).length=d:=by
    cases L with
    | nil=>exact absurd rfl hL
    | cons x K=>exact hd x (by simp)
   rw [he];have B:=x17 (t%d) L;have O:=x2D (a:=t%d) hd;have N:=x0I (t%d) L;generalize sortP (t%d) L=S at *;have C:∀y∈S,y.length=d:=fun y hy=>hd y (B.mem_iff.1 hy);have G:S.Nodup:=B.nodup_iff.2 hn;have J:(S.take (L.length/2)).length<=n:=by rw [kX];omega
   have M:(S.drop (L.length/2+1)).length<=n:=by rw [kY];omega
   have I:L.length/2<S.length:=by omega
   have H:S.getD (L.length/2) []=S[L.length/2]:=by rw [jG,jM I];rfl
   have A:∀i j (E:i<S.length) (hj:j<S.length),i<j->lessP (t%d) S[i] S[j]=true:=fun i j E hj hij=>by
    cases hc:lessP (t%d) S[i] S[j] with
    | true=>rfl
    | false=>
     have P:=(List.pairwise_iff_getElem.1 O) i j E hj hij;have e:=x22 ((C _ (kM E)).trans (C _ (kM hj)).symm) hc P;exact absurd e ((List.pairwise_iff_getElem.1 G) i j E hj hij)
   unfold T.bst;rw [H];refine ⟨fun x hx=>?_,fun x hx=>?_,x80 n _ (t+1) J (fun y hy=>C y (List.mem_of_mem_take hy)) (G.sublist (List.take_sublist _ _)),x80 n _ (t+1) M (fun y hy=>C y (List.mem_of_mem_drop hy)) (G.sublist (List.drop_sublist _ _))⟩
   ·obtain ⟨i,E,rfl⟩:=List.getElem_of_mem (x30 n _ (t+1) J x hx);rw [kX] at E;rw [List.getElem_take];exact A i _ (by omega) I (by omega)
   ·obtain ⟨i,E,rfl⟩:=List.getElem_of_mem (x30 n _ (t+1) M x hx);rw [kY] at E;rw [List.getElem_drop];exact A _ _ I (by omega) (by omega)
theorem y3P {d:Nat} {L:List (List Int)} {t:Nat} (hd:∀y∈L,y.length=d) (hn:L.Nodup):(lay L t).bst d t:=x80 _ L t (jB _) hd hn
theorem x6G {d:Nat} {u:T} {t:Nat} (hd:u.dims d) (h:u.bst d t):(light u t).bst d t/\∀x∈(light u t).ents,x∈u.ents:=by
 cases u with
 | nil=>exact ⟨trivial,fun x hx=>hx⟩
 | fork p v l r=>
  unfold light;simp only;split
  ·exact ⟨y3P (x1E hd) (x2z h),fun x hx=>x2G _ x (x7z x hx)⟩
  ·exact ⟨h,fun x hx=>hx⟩
theorem x4n {d:Nat} {p:List Int} (hp:p.length=d):∀(u:T) (t:Nat),u.dims d->u.bst d t->(x0A u p t).1.bst d t/\∀x∈(x0A u p t).1.ents,x=p\/x∈u.ents
 | .nil,t,_,_=>⟨⟨(fun x hx=>by cases hx),(fun x hx=>by cases hx),trivial,trivial⟩,fun x hx=>Or.inl (kZ.1 hx)⟩
 | .fork q v l r,t,hd,h=>by
  obtain ⟨h1,h2,h3,h4⟩:=h
  unfold x0A
  rw [hp]
  by_cases hq:q=p
  ·rw [if_pos hq]
   obtain ⟨k1,k2⟩:=x6G (u:=.fork q true l r) (t:=t) ⟨hd.1,hd.2.1,hd.2.2⟩ ⟨h1,h2,h3,h4⟩
   exact ⟨k1,fun x hx=>Or.inr (k2 x hx)⟩
  ·rw [if_neg hq]
   by_cases hl:lessP (t%d) p q=true
   ·rw [if_pos hl]
    obtain ⟨i1,i2⟩:=x4n hp l (t+1) hd.2.1 h3
    obtain ⟨k1,k2⟩:=x6G (u:=.fork q v (x0A l p (t+1)).1 r) (t:=t) ⟨hd.1,x1J hd.2.1 hp,hd.2.2⟩ ⟨fun x hx=>(i2 x hx).elim (fun e=>e▸hl) (h1 x),h2,i1,h4⟩
    refine ⟨k1,fun x hx=>?_⟩
    rcases jW.1 (k2 x hx) with rfl | hx
    ·exact Or.inr List.mem_cons_self
    ·rcases jP.1 hx with hx | hx
     ·exact (i2 x hx).imp id fun h=>List.mem_cons_of_mem _ (List.mem_append_left _ h)
     ·exact Or.inr (List.mem_cons_of_mem _ (List.mem_append_right _ hx))
   ·rw [if_neg hl]
    have hg:lessP (t%d) q p=true:=by
     cases hc:lessP (t%d) q p with
     | true=>rfl
     | false=>exact absurd (x22 (hd.1.trans hp.symm) hc (by simpa using hl)) hq
    obtain ⟨i1,i2⟩:=x4n hp r (t+1) hd.2.2 h4;obtain ⟨k1,k2⟩:=x6G (u:=.fork q v l (x0A r p (t+1)).1) (t:=t) ⟨hd.1,hd.2.1,x1J hd.2.2 hp⟩ ⟨h1,fun x hx=>(i2 x hx).elim (fun e=>e▸hg) (h2 x),h3,i1⟩;refine ⟨k1,fun x hx=>?_⟩;rcases jW.1 (k2 x hx) with rfl | hx
    ·exact Or.inr List.mem_cons_self
    ·rcases jP.1 hx with hx | hx
     ·exact Or.inr (List.mem_cons_of_mem _ (List.mem_append_left _ hx))
     ·exact (i2 x hx).imp id fun h=>List.mem_cons_of_mem _ (List.mem_append_right _ h)
theorem x6H {d:Nat} {p:List Int} (hp:p.length=d):∀(u:T) (t:Nat),u.dims d->u.bst d t->(x0A u p t).2= !decide (p∈u.all)
 | .nil,t,_,_=>by
  rw [kE (fun h=>by cases h)]
  rfl
 | .fork q v l r,t,hd,h=>by
  obtain ⟨h1,h2,h3,h4⟩:=h
  unfold x0A
  rw [hp]
  have memL:p∈l.all->lessP (t%d) p q=true:=fun h=>h1 p (x2G l p h)
  have memR:p∈r.all->lessP (t%d) q p=true:=fun h=>h2 p (x2G r p h)
  have hm:p∈(T.fork q v l r).all↔p∈l.all\/p∈r.all\/(v=true/\p=q):=by
   show p∈(l.all++r.all++if v then [q] else [])↔_
   rw [jP,jP,or_assoc];cases v<;>simp
  by_cases hq:q=p
  ·rw [if_pos hq];have:p∈(T.fork q v l r).all↔v=true:=by
    rw [hm];constructor
    ·rintro (h | h | h)
     ·have:=memL h;rw [hq,x0z] at this;cases this
     ·have:=memR h;rw [hq,x0z] at this;cases this
     ·exact h.1
    ·intro h;exact Or.inr (Or.inr ⟨h,hq.symm⟩)
   rw [decide_eq_decide.2 this];show (!v)= !decide (v=true)
   cases v<;>simp
  ·rw [if_neg hq];by_cases hl:lessP (t%d) p q=true
   ·rw [if_pos hl];have:p∈(T.fork q v l r).all↔p∈l.all:=by
     rw [hm];constructor
     ·rintro (h | h | h)
      ·exact h
      ·have:=x2O hl (memR h);rw [x0z] at this;cases this
      ·exact absurd h.2.symm hq
     ·exact Or.inl
    rw [decide_eq_decide.2 this];exact x6H hp l (t+1) hd.2.1 h3
   ·rw [if_neg hl];have:p∈(T.fork q v l r).all↔p∈r.all:=by
     rw [hm];constructor
     ·rintro (h | h | h)
      ·exact absurd (memL h) hl
      ·exact h
      ·exact absurd h.2.symm hq
     ·exact fun h=>Or.inr (Or.inl h)
    rw [decide_eq_decide.2 this];exact x6H hp r (t+1) hd.2.2 h4
theorem x4o {d:Nat} {p:List Int} (hp:p.length=d):∀(u:T) (t:Nat),u.dims d->∃A s,wayV d p (V.of u) t=some (A,s)/\s.live=(x0B u p t).2/\(s.live=true->x0V A (.fork s.row false s.l s.r)=V.of (x0B u p t).1)
 | .nil,t,_=>⟨[],_,rfl,rfl,fun h=>by cases h⟩
 | .fork q v l r,t,hd=>by
  have hl:p.length=q.length:=hp.trans hd.1.symm
  have hw:wayV d p (V.of (.fork q v l r)) t=(if ordC (t%d) p q=0 then some ([],⟨q,v,V.of l,V.of r,false,V.of (.fork q v l r)⟩)
   else if 0<ordC (t%d) p q then (wayV d p (V.of r) (t+1)).map fun x=>(⟨q,v,V.of l,V.of r,true,V.of (.fork q v l r)⟩::x.1,x.2)
   else (wayV d p (V.of l) (t+1)).map fun x=>(⟨q,v,V.of l,V.of r,false,V.of (.fork q v l r)⟩::x.1,x.2)):=rfl
  rw [hw]
  have hlt:=x2j (a:=t%d) hl
  unfold x0B
  rw [hp]
  by_cases h0:ordC (t%d) p q=0
  ·have hq:q=p:=((x2w hl).1 h0).symm
   rw [if_pos h0,if_pos hq]
   exact ⟨[],_,rfl,rfl,fun _=>rfl⟩
  ·have hq:¬q=p:=fun e=>h0 ((x2w hl).2 e.symm)
   rw [if_neg h0,if_neg hq]
   by_cases h1:0<ordC (t%d) p q
   ·rw [if_pos h1,if_neg (fun e=>by have:=hlt.2 e;omega)]
    obtain ⟨A,s,h2,h3,h4⟩:=x4o hp r (t+1) hd.2.2
    refine ⟨_::A,s,by rw [h2];rfl,h3,fun hs=>?_⟩
    show V.fork q v (V.of l) (x0V A _)=V.fork q v (V.of l) _
    rw [h4 hs]
   ·rw [if_neg h1,if_pos (hlt.1 (by omega))]
    obtain ⟨A,s,h2,h3,h4⟩:=x4o hp l (t+1) hd.2.1
    refine ⟨_::A,s,by rw [h2];rfl,h3,fun hs=>?_⟩
    show V.fork q v (x0V A _) (V.of r)=V.fork q v _ (V.of r)
    rw [h4 hs]
theorem x3P:∀(u:T) (p:List Int) (t:Nat),(x0B u p t).2=true->u.all.Perm ((x0B u p t).1.all++[p])
 | .nil,p,t,h=>by cases h
 | .fork q v l r,p,t,h=>by
  unfold x0B at h ⊢
  by_cases hq:q=p
  ·rw [if_pos hq] at h ⊢
   have hv:v=true:=h
   subst hv hq
   show (l.all++r.all++[q]).Perm (l.all++r.all++[]++[q])
   rw [kW]
  ·rw [if_neg hq] at h ⊢
   by_cases hl:lessP (t%p.length) p q=true
   ·rw [if_pos hl] at h ⊢
    have ih:=x3P l p (t+1) h
    show (l.all++r.all++if v then [q] else []).Perm ((x0B l p (t+1)).1.all++r.all++(if v then [q] else [])++[p])
    refine ((ih.append_right _).append_right _).trans ?_
    rw [jR,jR,jR,jR]
    refine List.Perm.append_left _ ?_
    rw [<- jR r.all]
    exact List.perm_append_comm
   ·rw [if_neg hl] at h ⊢
    have ih:=x3P r p (t+1) h
    show (l.all++r.all++if v then [q] else []).Perm (l.all++(x0B r p (t+1)).1.all++(if v then [q] else [])++[p])
    rw [jR,jR,jR]
    refine List.Perm.append_left _ ?_
    refine (ih.append_right _).trans ?_
    rw [jR]
    refine List.Perm.append_left _ ?_
    exact List.perm_append_comm
theorem x1e:∀(u:T) (p:List Int) (t:Nat),(x0B u p t).1.ents=u.ents
 | .nil,p,t=>rfl
 | .fork q v l r,p,t=>by
  unfold x0B
  split
  ·rfl
  ·split
   ·show q::((x0B l p (t+1)).1.ents++r.ents)=_
    rw [x1e l]
    rfl
   ·show q::(l.ents++(x0B r p (t+1)).1.ents)=_
    rw [x1e r]
    rfl
theorem x3Q {d:Nat}:∀(u:T) (p:List Int) (t:Nat),u.bst d t->(x0B u p t).1.bst d t
 | .nil,p,t,_=>trivial
 | .fork q v l r,p,t,h=>by
  obtain ⟨h1,h2,h3,h4⟩:=h
  unfold x0B
  split
  ·exact ⟨h1,h2,h3,h4⟩
  ·split
   ·exact ⟨by rw [x1e];exact h1,h2,x3Q l p (t+1) h3,h4⟩
   ·exact ⟨h1,by rw [x1e];exact h2,h3,x3Q r p (t+1) h4⟩
theorem y1e {d:Nat} {u:T} {p:List Int} (hd:u.dims d) (h:u.bst d 0):(x0h u p).1.bst d 0:=by
 unfold x0h;split
 ·exact y3P (x1E (x0x hd)) (x2z (x3Q u p 0 h))
 ·exact x3Q u p 0 h
theorem y3Q {d:Nat} {u:T} {p:List Int} (h:u.bst d 0) (hr:(x0B u p 0).2=true):((V.of u).rows.filter fun x=> !decide (x=p)).Perm (x0B u p 0).1.all:=by
 have A:=(x0s u).trans (x3P u p 0 hr);have B:=A.nodup_iff.1 ((x0s u).nodup_iff.2 (x2z h));refine (A.filter _).trans ?_;rw [List.filter_append,List.nodup_append] at *;have C:(x0B u p 0).1.all.filter (fun x=> !decide (x=p))=(x0B u p 0).1.all:=List.filter_eq_self.2 fun x hx=>by
  rw [kE (fun e=>B.2.2 x hx p (by simp) e)];rfl
 rw [C];simp
theorem y5d {R:List Int} (h:∀x∈R,In64 x) (i:Nat):In64 (R.getD i 0):=by
 rw [jG];rcases Nat.lt_or_ge i R.length with A | A
 ·rw [jM A];exact h _ (kM _)
 ·rw [List.getElem?_eq_none A];exact ⟨by decide,by decide⟩
theorem two64 {f:Int->Int->Int} (hf:∀x y,f x y=x\/f x y=y) {R T:List Int} (hR:∀x∈R,In64 x) (hT:∀x∈T,In64 x) (k:Nat):∀x∈two f R T k,In64 x:=fun x hx=>by
 unfold two at hx
 obtain ⟨i,-,rfl⟩:=kJ.1 hx
 rcases hf (R.getD i 0) (T.getD i 0) with e | e
 ·rw [e];exact y5d hR i
 ·rw [e];exact y5d hT i
def Bx64 (b:List Int×List Int):Prop:=(∀x∈b.1,In64 x)/\∀x∈b.2,In64 x
theorem y3R {A B:List Int×List Int} (hA:Bx64 A) (hB:Bx64 B):Bx64 (hull A B):=by
 unfold hull;split
 ·exact hA
 ·split
  ·exact hB
  ·split
   ·exact ⟨fun x hx=>(by cases hx),fun x hx=>by cases hx⟩
   ·exact ⟨two64 (fun x y=>by rcases Int.le_total x y with h | h<;>omega) hA.1 hB.1 _,two64 (fun x y=>by rcases Int.le_total x y with h | h<;>omega) hA.2 hB.2 _⟩
theorem y3S {q:List Int} {v:Bool} {a b:PK} (hq:∀x∈q,In64 x) (ha:a.Nums) (hb:b.Nums):(forkN q v a b).Nums/\(forkN q v a b).says.Nums:=by
 have H:(forkN q v a b).Nums:=⟨fun e B=>by
  have B:e∈[(⟨q,v⟩:PE)]:=B;rw [kZ.1 B];exact hq,fun k A=>by
  have A:k∈[a,b]:=A;simp only [jW,jV,or_false] at A;rcases A with rfl | rfl
  ·exact ha
  ·exact hb⟩
 refine ⟨H,x8S _,x3z _,?_,?_,fun x hx=>by cases hx⟩;all_goals
  have E:Bx64 (([],[]):List Int×List Int):=⟨fun x hx=>(by cases hx),fun x hx=>by cases hx⟩
  have G:Bx64 (boxE ([],[]) ⟨q,v⟩):=by
   unfold boxE;split
   ·exact y3R E ⟨hq,hq⟩
   ·exact E
  have C:Bx64 (forkN q v a b).box:=y3R (y3R G ⟨ha.2.2.1,ha.2.2.2.1⟩) ⟨hb.2.2.1,hb.2.2.2.1⟩
 ·exact C.1
 ·exact C.2
theorem x6I:PK.none.Nums:=⟨by decide,x2C 32,fun x hx=>(by cases hx),fun x hx=>(by cases hx),fun x hx=>by cases hx⟩
structure NewK (d:Nat) (a:PK):Prop where
 right:a.right d=true
 key:a.key=[]
 nums:a.Nums
theorem NewK.size {d:Nat} {a:PK} (h:NewK d a):0<=a.size:=(x1G h.right).1
theorem x5P {d:Nat} (hd:1<=d/\d<=8) {q:List Int} {v:Bool} {a b:PK} (hl:q.length=d) (hq:∀x∈q,In64 x) (ha:NewK d a) (hb:NewK d b) (hz:a.size+b.size+1<=1048576):NewK d (forkN q v a b).says/\Txt d (forkN q v a b).bytes (forkN q v a b)/\(forkN q v a b).says.size=1+(a.size+b.size):=by
 have C:=x0U q v a b;have G:=ha.size;have E:=hb.size;have B:=x1b (v:=v) hd hl ha.right hb.right ha.key hb.key;have A:=y3S (v:=v) hq ha.nums hb.nums;exact ⟨⟨x2M B (by omega) (by omega),rfl,A.2⟩,y7P A.1 B (by omega),C⟩
theorem x6J {W:Pages} {d:Nat} {q:List Int} {v:Bool} {l r:V} (h:Sees W d (.fork q v l r)):q.length=d/\(∀x∈q,In64 x)/\NewK d l.kid/\NewK d r.kid:=by
 have A:=h.1.nums;refine ⟨x7w h,A.rows ⟨q,v⟩ (by simp [forkN]),⟨(x0d h.2.2.1).1,(x0d h.2.2.1).2,A.kids l.kid (by simp [forkN])⟩,⟨(x0d h.2.2.2).1,(x0d h.2.2.2).2,A.kids r.kid (by simp [forkN])⟩⟩
theorem y0e {W:Pages} {d:Nat}:∀ {u:V},Sees W d u->∀y∈u.rows,∀x∈y,In64 x
 | .nil,_,y,hy=>by cases hy
 | .bad _,_,y,hy=>by cases hy
 | .fork p v l r,h,y,hy=>by
  have hy:y∈(if v then [p] else [])++(l.rows++r.rows):=hy
  rcases jP.1 hy with hy | hy
  ·have hy:y=p:=by cases v<;>simp at hy;exact hy
   rw [hy]
   exact (x6J h).2.1
  ·rcases jP.1 hy with hy | hy
   ·exact y0e h.2.2.1 y hy
   ·exact y0e h.2.2.2 y hy
theorem x31 {W:Pages} {d:Nat}:∀ {u:V},Sees W d u->(u.rows.length:Int)<=u.kid.live\/u.whole=false
 | .nil,_=>Or.inl (by show (0:Int)<=0;omega)
 | .bad _,_=>Or.inr rfl
 | .fork p v l r,h=>by
  have hw:(V.fork p v l r).whole=(l.whole&&r.whole):=rfl
  rcases x31 h.2.2.1 with h1 | h1
  ·rcases x31 h.2.2.2 with h2 | h2
   ·left
    show (((if v then [p] else [])++(l.rows++r.rows)).length:Int)<=((if v then (1:Int) else 0)+0)+(l.kid.live+(r.kid.live+0))
    rw [jQ,jQ]
    cases v<;>simp<;>omega
   ·right
    rw [hw,h2,Bool.and_false]
  ·right
   rw [hw,h1,Bool.false_and]
theorem x3R {d:Nat} (hd:1<=d/\d<=8):∀t:T,t.dims d->(∀y∈t.ents,∀x∈y,In64 x)->t.size<=1048576->NewK d (V.of t).kid/\(∀b∈t.pages,∃N,Txt d b N/\N.kind=1)/\(∀W',(∀b∈t.pages,x0J W' (sumOf b)=some b)->Sees W' d (V.of t))
 | .nil,_,_,_=>⟨⟨rfl,rfl,x6I⟩,fun b hb=>(by cases hb),fun _ _=>trivial⟩
 | .fork p v l r,hdm,hn,hz=>by
  have hzz:(T.fork p v l r).size=1+l.size+r.size:=rfl
  obtain ⟨l1,l2,l3⟩:=x3R hd l hdm.2.1 (fun y hy=>hn y (by show y∈p::(l.ents++r.ents);simp [hy])) (by omega)
  obtain ⟨r1,r2,r3⟩:=x3R hd r hdm.2.2 (fun y hy=>hn y (by show y∈p::(l.ents++r.ents);simp [hy])) (by omega)
  have el:=x1C (u:=l) (by omega)
  have er:=x1C (u:=r) (by omega)
  have sl:=x0W l (by omega)
  have sr:=x0W r (by omega)
  have hf:=x5P (v:=v) hd hdm.1 (hn p (by show p∈p::(l.ents++r.ents);simp)) l1 r1 (by rw [el,er,sl,sr];omega)
  have hpg:(T.fork p v l r).pages=l.pages++r.pages++[(forkN p v (V.of l).kid (V.of r).kid).bytes]:=by
   rw [el,er];rfl
  rw [hpg];refine ⟨hf.1,fun b hb=>?_,fun W' hW=>?_⟩
  ·rcases jP.1 hb with hb | hb
   ·rcases jP.1 hb with hb | hb
    ·exact l2 b hb
    ·exact r2 b hb
   ·rw [kZ.1 hb];exact ⟨_,hf.2.1,rfl⟩
  ·exact ⟨hf.2.1,hW _ (by simp),l3 W' (fun b hb=>hW b (by simp [hb])),r3 W' (fun b hb=>hW b (by simp [hb]))⟩
inductive Path:V->List St->V->Prop
 | nil (u:V):Path u [] u
 | cons {q:List Int} {lv:Bool} {l r:V} {sd:Bool} {L:List St} {v:V} (h:Path (if sd then r else l) L v):Path (.fork q lv l r) (⟨q,lv,l,r,sd,.fork q lv l r⟩::L) v
def EndOk (p:List Int) (s:St):Prop:=(s.old= .nil/\s.l= .nil/\s.r= .nil/\s.row=p/\s.live=false)\/s.old= .fork s.row s.live s.l s.r
theorem x5Q {d:Nat} {p:List Int}:∀(u:V) (t:Nat) (L:List St) (s:St),wayV d p u t=some (L,s)->EndOk p s/\Path u L s.old/\∀h,h<L.length->Path u (L.take h) (L.getD h s).old
 | .nil,t,L,s,h=>by
  have h:some ([],(⟨p,false,.nil,.nil,false,.nil⟩:St))=some (L,s):=h
  simp only [Option.some.injEq,Prod.mk.injEq] at h
  obtain ⟨rfl,rfl⟩:=h
  exact ⟨Or.inl ⟨rfl,rfl,rfl,rfl,rfl⟩,.nil _,fun h hh=>by cases hh⟩
 | .bad k,t,L,s,h=>by cases h
 | .fork q lv l r,t,L,s,h=>by
  have hw:wayV d p (.fork q lv l r) t=(if ordC (t%d) p q=0 then some ([],⟨q,lv,l,r,false,.fork q lv l r⟩)
   else if 0<ordC (t%d) p q then (wayV d p r (t+1)).map fun x=>(⟨q,lv,l,r,true,.fork q lv l r⟩::x.1,x.2)
   else (wayV d p l (t+1)).map fun x=>(⟨q,lv,l,r,false,.fork q lv l r⟩::x.1,x.2)):=rfl
  rw [hw] at h
  have key:∀(sd:Bool) (M:List St) (s:St),(EndOk p s/\Path (if sd then r else l) M s.old/\∀h,h<M.length->Path (if sd then r else l) (M.take h) (M.getD h s).old)->EndOk p s/\Path (.fork q lv l r) (⟨q,lv,l,r,sd,.fork q lv l r⟩::M) s.old/\∀h,h<((⟨q,lv,l,r,sd,.fork q lv l r⟩:St)::M).length->Path (.fork q lv l r) (((⟨q,lv,l,r,sd,.fork q lv l r⟩:St)::M).take h) (((⟨q,lv,l,r,sd,.fork q lv l r⟩:St)::M).getD h s).old:=fun sd M s ⟨h1,h2,h3⟩=>by
   refine ⟨h1,.cons h2,fun h hh=>?_⟩
   cases h with
   | zero=>exact .nil _
   | succ h=>exact .cons (h3 h (by simpa using hh))
  split at h
  ·simp only [Option.some.injEq,Prod.mk.injEq] at h
   obtain ⟨rfl,rfl⟩:=h
   exact ⟨Or.inr rfl,.nil _,fun h hh=>by cases hh⟩
  ·split at h
   ·cases hwr:wayV d p r (t+1) with
    | none=>rw [hwr] at h;cases h
    | some x=>
     rw [hwr] at h
     simp only [Option.map_some,Option.some.injEq,Prod.mk.injEq] at h
     obtain ⟨rfl,rfl⟩:=h
     exact key true x.1 x.2 (x5Q r (t+1) x.1 x.2 hwr)
   ·cases hwl:wayV d p l (t+1) with
    | none=>rw [hwl] at h;cases h
    | some x=>
     rw [hwl] at h
     simp only [Option.map_some,Option.some.injEq,Prod.mk.injEq] at h
     obtain ⟨rfl,rfl⟩:=h
     exact key false x.1 x.2 (x5Q l (t+1) x.1 x.2 hwl)
theorem x7E {W:Pages} {d:Nat} (hd:1<=d/\d<=8) {u v:V} {L:List St} (hp:Path u L v):Sees W d u->∀k:V,NewK d k.kid->u.kid.size+(k.kid.size - v.kid.size)<=1048576->
  NewK d (x0V L k).kid/\(x0V L k).kid.size=u.kid.size+(k.kid.size - v.kid.size)/\v.kid.size<=u.kid.size/\(∀b∈x16 L k,∃N,Txt d b N/\N.kind=1)/\(x16 L k).length=L.length/\
  (∀W',(∀x t,x0J W x=some t->x0J W' x=some t)->(∀b∈x16 L k,x0J W' (sumOf b)=some b)->u.whole=true->Sees W' d k->Sees W' d (x0V L k)):=by
 induction hp with
 | nil u=>exact fun hs k hk hz=>⟨hk,by show k.kid.size=_;omega,Int.le_refl _,fun b A=>(by cases A),rfl,fun W' _ _ _ h=>h⟩
 | @cons q lv l r sd L v h ih=>
  intro hs k hk hz;have X:(V.fork q lv l r).kid.size=1+(l.kid.size+r.kid.size):=x0U q lv l.kid r.kid;obtain ⟨C,G,Q,R⟩:=x6J hs;have U:=Q.size;have Y:=R.size;have E:(V.fork q lv l r).whole=(l.whole&&r.whole):=rfl;cases sd with
  | true=>
   obtain ⟨J,M,I,P,K,H⟩:=ih hs.2.2.2 k hk (by simp only [if_true];omega);simp only [if_true] at M I H;have B:=x5P (v:=lv) hd C G Q J (by omega);have O:=B.2.2;refine ⟨B.1,by show (forkN q lv l.kid (x0V L k).kid).says.size=_;omega,by omega,fun b A=>?_,by rw [x16,jQ,K];rfl,fun W' hm hg hw hk'=>?_⟩
   ·rcases jP.1 A with A | A
    ·exact P b A
    ·rw [kZ.1 A];exact ⟨_,B.2.1,rfl⟩
   ·rw [E,Bool.and_eq_true] at hw;exact ⟨B.2.1,hg _ (by rw [x16];simp),x1K hm hw.1 hs.2.2.1,H W' hm (fun b A=>hg b (by rw [x16];simp [A])) hw.2 hk'⟩
  | false=>
   obtain ⟨J,M,I,P,K,H⟩:=ih hs.2.2.1 k hk (by simp only [Bool.false_eq_true,if_false];omega);simp only [Bool.false_eq_true,if_false] at M I H;have B:=x5P (v:=lv) hd C G J R (by omega);have O:=B.2.2;refine ⟨B.1,by show (forkN q lv (x0V L k).kid r.kid).says.size=_;omega,by omega,fun b A=>?_,by rw [x16,jQ,K];rfl,fun W' hm hg hw hk'=>?_⟩
   ·rcases jP.1 A with A | A
    ·exact P b A
    ·rw [kZ.1 A];exact ⟨_,B.2.1,rfl⟩
   ·rw [E,Bool.and_eq_true] at hw;exact ⟨B.2.1,hg _ (by rw [x16];simp),H W' hm (fun b A=>hg b (by rw [x16];simp [A])) hw.1 hk',x1K hm hw.2 hs.2.2.2⟩
structure NewV (W:Pages) (d:Nat) (u u':V) (P:List (List Nat)):Prop where
 kid:NewK d u'.kid
 size:u'.kid.size<=u.kid.size+1
 forks:∀b∈P,∃N,Txt d b N/\N.kind=1
 few:(P.length:Int)<=2*u.kid.size+2
 sees:∀W',(∀x t,x0J W x=some t->x0J W' x=some t)->(∀b∈P,x0J W' (sumOf b)=some b)->u.whole=true->Sees W' d u'
theorem y1f {u v:V} {L:List St} (h:Path u L v):u.whole=true->v.whole=true:=by
 induction h with
 | nil _=>exact fun h=>h
 | @cons q lv l r sd L v h ih=>
  intro A;have A:(l.whole&&r.whole)=true:=A;rw [Bool.and_eq_true] at A;cases sd
  ·exact ih A.1
  ·exact ih A.2
theorem y0f {W:Pages} {d:Nat} {u v:V} {L:List St} (h:Path u L v):Sees W d u->(L.length:Int)+v.kid.size<=u.kid.size:=by
 induction h with
 | nil _=>intro _;simp
 | @cons q lv l r sd L v h ih=>
  intro hs;have A:(V.fork q lv l r).kid.size=1+(l.kid.size+r.kid.size):=x0U q lv l.kid r.kid;have B:=x0k hs.2.2.1;have C:=x0k hs.2.2.2;rw [kI];cases sd
  ·have:=ih hs.2.2.1;simp only [Bool.false_eq_true,if_false] at this;omega
  ·have:=ih hs.2.2.2;simp only [if_true] at this;omega
theorem y3T {W:Pages} {d:Nat} (hd:1<=d/\d<=8) {p:List Int} (hp:p.length=d) (hpn:∀x∈p,In64 x) {u:V} (hs:Sees W d u) (hz:u.kid.size<=1000000) {L:List St} {s:St} (he:EndOk p s) (hpa:Path u L s.old) (hst:y0c W d u.kid.size s) (lv:Bool):
  NewV W d u (x0V L (endV s lv)) ((endN s lv).bytes::x16 L (endV s lv)):=by
 have Q:=y0f hpa hs;have A:s.row.length=d/\(∀x∈s.row,In64 x)/\NewK d s.l.kid/\NewK d s.r.kid/\(1+(s.l.kid.size+s.r.kid.size)<=s.old.kid.size+1/\s.old.kid.size<=1+(s.l.kid.size+s.r.kid.size))/\0<=s.old.kid.size/\(s.old.whole=true->s.l.whole=true/\s.r.whole=true):=by
  rcases he with ⟨E,N,J,P,Y⟩ | E
  ·rw [E,N,J,P];have B:NewK d (V.nil).kid:=⟨rfl,rfl,x6I⟩
   have i:(V.nil).kid.size=0:=rfl;exact ⟨hp,hpn,B,B,by omega,by omega,fun _=>⟨rfl,rfl⟩⟩
  ·have R:=hst.old;rw [E] at R ⊢;obtain ⟨M,O,K,I⟩:=x6J R;have Z:(V.fork s.row s.live s.l s.r).kid.size=1+(s.l.kid.size+s.r.kid.size):=x0U s.row s.live s.l.kid s.r.kid;have h:=K.size;have g:=I.size;refine ⟨M,O,K,I,by omega,by omega,fun C=>?_⟩;have C:(s.l.whole&&s.r.whole)=true:=C
   rwa [Bool.and_eq_true] at C
 obtain ⟨E,N,J,P,Y,j,U⟩:=A;have H:=x5P (v:=lv) hd E N J P (by omega);have a:=H.2.2;have B:(endV s lv).kid=(forkN s.row lv s.l.kid s.r.kid).says:=rfl;obtain ⟨M,O,K,I,f,c⟩:=x7E hd hpa hs (endV s lv) (by rw [B];exact H.1) (by rw [B];omega);rw [B] at O;refine ⟨M,by omega,fun b G=>?_,?_,fun W' hm hg C=>?_⟩
 ·rcases jW.1 G with rfl | G
  ·exact ⟨_,H.2.1,rfl⟩
  ·exact I b G
 ·rw [kI,f];omega
 ·obtain ⟨X,e⟩:=U (y1f hpa C);exact c W' hm (fun b G=>hg b (List.mem_cons_of_mem _ G)) C ⟨H.2.1,hg _ (List.mem_cons_self ..),x1K hm X hst.l,x1K hm e hst.r⟩
theorem y3U {W:Pages} {d:Nat} (hd:1<=d/\d<=8) {u v:V} (hs:Sees W d u) (hz:u.kid.size<=900000) {L:List St} (hpa:Path u L v) {M:List (List Int)} (t:Nat) (hM:∀y∈M,y.length=d/\∀x∈y,In64 x) (hl:(M.length:Int)<=v.kid.size+1):
  NewV W d u (x0V L (V.of (lay M t))) ((lay M t).pages++x16 L (V.of (lay M t))):=by
 have H:=y0f hpa hs;have G:=x1X M t;have P:=x0P (lay M t);have E:(lay M t).size<=1048576:=by omega
 obtain ⟨N,I,J⟩:=x3R hd (lay M t) (x3B fun y hy=>(hM y hy).1) (fun y hy=>(hM y (x7z y hy)).2) E;have C:=x1C E;have B:=x0W _ E;have Y:(V.of (lay M t)).kid.size=M.length:=by rw [C,B,G]
 obtain ⟨Q,U,X,K,R,O⟩:=x7E hd hpa hs (V.of (lay M t)) N (by omega);refine ⟨Q,by omega,fun b A=>?_,?_,fun W' hm hg hw=>?_⟩
 ·rcases jP.1 A with A | A
  ·exact I b A
  ·exact K b A
 ·rw [jQ,R];omega
 ·exact O W' hm (fun b A=>hg b (List.mem_append_right _ A)) hw (J W' fun b A=>hg b (List.mem_append_left _ A))
theorem y6l {W:Pages} {d:Nat} (hd:1<=d/\d<=8) {p:List Int} (hp:p.length=d) (hpn:∀x∈p,In64 x) {u:V} (hs:Sees W d u) (hz:u.kid.size<=900000) {u':V} {P:List (List Nat)} (h:insV d p u= .inr (u',P)):NewV W d u u' P:=by
 unfold insV at h;cases hO:wayV d p u 0 with
 | none=>rw [hO] at h;cases h
 | some X=>
  obtain ⟨L,s⟩:=X;rw [hO] at h;simp only at h;obtain ⟨O,H,N⟩:=x5Q u 0 L s hO;have I:=x2R hp (x0k hs) u 0 hs (Int.le_refl _) L s hO;have G:=x4B (L++[s]) 0;split at h
  ·cases h
  ·split at h
   ·cases h
    exact y3T hd hp hpn hs (by omega) O H (I s (by simp)) true
   ·rename_i hne
    split at h
    ·rename_i hw
     cases h
     have C:Path u ((L++[s]).take (x0D 0 (L++[s])).1) ((L++[s]).getD (x0D 0 (L++[s])).1 s).old:=by
      have B:(x0D 0 (L++[s])).1<=L.length:=by have:=G.2;simp at this;omega
      generalize (x0D 0 (L++[s])).1=i at *;rw [List.take_append_of_le_length B];rcases Nat.lt_or_ge i L.length with M | M
      ·rw [jG,kR M,<- jG];exact N i M
      ·obtain rfl:i=L.length:=by omega
       rw [List.take_length,jG,kS (jB _),Nat.sub_self];exact H
     have J:(L++[s]).getD (x0D 0 (L++[s])).1 s∈L++[s]:=by
      have B:(x0D 0 (L++[s])).1<(L++[s]).length:=by have:=G.2;simp at this ⊢;omega
      rw [jG,jM B];exact kM _
     have A:=(I _ J).old;refine y3U hd hs hz C _ (fun y E=>?_) ?_
     ·rcases jP.1 E with E | E
      ·exact ⟨x1Y A y E,y0e A y E⟩
      ·rw [kZ.1 E];exact ⟨hp,hpn⟩
     ·have K:=x31 A;have Q:=x1D A;rw [hw] at K;rw [jQ];rw [List.length_singleton];rcases K with K | K
      ·omega
      ·cases K
    ·cases h
theorem y6m {W:Pages} {d:Nat} (hd:1<=d/\d<=8) {p:List Int} (hp:p.length=d) (hpn:∀x∈p,In64 x) {u:V} (hs:Sees W d u) (hz:u.kid.size<=900000) {u':V} {P:List (List Nat)} (h:delV d p u= .inr (u',P)):NewV W d u u' P:=by
 unfold delV at h;cases hO:wayV d p u 0 with
 | none=>rw [hO] at h;cases h
 | some X=>
  obtain ⟨L,s⟩:=X;rw [hO] at h;simp only at h;obtain ⟨H,C,-⟩:=x5Q u 0 L s hO;have E:=x2R hp (x0k hs) u 0 hs (Int.le_refl _) L s hO;split at h
  ·cases h
  ·split at h
   ·cases h
    exact y3T hd hp hpn hs (by omega) H C (E s (by simp)) false
   ·split at h
    ·rename_i hw
     cases h
     have G:=y3U (L:=[]) hd hs hz (.nil u) (M:=u.rows.filter fun y=> !decide (y=p)) 0 (fun y hy=>⟨x1Y hs y (List.mem_filter.1 hy).1,y0e hs y (List.mem_filter.1 hy).1⟩) (by
      have B:=x31 hs;have I:=x1D hs;have J:=List.length_filter_le (fun y=> !decide (y=p)) u.rows;rw [hw] at B;rcases B with B | B
      ·omega
      ·cases B)
     have e:∀A:List (List Nat),A++x16 [] (V.of (lay (u.rows.filter fun y=> !decide (y=p)) 0))=A:=fun A=>kW A;rw [e] at G;exact G
    ·cases h
theorem NewV.behind {s:Pg.S} {d:Nat} {u u':V} {P:List (List Nat)} (h:NewV s.W d u u' P) (hw:u.whole=true) (hc:(puts s P).cl=none):Sees (puts s P).W d u':=
 h.sees _ (fun _ _ ht=>x4A P ht) (fun b hb=>x7o P hc b hb) hw
end Kt
namespace Kt
open Go.RowKit Nd Mo
def dimsP (d:Nat):Nat:=1+d%5
theorem y4y (d:Nat) (hd:d<256) (w:World):Calls Tryz.prog 16 #[.int .u8 d] w fun e w'=>e= .returned (.int .i64 (dimsP d))/\w'=w:=by
 have B:(d:Int).tmod 5=((d%5:Nat):Int):=by rw [Int.tmod_eq_emod_of_nonneg (by omega)];rfl
 have C:d%5<5:=Nat.mod_lt _ (by omega);have A:=yH (show dimsP d=1+d%5 from rfl);generalize hx:d%5=x at *;clear hx;have G:IntKind.i64.wrap (x:Int)=x:=IntWalk.i64_in _ (by omega);have E:IntKind.i64.wrap (1+(x:Int))=1+(x:Int):=IntWalk.i64_in _ (by omega)
 go_enter Tryz.func16,Tryz.ntmps16
 go_wp2_with fail
 go_ret;refine ⟨?_,rfl⟩;rw [A.out];first | rfl | (congr 2;omega) | (simp)
def fitP (R:List Int) (d:Nat):List Int:=(List.range d).map fun i=>R.getD i 0
def partP (R:List Int) (d k:Nat):List Int:=(List.range d).map fun i=>if i<k then R.getD i 0 else 0
theorem x9a (R:List Int) (d:Nat):(fitP R d).length=d:=by simp [fitP]
theorem x8t (R:List Int) (d k:Nat):(partP R d k).length=d:=by simp [partP]
theorem x4p (R:List Int) (d:Nat):partP R d 0=List.replicate d 0:=by
 unfold partP;apply List.ext_getElem
 ·simp
 ·intro i h1 h2;simp
theorem y3V (R:List Int) (d k:Nat) (hk:k<d):(partP R d k).set k (R.getD k 0)=partP R d (k+1):=by
 unfold partP;apply List.ext_getElem
 ·simp
 ·intro i h1 h2;rw [List.getElem_set];simp only [List.getElem_map,List.getElem_range];by_cases hi:k=i
  ·subst hi;simp
  ·rw [if_neg hi];by_cases hik:i<k
   ·rw [if_pos hik,if_pos (by omega)]
   ·rw [if_neg hik,if_neg (by omega)]
theorem x8u (R:List Int) (d k:Nat) (h:R.length<=k\/d<=k):partP R d k=fitP R d:=by
 unfold partP fitP;apply List.map_congr_left;intro i hi;have A:=List.mem_range.1 hi;split
 ·rfl
 ·rw [jG,List.getElem?_eq_none (by omega)];rfl
theorem y6n {R:List Int} {d:Nat} (h:∀x∈R,-9223372036854775808<=x/\x<=9223372036854775807):∀x∈fitP R d,-9223372036854775808<=x/\x<=9223372036854775807:=fun x hx=>by
 obtain ⟨i,_,rfl⟩:=kJ.1 hx
 rw [jG]
 cases hr:R[i]? with
 | none=>simp
 | some y=>exact h y (kO hr)
def FtRel (w:World) (X:Nat) (R:List Int) (n d:Nat) (i:Value) (wr:World):Prop:=∃k:Nat,k<=n/\k<=d/\i= .int .i64 k/\wr.heap[X]? =some (.cells (Mo.i64s (partP R d k)) 2 (0,0))/\Below w.heap.size w wr
def x9b (w:World) (R:List Int) (d:Nat) (e:Ending) (w':World):Prop:=∃r:Rw,e= .returned r.val/\r.R=fitP R d/\r.n=d/\FrRw w' w.heap.size r/\Below w.heap.size w w'
theorem y3W (p:Option Addr) (n c:Nat) (R:List Int) (d:Nat) (w:World) (h:Ints w p n c R) (hn:n<=9223372036854775807) (hd:d<=8):
  Calls Tryz.prog 18 #[.slice p n c,.int .i64 d] w (x9b w R d):=by
 have O:=Mo.make_row d (by omega) w;have B:=jA w (.cells (Mo.i64s (List.replicate d 0)) 2);have H:=jE w (.cells (Mo.i64s (List.replicate d 0)) 2);rw [<- x4p R d] at H;have HB1:=yH B;have R1:=yH H;have X:=yH h;have N:=yH h.size;have U:=yH h.ok;clear h B H
 go_enter Tryz.func18,Tryz.ntmps18
 go_upto_region 3 with fail
 rw [x4p R d] at R1;generalize w.alloc (.cells (Mo.i64s (List.replicate d 0)) 2)=w1 at *;rw [<- x4p R d] at R1;clear O;go_wp2_with fail
 go_loopw [6] (fun i wr=>FtRel w w.heap.size R n d i wr) (fun i _=>d - (intOf i).toNat)
 case atStart=>exact ⟨0,by omega,by omega,rfl,R1.out,HB1.out⟩
 case round=>
  obtain ⟨k,M,Q,rfl,A,I⟩:=hrel;have C:=yH A;have E:=yH I;clear A I;by_cases hln:k<n
  focus
   have L:(k:Int)<n:=by omega
   by_cases hld:k<d
   ·
    have P:(k:Int)<d:=by omega
    obtain ⟨g,o,rfl,b⟩:=(X.later E).cell k hln;have Y:(0:Int)<=k/\(k:Int)<n:=by omega
    have Z:(0:Int)<=k/\(k:Int)<d:=by omega
    have a:IntKind.i64.wrap ((k:Int)+1)=(k:Int)+1:=IntWalk.i64_in _ (by omega);have e:=jS wr w.heap.size k _ _ C;have W:=jH wr w.heap.size k _ _ _ C;rw [Mo.i64s_get _ _ (by rw [x8t];exact hld)] at W;have G:=jU wr w.heap.size k _ _ (.int .i64 (R.getD k 0)) C;rw [Mo.i64s_put,y3V R d k hld] at G;have R9:=yH G;have B9:=yH (show Below w.heap.size w (wr.setCell ⟨w.heap.size,k,none⟩ (.int .i64 (R.getD k 0))) from E.setCell (p:=⟨w.heap.size,k,none⟩) (jB _) _);generalize R.getD k 0=x at *;clear G;go_wp2_with fail
    go_roundw
    case rel=>exact ⟨k+1,by omega,by omega,by go_num,R9.out,B9.out⟩
    case measure=>simp [intOf];omega
   focus
    have P:¬(k:Int)<d:=by omega
    have J:=yH (x8u R d k (Or.inr (by omega)))
   rotate_left
  rotate_left
  focus
   have L:¬(k:Int)<n:=by omega
   have J:=yH (x8u R d k (Or.inl (by rw [<- N.out];omega)))
  rotate_left;all_goals
   go_wp2_with fail
   go_ret;have K:=C.out;rw [J.out] at K;exact ⟨⟨some ⟨w.heap.size,0,none⟩,d,d,fitP R d⟩,rfl,rfl,rfl,⟨⟨by have:=Mo.i64s_ints K (y6n U);rwa [x9a] at this,by show d<=_;omega⟩,fun y hy _=>by
    obtain rfl:y=⟨w.heap.size,0,none⟩:=by simpa using hy.symm
    exact jB _⟩,E.out⟩
end Kt
namespace Kt
open Go.RowKit
def x57:Nat->Nat->Nat
 | 0,_=>0
 | f+1,m=>if m=0 then 0 else 1+x57 f (min (m - 1) (2*m/3+1))
theorem x6K:∀(f g m:Nat),m<=f->m<=g->x57 f m=x57 g m
 | 0,0,_,_,_=>rfl
 | 0,g+1,m,h,_=>by
  obtain rfl:m=0:=by omega
  simp [x57]
 | f+1,0,m,_,h=>by
  obtain rfl:m=0:=by omega
  simp [x57]
 | f+1,g+1,m,h1,h2=>by
  unfold x57
  by_cases hm:m=0
  ·rw [if_pos hm,if_pos hm]
  ·rw [if_neg hm,if_neg hm,x6K f g _ (by omega) (by omega)]
def x1t (m:Nat):Nat:=x57 m m
theorem x2d {m:Nat} (hm:0<m):x1t m=1+x1t (min (m - 1) (2*m/3+1)):=by
 unfold x1t;obtain ⟨k,rfl⟩:∃k,m=k+1:=⟨m - 1,by omega⟩
 conv=>lhs;rw [x57,if_neg (by omega)]
 rw [x6K k _ _ (by omega) (jB _)]
def BdRel (w:World) (n:Nat) (h m:Value) (wr:World):Prop:=∃a b:Nat,h= .int .i64 a/\m= .int .i64 b/\a+x1t b=x1t n/\a+b<=n/\wr=w
theorem y3X (n:Nat) (hn:n<=1000000000) (w:World):Calls Tryz.prog 35 #[.int .i64 n] w fun e w'=>e= .returned (.int .i64 (x1t n))/\w'=w:=by
 have HB:=yH (show (0:Nat)+x1t n=x1t n from Nat.zero_add _)
 go_enter Tryz.func35,Tryz.ntmps35
 go_wp2_with fail
 go_loopw [3,4] (fun h m wr=>BdRel w n h m wr) (fun _ m _=>(intOf m).toNat)
 case atStart=>exact ⟨0,n,rfl,rfl,HB.out,by omega,rfl⟩
 case round=>
  obtain ⟨a,b,rfl,rfl,B,E,rfl⟩:=hrel;have A:=yH B;clear B HB;by_cases hb:0<b
  ·have b1:(0:Int)<b:=by omega
   have I:IntKind.i64.wrap ((b:Int) - 1)=(b:Int) - 1:=IntWalk.i64_in _ (by omega);have H:IntKind.i64.wrap (2*(b:Int))=2*(b:Int):=IntWalk.i64_in _ (by omega);have K:IntKind.i64.wrap (2*(b:Int)/3+1)=2*(b:Int)/3+1:=IntWalk.i64_in _ (by omega);have J:IntKind.i64.wrap ((a:Int)+1)=(a:Int)+1:=IntWalk.i64_in _ (by omega);have HS:=yH (show (a+1)+x1t (min (b - 1) (2*b/3+1))=x1t n from by have C:=A.out;rw [x2d hb] at C;omega);have HV:=yH (show min ((b:Int) - 1) (2*(b:Int)/3+1)=((min (b - 1) (2*b/3+1):Nat):Int) from by omega);clear A;go_wp2_with fail
   go_roundw
   case rel=>exact ⟨a+1,min (b - 1) (2*b/3+1),by go_num,congrArg (Value.int .i64) HV,HS.out,by omega,rfl⟩
   case measure=>simp [intOf];omega
  ·obtain rfl:b=0:=by omega
   have G:=yH (show a=x1t n from by have C:=A.out;rwa [show x1t 0=0 from rfl,Nat.add_zero] at C);go_wp2_with fail
   go_ret;exact ⟨by rw [<- G.out];rfl,rfl⟩
end Kt
namespace Kt
open Go.RowKit Nd Pg
def T.bal:T->Prop
 | .nil=>True
 | .fork _ _ l r=>max l.size r.size<=2*(1+l.size+r.size)/3+1/\l.bal/\r.bal
theorem x81:∀(n:Nat) (L:List (List Int)) (t:Nat),L.length<=n->(layP n L t).bal
 | 0,L,t,_=>trivial
 | n+1,L,t,h=>by
  rw [layP]
  by_cases hL:L=[]
  ·rw [if_pos hL]
   trivial
  ·rw [if_neg hL]
   have hp:=kP.2 hL
   have l1:((sortP (t%(L.headD []).length) L).take (L.length/2)).length<=n:=by rw [kX,x0I];omega
   have A:((sortP (t%(L.headD []).length) L).drop (L.length/2+1)).length<=n:=by rw [kY,x0I];omega
   refine ⟨?_,x81 n _ _ l1,x81 n _ _ A⟩
   rw [x2o _ _ _ l1,x2o _ _ _ A,kX,kY,x0I]
   omega
theorem y3Y (L:List (List Int)) (t:Nat):(lay L t).bal:=x81 _ L t (jB _)
theorem x6L {p:List Int} {v:Bool} {l r:T} {t:Nat} (hl:l.bal) (hr:r.bal):(light (.fork p v l r) t).bal:=by
 unfold light;simp only;split
 ·exact y3Y _ _
 ·exact ⟨by omega,hl,hr⟩
theorem x4q:∀(u:T) (p:List Int) (t:Nat),u.bal->(x0A u p t).1.bal
 | .nil,p,t,_=>⟨by decide,trivial,trivial⟩
 | .fork q v l r,p,t,h=>by
  unfold x0A
  split
  ·exact x6L h.2.1 h.2.2
  ·split
   ·exact x6L (x4q l p (t+1) h.2.1) h.2.2
   ·exact x6L h.2.1 (x4q r p (t+1) h.2.2)
theorem x4r:∀(u:T) (p:List Int) (t:Nat),u.bal->(x0B u p t).1.bal
 | .nil,p,t,_=>trivial
 | .fork q v l r,p,t,h=>by
  unfold x0B
  split
  ·exact h
  ·split
   ·exact ⟨by rw [x12];exact h.1,x4r l p (t+1) h.2.1,h.2.2⟩
   ·exact ⟨by rw [x12];exact h.1,h.2.1,x4r r p (t+1) h.2.2⟩
theorem x4s:∀(n a b:Nat),b<=n->a<=b->x1t a<=x1t b
 | 0,a,b,hb,h=>by
  obtain rfl:b=0:=by omega
  obtain rfl:a=0:=by omega
  exact jB _
 | n+1,a,b,hb,h=>by
  rcases Nat.eq_zero_or_pos a with A | A
  ·rw [A]
   exact Nat.zero_le _
  ·rw [x2d A,x2d (show 0<b by omega)]
   have:=x4s n (min (a - 1) (2*a/3+1)) (min (b - 1) (2*b/3+1)) (by omega) (by omega)
   omega
theorem x32:∀u:T,u.bal->u.height<=x1t u.size
 | .nil,_=>Nat.zero_le _
 | .fork p v l r,h=>by
  have h1:=x32 l h.2.1
  have h2:=x32 r h.2.2
  have hz:(T.fork p v l r).size=1+l.size+r.size:=rfl
  have h3:=h.1
  rw [hz,x2d (by omega)]
  have e1:=x4s _ l.size (min (1+l.size+r.size - 1) (2*(1+l.size+r.size)/3+1)) (jB _) (by omega)
  have e2:=x4s _ r.size (min (1+l.size+r.size - 1) (2*(1+l.size+r.size)/3+1)) (jB _) (by omega)
  show 1+max l.height r.height<=_
  omega
structure Fine (d:Nat) (u:T):Prop where
 dims:u.dims d
 bst:u.bst d 0
 bal:u.bal
 few:u.size<=2*u.all.length
 nums:∀y∈u.ents,∀x∈y,In64 x
theorem y4z (d:Nat):Fine d .nil:=⟨trivial,trivial,trivial,jB _,fun y hy=>by cases hy⟩
theorem x9c {d:Nat} {u:T} {p:List Int} (h:Fine d u) (hp:p.length=d) (hpn:∀x∈p,In64 x) (hi:(x0A u p 0).2=true):Fine d (x0A u p 0).1:=by
 have B:=x4n hp u 0 h.dims h.bst;have C:=(x2Q u p 0 hi).length_eq;have E:=x28 u p 0;have G:=h.few;rw [jQ,List.length_singleton] at C;refine ⟨x1J h.dims hp,B.1,x4q u p 0 h.bal,by omega,fun y A=>?_⟩;rcases B.2 y A with rfl | A
 ·exact hpn
 ·exact h.nums y A
theorem x9d {d:Nat} {u:T} {p:List Int} (h:Fine d u) (hr:(x0B u p 0).2=true):Fine d (x0h u p).1:=by
 have B:=y1e (p:=p) h.dims h.bst;have A:=x96 (p:=p) h.dims;refine ⟨A,B,?_,?_,?_⟩
 ·unfold x0h;split
  ·exact y3Y _ _
  ·exact x4r u p 0 h.bal
 ·unfold x0h;split
  ·rw [x1X,(y2z _ 0).length_eq];omega
  ·rename_i hc
   rw [hr] at hc;simp only [true_and] at hc;omega
 ·unfold x0h;split
  ·intro y hy;have:=x2G _ y (x7z y hy);rw [x1e] at this;exact h.nums y this
  ·intro y hy;rw [x1e] at hy;exact h.nums y hy
theorem y0g {d:Nat} {u:T} {p:List Int} (h:Fine d u) (hp:p.length=d) (hz:u.size<900000):((x0A u p 0).2=false->insV d p (V.of u)= .inl 8)/\((x0A u p 0).2=true->∃P,insV d p (V.of u)= .inr (V.of (x0A u p 0).1,P)):=by
 obtain ⟨A,s,I,C,K⟩:=x3L hp u 0 h.dims (by omega);refine ⟨fun hi=>?_,fun hi=>?_⟩
 ·rw [hi] at C;unfold insV;rw [I];simp only;rw [if_pos (by simpa using C)]
 ·rw [hi] at C;have H:s.live=false:=by simpa using C
  obtain ⟨Q,O,L⟩:=K H;have B:(A++[s]).length=A.length+1:=by simp
  unfold insV;rw [I];simp only;rw [if_neg (by rw [H];exact Bool.false_ne_true)];rcases L with ⟨E,G⟩ | ⟨E,M,w,G,N,J⟩
  ·rw [Nat.zero_add,B] at E;rw [if_pos E];exact ⟨_,by rw [show x0V A (endV s true)=V.of (x0A u p 0).1 from G]⟩
  ·rw [Nat.zero_add,B] at E;rw [Nat.sub_zero] at G J;have e:(A++[s]).getD (x0D 0 (A++[s])).1 s=M:=by rw [jG,G];rfl
   rw [if_neg (by omega),e,N,x1m,if_pos rfl];exact ⟨_,by rw [J]⟩
theorem y0h {d:Nat} {u:T} {p:List Int} (h:Fine d u) (hp:p.length=d) (hz:u.size<900000):((x0B u p 0).2=false->delV d p (V.of u)= .inl 9)/\((x0B u p 0).2=true->∃P,delV d p (V.of u)= .inr (V.of (x0h u p).1,P)):=by
 obtain ⟨A,s,K,C,L⟩:=x4o hp u 0 h.dims;refine ⟨fun hi=>?_,fun hi=>?_⟩
 ·rw [hi] at C;unfold delV;rw [K];simp only;rw [if_pos C]
 ·have J:s.live=true:=C.trans hi;have H:=x1C (u:=u) (by omega);have E:=x0W u (by omega);have G:=x3H u (by omega);have M:=x2p u;have I:=(x3P u p 0 hi).length_eq;rw [jQ,List.length_singleton] at I;have O:=x12 u p 0;unfold delV;rw [K];simp only;rw [if_neg (by rw [J];exact fun e=>by cases e),H,E,G];unfold x0h;by_cases hc:2*(x0B u p 0).1.all.length<(x0B u p 0).1.size
  ·rw [if_neg (by omega),x1m,if_pos rfl,if_pos ⟨hi,hc⟩];have B:=x5N (t:=0) (fun y hy=>by
    obtain ⟨N,-⟩:=List.mem_filter.1 hy;exact x1E h.dims y ((x0s u).mem_iff.1 N)) (y3Q h.bst hi)
   exact ⟨_,by rw [B]⟩
  ·rw [if_pos (by omega),if_neg (fun e=>hc e.2)];exact ⟨_,by rw [show x0V A (endV s false)=V.of (x0B u p 0).1 from L J]⟩
end Kt
namespace Kt
open Go.RowKit Nd Dk Pg
def exs:Nat->T
 | 0=>.nil
 | 1=>ex4
 | 2=>ex5
 | _=>ex6
def exPg:Nat->List (List Nat)
 | 0=>[]
 | 1=>ex4.pages
 | 2=>ex4.pages++ex5.pages
 | _=>ex4.pages++ex5.pages++ex6.pages
def exS (j:Nat):Pg.S:=puts (puts ⟨[],none⟩ exT.pages) (exPg j)
theorem y7X (j:Nat) (hj:j<3):insV 1 [((4+j:Nat):Int)] (V.of (exs j))= .inr (V.of (exs (j+1)),(exs (j+1)).pages):=by
 match j,hj with
 | 0,_=>rfl
 | 1,_=>rfl
 | 2,_=>rfl
theorem y0i (j:Nat) (hj:j<3):puts (exS j) (exs (j+1)).pages=exS (j+1):=by
 unfold exS;generalize puts ⟨[],none⟩ exT.pages=s
 match j,hj with
 | 0,_=>rfl
 | 1,_=>exact (x13 s ex4.pages ex5.pages).symm
 | 2,_=>exact (x13 s (ex4.pages++ex5.pages) ex6.pages).symm
theorem x8v (j:Nat) (hj:j<=3):(exS j).cl=none:=by
 have B:(exS 3).cl=none:=by
  have h:=y4S;unfold y2n at h;rw [x13] at h;exact h
 have A:∀j,j<3->(exS (j+1)).cl=none->(exS j).cl=none:=fun j hj h=>by
  rw [<- y0i j hj] at h;exact x3J _ h
 match j,hj with
 | 3,_=>exact B
 | 2,_=>exact A 2 (by omega) B
 | 1,_=>exact A 1 (by omega) (A 2 (by omega) B)
 | 0,_=>exact A 0 (by omega) (A 1 (by omega) (A 2 (by omega) B))
theorem in64s {x:Int} (h0:0<=x) (h1:x<=100):In64 x:=⟨by omega,by omega⟩
theorem x1z (j:Nat):(exs j).dims 1/\(∀y∈(exs j).ents,∀x∈y,In64 x)/\(exs j).size<=3:=by
 have A:∀t:T,t.dims 1->(t.ents.all fun y=>y.all fun x=>decide (0<=x)&&decide (x<=100))=true->t.size<=3->t.dims 1/\(∀y∈t.ents,∀x∈y,In64 x)/\t.size<=3:=fun t h1 h2 h3=>⟨h1,fun y hy x hx=>by
  have:=List.all_eq_true.1 (List.all_eq_true.1 h2 y hy) x hx;rw [Bool.and_eq_true,decide_eq_true_eq,decide_eq_true_eq] at this;exact in64s this.1 this.2,h3⟩
 match j with
 | 0=>exact A _ trivial rfl (by decide)
 | 1=>exact A _ ⟨rfl,trivial,trivial⟩ rfl (by decide)
 | 2=>exact A _ ⟨rfl,trivial,rfl,trivial,trivial⟩ rfl (by decide)
 | j+3=>exact A ex6 ⟨rfl,trivial,rfl,trivial,rfl,trivial,trivial⟩ rfl (by decide)
theorem x3S:exT.dims 1/\(∀y∈exT.ents,∀x∈y,In64 x)/\exT.size<=3:=by
 refine ⟨⟨rfl,⟨rfl,trivial,trivial⟩,rfl,trivial,trivial⟩,fun y hy x hx=>?_,by decide⟩;have A:(exT.ents.all fun y=>y.all fun x=>decide (0<=x)&&decide (x<=100))=true:=rfl;have:=List.all_eq_true.1 (List.all_eq_true.1 A y hy) x hx;rw [Bool.and_eq_true,decide_eq_true_eq,decide_eq_true_eq] at this;exact in64s this.1 this.2
theorem y3Z {s:Pg.S} {L:List (List Nat)} (h:(puts s L).cl=none):∀b∈L,x0J (puts s L).W (sumOf b)=some b:=x7o L h
theorem x7F (s:Pg.S):puts s (exPg 0)=s:=rfl
theorem x8w {t:T} (h1:t.dims 1) (h2:∀y∈t.ents,∀x∈y,In64 x) (h3:t.size<=3) {s:Pg.S} {L:List (List Nat)} (hc:(puts s L).cl=none) (hL:∀b∈t.pages,b∈L):Sees (puts s L).W 1 (V.of t):=
 (x3R (d:=1) (by omega) t h1 h2 (by omega)).2.2 _ fun b hb=>y3Z hc b (hL b hb)
theorem y50:Sees (exS 0).W 1 (V.of exT):=by
 have A:=x8v 0 (by omega);unfold exS at A ⊢;rw [x7F] at A ⊢;exact x8w x3S.1 x3S.2.1 x3S.2.2 A (fun b hb=>hb)
theorem y7Y (j:Nat) (hj:j<=3):∀b∈(exs j).pages,b∈exPg j:=fun b hb=>by
 match j,hj with
 | 0,_=>cases hb
 | 1,_=>exact hb
 | 2,_=>exact List.mem_append_right _ hb
 | 3,_=>exact List.mem_append_right _ hb
theorem y0j (j:Nat) (hj:j<=3):Sees (exS j).W 1 (V.of (exs j)):=by
 have A:=x8v j hj;unfold exS at A ⊢;exact x8w (x1z j).1 (x1z j).2.1 (x1z j).2.2 A (y7Y j hj)
theorem x8x (j:Nat):Forks 1 (exS j).W:=by
 have B:∀j,∀b∈(exs j).pages,∃N,Txt 1 b N/\N.kind=1:=fun j=>(x3R (d:=1) (by omega) (exs j) (x1z j).1 (x1z j).2.1 (by have:=(x1z j).2.2;omega)).2.1;have C:∀b∈exT.pages,∃N,Txt 1 b N/\N.kind=1:=(x3R (d:=1) (by omega) exT x3S.1 x3S.2.1 (by have:=x3S.2.2;omega)).2.1;refine x3K _ (x3K _ (fun x hx=>by cases hx) C) fun b A=>?_
 match j with
 | 0=>cases A
 | 1=>exact B 1 b A
 | 2=>
  rcases jP.1 A with A | A
  ·exact B 1 b A
  ·exact B 2 b A
 | j+3=>
  rcases jP.1 A with A | A
  ·rcases jP.1 A with A | A
   ·exact B 1 b A
   ·exact B 2 b A
  ·exact B 3 b A
theorem y51 (j:Nat):(exPg j).length<=6:=by
 have B:ex4.pages.length=1:=x0P ex4;have C:ex5.pages.length=2:=x0P ex5;have A:ex6.pages.length=3:=x0P ex6;unfold exPg;generalize ex4.pages=p4 at *;generalize ex5.pages=p5 at *;generalize ex6.pages=p6 at *;split
 ·exact Nat.zero_le _
 ·omega
 ·rw [jQ];omega
 ·rw [jQ,jQ];omega
theorem y6o (j:Nat):(exS j).W.length<=20:=by
 have B:=x1l exT.pages ⟨[],none⟩;have A:=x1l (exPg j) (puts ⟨[],none⟩ exT.pages);have G:exT.pages.length=3:=x0P exT;have H:ex4.pages.length=1:=x0P ex4;have I:ex5.pages.length=2:=x0P ex5;have C:ex6.pages.length=3:=x0P ex6;have E:(⟨[],none⟩:Pg.S).W.length=0:=rfl;unfold exS;generalize ex4.pages=p4 at *;generalize ex5.pages=p5 at *;generalize ex6.pages=p6 at *;generalize puts ⟨[],none⟩ exT.pages=s at *;have e:(exPg j).length<=6:=y51 j;omega
theorem y0k (j:Nat):(V.of (exs j)).kid.size<=3:=by
 rw [x1C (by have:=(x1z j).2.2;omega),x0W _ (by have:=(x1z j).2.2;omega)];have:=(x1z j).2.2;omega
end Kt
end Go.Proofs.YtenenciaggbjnaaGreat
