/- KdDownV, KdWrong, KdWayV, KdBack. -/
import Derived.RangeFuncNested
import Derived.RangeFuncBound
import Derived.RangeFuncCalls
import Derived.RangeFuncLeaves
import Derived.WalkKit
import Derived.OwnWalkIn
import Derived.TacticsInMore
import Derived.LoopNIn
import Derived.LoopIn
import Derived.Test.YtinihaflmdihaaaGreatL22
set_option maxRecDepth 100000
set_option maxHeartbeats 8000000
set_option linter.all false
namespace Go.Proofs.YtinihaflmdihaaaGreat.Kt
open Go.RowKit Go.Proofs.YtinihaflmdihaaaGreat.Nd Go.Proofs.YtinihaflmdihaaaGreat.Dk Go.Proofs.YtinihaflmdihaaaGreat.Pg
def y1P (B bw:Nat) (w:World) (v:Value) (A:List MSt) (Q:Nat→Prop) (o:Option (List St×St)) (e:Ending) (w':World):Prop:=Only (fun k=>k=bw∨v.ownBlock=some k) w w'∧
 (o=none→e= .returned (.int .i64 21))∧(∀L s,o=some (L,s)→e= .returned (.int .i64 0)∧∃v' A',WaySt B bw w' v' (A++A')∧Links A' (L++[s])∧(v'.ownBlock=v.ownBlock∨∃k,v'.ownBlock=some k∧w.heap.size≤k)∧∀m∈A',∀j,m.reads j→¬Q j)
theorem x8y {bw:Nat} {v v':Value} {w w1 w2:World} (h1:Only (fun k=>k=bw∨v.ownBlock=some k) w w1) (h2:Only (fun k=>k=bw∨v'.ownBlock=some k) w1 w2) (hv:v'.ownBlock=v.ownBlock∨∃k,v'.ownBlock=some k∧w.heap.size≤k):Only (fun k=>k=bw∨v.ownBlock=some k) w w2:=
 ⟨h2.os.trans h1.os,h2.tape.trans h1.tape,h2.output.trans h1.output,Nat.le_trans h1.size h2.size,fun k hk hn=>(h2.block k (Nat.lt_of_lt_of_le hk h1.size) (fun e=>e.elim (fun e=>hn (Or.inl e)) (fun e=>by
  rcases hv with h | ⟨j,h,hj⟩
  ·exact hn (Or.inr (h.symm.trans e))
  ·rw [h] at e
   have:=Option.some.inj e
   omega))).trans (h1.block k hk hn)⟩
theorem x6k {g bw ga oa:Nat} {d err:Int} {p:Rw} {w:World} {P:World→Prop} (hm:∀w',Below w.heap.size w w'→Calls Tryz.prog 152 #[.agg #[.pointer (some ⟨g,0,none⟩),.int .i64 d],.pointer (some ⟨bw,0,none⟩),.pointer (some ⟨ga,oa,none⟩),p.val] w' fun e w''=>e= .returned (.tuple #[.pointer none,.int .i64 err])∧P w''):
  Calls Tryz.prog 106 #[.agg #[.pointer (some ⟨g,0,none⟩),.int .i64 d],.pointer (some ⟨bw,0,none⟩),.pointer (some ⟨ga,oa,none⟩),p.val] w fun e w'=>e= .returned (.int .i64 err)∧P w':=by
 have b1:Below w.heap.size w (w.alloc (.cells #[.pointer (some ⟨g,0,none⟩),.int .i64 d] 91)):=(Below.refl _ _).alloc (Nat.le_refl _) _
 have J:=heap_alloc_new w (.cells #[.pointer (some ⟨g,0,none⟩),.int .i64 d] 91)
 have E:=yH (hm _ b1)
 have K:=yH (x09 J)
 obtain ⟨R,N,Q,O⟩:=p
 unfold Rw.val at E ⊢
 simp only at E ⊢
 obtain ⟨L,C,A⟩:=UTr
 have G:=yH C
 have I:=yH A
 clear hm b1 J C A
 go_enter Tryz.func106,Tryz.ntmps106
 go_upto_region 1 with fail
 generalize w.alloc (.cells #[.pointer (some ⟨g,0,none⟩),.int .i64 d] 91)=w1 at *
 go_wp2_with (first
  | (refine wpList_load_mid (by rfl) 91 _ (by rfl) w.heap.size 0 (by rfl) [.pointer (some ⟨g,0,none⟩),.int .i64 d] L K.out G.out I.out STr ?_)
  | (go_at_call 152;refine E.out.mono ?_;rintro _ M ⟨rfl,B⟩;have H:=yH B;clear B))
 go_ret
 exact ⟨rfl,H.out⟩
theorem y4o {g bw ga oa:Nat} {d:Int} {p:Rw} {w:World} {P:Nat→Nat→World→World→Prop} {R:Ending→World→Prop} (hm:∀w',Below w.heap.size w w'→Calls Tryz.prog 152 #[.agg #[.pointer (some ⟨g,0,none⟩),.int .i64 d],.pointer (some ⟨bw,0,none⟩),.pointer (some ⟨ga,oa,none⟩),p.val] w' fun e w''=>∃gb ob,e= .returned (.tuple #[.pointer (some ⟨gb,ob,none⟩),.int .i64 0])∧P gb ob w' w'')
  (hk:∀gb ob w' w'',Below w.heap.size w w'→P gb ob w' w''→(∀b,w.heap.size≤b→b<w'.heap.size→b≠bw→w''.heap[b]? =w'.heap[b]?)∧Calls Tryz.prog 106 #[.agg #[.pointer (some ⟨g,0,none⟩),.int .i64 d],.pointer (some ⟨bw,0,none⟩),.pointer (some ⟨gb,ob,none⟩),p.val] w'' fun e w3=>∃err:Int,e= .returned (.int .i64 err)∧R e w3) (hbw:bw<w.heap.size):
  Calls Tryz.prog 106 #[.agg #[.pointer (some ⟨g,0,none⟩),.int .i64 d],.pointer (some ⟨bw,0,none⟩),.pointer (some ⟨ga,oa,none⟩),p.val] w R:=by
 have b1:Below w.heap.size w (w.alloc (.cells #[.pointer (some ⟨g,0,none⟩),.int .i64 d] 91)):=(Below.refl _ _).alloc (Nat.le_refl _) _
 have M:=heap_alloc_new w (.cells #[.pointer (some ⟨g,0,none⟩),.int .i64 d] 91)
 have L:=yH (hm _ b1)
 have A:=yH (fun gb ob w''=>hk gb ob _ w'' b1)
 have W:=yH (x09 M)
 have E:=yH M
 have O:=yH hbw
 obtain ⟨Y,X,a,Z⟩:=p
 unfold Rw.val at L A ⊢
 simp only at L A ⊢
 obtain ⟨Q,H,C⟩:=UTr
 have B:=yH H
 have I:=yH C
 clear hm hk hbw b1 M H C
 go_enter Tryz.func106,Tryz.ntmps106
 go_upto_region 1 with fail
 generalize w.alloc (.cells #[.pointer (some ⟨g,0,none⟩),.int .i64 d] 91)=w1 at *
 go_upto_region 2 with (first
  | (refine wpList_load_mid (by rfl) 91 _ (by rfl) w.heap.size 0 (by rfl) [.pointer (some ⟨g,0,none⟩),.int .i64 d] Q W.out B.out I.out STr ?_)
  | (go_at_call 152;refine L.out.mono ?_;rintro _ w3 ⟨gb,ob,rfl,J⟩;have G:=yH (A.out gb ob w3 J);clear J))
 have U:=yH (x09 ((G.out.1 w.heap.size (Nat.le_refl _) (yL E.out) (by have:=O.out;omega)).trans E.out))
 go_wp2_with (first
  | (refine wpList_load_mid (by rfl) 91 _ (by rfl) w.heap.size 0 (by rfl) [.pointer (some ⟨g,0,none⟩),.int .i64 d] Q U.out B.out I.out STr ?_)
  | (go_at_call 106;refine G.out.2.mono ?_;rintro _ c ⟨err,rfl,K⟩;have N:=yH K;clear K))
 exact N.out
theorem y35 {B bw:Nat} {w:World} {v:Value} {A:List MSt} {m:MSt} (h:WaySt B bw w v (A++[m])) {r:Rw} (hr:r∈m.rows):x3Y bw v (A++[m]) r:=fun x hx hR=>by
 have hrd:m.reads x.block:=Or.inr (Or.inr ⟨r,hr,x,hx,hR,rfl⟩)
 obtain ⟨h1,h2⟩:=h.aside m (by simp) _ hrd
 refine ⟨h1,h2,fun a ha=>?_⟩
 rcases List.mem_append.1 ha with ha | ha
 ·have hp:=(List.pairwise_append.1 h.way.part).2.2 a ha m (by simp)
  exact ⟨fun e=>hp.2 ⟨_,hrd,Or.inl e⟩,fun e=>hp.2 ⟨_,hrd,Or.inr e⟩⟩
 ·rw [List.mem_singleton.1 ha]
  exact (h.way.each m (by simp)).apart r hr x hx hR
theorem x9n {bw:Nat} {v v':Value} {A:List MSt} {m:MSt} {r:Rw} {w:World} (h:x3Y bw v A r) (hr:r.Ok w) (hv:v'.ownBlock=v.ownBlock∨∃k,v'.ownBlock=some k∧w.heap.size≤k) (hm:w.heap.size≤m.ge∧w.heap.size≤m.gk):x3Y bw v' (A++[m]) r:=fun x hx hR=>by
 obtain ⟨h1,h2,h3⟩:=h x hx hR
 have hlt:=rw_lt hr x hx hR
 refine ⟨h1,fun e=>?_,fun a ha=>?_⟩
 ·rcases hv with h | ⟨k,h,hk⟩
  ·exact h2 (h.symm.trans e)
  ·rw [h] at e
   have:=Option.some.inj e
   omega
 ·rcases List.mem_append.1 ha with ha | ha
  ·exact h3 a ha
  ·rw [List.mem_singleton.1 ha]
   omega
theorem x6l {gs d B bw:Nat} {s:Pg.S} (hd:1≤d∧d≤8) (hW:x4J d s.W) (p:Rw) (hpd:p.n=d):∀(u:V) (k:Kd) (ga oa:Nat) (w:World) (Q:Nat→Prop) (v:Value) (A:List MSt),PL w gs Q s→Sees s.W d u→k.Ok w→w.rangeAt ga oa k.cells→k.pk=u.kid→(∀x∈k.rows,x3Y bw v A x)→WaySt B bw w v A→B≤w.heap.size→p.Ok w→x3Y bw v A p→¬Q bw→(∀j,v.ownBlock=some j→¬Q j)→Aw Q k→(∀y,p.p=some y→p.R≠[]→¬Q y.block)→(A.length:Int)+u.kid.size≤90000→
  Calls Tryz.prog 106 #[.agg #[.pointer (some ⟨gs,0,none⟩),.int .i64 d],.pointer (some ⟨bw,0,none⟩),.pointer (some ⟨ga,oa,none⟩),p.val] w (y1P B bw w v A Q (wayV d p.R u A.length))
 | .nil,k,ga,oa,w,Q,v,A,hp,hs,hk,hr,he,hka,hw,hB,hpo,hpa,hq1,hq2,hq3,hq4,hz=>by
  have hz':A.length≤100000:=by have:(V.nil).kid.size=0:=rfl;omega
  have h:=x6k (g:=gs) (bw:=bw) (ga:=ga) (oa:=oa) (d:=(d:Int)) (err:=0) (p:=p) (w:=w) (P:=fun C=>∃m,Met B bw w v A ⟨p.R,false,.nil,.nil,false,.nil⟩ [p] C m) (fun H E=>by
   refine (y34 (d:Int) ga oa p H (x5G (hk.later E) (x02 hr E) he) (hw.later E) (Nat.le_trans hB E.size) (hpo.later E) hpa hz').mono ?_
   rintro e C ⟨rfl,m,a,I,O,K,M,Z,h6,U⟩
   refine ⟨rfl,m,a,I,O,(Only.of_below _ E).trans K,M.imp id (fun ⟨k,e,hk⟩=>⟨k,e,Nat.le_trans E.size hk⟩),Nat.le_trans E.size Z,Nat.le_trans E.size h6,fun j hj=>(U j hj).imp (fun h=>Nat.le_trans E.size h) id⟩)
  refine h.mono ?_
  rintro e H ⟨rfl,m,a,I,O,K,M,-,-,U⟩
  refine ⟨K,(fun h=>by cases h),fun L s' N=>?_⟩
  have N:some ([],(⟨p.R,false,.nil,.nil,false,.nil⟩:St))=some (L,s'):=N
  simp only [Option.some.injEq,Prod.mk.injEq] at N
  obtain ⟨rfl,rfl⟩:=N
  exact ⟨rfl,a,[m],I,.cons O .nil,M,fun x hx j hj hQ=>by
   rw [List.mem_singleton.1 hx] at hj
   rcases U j hj with e | ⟨r,z,y,Y,f,rfl⟩
   ·have:=hp.lt j hQ;omega
   ·rw [List.mem_singleton.1 z] at Y f
    exact hq4 y Y f hQ⟩
 | .bad kk,k,ga,oa,w,Q,v,A,hp,hs,hk,hr,he,hka,hw,hB,hpo,hpa,hq1,hq2,hq3,hq4,hz=>by
  have AI:k.pk=kk:=he
  subst AI
  have h:=x6k (g:=gs) (bw:=bw) (ga:=ga) (oa:=oa) (d:=(d:Int)) (err:=21) (p:=p) (w:=w) (P:=fun C=>Below w.heap.size w C) (fun H E=>by
   refine (y33 (g:=gs) (d:Int) ga oa (some ⟨bw,0,none⟩) p.p p.n p.c H (x5H (hk.later E) (x02 hr E) hs.1 ((x8w hp hW hk hs).later E))).mono ?_
   rintro e C ⟨rfl,A0⟩
   exact ⟨rfl,E.trans (A0.mono E.size)⟩)
  refine h.mono ?_
  rintro e H ⟨rfl,E⟩
  exact ⟨Only.of_below _ E,(fun _=>rfl),(fun L s N=>by cases N)⟩
 | .fork q lv l r,k,ga,oa,w,Q,v,A,hp,hs,hk,hr,he,hka,hw,hB,hpo,hpa,hq1,hq2,hq3,hq4,hz=>by
  have Ae:(V.fork q lv l r).kid.size=1+(l.kid.size+r.kid.size):=x0Z q lv l.kid r.kid
  have Ad:=x1F hs.2.2.1
  have AY:=x1F hs.2.2.2
  have AH:q.length=d:=by
   have:=(x1g hs.1.right).2.2.1 ⟨q,lv⟩ (by simp [forkN])
   simp only at this
   omega
  have AN:=x5I hp hk he hs
  have X:∀m,FarK k.rows w m→∀j,m.reads j→¬Q j:=fun m U j hj hQ=>by
   rcases U j hj with e | ⟨r,z,y,Y,f,rfl⟩
   ·have:=hp.lt j hQ;omega
   ·exact hq3 r z y Y f hQ
  have J:∀H,Below w.heap.size w H→Calls Tryz.prog 152 #[.agg #[.pointer (some ⟨gs,0,none⟩),.int .i64 d],.pointer (some ⟨bw,0,none⟩),.pointer (some ⟨ga,oa,none⟩),p.val] H fun e C=>∃m,Met B bw w v A ⟨q,lv,l,r,decide (0<ordC (A.length%d) p.R q),.fork q lv l r⟩ k.rows C m∧Met B bw H v A ⟨q,lv,l,r,decide (0<ordC (A.length%d) p.R q),.fork q lv l r⟩ k.rows C m∧e= .returned (.tuple #[onTo (ordC (A.length%d) p.R q) m,.int .i64 0]):=fun H E=>by
   refine (y1O hd k ga oa p H (AN.later E) he (by rw [he];omega) (hk.later E) (x02 hr E) hka (hw.later E) (Nat.le_trans hB E.size) (hpo.later E) hpd AH (by omega)).mono ?_
   rintro e C ⟨m,⟨a,I,O,K,M,Z,h6,U⟩,he⟩
   exact ⟨m,⟨a,I,O,(Only.of_below _ E).trans K,M.imp id (fun ⟨k,e,hk⟩=>⟨k,e,Nat.le_trans E.size hk⟩),Nat.le_trans E.size Z,Nat.le_trans E.size h6,fun j hj=>(U j hj).imp (fun h=>Nat.le_trans E.size h) id⟩,⟨a,I,O,K,M,Z,h6,U⟩,he⟩
  have AT:wayV d p.R (.fork q lv l r) A.length=(if ordC (A.length%d) p.R q=0 then some ([],⟨q,lv,l,r,false,.fork q lv l r⟩)
   else if 0<ordC (A.length%d) p.R q then (wayV d p.R r (A.length+1)).map fun x=>(⟨q,lv,l,r,true,.fork q lv l r⟩::x.1,x.2)
   else (wayV d p.R l (A.length+1)).map fun x=>(⟨q,lv,l,r,false,.fork q lv l r⟩::x.1,x.2)):=rfl
  rw [AT]
  by_cases h0:ordC (A.length%d) p.R q=0
  ·have AB:decide (0<ordC (A.length%d) p.R q)=false:=decide_eq_false (by omega)
   rw [if_pos h0]
   have h:=x6k (g:=gs) (bw:=bw) (ga:=ga) (oa:=oa) (d:=(d:Int)) (err:=0) (p:=p) (w:=w) (P:=fun C=>∃m,Met B bw w v A ⟨q,lv,l,r,false,.fork q lv l r⟩ k.rows C m) (fun H E=>by
    refine (J H E).mono ?_
    rintro e C ⟨m,hm,-,rfl⟩
    rw [AB] at hm
    exact ⟨by unfold onTo;rw [if_pos h0],m,hm⟩)
   refine h.mono ?_
   rintro e H ⟨rfl,m,a,I,O,K,M,-,-,U⟩
   refine ⟨K,(fun h=>by cases h),fun L s' N=>?_⟩
   simp only [Option.some.injEq,Prod.mk.injEq] at N
   obtain ⟨rfl,rfl⟩:=N
   exact ⟨rfl,a,[m],I,.cons O .nil,M,fun x hx j hj hQ=>by
    rw [List.mem_singleton.1 hx] at hj
    exact X m U j hj hQ⟩
  ·rw [if_neg h0]
   -- which kid it is,told once
   obtain ⟨G,t⟩:∃G:Bool,G=decide (0<ordC (A.length%d) p.R q):=⟨_,rfl⟩
   rw [← t] at J
   have A6:(if 0<ordC (A.length%d) p.R q then (wayV d p.R r (A.length+1)).map fun x=>((⟨q,lv,l,r,true,.fork q lv l r⟩:St)::x.1,x.2) else (wayV d p.R l (A.length+1)).map fun x=>((⟨q,lv,l,r,false,.fork q lv l r⟩:St)::x.1,x.2))=(wayV d p.R (if G then r else l) (A.length+1)).map fun x=>((⟨q,lv,l,r,G,.fork q lv l r⟩:St)::x.1,x.2):=by
    by_cases I:0<ordC (A.length%d) p.R q
    ·rw [if_pos I,t,decide_eq_true I]
     rfl
    ·rw [if_neg I,t,decide_eq_false I]
     rfl
   rw [A6]
   have AP:=x6l (gs:=gs) (B:=B) (bw:=bw) hd hW p hpd r
   have AQ:=x6l (gs:=gs) (B:=B) (bw:=bw) hd hW p hpd l
   have ih:∀(k:Kd) (ga oa:Nat) (w:World) (Q:Nat→Prop) (v:Value) (A:List MSt),PL w gs Q s→Sees s.W d (if G then r else l)→k.Ok w→w.rangeAt ga oa k.cells→k.pk=(if G then r else l).kid→(∀x∈k.rows,x3Y bw v A x)→WaySt B bw w v A→B≤w.heap.size→p.Ok w→x3Y bw v A p→¬Q bw→(∀j,v.ownBlock=some j→¬Q j)→Aw Q k→(∀y,p.p=some y→p.R≠[]→¬Q y.block)→(A.length:Int)+(if G then r else l).kid.size≤90000→
     Calls Tryz.prog 106 #[.agg #[.pointer (some ⟨gs,0,none⟩),.int .i64 d],.pointer (some ⟨bw,0,none⟩),.pointer (some ⟨ga,oa,none⟩),p.val] w (y1P B bw w v A Q (wayV d p.R (if G then r else l) A.length)):=by
    cases G
    ·exact AQ
    ·exact AP
   have AJ:Sees s.W d (if G then r else l):=by
    cases G
    ·exact hs.2.2.1
    ·exact hs.2.2.2
   have Ac:(if G then r else l).kid.size≤l.kid.size+r.kid.size:=by
    cases G
    ·show l.kid.size≤_;omega
    ·show r.kid.size≤_;omega
   refine y4o (P:=fun gb ob H C=>∃m,Met B bw w v A ⟨q,lv,l,r,G,.fork q lv l r⟩ k.rows C m∧Met B bw H v A ⟨q,lv,l,r,G,.fork q lv l r⟩ k.rows C m∧gb=m.gk∧ob=37*m.sideN) (fun H E=>?_) (fun gb ob H C E hm=>?_) (yL hw.box)
   ·refine (J H E).mono ?_
    rintro e C ⟨m,hm,AG,rfl⟩
    exact ⟨m.gk,37*m.sideN,by unfold onTo;rw [if_neg h0],m,hm,AG,rfl,rfl⟩
   ·obtain ⟨m,⟨a,I,O,K,M,Z,h6,U⟩,⟨v2,g1,g2,g3,g4,g5,g6,-⟩,rfl,rfl⟩:=hm
    have AX:=(yL hw.box)
    have o:=I.way.each m (by simp)
    have AL:m.side=G:=O.side.symm
    have AD:∃kc:Kd,kc.Ok C∧C.rangeAt m.gk (37*m.sideN) kc.cells∧kc.pk=(if G then r else l).kid∧∀x∈kc.rows,x∈m.rows:=by
     unfold MSt.sideN
     rw [AL]
     cases G
     ·exact ⟨m.k1,o.k1,o.kid1,O.l.symm,fun x hx=>by simp [MSt.rows,hx]⟩
     ·exact ⟨m.k2,o.k2,o.kid2,O.r.symm,fun x hx=>by simp [MSt.rows,hx]⟩
    obtain ⟨kc,AM,AF,AS,A8⟩:=AD
    have A5:p.Ok C:=Nd.rw_keep hpo fun y Y f=>K.block _ (rw_lt hpo y Y f) (fun e=>e.elim (hpa y Y f).1 (hpa y Y f).2.1)
    refine ⟨fun b hb1 A0 hb3=>g3.block b A0 (fun e=>e.elim hb3 (fun e=>by have:=(hw.own.lt b e).2;omega)),?_⟩
    have AK:∀j,Q j→¬(j=bw∨v.ownBlock=some j):=fun j hj e=>e.elim (fun e=>hq1 (e▸hj)) (fun e=>hq2 j e hj)
    have h:=ih kc m.gk (37*m.sideN) C Q a (A++[m]) (hp.keep _ K AK) AJ AM AF AS (fun x hx=>y35 I (A8 x hx)) I (Nat.le_trans hB K.size) A5 (x9n hpa hpo M ⟨Z,h6⟩) hq1 (fun j e hj=>by
     rcases M with h | ⟨i,h,hi⟩
     ·exact hq2 j (h.symm.trans e) hj
     ·rw [h] at e
      have:=Option.some.inj e
      have:=hp.lt j hj
      omega) (fun r hr y Y f=>X m U _ (Or.inr (Or.inr ⟨r,A8 r hr,y,Y,f,rfl⟩))) hq4 (by rw [List.length_append];simp only [List.length_cons,List.length_nil];omega)
    rw [List.length_append] at h
    simp only [List.length_cons,List.length_nil,Nat.zero_add] at h
    refine h.mono ?_
    rintro e w3 ⟨ho,hn,AU⟩
    cases hwy:wayV d p.R (if G then r else l) (A.length+1) with
    | none=>
     refine ⟨21,hn hwy,x8y K ho M,fun _=>hn hwy,fun L s' N=>?_⟩
     cases N
    | some x=>
     obtain ⟨L0,s0⟩:=x
     obtain ⟨A7,v3,A3,AA,AR,AE,AO⟩:=AU L0 s0 hwy
     refine ⟨0,A7,x8y K ho M,fun hh=>?_,fun L s' N=>?_⟩
     ·cases hh
     ·simp only [Option.map_some,Option.some.injEq,Prod.mk.injEq] at N
      obtain ⟨rfl,rfl⟩:=N
      refine ⟨A7,v3,m::A3,by rw [List.append_assoc] at AA;exact AA,.cons O AR,?_,fun x hx=>(List.mem_cons.1 hx).elim (fun e=>by rw [e];exact X m U) (fun hx=>AO x hx)⟩
      rcases AE with h | ⟨i,h,hi⟩
      ·rcases M with Z | ⟨i,Z,hi⟩
       ·exact Or.inl (h.trans Z)
       ·exact Or.inr ⟨i,h.trans Z,hi⟩
      ·exact Or.inr ⟨i,h,Nat.le_trans K.size hi⟩
theorem x3Z (p:Option Addr) (d:Int):Tryz.prog.built 91 [(0,.pointer p),(1,.int .i64 d)]=some #[.pointer p,.int .i64 d]:=by kernel_rfl
theorem x7X (p:Option Addr) (d:Int):(#[.pointer p,.int .i64 d]:Array Value).all (·.oneCell')=true:=all_oneCell_toArray (cs:=[.pointer p,.int .i64 d]) fun u hu=>by
 simp only [List.mem_cons,List.not_mem_nil,or_false] at hu
 rcases hu with rfl | rfl<;>rfl
def y1Q (sp:Option Addr) (d:Int) (k:Kd) (r:Rw) (err:Int) (w:World):Prop:=∀w',Below w.heap.size w w'→Calls Tryz.prog 53 #[.agg #[.pointer sp,.int .i64 d],.agg k.cells.toArray,r.val] w' (y5S w' err)
theorem x9o (sp:Option Addr) (d:Int) (k:Kd) (r:Rw) (err:Int) (w:World) (hk:k.Ok w) (hw:y1Q sp d k r err w) (he:err≠0):
  Calls Tryz.prog 15 #[.pointer sp,.agg k.cells.toArray,r.val,.int .i64 d] w fun e w'=>e= .returned (.tuple #[.agg kd0.cells.toArray,.int .i64 err])∧Below w.heap.size w w':=by
 obtain ⟨W,i,U,X,b1⟩:=x0u w (.cells k.cells.toArray 34) (.cells kd0.cells.toArray 34)
 have L:=yH hw
 have p:(err !=0)=true:=by simpa using he
 have N:=yH (Kd.cells_length hk.len)
 have b:=yH U
 have Y:=yH X
 have B1:=yH b1
 obtain ⟨m,j,o,n⟩:=r
 unfold y1Q at L
 unfold Rw.val at L
 unfold Rw.val
 simp only at L ⊢
 obtain ⟨g,J,G⟩:=UTr
 obtain ⟨f,E,B⟩:=UKd
 have O:=yH J
 have P:=yH G
 have K:=yH E
 have C:=yH B
 have c:=yH (zero_of_info kz)
 have h:=c.out.1
 clear hk hw he b1 U X J G E B
 go_enter Tryz.func15,Tryz.ntmps15
 go_upto_region 1 with fail
 clear i
 go_upto_region 2 with (first
  | (refine x07 (cells:= #[.pointer sp,.int .i64 d]) (by rfl) (by rfl) (by simp only [List.map_toArray,List.map_cons,List.map_nil];exact x3Z _ _) ?_)
  | (refine wpList_store_row (by rfl) 91 (.tmp 10) (.tmp 18) (by rfl) W.heap.size #[.pointer sp,.int .i64 d] (by rfl) (by rfl) _ _ (heap_alloc_new W _) STr rfl (x7X _ _) ?_;rw [x04]))
 have A:Below W.heap.size W (W.alloc (.cells #[.pointer sp,.int .i64 d] 91)):=(Below.refl _ _).alloc (Nat.le_refl _) _
 have H:=heap_alloc_new W (.cells #[.pointer sp,.int .i64 d] 91)
 generalize W.alloc (.cells #[.pointer sp,.int .i64 d] 91)=w2 at *
 have Z:=yH (x09 H)
 have R:=yH (x0E (yK A b.out))
 have Q:=yH (yK A Y.out)
 have B2:=yH (B1.out.trans (A.mono B1.out.size))
 clear A H
 go_wp2_with (first
  | (refine wpList_load_mid (by rfl) 91 _ (by rfl) W.heap.size 0 (by rfl) [.pointer sp,.int .i64 d] g Z.out O.out P.out STr ?_)
  | (refine wpList_load_mid (by rfl) 34 _ (by rfl) w.heap.size 0 (by rfl) k.cells f R.out K.out C.out (by rw [N.out];exact SKd) ?_)
  | (go_at_call 53;refine (L.out w2 B2.out).mono ?_;rintro _ l ⟨rfl,M⟩;have a:=yH (B2.out.trans (M.mono B2.out.size));have I:=yH (yK M Q.out);clear M)
  | (refine x07 (by rfl) (by rfl) x0T ?_)
  | (refine wpList_store_row (by rfl) 34 _ _ (by rfl) (w.heap.size+1) kd0.cells.toArray (by rfl) (by rfl) _ _ I.out (by rw [List.size_toArray,x01];exact SKd) rfl (all_oneCell_toArray Kd.one) ?_))
 refine x0F 8 9 (by kernel_rfl) (w.heap.size+1) _ kd0.cells.toArray _ K.out C.out (by rw [List.size_toArray,x01];exact SKd) (by rfl) (by rfl) (setRow_heap _ _ _ _ _ _ I.out) ?_
 exact ⟨rfl,a.out.trans (Below.setRow (Below.refl _ _) (by omega) _)⟩
def y3r (w:World) (Q:Nat→Prop) (o:Option (List St×St)) (e:Ending) (w':World):Prop:=Below w.heap.size w w'∧
 (o=none→e= .returned (.tuple #[.slice none 0 0,.int .i64 21]))∧(∀L s,o=some (L,s)→∃q c A bw,e= .returned (.tuple #[.slice q A.length c,.int .i64 0])∧WaySt w.heap.size bw w' (.slice q A.length c) A∧Links A (L++[s])∧∀m∈A,∀j,m.reads j→¬Q j)
theorem y4p {gs d:Nat} {Q:Nat→Prop} {s:Pg.S} (hd:1≤d∧d≤8) (hW:x4J d s.W) (u:V) (k:Kd) (r:Rw) (w:World) (hp:PL w gs Q s) (hs:Sees s.W d u) (hk:k.Ok w) (he:k.pk=u.kid) (hr:r.Ok w) (hrd:r.n=d) (hz:u.kid.size≤90000) (hka:Aw Q k) (hra:∀y,r.p=some y→r.R≠[]→¬Q y.block):
  Calls Tryz.prog 53 #[.agg #[.pointer (some ⟨gs,0,none⟩),.int .i64 d],.agg k.cells.toArray,r.val] w (y3r w Q (wayV d r.R u 0)):=by
 obtain ⟨W,v,z,l,b1⟩:=x0u w (.cells #[.pointer (some ⟨gs,0,none⟩),.int .i64 d] 91) (.cells k.cells.toArray 34)
 have b2:Below W.heap.size W (W.alloc (.cells #[r.val] 24)):=(Below.refl _ _).alloc (Nat.le_refl _) _
 have hb:x2J d [r]=true:=by
  unfold x2J
  rw [decide_eq_true (by omega)]
  simp [hrd]
 have i:=yH (x3S (some ⟨gs,0,none⟩) d _ 1 1 [r] _ (y30 (hr.later b1)) (by omega))
 rw [hb] at i
 have R0:=yH (x09 z)
 have A5:=yH z
 have AG:=yH l
 have B2:=yH b2
 have B1:=yH b1
 have q:=yH (show w.heap.size+2≤W.heap.size from (yL l))
 have o:=yH (fun (w':World) (hx:Below W.heap.size W w') (bw:Nat) (hbw:W.heap.size≤bw) (hbox:w'.heap[bw]? =some (.cells #[.slice none 0 0] 93 (0,0)))=>x6l (gs:=gs) (B:=w.heap.size) (bw:=bw) hd hW r hrd u k (w.heap.size+1) 0 w' Q (.slice none 0 0) [] (hp.keep (fun _=>False) (Only.of_below _ (b1.trans (hx.mono b1.size))) (fun _ _ e=>e)) hs (hk.later (b1.trans (hx.mono b1.size))) (x02 (x0E l) hx) he (fun x hx1 y hy hR=>⟨by have:=rw_lt (x05 hk x hx1) y hy hR;have:=b1.size;omega,(fun e=>by cases e),(fun a ha=>by cases ha)⟩) ⟨hbox,World.ownsRow_nil _ _ _ _,(fun e=>by cases e),⟨(fun m hm=>by cases hm),(fun m hm=>by cases hm),List.Pairwise.nil⟩,(fun m hm=>by cases hm),Nat.le_trans b1.size hbw⟩ (Nat.le_trans b1.size hx.size) (hr.later (b1.trans (hx.mono b1.size))) (fun y hy hR=>⟨by have:=rw_lt hr y hy hR;have:=b1.size;omega,(fun e=>by cases e),(fun a ha=>by cases ha)⟩) (fun e=>by have:=hp.lt _ e;have:=b1.size;omega) (fun j e=>by cases e) hka hra (by simp;omega))
 obtain ⟨rp,rn,rc,rR⟩:=r
 unfold Rw.val at i B2 o ⊢
 simp only at i B2 o ⊢
 obtain ⟨du,N,M⟩:=UTr
 have H:=yH N
 have I:=yH M
 generalize G:wayV d rR u 0=O at *
 have t:=yH (show O=none∨∃L s,O=some (L,s) from by
  cases O with
  | none=>exact Or.inl rfl
  | some x=>exact Or.inr ⟨x.1,x.2,rfl⟩)
 clear G hd hW hp hs hk he hr hrd hz hka hra hb z l b1 b2 N M
 go_enter Tryz.func53,Tryz.ntmps53
 go_upto_region 1 with fail
 clear v
 go_upto_region 4 with (first
  | (refine wpList_load_mid (by rfl) 91 _ (by rfl) w.heap.size 0 (by rfl) [.pointer (some ⟨gs,0,none⟩),.int .i64 d] du R0.out H.out I.out STr ?_)
  | (go_at_call 72;refine i.out.mono ?_;rintro _ E ⟨rfl,b3⟩;have g:=yH (B2.out.trans (b3.mono B2.out.size));clear b3))
 have c:Below E.heap.size E (E.alloc (.cells #[.slice none 0 0] 93)):=(Below.refl _ _).alloc (Nat.le_refl _) _
 have K:=heap_alloc_new E (.cells #[.slice none 0 0] 93)
 generalize E.alloc (.cells #[.slice none 0 0] 93)=w4 at *
 have B4:=yH (g.out.trans (c.mono g.out.size))
 have R4:=yH (x09 (yK B4.out A5.out))
 have Z:=yH (o.out w4 B4.out E.heap.size g.out.size K)
 have C:=yH (B1.out.trans (B4.out.mono B1.out.size))
 have b:=yH (show w.heap.size≤E.heap.size from by have:=g.out.size;have:=q.out;omega)
 clear c K o
 rcases t.out with G | ⟨L,s',G⟩
 ·subst G
  go_wp2_with (first
   | (refine wpList_load_mid (by rfl) 91 _ (by rfl) w.heap.size 0 (by rfl) [.pointer (some ⟨gs,0,none⟩),.int .i64 d] du R4.out H.out I.out STr ?_)
   | (go_at_call 106;refine Z.out.mono ?_;rintro _ w5 ⟨J,hn,-⟩;obtain rfl:=hn rfl;have HO:=yH J;clear J hn))
  go_ret2
  exact ⟨C.out.trans (HO.out.below C.out.size (fun k e=>e.elim (fun e=>by have:=b.out;omega) (fun e=>by cases e))),(fun _=>rfl),(fun L s' h=>by cases h)⟩
 ·have X:=yH G
  go_upto_region 5 with (first
   | (refine wpList_load_mid (by rfl) 91 _ (by rfl) w.heap.size 0 (by rfl) [.pointer (some ⟨gs,0,none⟩),.int .i64 d] du R4.out H.out I.out STr ?_)
   | (go_at_call 106;refine Z.out.mono ?_;rintro _ w5 ⟨J,-,f⟩;obtain ⟨rfl,v',A',Y,U,-,P⟩:=f L s' G;have A4:=yH P;clear P;have HO:=yH J;have A:=yH Y;have A0:=yH U;clear J f Y U))
  clear G
  rw [List.nil_append] at A
  obtain ⟨q5,c5,rfl⟩:=x1E A.out.own
  have cb:=cell_of_row w5 E.heap.size 0 _ _ _ A.out.box
  go_wp2_with fail
  go_ret2
  refine ⟨C.out.trans (HO.out.below C.out.size (fun k e=>e.elim (fun e=>by have:=b.out;omega) (fun e=>by cases e))),fun h=>(by rw [X.out] at h;cases h),fun L2 s2 h=>?_⟩
  rw [X.out] at h
  simp only [Option.some.injEq,Prod.mk.injEq] at h
  obtain ⟨rfl,rfl⟩:=h
  exact ⟨q5,c5,A',E.heap.size,rfl,A.out,A0.out,A4.out⟩
theorem x3a {B bw:Nat} {w:World} {q:Option Addr} {c:Nat} {A:List MSt} (h:WaySt B bw w (.slice q A.length c) A) (hA:A≠[]):∃g,q=some ⟨g,0,none⟩∧A.length≤c∧∀i,i<A.length→w.rangeAt g (i*41) (A.getD i default).cells:=by
 have H:∀m∈A,m.cells.length=41:=fun m hm=>MSt.cells_length (h.way.each m hm).kid.len
 rcases h.own.2 with ⟨C,I⟩ | ⟨g,M,J,C,_,_,K,_⟩
 ·exact absurd (List.length_eq_zero_iff.1 I) hA
 ·simp only [Value.slice.injEq,true_and] at C
  obtain ⟨rfl,rfl⟩:=C
  refine ⟨g,rfl,K,fun i hi j u hu=>?_⟩
  have G:=x8T (L:=A) H i j u hi hu
  have E:=(List.getElem?_eq_some_iff.1 G).1
  rw [World.ownsRow.cellAt h.own (i*41+j) (by rw [← h.own.1];exact E),G]
theorem x39 (m:MSt) (h:m.kid.sum.length=32):m.cells[37]? =some (.int .u8 1)∧m.cells[38]? =some (.slice (some ⟨m.ge,0,none⟩) 1 m.ce)∧m.cells[39]? =some (.slice (some ⟨m.gk,0,none⟩) 2 m.ck)∧m.cells[40]? =some (.int .i64 m.sideN):=by
 have A:=Kd.cells_length h
 unfold MSt.cells
 refine ⟨?_,?_,?_,?_⟩<;>(rw [List.getElem?_append_right (by rw [A];omega),A];rfl)
theorem y36 {B bw:Nat} {w:World} {q:Option Addr} {c:Nat} {A:List MSt} {m:MSt} (h:WaySt B bw w (.slice q (A++[m]).length c) (A++[m])) (hA:A.length≤100000):
  Calls Tryz.prog 54 #[.slice q (A++[m]).length c] w fun e w'=>e= .returned (.bool m.live)∧w'=w:=by
 obtain ⟨g,rfl,K,I⟩:=x3a h (by simp)
 have G:=h.way.each m (by simp)
 have H:=I A.length (by simp)
 have E:(A++[m]).getD A.length default=m:=by simp
 rw [E] at H
 have L:w.cell? ⟨g,A.length*41+38,none⟩=some (.slice (some ⟨m.ge,0,none⟩) 1 m.ce):=H 38 _ (x39 m G.kid.len).2.1
 have J:w.cell? ⟨m.ge,1,none⟩=some (.bool m.live):=by have:=G.ent 1 _ rfl;simpa using this
 have C:(A++[m]).length=A.length+1:=by simp
 rw [C] at K ⊢
 generalize A.length=n at *
 have M:IntKind.i64.wrap (((n+1:Nat):Int) - 1)=(n:Int):=by rw [IntWalk.i64_in _ (by omega)];omega
 have N:(0:Int)≤n∧(n:Int)<((n+1:Nat):Int):=by omega
 clear h I H G E C
 go_enter Tryz.func54,Tryz.ntmps54
 go_wp2_with fail
 go_ret
 exact ⟨rfl,rfl⟩
end Go.Proofs.YtinihaflmdihaaaGreat.Kt
namespace Go.Proofs.YtinihaflmdihaaaGreat.Kt
open Go.RowKit Go.Proofs.YtinihaflmdihaaaGreat.Nd Go.Proofs.YtinihaflmdihaaaGreat.Pg
attribute [local go_sem] Oper.semAt_some
theorem x42 {F:Fence} {m:Nat} {w:World} {ops:Array Oper} {rest:List Oper} {o:Oper} {a:Act} {Q:Exit→Act→World→Prop} (hg:o.guard=none) (ty:TypeId) (x:Operand) (ho:o.op= .load ty x)
  (b i:Nat) (hx:a.eval x= .pointer (some ⟨b,i,none⟩)) (cs:List Value) (d:TypeDesc) (hc:w.rangeAt b i cs)
  (hu:Tryz.prog.underlying ty=some d) (hd:d.isRow=true) (hi:(Tryz.prog.info? ty).map (·.size)=some cs.length)
  (hk:wpListIn F m Tryz.prog ops Q rest (a.put o.dst (.agg cs.toArray)) w):wpListIn F m Tryz.prog ops Q (o::rest) a w:=by
 refine wpListIn_plain hg fun K hK=>?_
 unfold Oper.wpIn
 refine ⟨by simp [Oper.about,ho],?_⟩
 rw [Oper.semAt_plain F _ _ (by rw [ho];intro c hc';cases hc'),x0A ty x ho b i hx cs d hc hu hd hi]
 exact hK _ _ hk
def x0P (A:List MSt) (j:Nat):MSt:=A.getD (A.length - 1 - j) default
def KpB (Bs g:Nat) (W W':World):Prop:=W'.heap[Bs]? =W.heap[Bs]? ∧W'.heap[g]? =W.heap[g]?
def encB (A:List MSt) (j:Nat):Array Value:= #[.int .i64 ((A.length:Int) - 1 - j),.agg (x0P A j).cells.toArray]
theorem y37 (m l Bs g c:Nat) (p:Option Addr) (A:List MSt) (hA:A.length≤100000) (hp:A≠[]→p=some ⟨g,0,none⟩∧A.length≤c) (h41:∀m∈A,m.cells.length=41) (J Jx:List Nat→World→Prop) (B0:Nat) (hJa:AbidesFrom B0 J)
  (hY:∀pre x W,J pre W→pre.length<A.length→YieldAt Fence.wide (m - 1) Tryz.prog l (encB A x) W fun e W'=>
   (e= .returned (.bool true)∧J (pre++[x]) W'∧KpB Bs g W W')∨(e= .returned (.bool false)∧Jx (pre++[x]) W'))
  (W:World) (hBs:W.cell? ⟨Bs,0,none⟩=some (.slice p A.length c)) (hx:∀i,i<A.length→W.rangeAt g (i*41) (A.getD i default).cells) (h0:J [] W):
  CallsIn Fence.wide m Tryz.prog 153 #[.func (.yield l) #[] #[],.pointer (some ⟨Bs,0,none⟩)] W fun e W'=>(∃v,e= .returned v)∧
   ((∃ys,ys=List.range A.length∧J ys W')∨(∃pre,True∧Jx pre W')):=by
 obtain ⟨n,R⟩:∃n,n=A.length:=⟨_,rfl⟩
 rw [← R] at hBs hx hA
 have M:=yH R
 clear R
 have q0:IntKind.i64.wrap ((n:Int) - 1)=(n:Int) - 1:=IntWalk.i64_in _ (by omega)
 obtain ⟨d,U,Y⟩:=USp
 refine callsIn_of_wp Tryz.func153 rfl trivial ?_ rfl
 simp only [Tryz.ntmps153,List.size_toArray,List.length_cons,List.length_nil,Nat.reduceAdd,Nat.reduceSub,Array.replicate_succ,Array.replicate_zero,List.push_toArray,List.append_toArray,List.nil_append,List.cons_append]
 gi_wp2
 gi_loopw [3] (fun i wr=>∃j:Nat,j≤n∧i= .int .i64 ((n:Int) - 1 - j)∧J (List.range j) wr∧KpB Bs g W wr)
  (fun i _=>(intOf i+1).toNat)
 case atStart=>exact ⟨0,Nat.zero_le _,by simp,h0,rfl,rfl⟩
 case round=>
  obtain ⟨j,hj,rfl,z,P⟩:=hrel
  have q:=yH z
  have f:=yH P
  have cs:=(World.cell?_of_block (w:=W) (a:=⟨Bs,0,none⟩) P.1).trans hBs
  have HX:=yH (fun i (hi:i<n)=>(show wr.rangeAt g (i*41) (A.getD i default).cells from fun t u hu=>(World.cell?_of_block (w:=W) (a:=⟨g,i*41+t,none⟩) P.2).trans (hx i hi t u hu)))
  clear z P
  by_cases hlt:j<n
  ·obtain ⟨k,X⟩:∃k:Nat,k=n - 1 - j:=⟨_,rfl⟩
   have Z:(n:Int) - 1 - j=(k:Int):=by omega
   have H:k<n:=by omega
   rw [Z]
   obtain ⟨rfl,A2⟩:=hp (fun e=>by have:=M.out;rw [e] at this;simp at this;omega)
   have i0:(0:Int)≤(k:Int):=by omega
   have i1:(k:Int)<(n:Int):=by omega
   have i2:IntKind.i64.wrap ((k:Int) - 1)=(k:Int) - 1:=IntWalk.i64_in _ (by omega)
   have r:=yH (HX.out k H)
   have s:=yH (h41 (A.getD k default) (by
    rw [List.getD_eq_getElem?_getD,List.getElem?_eq_getElem (by rw [← M.out];exact H)]
    exact List.getElem_mem _))
   have L:=yH (show (Tryz.prog.info? 101).map (·.size)=some (A.getD k default).cells.length from by rw [s.out];exact SSp)
   obtain ⟨fn,o,O,y,b,hR⟩:=hY (List.range j) j wr q.out (by rw [List.length_range,← M.out];exact hlt)
   have I:encB A j= #[.int .i64 (k:Int),.agg (A.getD k default).cells.toArray]:=by
    unfold encB x0P
    rw [← M.out,Z,← X]
   obtain ⟨C,B⟩:∃C,C=(A.getD k default).cells:=⟨_,rfl⟩
   rw [I,← B] at b
   have HKE:=yH X
   have Q:=yH (show wr.rangeAt g (k*41) C from by rw [B];exact r.out)
   have G:=yH (show (Tryz.prog.info? 101).map (·.size)=some C.length from by rw [B];exact L.out)
   clear I Z X B r L s
   gi_wp2_with (first | (refine x42 (by rfl) 101 (.tmp 15) (by rfl) g (k*41) (by rfl) C d Q.out U Y G.out ?_) | gi_in)
   refine ⟨fun h=>(by cases h),hR.mono ?_⟩
   rintro _ W3 (⟨rfl,N,E⟩ | ⟨rfl,K⟩)
   ·have HJ3:=yH N
    have HK3:=yH (show KpB Bs g W W3 from ⟨E.1.trans f.out.1,E.2.trans f.out.2⟩)
    clear N E b
    gi_wp2
    go_roundw
    case rel=>exact ⟨j+1,by omega,by have:=HKE.out;(first | rw [i2] | skip);congr 1;omega,by rw [List.range_succ];exact HJ3.out,HK3.out⟩
    case measure=>(try rw [i2]);simp [intOf]
   ·gi_wp2
    refine bodyPost_ret (results_none rfl _ _ _) rfl ?_
    exact ⟨⟨_,rfl⟩,.inr ⟨_,trivial,K⟩⟩
  ·obtain rfl:j=n:=by omega
   have l1:¬(0:Int)≤(j:Int) - 1 - j:=by omega
   gi_wp2
   go_end0
   exact ⟨⟨_,rfl⟩,.inl (by rw [← M.out];exact q.out)⟩
theorem x65 (m Bs g c:Nat) (p:Option Addr) (A:List MSt) (hA:A.length≤100000) (hp:A≠[]→p=some ⟨g,0,none⟩∧A.length≤c) (h41:∀m∈A,m.cells.length=41) (w:World) (hBs:w.cell? ⟨Bs,0,none⟩=some (.slice p A.length c)) (hx:∀i,i<A.length→w.rangeAt g (i*41) (A.getD i default).cells):
  SeqStopsK Fence.wide m Tryz.prog 153 #[.pointer (some ⟨Bs,0,none⟩)] (encB A) (KpB Bs g) (fun ys=>ys=List.range A.length) (fun _=>True) A.length w:=fun l J Jx W hW hJ _ hY h0=>
 y37 m l Bs g c p A hA hp h41 J Jx _ hJ hY W ((hW.cell (p:=⟨Bs,0,none⟩) (block_lt_of_cell hBs)).trans hBs) (fun i hi j u hu=>(hW.cell (block_lt_of_cell (hx i hi j u hu))).trans (hx i hi j u hu)) h0
theorem x8z (v:Value) (hv:v.oneCell'=true) (w:World):
  Calls Tryz.prog 107 #[v] w fun e w'=>e= .returned (.func (.func 153) #[] #[.pointer (some ⟨w.heap.size,0,none⟩)])∧w'=w.alloc (.cells #[v] 93):=by
 go_enter Tryz.func107,Tryz.ntmps107
 go_wp2_with fail
 go_ret
 exact ⟨rfl,rfl⟩
end Go.Proofs.YtinihaflmdihaaaGreat.Kt
