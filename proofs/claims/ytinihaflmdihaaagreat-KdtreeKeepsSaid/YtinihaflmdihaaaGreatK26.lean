/- KdDownV, KdWrong, KdWayV, KdBack. -/
import Derived.RangeFuncNested
import Derived.RangeFuncBound
import Derived.RangeFuncCalls
import Derived.RangeFuncLeaves
import Derived.WalkKit
import Derived.OwnWalkIn
import Derived.TacticsInMore
import Derived.LoopNIn
import Derived.LoopIn
import Derived.Test.YtinihaflmdihaaaGreatK25
set_option maxRecDepth 100000
set_option maxHeartbeats 8000000
set_option linter.all false
namespace Go.Proofs.YtinihaflmdihaaaGreat.Kt
open Go.RowKit Go.Proofs.YtinihaflmdihaaaGreat.Nd Go.Proofs.YtinihaflmdihaaaGreat.Dk Go.Proofs.YtinihaflmdihaaaGreat.Pg
def WayTold (B bw:Nat) (w:World) (v:Value) (A:List MSt) (Q:Nat→Prop) (o:Option (List St×St)) (e:Ending) (w':World):Prop:=Only (fun k=>k=bw∨v.ownBlock=some k) w w'∧
 (o=none→e= .returned (.int .i64 21))∧(∀L s,o=some (L,s)→e= .returned (.int .i64 0)∧∃v' A',WaySt B bw w' v' (A++A')∧Links A' (L++[s])∧(v'.ownBlock=v.ownBlock∨∃k,v'.ownBlock=some k∧w.heap.size≤k)∧∀m∈A',∀j,m.reads j→¬Q j)
theorem only_way {bw:Nat} {v v':Value} {w w1 w2:World} (h1:Only (fun k=>k=bw∨v.ownBlock=some k) w w1) (h2:Only (fun k=>k=bw∨v'.ownBlock=some k) w1 w2) (hv:v'.ownBlock=v.ownBlock∨∃k,v'.ownBlock=some k∧w.heap.size≤k):Only (fun k=>k=bw∨v.ownBlock=some k) w w2:=
 ⟨h2.os.trans h1.os,h2.tape.trans h1.tape,h2.output.trans h1.output,Nat.le_trans h1.size h2.size,fun k hk hn=>(h2.block k (Nat.lt_of_lt_of_le hk h1.size) (fun e=>e.elim (fun e=>hn (Or.inl e)) (fun e=>by
  rcases hv with h | ⟨j,h,hj⟩
  ·exact hn (Or.inr (h.symm.trans e))
  ·rw [h] at e
   have:=Option.some.inj e
   omega))).trans (h1.block k hk hn)⟩
theorem down_end {g bw ga oa:Nat} {d err:Int} {p:Rw} {w:World} {P:World→Prop} (hm:∀w',Below w.heap.size w w'→Calls Tryz.prog 152 #[.agg #[.pointer (some ⟨g,0,none⟩),.int .i64 d],.pointer (some ⟨bw,0,none⟩),.pointer (some ⟨ga,oa,none⟩),p.val] w' fun e w''=>e= .returned (.tuple #[.pointer none,.int .i64 err])∧P w''):
  Calls Tryz.prog 106 #[.agg #[.pointer (some ⟨g,0,none⟩),.int .i64 d],.pointer (some ⟨bw,0,none⟩),.pointer (some ⟨ga,oa,none⟩),p.val] w fun e w'=>e= .returned (.int .i64 err)∧P w':=by
 have b1:Below w.heap.size w (w.alloc (.cells #[.pointer (some ⟨g,0,none⟩),.int .i64 d] 91)):=(Below.refl _ _).alloc (Nat.le_refl _) _
 have r1:=heap_alloc_new w (.cells #[.pointer (some ⟨g,0,none⟩),.int .i64 d] 91)
 have HG:=yH (hm _ b1)
 have R1:=yH (range_tr r1)
 obtain ⟨pp,pn,pc,pR⟩:=p
 unfold Rw.val at HG ⊢
 simp only at HG ⊢
 obtain ⟨du,hdu,hdr⟩:=UTr
 have HDU:=yH hdu
 have HDR:=yH hdr
 clear hm b1 r1 hdu hdr
 go_enter Tryz.func106,Tryz.ntmps106
 go_upto_region 1 with fail
 generalize w.alloc (.cells #[.pointer (some ⟨g,0,none⟩),.int .i64 d] 91)=w1 at *
 go_wp2_with (first
  | (refine wpList_load_mid (by rfl) 91 _ (by rfl) w.heap.size 0 (by rfl) [.pointer (some ⟨g,0,none⟩),.int .i64 d] du R1.out HDU.out HDR.out STr ?_)
  | (go_at_call 152;refine HG.out.mono ?_;rintro _ w3 ⟨rfl,hp3⟩;have HP3:=yH hp3;clear hp3))
 go_ret
 exact ⟨rfl,HP3.out⟩
theorem down_on {g bw ga oa:Nat} {d:Int} {p:Rw} {w:World} {P:Nat→Nat→World→World→Prop} {R:Ending→World→Prop} (hm:∀w',Below w.heap.size w w'→Calls Tryz.prog 152 #[.agg #[.pointer (some ⟨g,0,none⟩),.int .i64 d],.pointer (some ⟨bw,0,none⟩),.pointer (some ⟨ga,oa,none⟩),p.val] w' fun e w''=>∃gb ob,e= .returned (.tuple #[.pointer (some ⟨gb,ob,none⟩),.int .i64 0])∧P gb ob w' w'')
  (hk:∀gb ob w' w'',Below w.heap.size w w'→P gb ob w' w''→(∀b,w.heap.size≤b→b<w'.heap.size→b≠bw→w''.heap[b]? =w'.heap[b]?)∧Calls Tryz.prog 106 #[.agg #[.pointer (some ⟨g,0,none⟩),.int .i64 d],.pointer (some ⟨bw,0,none⟩),.pointer (some ⟨gb,ob,none⟩),p.val] w'' fun e w3=>∃err:Int,e= .returned (.int .i64 err)∧R e w3) (hbw:bw<w.heap.size):
  Calls Tryz.prog 106 #[.agg #[.pointer (some ⟨g,0,none⟩),.int .i64 d],.pointer (some ⟨bw,0,none⟩),.pointer (some ⟨ga,oa,none⟩),p.val] w R:=by
 have b1:Below w.heap.size w (w.alloc (.cells #[.pointer (some ⟨g,0,none⟩),.int .i64 d] 91)):=(Below.refl _ _).alloc (Nat.le_refl _) _
 have r1:=heap_alloc_new w (.cells #[.pointer (some ⟨g,0,none⟩),.int .i64 d] 91)
 have HG:=yH (hm _ b1)
 have HKK:=yH (fun gb ob w''=>hk gb ob _ w'' b1)
 have R1:=yH (range_tr r1)
 have R1h:=yH r1
 have HBW:=yH hbw
 obtain ⟨pp,pn,pc,pR⟩:=p
 unfold Rw.val at HG HKK ⊢
 simp only at HG HKK ⊢
 obtain ⟨du,hdu,hdr⟩:=UTr
 have HDU:=yH hdu
 have HDR:=yH hdr
 clear hm hk hbw b1 r1 hdu hdr
 go_enter Tryz.func106,Tryz.ntmps106
 go_upto_region 1 with fail
 generalize w.alloc (.cells #[.pointer (some ⟨g,0,none⟩),.int .i64 d] 91)=w1 at *
 go_upto_region 2 with (first
  | (refine wpList_load_mid (by rfl) 91 _ (by rfl) w.heap.size 0 (by rfl) [.pointer (some ⟨g,0,none⟩),.int .i64 d] du R1.out HDU.out HDR.out STr ?_)
  | (go_at_call 152;refine HG.out.mono ?_;rintro _ w3 ⟨gb,ob,rfl,hp3⟩;have HP3:=yH (HKK.out gb ob w3 hp3);clear hp3))
 have R3:=yH (range_tr ((HP3.out.1 w.heap.size (Nat.le_refl _) (yL R1h.out) (by have:=HBW.out;omega)).trans R1h.out))
 go_wp2_with (first
  | (refine wpList_load_mid (by rfl) 91 _ (by rfl) w.heap.size 0 (by rfl) [.pointer (some ⟨g,0,none⟩),.int .i64 d] du R3.out HDU.out HDR.out STr ?_)
  | (go_at_call 106;refine HP3.out.2.mono ?_;rintro _ w4 ⟨err,rfl,hr4⟩;have HR4:=yH hr4;clear hr4))
 exact HR4.out
theorem aside_on {B bw:Nat} {w:World} {v:Value} {A:List MSt} {m:MSt} (h:WaySt B bw w v (A++[m])) {r:Rw} (hr:r∈m.rows):AsideR bw v (A++[m]) r:=fun x hx hR=>by
 have hrd:m.reads x.block:=Or.inr (Or.inr ⟨r,hr,x,hx,hR,rfl⟩)
 obtain ⟨h1,h2⟩:=h.aside m (by simp) _ hrd
 refine ⟨h1,h2,fun a ha=>?_⟩
 rcases List.mem_append.1 ha with ha | ha
 ·have hp:=(List.pairwise_append.1 h.way.part).2.2 a ha m (by simp)
  exact ⟨fun e=>hp.2 ⟨_,hrd,Or.inl e⟩,fun e=>hp.2 ⟨_,hrd,Or.inr e⟩⟩
 ·rw [List.mem_singleton.1 ha]
  exact (h.way.each m (by simp)).apart r hr x hx hR
theorem aside_more {bw:Nat} {v v':Value} {A:List MSt} {m:MSt} {r:Rw} {w:World} (h:AsideR bw v A r) (hr:r.Ok w) (hv:v'.ownBlock=v.ownBlock∨∃k,v'.ownBlock=some k∧w.heap.size≤k) (hm:w.heap.size≤m.ge∧w.heap.size≤m.gk):AsideR bw v' (A++[m]) r:=fun x hx hR=>by
 obtain ⟨h1,h2,h3⟩:=h x hx hR
 have hlt:=rw_lt hr x hx hR
 refine ⟨h1,fun e=>?_,fun a ha=>?_⟩
 ·rcases hv with h | ⟨k,h,hk⟩
  ·exact h2 (h.symm.trans e)
  ·rw [h] at e
   have:=Option.some.inj e
   omega
 ·rcases List.mem_append.1 ha with ha | ha
  ·exact h3 a ha
  ·rw [List.mem_singleton.1 ha]
   omega
theorem down_any {gs d B bw:Nat} {s:Pg.S} (hd:1≤d∧d≤8) (hW:TextsK d s.W) (p:Rw) (hpd:p.n=d):∀(u:V) (k:Kd) (ga oa:Nat) (w:World) (Q:Nat→Prop) (v:Value) (A:List MSt),PL w gs Q s→Sees s.W d u→k.Ok w→w.rangeAt ga oa k.cells→k.pk=u.kid→(∀x∈k.rows,AsideR bw v A x)→WaySt B bw w v A→B≤w.heap.size→p.Ok w→AsideR bw v A p→¬Q bw→(∀j,v.ownBlock=some j→¬Q j)→Aw Q k→(∀y,p.p=some y→p.R≠[]→¬Q y.block)→(A.length:Int)+u.kid.size≤90000→
  Calls Tryz.prog 106 #[.agg #[.pointer (some ⟨gs,0,none⟩),.int .i64 d],.pointer (some ⟨bw,0,none⟩),.pointer (some ⟨ga,oa,none⟩),p.val] w (WayTold B bw w v A Q (wayV d p.R u A.length))
 | .nil,k,ga,oa,w,Q,v,A,hp,hs,hk,hr,he,hka,hw,hB,hpo,hpa,hq1,hq2,hq3,hq4,hz=>by
  have hz':A.length≤100000:=by have:(V.nil).kid.size=0:=rfl;omega
  have h:=down_end (g:=gs) (bw:=bw) (ga:=ga) (oa:=oa) (d:=(d:Int)) (err:=0) (p:=p) (w:=w) (P:=fun w''=>∃m,Met B bw w v A ⟨p.R,false,.nil,.nil,false,.nil⟩ [p] w'' m) (fun w' hb=>by
   refine (meet_nil (d:Int) ga oa p w' (getSays_nil (hk.later hb) (range_later hr hb) he) (hw.later hb) (Nat.le_trans hB hb.size) (hpo.later hb) hpa hz').mono ?_
   rintro e w'' ⟨rfl,m,v',h1,h2,h3,h4,h5,h6,h7⟩
   refine ⟨rfl,m,v',h1,h2,(Only.of_below _ hb).trans h3,h4.imp id (fun ⟨k,e,hk⟩=>⟨k,e,Nat.le_trans hb.size hk⟩),Nat.le_trans hb.size h5,Nat.le_trans hb.size h6,fun j hj=>(h7 j hj).imp (fun h=>Nat.le_trans hb.size h) id⟩)
  refine h.mono ?_
  rintro e w' ⟨rfl,m,v',h1,h2,h3,h4,-,-,h7⟩
  refine ⟨h3,(fun h=>by cases h),fun L s' hl=>?_⟩
  have hl:some ([],(⟨p.R,false,.nil,.nil,false,.nil⟩:St))=some (L,s'):=hl
  simp only [Option.some.injEq,Prod.mk.injEq] at hl
  obtain ⟨rfl,rfl⟩:=hl
  exact ⟨rfl,v',[m],h1,.cons h2 .nil,h4,fun x hx j hj hQ=>by
   rw [List.mem_singleton.1 hx] at hj
   rcases h7 j hj with e | ⟨r,hr',y,hy,hR,rfl⟩
   ·have:=hp.lt j hQ;omega
   ·rw [List.mem_singleton.1 hr'] at hy hR
    exact hq4 y hy hR hQ⟩
 | .bad kk,k,ga,oa,w,Q,v,A,hp,hs,hk,hr,he,hka,hw,hB,hpo,hpa,hq1,hq2,hq3,hq4,hz=>by
  have he':k.pk=kk:=he
  subst he'
  have h:=down_end (g:=gs) (bw:=bw) (ga:=ga) (oa:=oa) (d:=(d:Int)) (err:=21) (p:=p) (w:=w) (P:=fun w''=>Below w.heap.size w w'') (fun w' hb=>by
   refine (meet_bad (g:=gs) (d:Int) ga oa (some ⟨bw,0,none⟩) p.p p.n p.c w' (getSays_bad (hk.later hb) (range_later hr hb) hs.1 ((node_bad hp hW hk hs).later hb))).mono ?_
   rintro e w'' ⟨rfl,hb2⟩
   exact ⟨rfl,hb.trans (hb2.mono hb.size)⟩)
  refine h.mono ?_
  rintro e w' ⟨rfl,hb⟩
  exact ⟨Only.of_below _ hb,(fun _=>rfl),(fun L s hl=>by cases hl)⟩
 | .fork q lv l r,k,ga,oa,w,Q,v,A,hp,hs,hk,hr,he,hka,hw,hB,hpo,hpa,hq1,hq2,hq3,hq4,hz=>by
  have hsz:(V.fork q lv l r).kid.size=1+(l.kid.size+r.kid.size):=fork_size q lv l.kid r.kid
  have hz1:=sees_size hs.2.2.1
  have hz2:=sees_size hs.2.2.2
  have hqd:q.length=d:=by
   have:=(right_split hs.1.right).2.2.1 ⟨q,lv⟩ (by simp [forkN])
   simp only at this
   omega
  have hgd:=node_good hp hk he hs
  have hfar:∀m,FarK k.rows w m→∀j,m.reads j→¬Q j:=fun m h7 j hj hQ=>by
   rcases h7 j hj with e | ⟨r,hr',y,hy,hR,rfl⟩
   ·have:=hp.lt j hQ;omega
   ·exact hq3 r hr' y hy hR hQ
  have hmeet:∀w',Below w.heap.size w w'→Calls Tryz.prog 152 #[.agg #[.pointer (some ⟨gs,0,none⟩),.int .i64 d],.pointer (some ⟨bw,0,none⟩),.pointer (some ⟨ga,oa,none⟩),p.val] w' fun e w''=>∃m,Met B bw w v A ⟨q,lv,l,r,decide (0<ordC (A.length%d) p.R q),.fork q lv l r⟩ k.rows w'' m∧Met B bw w' v A ⟨q,lv,l,r,decide (0<ordC (A.length%d) p.R q),.fork q lv l r⟩ k.rows w'' m∧e= .returned (.tuple #[onTo (ordC (A.length%d) p.R q) m,.int .i64 0]):=fun w' hb=>by
   refine (meet_fork hd k ga oa p w' (hgd.later hb) he (by rw [he];omega) (hk.later hb) (range_later hr hb) hka (hw.later hb) (Nat.le_trans hB hb.size) (hpo.later hb) hpd hqd (by omega)).mono ?_
   rintro e w'' ⟨m,⟨v',h1,h2,h3,h4,h5,h6,h7⟩,he⟩
   exact ⟨m,⟨v',h1,h2,(Only.of_below _ hb).trans h3,h4.imp id (fun ⟨k,e,hk⟩=>⟨k,e,Nat.le_trans hb.size hk⟩),Nat.le_trans hb.size h5,Nat.le_trans hb.size h6,fun j hj=>(h7 j hj).imp (fun h=>Nat.le_trans hb.size h) id⟩,⟨v',h1,h2,h3,h4,h5,h6,h7⟩,he⟩
  have hwv:wayV d p.R (.fork q lv l r) A.length=(if ordC (A.length%d) p.R q=0 then some ([],⟨q,lv,l,r,false,.fork q lv l r⟩)
   else if 0<ordC (A.length%d) p.R q then (wayV d p.R r (A.length+1)).map fun x=>(⟨q,lv,l,r,true,.fork q lv l r⟩::x.1,x.2)
   else (wayV d p.R l (A.length+1)).map fun x=>(⟨q,lv,l,r,false,.fork q lv l r⟩::x.1,x.2)):=rfl
  rw [hwv]
  by_cases h0:ordC (A.length%d) p.R q=0
  ·have hdec:decide (0<ordC (A.length%d) p.R q)=false:=decide_eq_false (by omega)
   rw [if_pos h0]
   have h:=down_end (g:=gs) (bw:=bw) (ga:=ga) (oa:=oa) (d:=(d:Int)) (err:=0) (p:=p) (w:=w) (P:=fun w''=>∃m,Met B bw w v A ⟨q,lv,l,r,false,.fork q lv l r⟩ k.rows w'' m) (fun w' hb=>by
    refine (hmeet w' hb).mono ?_
    rintro e w'' ⟨m,hm,-,rfl⟩
    rw [hdec] at hm
    exact ⟨by unfold onTo;rw [if_pos h0],m,hm⟩)
   refine h.mono ?_
   rintro e w' ⟨rfl,m,v',h1,h2,h3,h4,-,-,h7⟩
   refine ⟨h3,(fun h=>by cases h),fun L s' hl=>?_⟩
   simp only [Option.some.injEq,Prod.mk.injEq] at hl
   obtain ⟨rfl,rfl⟩:=hl
   exact ⟨rfl,v',[m],h1,.cons h2 .nil,h4,fun x hx j hj hQ=>by
    rw [List.mem_singleton.1 hx] at hj
    exact hfar m h7 j hj hQ⟩
  ·rw [if_neg h0]
   -- which kid it is,told once
   obtain ⟨sd,hsd⟩:∃sd:Bool,sd=decide (0<ordC (A.length%d) p.R q):=⟨_,rfl⟩
   rw [← hsd] at hmeet
   have hres:(if 0<ordC (A.length%d) p.R q then (wayV d p.R r (A.length+1)).map fun x=>((⟨q,lv,l,r,true,.fork q lv l r⟩:St)::x.1,x.2) else (wayV d p.R l (A.length+1)).map fun x=>((⟨q,lv,l,r,false,.fork q lv l r⟩:St)::x.1,x.2))=(wayV d p.R (if sd then r else l) (A.length+1)).map fun x=>((⟨q,lv,l,r,sd,.fork q lv l r⟩:St)::x.1,x.2):=by
    by_cases h1:0<ordC (A.length%d) p.R q
    ·rw [if_pos h1,hsd,decide_eq_true h1]
     rfl
    ·rw [if_neg h1,hsd,decide_eq_false h1]
     rfl
   rw [hres]
   have ihr:=down_any (gs:=gs) (B:=B) (bw:=bw) hd hW p hpd r
   have ihl:=down_any (gs:=gs) (B:=B) (bw:=bw) hd hW p hpd l
   have ih:∀(k:Kd) (ga oa:Nat) (w:World) (Q:Nat→Prop) (v:Value) (A:List MSt),PL w gs Q s→Sees s.W d (if sd then r else l)→k.Ok w→w.rangeAt ga oa k.cells→k.pk=(if sd then r else l).kid→(∀x∈k.rows,AsideR bw v A x)→WaySt B bw w v A→B≤w.heap.size→p.Ok w→AsideR bw v A p→¬Q bw→(∀j,v.ownBlock=some j→¬Q j)→Aw Q k→(∀y,p.p=some y→p.R≠[]→¬Q y.block)→(A.length:Int)+(if sd then r else l).kid.size≤90000→
     Calls Tryz.prog 106 #[.agg #[.pointer (some ⟨gs,0,none⟩),.int .i64 d],.pointer (some ⟨bw,0,none⟩),.pointer (some ⟨ga,oa,none⟩),p.val] w (WayTold B bw w v A Q (wayV d p.R (if sd then r else l) A.length)):=by
    cases sd
    ·exact ihl
    ·exact ihr
   have hss:Sees s.W d (if sd then r else l):=by
    cases sd
    ·exact hs.2.2.1
    ·exact hs.2.2.2
   have hzz:(if sd then r else l).kid.size≤l.kid.size+r.kid.size:=by
    cases sd
    ·show l.kid.size≤_;omega
    ·show r.kid.size≤_;omega
   refine down_on (P:=fun gb ob w' w''=>∃m,Met B bw w v A ⟨q,lv,l,r,sd,.fork q lv l r⟩ k.rows w'' m∧Met B bw w' v A ⟨q,lv,l,r,sd,.fork q lv l r⟩ k.rows w'' m∧gb=m.gk∧ob=37*m.sideN) (fun w' hb=>?_) (fun gb ob w' w'' hb hm=>?_) (yL hw.box)
   ·refine (hmeet w' hb).mono ?_
    rintro e w'' ⟨m,hm,hm',rfl⟩
    exact ⟨m.gk,37*m.sideN,by unfold onTo;rw [if_neg h0],m,hm,hm',rfl,rfl⟩
   ·obtain ⟨m,⟨v',h1,h2,h3,h4,h5,h6,h7⟩,⟨v2,g1,g2,g3,g4,g5,g6,-⟩,rfl,rfl⟩:=hm
    have hbwl:=(yL hw.box)
    have hmo:=h1.way.each m (by simp)
    have hms:m.side=sd:=h2.side.symm
    have hkk:∃kc:Kd,kc.Ok w''∧w''.rangeAt m.gk (37*m.sideN) kc.cells∧kc.pk=(if sd then r else l).kid∧∀x∈kc.rows,x∈m.rows:=by
     unfold MSt.sideN
     rw [hms]
     cases sd
     ·exact ⟨m.k1,hmo.k1,hmo.kid1,h2.l.symm,fun x hx=>by simp [MSt.rows,hx]⟩
     ·exact ⟨m.k2,hmo.k2,hmo.kid2,h2.r.symm,fun x hx=>by simp [MSt.rows,hx]⟩
    obtain ⟨kc,hc1,hc2,hc3,hc4⟩:=hkk
    have hpo':p.Ok w'':=Nd.rw_keep hpo fun y hy hR=>h3.block _ (rw_lt hpo y hy hR) (fun e=>e.elim (hpa y hy hR).1 (hpa y hy hR).2.1)
    refine ⟨fun b hb1 hb2 hb3=>g3.block b hb2 (fun e=>e.elim hb3 (fun e=>by have:=(hw.own.lt b e).2;omega)),?_⟩
    have hnq:∀j,Q j→¬(j=bw∨v.ownBlock=some j):=fun j hj e=>e.elim (fun e=>hq1 (e▸hj)) (fun e=>hq2 j e hj)
    have h:=ih kc m.gk (37*m.sideN) w'' Q v' (A++[m]) (hp.keep _ h3 hnq) hss hc1 hc2 hc3 (fun x hx=>aside_on h1 (hc4 x hx)) h1 (Nat.le_trans hB h3.size) hpo' (aside_more hpa hpo h4 ⟨h5,h6⟩) hq1 (fun j e hj=>by
     rcases h4 with h | ⟨i,h,hi⟩
     ·exact hq2 j (h.symm.trans e) hj
     ·rw [h] at e
      have:=Option.some.inj e
      have:=hp.lt j hj
      omega) (fun r hr y hy hR=>hfar m h7 _ (Or.inr (Or.inr ⟨r,hc4 r hr,y,hy,hR,rfl⟩))) hq4 (by rw [List.length_append];simp only [List.length_cons,List.length_nil];omega)
    rw [List.length_append] at h
    simp only [List.length_cons,List.length_nil,Nat.zero_add] at h
    refine h.mono ?_
    rintro e w3 ⟨ho,hn,hsm⟩
    cases hwy:wayV d p.R (if sd then r else l) (A.length+1) with
    | none=>
     refine ⟨21,hn hwy,only_way h3 ho h4,fun _=>hn hwy,fun L s' hl=>?_⟩
     cases hl
    | some x=>
     obtain ⟨L0,s0⟩:=x
     obtain ⟨he0,v3,A3,hw3,hl3,hv3,hf3⟩:=hsm L0 s0 hwy
     refine ⟨0,he0,only_way h3 ho h4,fun hh=>?_,fun L s' hl=>?_⟩
     ·cases hh
     ·simp only [Option.map_some,Option.some.injEq,Prod.mk.injEq] at hl
      obtain ⟨rfl,rfl⟩:=hl
      refine ⟨he0,v3,m::A3,by rw [List.append_assoc] at hw3;exact hw3,.cons h2 hl3,?_,fun x hx=>(List.mem_cons.1 hx).elim (fun e=>by rw [e];exact hfar m h7) (fun hx=>hf3 x hx)⟩
      rcases hv3 with h | ⟨i,h,hi⟩
      ·rcases h4 with h5 | ⟨i,h5,hi⟩
       ·exact Or.inl (h.trans h5)
       ·exact Or.inr ⟨i,h.trans h5,hi⟩
      ·exact Or.inr ⟨i,h,Nat.le_trans h3.size hi⟩
theorem tr_built (p:Option Addr) (d:Int):Tryz.prog.built 91 [(0,.pointer p),(1,.int .i64 d)]=some #[.pointer p,.int .i64 d]:=by kernel_rfl
theorem tr_one (p:Option Addr) (d:Int):(#[.pointer p,.int .i64 d]:Array Value).all (·.oneCell')=true:=all_oneCell_toArray (cs:=[.pointer p,.int .i64 d]) fun u hu=>by
 simp only [List.mem_cons,List.not_mem_nil,or_false] at hu
 rcases hu with rfl | rfl<;>rfl
def WaySays (sp:Option Addr) (d:Int) (k:Kd) (r:Rw) (err:Int) (w:World):Prop:=∀w',Below w.heap.size w w'→Calls Tryz.prog 53 #[.agg #[.pointer sp,.int .i64 d],.agg k.cells.toArray,r.val] w' (WayErr w' err)
theorem Insert_err (sp:Option Addr) (d:Int) (k:Kd) (r:Rw) (err:Int) (w:World) (hk:k.Ok w) (hw:WaySays sp d k r err w) (he:err≠0):
  Calls Tryz.prog 15 #[.pointer sp,.agg k.cells.toArray,r.val,.int .i64 d] w fun e w'=>e= .returned (.tuple #[.agg kd0.cells.toArray,.int .i64 err])∧Below w.heap.size w w':=by
 obtain ⟨W,hW,r0,r1,b1⟩:=two_alloc w (.cells k.cells.toArray 34) (.cells kd0.cells.toArray 34)
 have HW:=yH hw
 have e1:(err !=0)=true:=by simpa using he
 have HCL:=yH (Kd.cells_length hk.len)
 have R0:=yH r0
 have R1:=yH r1
 have B1:=yH b1
 obtain ⟨rp,rn,rc,rR⟩:=r
 unfold WaySays at HW
 unfold Rw.val at HW
 unfold Rw.val
 simp only at HW ⊢
 obtain ⟨du,hdu,hdr⟩:=UTr
 obtain ⟨dk,hdk,hdkr⟩:=UKd
 have HDU:=yH hdu
 have HDR:=yH hdr
 have HDK:=yH hdk
 have HDKR:=yH hdkr
 have HZ:=yH (zero_of_info kz)
 have hz0:=HZ.out.1
 clear hk hw he b1 r0 r1 hdu hdr hdk hdkr
 go_enter Tryz.func15,Tryz.ntmps15
 go_upto_region 1 with fail
 clear hW
 go_upto_region 2 with (first
  | (refine wpList_build (cells:= #[.pointer sp,.int .i64 d]) (by rfl) (by rfl) (by simp only [List.map_toArray,List.map_cons,List.map_nil];exact tr_built _ _) ?_)
  | (refine wpList_store_row (by rfl) 91 (.tmp 10) (.tmp 18) (by rfl) W.heap.size #[.pointer sp,.int .i64 d] (by rfl) (by rfl) _ _ (heap_alloc_new W _) STr rfl (tr_one _ _) ?_;rw [setRow_alloc]))
 have hb2:Below W.heap.size W (W.alloc (.cells #[.pointer sp,.int .i64 d] 91)):=(Below.refl _ _).alloc (Nat.le_refl _) _
 have hr2:=heap_alloc_new W (.cells #[.pointer sp,.int .i64 d] 91)
 generalize W.alloc (.cells #[.pointer sp,.int .i64 d] 91)=w2 at *
 have R2:=yH (range_tr hr2)
 have RK2:=yH (range_kd ((hb2.block _ (yL R0.out)).trans R0.out))
 have RS2:=yH ((hb2.block _ (yL R1.out)).trans R1.out)
 have B2:=yH (B1.out.trans (hb2.mono B1.out.size))
 clear hb2 hr2
 go_wp2_with (first
  | (refine wpList_load_mid (by rfl) 91 _ (by rfl) W.heap.size 0 (by rfl) [.pointer sp,.int .i64 d] du R2.out HDU.out HDR.out STr ?_)
  | (refine wpList_load_mid (by rfl) 34 _ (by rfl) w.heap.size 0 (by rfl) k.cells dk RK2.out HDK.out HDKR.out (by rw [HCL.out];exact SKd) ?_)
  | (go_at_call 53;refine (HW.out w2 B2.out).mono ?_;rintro _ w3 ⟨rfl,b3⟩;have B3:=yH (B2.out.trans (b3.mono B2.out.size));have RS3:=yH ((b3.block _ (yL RS2.out)).trans RS2.out);clear b3)
  | (refine wpList_build (by rfl) (by rfl) kd0_built ?_)
  | (refine wpList_store_row (by rfl) 34 _ _ (by rfl) (w.heap.size+1) kd0.cells.toArray (by rfl) (by rfl) _ _ RS3.out (by rw [List.size_toArray,kd0_size];exact SKd) rfl (all_oneCell_toArray Kd.one) ?_))
 refine ret_str2 8 9 (by kernel_rfl) (w.heap.size+1) _ kd0.cells.toArray _ HDK.out HDKR.out (by rw [List.size_toArray,kd0_size];exact SKd) (by rfl) (by rfl) (setRow_heap _ _ _ _ _ _ RS3.out) ?_
 exact ⟨rfl,B3.out.trans (Below.setRow (Below.refl _ _) (by omega) _)⟩
theorem Delete_err (sp:Option Addr) (d:Int) (k:Kd) (r:Rw) (err:Int) (w:World) (hk:k.Ok w) (hw:WaySays sp d k r err w) (he:err≠0):
  Calls Tryz.prog 17 #[.pointer sp,.agg k.cells.toArray,r.val,.int .i64 d] w fun e w'=>e= .returned (.tuple #[.agg kd0.cells.toArray,.int .i64 err])∧Below w.heap.size w w':=by
 obtain ⟨W,hW,r0,rr,r1,b1⟩:=three_alloc w (.cells k.cells.toArray 34) (.cells #[r.val] 24) (.cells kd0.cells.toArray 34)
 have HW:=yH hw
 have e1:(err !=0)=true:=by simpa using he
 have HCL:=yH (Kd.cells_length hk.len)
 have R0:=yH r0
 have R1:=yH r1
 have RR:=yH rr
 have B1:=yH b1
 obtain ⟨rp,rn,rc,rR⟩:=r
 unfold WaySays at HW
 unfold Rw.val at HW RR hW
 unfold Rw.val
 simp only at HW RR hW ⊢
 obtain ⟨du,hdu,hdr⟩:=UTr
 obtain ⟨dk,hdk,hdkr⟩:=UKd
 have HDU:=yH hdu
 have HDR:=yH hdr
 have HDK:=yH hdk
 have HDKR:=yH hdkr
 have HZ:=yH (zero_of_info kz)
 have hz0:=HZ.out.1
 clear hk hw he b1 r0 r1 rr hdu hdr hdk hdkr
 go_enter Tryz.func17,Tryz.ntmps17
 go_upto_region 1 with fail
 clear hW
 go_upto_region 2 with (first
  | (refine wpList_build (cells:= #[.pointer sp,.int .i64 d]) (by rfl) (by rfl) (by simp only [List.map_toArray,List.map_cons,List.map_nil];exact tr_built _ _) ?_)
  | (refine wpList_store_row (by rfl) 91 (.tmp 10) (.tmp 16) (by rfl) W.heap.size #[.pointer sp,.int .i64 d] (by rfl) (by rfl) _ _ (heap_alloc_new W _) STr rfl (tr_one _ _) ?_;rw [setRow_alloc]))
 have hb2:Below W.heap.size W (W.alloc (.cells #[.pointer sp,.int .i64 d] 91)):=(Below.refl _ _).alloc (Nat.le_refl _) _
 have hr2:=heap_alloc_new W (.cells #[.pointer sp,.int .i64 d] 91)
 generalize W.alloc (.cells #[.pointer sp,.int .i64 d] 91)=w2 at *
 have R2:=yH (range_tr hr2)
 have RK2:=yH (range_kd ((hb2.block _ (yL R0.out)).trans R0.out))
 have RS2:=yH ((hb2.block _ (yL R1.out)).trans R1.out)
 have cr:w2.cell? ⟨w.heap.size+1,0,none⟩=some (.slice rp rn rc):=cell_of_row w2 (w.heap.size+1) 0 _ _ _ ((hb2.block _ (yL RR.out)).trans RR.out)
 have B2:=yH (B1.out.trans (hb2.mono B1.out.size))
 clear hb2 hr2
 go_wp2_with (first
  | (refine wpList_load_mid (by rfl) 91 _ (by rfl) W.heap.size 0 (by rfl) [.pointer sp,.int .i64 d] du R2.out HDU.out HDR.out STr ?_)
  | (refine wpList_load_mid (by rfl) 34 _ (by rfl) w.heap.size 0 (by rfl) k.cells dk RK2.out HDK.out HDKR.out (by rw [HCL.out];exact SKd) ?_)
  | (go_at_call 53;refine (HW.out w2 B2.out).mono ?_;rintro _ w3 ⟨rfl,b3⟩;have B3:=yH (B2.out.trans (b3.mono B2.out.size));have RS3:=yH ((b3.block _ (yL RS2.out)).trans RS2.out);clear b3)
  | (refine wpList_build (by rfl) (by rfl) kd0_built ?_)
  | (refine wpList_store_row (by rfl) 34 _ _ (by rfl) (w.heap.size+2) kd0.cells.toArray (by rfl) (by rfl) _ _ RS3.out (by rw [List.size_toArray,kd0_size];exact SKd) rfl (all_oneCell_toArray Kd.one) ?_))
 refine ret_str2 8 9 (by kernel_rfl) (w.heap.size+2) _ kd0.cells.toArray _ HDK.out HDKR.out (by rw [List.size_toArray,kd0_size];exact SKd) (by rfl) (by rfl) (setRow_heap _ _ _ _ _ _ RS3.out) ?_
 exact ⟨rfl,B3.out.trans (Below.setRow (Below.refl _ _) (by omega) _)⟩
def WayRes (w:World) (Q:Nat→Prop) (o:Option (List St×St)) (e:Ending) (w':World):Prop:=Below w.heap.size w w'∧
 (o=none→e= .returned (.tuple #[.slice none 0 0,.int .i64 21]))∧(∀L s,o=some (L,s)→∃q c A bw,e= .returned (.tuple #[.slice q A.length c,.int .i64 0])∧WaySt w.heap.size bw w' (.slice q A.length c) A∧Links A (L++[s])∧∀m∈A,∀j,m.reads j→¬Q j)
theorem way_any {gs d:Nat} {Q:Nat→Prop} {s:Pg.S} (hd:1≤d∧d≤8) (hW:TextsK d s.W) (u:V) (k:Kd) (r:Rw) (w:World) (hp:PL w gs Q s) (hs:Sees s.W d u) (hk:k.Ok w) (he:k.pk=u.kid) (hr:r.Ok w) (hrd:r.n=d) (hz:u.kid.size≤90000) (hka:Aw Q k) (hra:∀y,r.p=some y→r.R≠[]→¬Q y.block):
  Calls Tryz.prog 53 #[.agg #[.pointer (some ⟨gs,0,none⟩),.int .i64 d],.agg k.cells.toArray,r.val] w (WayRes w Q (wayV d r.R u 0)):=by
 obtain ⟨W,hW0,r0,r1,b1⟩:=two_alloc w (.cells #[.pointer (some ⟨gs,0,none⟩),.int .i64 d] 91) (.cells k.cells.toArray 34)
 have b2:Below W.heap.size W (W.alloc (.cells #[r.val] 24)):=(Below.refl _ _).alloc (Nat.le_refl _) _
 have hb:takesB d [r]=true:=by
  unfold takesB
  rw [decide_eq_true (by omega)]
  simp [hrd]
 have HT:=yH (takes_any (some ⟨gs,0,none⟩) d _ 1 1 [r] _ (rows_one (hr.later b1)) (by omega))
 rw [hb] at HT
 have R0:=yH (range_tr r0)
 have R0':=yH r0
 have R1':=yH r1
 have B2:=yH b2
 have B1:=yH b1
 have HWS:=yH (show w.heap.size+2≤W.heap.size from (yL r1))
 have HD:=yH (fun (w':World) (hx:Below W.heap.size W w') (bw:Nat) (hbw:W.heap.size≤bw) (hbox:w'.heap[bw]? =some (.cells #[.slice none 0 0] 93 (0,0)))=>down_any (gs:=gs) (B:=w.heap.size) (bw:=bw) hd hW r hrd u k (w.heap.size+1) 0 w' Q (.slice none 0 0) [] (hp.keep (fun _=>False) (Only.of_below _ (b1.trans (hx.mono b1.size))) (fun _ _ e=>e)) hs (hk.later (b1.trans (hx.mono b1.size))) (range_later (range_kd r1) hx) he (fun x hx1 y hy hR=>⟨by have:=rw_lt (kd_rows_ok hk x hx1) y hy hR;have:=b1.size;omega,(fun e=>by cases e),(fun a ha=>by cases ha)⟩) ⟨hbox,World.ownsRow_nil _ _ _ _,(fun e=>by cases e),⟨(fun m hm=>by cases hm),(fun m hm=>by cases hm),List.Pairwise.nil⟩,(fun m hm=>by cases hm),Nat.le_trans b1.size hbw⟩ (Nat.le_trans b1.size hx.size) (hr.later (b1.trans (hx.mono b1.size))) (fun y hy hR=>⟨by have:=rw_lt hr y hy hR;have:=b1.size;omega,(fun e=>by cases e),(fun a ha=>by cases ha)⟩) (fun e=>by have:=hp.lt _ e;have:=b1.size;omega) (fun j e=>by cases e) hka hra (by simp;omega))
 obtain ⟨rp,rn,rc,rR⟩:=r
 unfold Rw.val at HT B2 HD ⊢
 simp only at HT B2 HD ⊢
 obtain ⟨du,hdu,hdr⟩:=UTr
 have HDU:=yH hdu
 have HDR:=yH hdr
 generalize hO:wayV d rR u 0=O at *
 have HOS:=yH (show O=none∨∃L s,O=some (L,s) from by
  cases O with
  | none=>exact Or.inl rfl
  | some x=>exact Or.inr ⟨x.1,x.2,rfl⟩)
 clear hO hd hW hp hs hk he hr hrd hz hka hra hb r0 r1 b1 b2 hdu hdr
 go_enter Tryz.func53,Tryz.ntmps53
 go_upto_region 1 with fail
 clear hW0
 go_upto_region 4 with (first
  | (refine wpList_load_mid (by rfl) 91 _ (by rfl) w.heap.size 0 (by rfl) [.pointer (some ⟨gs,0,none⟩),.int .i64 d] du R0.out HDU.out HDR.out STr ?_)
  | (go_at_call 72;refine HT.out.mono ?_;rintro _ w3 ⟨rfl,b3⟩;have B3:=yH (B2.out.trans (b3.mono B2.out.size));clear b3))
 have hb4:Below w3.heap.size w3 (w3.alloc (.cells #[.slice none 0 0] 93)):=(Below.refl _ _).alloc (Nat.le_refl _) _
 have hr4:=heap_alloc_new w3 (.cells #[.slice none 0 0] 93)
 generalize w3.alloc (.cells #[.slice none 0 0] 93)=w4 at *
 have B4:=yH (B3.out.trans (hb4.mono B3.out.size))
 have R4:=yH (range_tr ((B4.out.block _ (yL R0'.out)).trans R0'.out))
 have HD4:=yH (HD.out w4 B4.out w3.heap.size B3.out.size hr4)
 have B14:=yH (B1.out.trans (B4.out.mono B1.out.size))
 have HZ3:=yH (show w.heap.size≤w3.heap.size from by have:=B3.out.size;have:=HWS.out;omega)
 clear hb4 hr4 HD
 rcases HOS.out with hO | ⟨L,s',hO⟩
 ·subst hO
  go_wp2_with (first
   | (refine wpList_load_mid (by rfl) 91 _ (by rfl) w.heap.size 0 (by rfl) [.pointer (some ⟨gs,0,none⟩),.int .i64 d] du R4.out HDU.out HDR.out STr ?_)
   | (go_at_call 106;refine HD4.out.mono ?_;rintro _ w5 ⟨ho,hn,-⟩;obtain rfl:=hn rfl;have HO:=yH ho;clear ho hn))
  go_ret2
  exact ⟨B14.out.trans (HO.out.below B14.out.size (fun k e=>e.elim (fun e=>by have:=HZ3.out;omega) (fun e=>by cases e))),(fun _=>rfl),(fun L s' h=>by cases h)⟩
 ·have HOO:=yH hO
  go_upto_region 5 with (first
   | (refine wpList_load_mid (by rfl) 91 _ (by rfl) w.heap.size 0 (by rfl) [.pointer (some ⟨gs,0,none⟩),.int .i64 d] du R4.out HDU.out HDR.out STr ?_)
   | (go_at_call 106;refine HD4.out.mono ?_;rintro _ w5 ⟨ho,-,hsm⟩;obtain ⟨rfl,v',A',hws,hln,-,hff⟩:=hsm L s' hO;have HFF:=yH hff;clear hff;have HO:=yH ho;have HWS5:=yH hws;have HLN:=yH hln;clear ho hsm hws hln))
  clear hO
  rw [List.nil_append] at HWS5
  obtain ⟨q5,c5,rfl⟩:=lst_form HWS5.out.own
  have cb:=cell_of_row w5 w3.heap.size 0 _ _ _ HWS5.out.box
  go_wp2_with fail
  go_ret2
  refine ⟨B14.out.trans (HO.out.below B14.out.size (fun k e=>e.elim (fun e=>by have:=HZ3.out;omega) (fun e=>by cases e))),fun h=>(by rw [HOO.out] at h;cases h),fun L2 s2 h=>?_⟩
  rw [HOO.out] at h
  simp only [Option.some.injEq,Prod.mk.injEq] at h
  obtain ⟨rfl,rfl⟩:=h
  exact ⟨q5,c5,A',w3.heap.size,rfl,HWS5.out,HLN.out,HFF.out⟩
theorem way_range {B bw:Nat} {w:World} {q:Option Addr} {c:Nat} {A:List MSt} (h:WaySt B bw w (.slice q A.length c) A) (hA:A≠[]):∃g,q=some ⟨g,0,none⟩∧A.length≤c∧∀i,i<A.length→w.rangeAt g (i*41) (A.getD i default).cells:=by
 have hl:∀m∈A,m.cells.length=41:=fun m hm=>MSt.cells_length (h.way.each m hm).kid.len
 rcases h.own.2 with ⟨hv,h0⟩ | ⟨g,cap,cur,hv,_,_,hc,_⟩
 ·exact absurd (List.length_eq_zero_iff.1 h0) hA
 ·simp only [Value.slice.injEq,true_and] at hv
  obtain ⟨rfl,rfl⟩:=hv
  refine ⟨g,rfl,hc,fun i hi j u hu=>?_⟩
  have hx:=flat_get (L:=A) hl i j u hi hu
  have hlt:=(List.getElem?_eq_some_iff.1 hx).1
  rw [World.ownsRow.cellAt h.own (i*41+j) (by rw [← h.own.1];exact hlt),hx]
theorem mst_get (m:MSt) (h:m.kid.sum.length=32):m.cells[37]? =some (.int .u8 1)∧m.cells[38]? =some (.slice (some ⟨m.ge,0,none⟩) 1 m.ce)∧m.cells[39]? =some (.slice (some ⟨m.gk,0,none⟩) 2 m.ck)∧m.cells[40]? =some (.int .i64 m.sideN):=by
 have hl:=Kd.cells_length h
 unfold MSt.cells
 refine ⟨?_,?_,?_,?_⟩<;>(rw [List.getElem?_append_right (by rw [hl];omega),hl];rfl)
theorem live_any {B bw:Nat} {w:World} {q:Option Addr} {c:Nat} {A:List MSt} {m:MSt} (h:WaySt B bw w (.slice q (A++[m]).length c) (A++[m])) (hA:A.length≤100000):
  Calls Tryz.prog 54 #[.slice q (A++[m]).length c] w fun e w'=>e= .returned (.bool m.live)∧w'=w:=by
 obtain ⟨g,rfl,hc,hx⟩:=way_range h (by simp)
 have hm:=h.way.each m (by simp)
 have hr:=hx A.length (by simp)
 have hgd:(A++[m]).getD A.length default=m:=by simp
 rw [hgd] at hr
 have c38:w.cell? ⟨g,A.length*41+38,none⟩=some (.slice (some ⟨m.ge,0,none⟩) 1 m.ce):=hr 38 _ (mst_get m hm.kid.len).2.1
 have ce1:w.cell? ⟨m.ge,1,none⟩=some (.bool m.live):=by have:=hm.ent 1 _ rfl;simpa using this
 have hlen:(A++[m]).length=A.length+1:=by simp
 rw [hlen] at hc ⊢
 generalize A.length=n at *
 have q1:IntKind.i64.wrap (((n+1:Nat):Int) - 1)=(n:Int):=by rw [IntWalk.i64_in _ (by omega)];omega
 have i1:(0:Int)≤n∧(n:Int)<((n+1:Nat):Int):=by omega
 clear h hx hr hm hgd hlen
 go_enter Tryz.func54,Tryz.ntmps54
 go_wp2_with fail
 go_ret
 exact ⟨rfl,rfl⟩
end Go.Proofs.YtinihaflmdihaaaGreat.Kt
namespace Go.Proofs.YtinihaflmdihaaaGreat.Kt
open Go.RowKit Go.Proofs.YtinihaflmdihaaaGreat.Nd Go.Proofs.YtinihaflmdihaaaGreat.Pg
attribute [local go_sem] Oper.semAt_some
theorem wpListIn_load_mid {F:Fence} {m:Nat} {w:World} {ops:Array Oper} {rest:List Oper} {o:Oper} {a:Act} {Q:Exit→Act→World→Prop} (hg:o.guard=none) (ty:TypeId) (x:Operand) (ho:o.op= .load ty x)
  (b i:Nat) (hx:a.eval x= .pointer (some ⟨b,i,none⟩)) (cs:List Value) (d:TypeDesc) (hc:w.rangeAt b i cs)
  (hu:Tryz.prog.underlying ty=some d) (hd:d.isRow=true) (hi:(Tryz.prog.info? ty).map (·.size)=some cs.length)
  (hk:wpListIn F m Tryz.prog ops Q rest (a.put o.dst (.agg cs.toArray)) w):wpListIn F m Tryz.prog ops Q (o::rest) a w:=by
 refine wpListIn_plain hg fun K hK=>?_
 unfold Oper.wpIn
 refine ⟨by simp [Oper.about,ho],?_⟩
 rw [Oper.semAt_plain F _ _ (by rw [ho];intro c hc';cases hc'),op_load_mid ty x ho b i hx cs d hc hu hd hi]
 exact hK _ _ hk
def backAt (A:List MSt) (j:Nat):MSt:=A.getD (A.length - 1 - j) default
def KpB (Bs g:Nat) (W W':World):Prop:=W'.heap[Bs]? =W.heap[Bs]? ∧W'.heap[g]? =W.heap[g]?
def encB (A:List MSt) (j:Nat):Array Value:= #[.int .i64 ((A.length:Int) - 1 - j),.agg (backAt A j).cells.toArray]
theorem back1_in (m l Bs g c:Nat) (p:Option Addr) (A:List MSt) (hA:A.length≤100000) (hp:A≠[]→p=some ⟨g,0,none⟩∧A.length≤c) (h41:∀m∈A,m.cells.length=41) (J Jx:List Nat→World→Prop) (B0:Nat) (hJa:AbidesFrom B0 J)
  (hY:∀pre x W,J pre W→pre.length<A.length→YieldAt Fence.wide (m - 1) Tryz.prog l (encB A x) W fun e W'=>
   (e= .returned (.bool true)∧J (pre++[x]) W'∧KpB Bs g W W')∨(e= .returned (.bool false)∧Jx (pre++[x]) W'))
  (W:World) (hBs:W.cell? ⟨Bs,0,none⟩=some (.slice p A.length c)) (hx:∀i,i<A.length→W.rangeAt g (i*41) (A.getD i default).cells) (h0:J [] W):
  CallsIn Fence.wide m Tryz.prog 153 #[.func (.yield l) #[] #[],.pointer (some ⟨Bs,0,none⟩)] W fun e W'=>(∃v,e= .returned v)∧
   ((∃ys,ys=List.range A.length∧J ys W')∨(∃pre,True∧Jx pre W')):=by
 obtain ⟨n,hn⟩:∃n,n=A.length:=⟨_,rfl⟩
 rw [← hn] at hBs hx hA
 have HN:=yH hn
 clear hn
 have q0:IntKind.i64.wrap ((n:Int) - 1)=(n:Int) - 1:=IntWalk.i64_in _ (by omega)
 obtain ⟨d,hd1,hd2⟩:=USp
 refine callsIn_of_wp Tryz.func153 rfl trivial ?_ rfl
 simp only [Tryz.ntmps153,List.size_toArray,List.length_cons,List.length_nil,Nat.reduceAdd,Nat.reduceSub,Array.replicate_succ,Array.replicate_zero,List.push_toArray,List.append_toArray,List.nil_append,List.cons_append]
 gi_wp2
 gi_loopw [3] (fun i wr=>∃j:Nat,j≤n∧i= .int .i64 ((n:Int) - 1 - j)∧J (List.range j) wr∧KpB Bs g W wr)
  (fun i _=>(intOf i+1).toNat)
 case atStart=>exact ⟨0,Nat.zero_le _,by simp,h0,rfl,rfl⟩
 case round=>
  obtain ⟨j,hj,rfl,hJ,hK⟩:=hrel
  have HJ:=yH hJ
  have HK:=yH hK
  have cs:=(World.cell?_of_block (w:=W) (a:=⟨Bs,0,none⟩) hK.1).trans hBs
  have HX:=yH (fun i (hi:i<n)=>(show wr.rangeAt g (i*41) (A.getD i default).cells from fun t u hu=>(World.cell?_of_block (w:=W) (a:=⟨g,i*41+t,none⟩) hK.2).trans (hx i hi t u hu)))
  clear hJ hK
  by_cases hlt:j<n
  ·obtain ⟨k,hk⟩:∃k:Nat,k=n - 1 - j:=⟨_,rfl⟩
   have e1:(n:Int) - 1 - j=(k:Int):=by omega
   have hkn:k<n:=by omega
   rw [e1]
   obtain ⟨rfl,hcc⟩:=hp (fun e=>by have:=HN.out;rw [e] at this;simp at this;omega)
   have i0:(0:Int)≤(k:Int):=by omega
   have i1:(k:Int)<(n:Int):=by omega
   have i2:IntKind.i64.wrap ((k:Int) - 1)=(k:Int) - 1:=IntWalk.i64_in _ (by omega)
   have HR:=yH (HX.out k hkn)
   have HC:=yH (h41 (A.getD k default) (by
    rw [List.getD_eq_getElem?_getD,List.getElem?_eq_getElem (by rw [← HN.out];exact hkn)]
    exact List.getElem_mem _))
   have H41:=yH (show (Tryz.prog.info? 101).map (·.size)=some (A.getD k default).cells.length from by rw [HC.out];exact SSp)
   obtain ⟨fn,tmps,assign,body,hy,hR⟩:=hY (List.range j) j wr HJ.out (by rw [List.length_range,← HN.out];exact hlt)
   have hen:encB A j= #[.int .i64 (k:Int),.agg (A.getD k default).cells.toArray]:=by
    unfold encB backAt
    rw [← HN.out,e1,← hk]
   obtain ⟨cs0,hcs0⟩:∃cs0,cs0=(A.getD k default).cells:=⟨_,rfl⟩
   rw [hen,← hcs0] at hy
   have HKE:=yH hk
   have HR2:=yH (show wr.rangeAt g (k*41) cs0 from by rw [hcs0];exact HR.out)
   have H412:=yH (show (Tryz.prog.info? 101).map (·.size)=some cs0.length from by rw [hcs0];exact H41.out)
   clear hen e1 hk hcs0 HR H41 HC
   gi_wp2_with (first | (refine wpListIn_load_mid (by rfl) 101 (.tmp 15) (by rfl) g (k*41) (by rfl) cs0 d HR2.out hd1 hd2 H412.out ?_) | gi_in)
   refine ⟨fun h=>(by cases h),hR.mono ?_⟩
   rintro _ W3 (⟨rfl,hJ3,hk3⟩ | ⟨rfl,hJx3⟩)
   ·have HJ3:=yH hJ3
    have HK3:=yH (show KpB Bs g W W3 from ⟨hk3.1.trans HK.out.1,hk3.2.trans HK.out.2⟩)
    clear hJ3 hk3 hy
    gi_wp2
    go_roundw
    case rel=>exact ⟨j+1,by omega,by have:=HKE.out;(first | rw [i2] | skip);congr 1;omega,by rw [List.range_succ];exact HJ3.out,HK3.out⟩
    case measure=>(try rw [i2]);simp [intOf]
   ·gi_wp2
    refine bodyPost_ret (results_none rfl _ _ _) rfl ?_
    exact ⟨⟨_,rfl⟩,.inr ⟨_,trivial,hJx3⟩⟩
  ·obtain rfl:j=n:=by omega
   have l1:¬(0:Int)≤(j:Int) - 1 - j:=by omega
   gi_wp2
   go_end0
   exact ⟨⟨_,rfl⟩,.inl (by rw [← HN.out];exact HJ.out)⟩
theorem back_stops (m Bs g c:Nat) (p:Option Addr) (A:List MSt) (hA:A.length≤100000) (hp:A≠[]→p=some ⟨g,0,none⟩∧A.length≤c) (h41:∀m∈A,m.cells.length=41) (w:World) (hBs:w.cell? ⟨Bs,0,none⟩=some (.slice p A.length c)) (hx:∀i,i<A.length→w.rangeAt g (i*41) (A.getD i default).cells):
  SeqStopsK Fence.wide m Tryz.prog 153 #[.pointer (some ⟨Bs,0,none⟩)] (encB A) (KpB Bs g) (fun ys=>ys=List.range A.length) (fun _=>True) A.length w:=fun l J Jx W hW hJ _ hY h0=>
 back1_in m l Bs g c p A hA hp h41 J Jx _ hJ hY W ((hW.cell (p:=⟨Bs,0,none⟩) (block_lt_of_cell hBs)).trans hBs) (fun i hi j u hu=>(hW.cell (block_lt_of_cell (hx i hi j u hu))).trans (hx i hi j u hu)) h0
theorem back_any (v:Value) (hv:v.oneCell'=true) (w:World):
  Calls Tryz.prog 107 #[v] w fun e w'=>e= .returned (.func (.func 153) #[] #[.pointer (some ⟨w.heap.size,0,none⟩)])∧w'=w.alloc (.cells #[v] 93):=by
 go_enter Tryz.func107,Tryz.ntmps107
 go_wp2_with fail
 go_ret
 exact ⟨rfl,rfl⟩
end Go.Proofs.YtinihaflmdihaaaGreat.Kt
