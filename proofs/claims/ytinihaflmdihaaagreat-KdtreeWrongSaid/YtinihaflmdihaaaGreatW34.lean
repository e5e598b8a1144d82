/- KdDownV, KdWrong. -/
import Derived.Test.YtinihaflmdihaaaGreatW1
import Derived.Test.YtinihaflmdihaaaGreatW23
import Derived.Test.YtinihaflmdihaaaGreatW29
import Derived.Test.YtinihaflmdihaaaGreatW33
set_option maxRecDepth 100000
set_option maxHeartbeats 8000000
set_option linter.unusedVariables false
set_option linter.unusedSimpArgs false
namespace Go.Proofs.YtinihaflmdihaaaGreat.Kt
open Go.RowKit Go.Proofs.YtinihaflmdihaaaGreat.Nd Go.Proofs.YtinihaflmdihaaaGreat.Dk Go.Proofs.YtinihaflmdihaaaGreat.Pg
open List renaming setIfInBounds_toArray → sA, set_cons_zero → sZ, set_cons_succ → sS
def WayTold (B bw:Nat) (w:World) (v:Value) (A:List MSt) (Q:Nat→Prop) (o:Option (List St×St)) (e:Ending) (w':World):Prop:=Only (fun k=>k=bw∨v.ownBlock=some k) w w'∧
 (o=none→e= .returned (.int .i64 21))∧(∀L s,o=some (L,s)→e= .returned (.int .i64 0)∧∃v' A',WaySt B bw w' v' (A++A')∧Links A' (L++[s])∧(v'.ownBlock=v.ownBlock∨∃k,v'.ownBlock=some k∧w.heap.size≤k)∧∀m∈A',∀j,m.reads j→¬Q j)
theorem only_way {bw:Nat} {v v':Value} {w w1 w2:World} (h1:Only (fun k=>k=bw∨v.ownBlock=some k) w w1) (h2:Only (fun k=>k=bw∨v'.ownBlock=some k) w1 w2) (hv:v'.ownBlock=v.ownBlock∨∃k,v'.ownBlock=some k∧w.heap.size≤k):Only (fun k=>k=bw∨v.ownBlock=some k) w w2:=
 ⟨h2.os.trans h1.os,h2.tape.trans h1.tape,h2.output.trans h1.output,Nat.le_trans h1.size h2.size,fun k hk hn=>(h2.block k (Nat.lt_of_lt_of_le hk h1.size) (fun e=>e.elim (fun e=>hn (Or.inl e)) (fun e=>by
  rcases hv with h | ⟨j,h,hj⟩
  ·exact hn (Or.inr (h.symm.trans e))
  ·rw [h] at e
   have:=Option.some.inj e
   omega))).trans (h1.block k hk hn)⟩
theorem down_end {g bw ga oa:Nat} {d err:Int} {p:Rw} {w:World} {P:World→Prop} (hm:∀w',Below w.heap.size w w'→Calls Tryz.prog 152 #[.agg #[.pointer (some ⟨g,0,none⟩),.int .i64 d],.pointer (some ⟨bw,0,none⟩),.pointer (some ⟨ga,oa,none⟩),p.val] w' fun e w''=>e= .returned (.tuple #[.pointer none,.int .i64 err])∧P w''):
  Calls Tryz.prog 106 #[.agg #[.pointer (some ⟨g,0,none⟩),.int .i64 d],.pointer (some ⟨bw,0,none⟩),.pointer (some ⟨ga,oa,none⟩),p.val] w fun e w'=>e= .returned (.int .i64 err)∧P w':=by
 have b1:Below w.heap.size w (w.alloc (.cells #[.pointer (some ⟨g,0,none⟩),.int .i64 d] 91)):=(Below.refl _ _).alloc (Nat.le_refl _) _
 have r1:=heap_alloc_new w (.cells #[.pointer (some ⟨g,0,none⟩),.int .i64 d] 91)
 have HG:=Lib.hid (hm _ b1)
 have R1:=Lib.hid (range_tr r1)
 obtain ⟨pp,pn,pc,pR⟩:=p
 unfold Rw.val at HG ⊢
 simp only at HG ⊢
 obtain ⟨du,hdu,hdr⟩:=UTr
 have HDU:=Lib.hid hdu
 have HDR:=Lib.hid hdr
 clear hm b1 r1 hdu hdr
 go_enter Tryz.func106,Tryz.ntmps106
 go_upto_region 1 with fail
 generalize w.alloc (.cells #[.pointer (some ⟨g,0,none⟩),.int .i64 d] 91)=w1 at *
 go_wp2_with (first
  | (refine wpList_load_mid (by rfl) 91 _ (by rfl) w.heap.size 0 (by rfl) [.pointer (some ⟨g,0,none⟩),.int .i64 d] du R1.out HDU.out HDR.out STr ?_)
  | (go_at_call 152;refine HG.out.mono ?_;rintro _ w3 ⟨rfl,hp3⟩;have HP3:=Lib.hid hp3;clear hp3))
 go_ret
 exact ⟨rfl,HP3.out⟩
theorem down_on {g bw ga oa:Nat} {d:Int} {p:Rw} {w:World} {P:Nat→Nat→World→World→Prop} {R:Ending→World→Prop} (hm:∀w',Below w.heap.size w w'→Calls Tryz.prog 152 #[.agg #[.pointer (some ⟨g,0,none⟩),.int .i64 d],.pointer (some ⟨bw,0,none⟩),.pointer (some ⟨ga,oa,none⟩),p.val] w' fun e w''=>∃gb ob,e= .returned (.tuple #[.pointer (some ⟨gb,ob,none⟩),.int .i64 0])∧P gb ob w' w'')
  (hk:∀gb ob w' w'',Below w.heap.size w w'→P gb ob w' w''→(∀b,w.heap.size≤b→b<w'.heap.size→b≠bw→w''.heap[b]? =w'.heap[b]?)∧Calls Tryz.prog 106 #[.agg #[.pointer (some ⟨g,0,none⟩),.int .i64 d],.pointer (some ⟨bw,0,none⟩),.pointer (some ⟨gb,ob,none⟩),p.val] w'' fun e w3=>∃err:Int,e= .returned (.int .i64 err)∧R e w3) (hbw:bw<w.heap.size):
  Calls Tryz.prog 106 #[.agg #[.pointer (some ⟨g,0,none⟩),.int .i64 d],.pointer (some ⟨bw,0,none⟩),.pointer (some ⟨ga,oa,none⟩),p.val] w R:=by
 have b1:Below w.heap.size w (w.alloc (.cells #[.pointer (some ⟨g,0,none⟩),.int .i64 d] 91)):=(Below.refl _ _).alloc (Nat.le_refl _) _
 have r1:=heap_alloc_new w (.cells #[.pointer (some ⟨g,0,none⟩),.int .i64 d] 91)
 have HG:=Lib.hid (hm _ b1)
 have HKK:=Lib.hid (fun gb ob w''=>hk gb ob _ w'' b1)
 have R1:=Lib.hid (range_tr r1)
 have R1h:=Lib.hid r1
 have HBW:=Lib.hid hbw
 obtain ⟨pp,pn,pc,pR⟩:=p
 unfold Rw.val at HG HKK ⊢
 simp only at HG HKK ⊢
 obtain ⟨du,hdu,hdr⟩:=UTr
 have HDU:=Lib.hid hdu
 have HDR:=Lib.hid hdr
 clear hm hk hbw b1 r1 hdu hdr
 go_enter Tryz.func106,Tryz.ntmps106
 go_upto_region 1 with fail
 generalize w.alloc (.cells #[.pointer (some ⟨g,0,none⟩),.int .i64 d] 91)=w1 at *
 go_upto_region 2 with (first
  | (refine wpList_load_mid (by rfl) 91 _ (by rfl) w.heap.size 0 (by rfl) [.pointer (some ⟨g,0,none⟩),.int .i64 d] du R1.out HDU.out HDR.out STr ?_)
  | (go_at_call 152;refine HG.out.mono ?_;rintro _ w3 ⟨gb,ob,rfl,hp3⟩;have HP3:=Lib.hid (HKK.out gb ob w3 hp3);clear hp3))
 have R3:=Lib.hid (range_tr ((HP3.out.1 w.heap.size (Nat.le_refl _) (Array.getElem?_eq_some_iff.1 R1h.out).1 (by have:=HBW.out;omega)).trans R1h.out))
 go_wp2_with (first
  | (refine wpList_load_mid (by rfl) 91 _ (by rfl) w.heap.size 0 (by rfl) [.pointer (some ⟨g,0,none⟩),.int .i64 d] du R3.out HDU.out HDR.out STr ?_)
  | (go_at_call 106;refine HP3.out.2.mono ?_;rintro _ w4 ⟨err,rfl,hr4⟩;have HR4:=Lib.hid hr4;clear hr4))
 exact HR4.out
theorem aside_on {B bw:Nat} {w:World} {v:Value} {A:List MSt} {m:MSt} (h:WaySt B bw w v (A++[m])) {r:Rw} (hr:r∈m.rows):AsideR bw v (A++[m]) r:=fun x hx hR=>by
 have hrd:m.reads x.block:=Or.inr (Or.inr ⟨r,hr,x,hx,hR,rfl⟩)
 obtain ⟨h1,h2⟩:=h.aside m (by simp) _ hrd
 refine ⟨h1,h2,fun a ha=>?_⟩
 rcases List.mem_append.1 ha with ha | ha
 ·have hp:=(List.pairwise_append.1 h.way.part).2.2 a ha m (by simp)
  exact ⟨fun e=>hp.2 ⟨_,hrd,Or.inl e⟩,fun e=>hp.2 ⟨_,hrd,Or.inr e⟩⟩
 ·rw [List.mem_singleton.1 ha]
  exact (h.way.each m (by simp)).apart r hr x hx hR
theorem aside_more {bw:Nat} {v v':Value} {A:List MSt} {m:MSt} {r:Rw} {w:World} (h:AsideR bw v A r) (hr:r.Ok w) (hv:v'.ownBlock=v.ownBlock∨∃k,v'.ownBlock=some k∧w.heap.size≤k) (hm:w.heap.size≤m.ge∧w.heap.size≤m.gk):AsideR bw v' (A++[m]) r:=fun x hx hR=>by
 obtain ⟨h1,h2,h3⟩:=h x hx hR
 have hlt:=rw_lt hr x hx hR
 refine ⟨h1,fun e=>?_,fun a ha=>?_⟩
 ·rcases hv with h | ⟨k,h,hk⟩
  ·exact h2 (h.symm.trans e)
  ·rw [h] at e
   have:=Option.some.inj e
   omega
 ·rcases List.mem_append.1 ha with ha | ha
  ·exact h3 a ha
  ·rw [List.mem_singleton.1 ha]
   omega
theorem down_any {gs d B bw:Nat} {s:Pg.S} (hd:1≤d∧d≤8) (hW:TextsK d s.W) (p:Rw) (hpd:p.n=d):∀(u:V) (k:Kd) (ga oa:Nat) (w:World) (Q:Nat→Prop) (v:Value) (A:List MSt),PL w gs Q s→Sees s.W d u→k.Ok w→w.rangeAt ga oa k.cells→k.pk=u.kid→(∀x∈k.rows,AsideR bw v A x)→WaySt B bw w v A→B≤w.heap.size→p.Ok w→AsideR bw v A p→¬Q bw→(∀j,v.ownBlock=some j→¬Q j)→Aw Q k→(∀y,p.p=some y→p.R≠[]→¬Q y.block)→(A.length:Int)+u.kid.size≤90000→
  Calls Tryz.prog 106 #[.agg #[.pointer (some ⟨gs,0,none⟩),.int .i64 d],.pointer (some ⟨bw,0,none⟩),.pointer (some ⟨ga,oa,none⟩),p.val] w (WayTold B bw w v A Q (wayV d p.R u A.length))
 | .nil,k,ga,oa,w,Q,v,A,hp,hs,hk,hr,he,hka,hw,hB,hpo,hpa,hq1,hq2,hq3,hq4,hz=>by
  have hz':A.length≤100000:=by have:(V.nil).kid.size=0:=rfl;omega
  have h:=down_end (g:=gs) (bw:=bw) (ga:=ga) (oa:=oa) (d:=(d:Int)) (err:=0) (p:=p) (w:=w) (P:=fun w''=>∃m,Met B bw w v A ⟨p.R,false,.nil,.nil,false,.nil⟩ [p] w'' m) (fun w' hb=>by
   refine (meet_nil (d:Int) ga oa p w' (getSays_nil (hk.later hb) (range_later hr hb) he) (hw.later hb) (Nat.le_trans hB hb.size) (hpo.later hb) hpa hz').mono ?_
   rintro e w'' ⟨rfl,m,v',h1,h2,h3,h4,h5,h6,h7⟩
   refine ⟨rfl,m,v',h1,h2,(Only.of_below _ hb).trans h3,h4.imp id (fun ⟨k,e,hk⟩=>⟨k,e,Nat.le_trans hb.size hk⟩),Nat.le_trans hb.size h5,Nat.le_trans hb.size h6,fun j hj=>(h7 j hj).imp (fun h=>Nat.le_trans hb.size h) id⟩)
  refine h.mono ?_
  rintro e w' ⟨rfl,m,v',h1,h2,h3,h4,-,-,h7⟩
  refine ⟨h3,(fun h=>by cases h),fun L s' hl=>?_⟩
  have hl:some ([],(⟨p.R,false,.nil,.nil,false,.nil⟩:St))=some (L,s'):=hl
  simp only [Option.some.injEq,Prod.mk.injEq] at hl
  obtain ⟨rfl,rfl⟩:=hl
  exact ⟨rfl,v',[m],h1,.cons h2 .nil,h4,fun x hx j hj hQ=>by
   rw [List.mem_singleton.1 hx] at hj
   rcases h7 j hj with e | ⟨r,hr',y,hy,hR,rfl⟩
   ·have:=hp.lt j hQ;omega
   ·rw [List.mem_singleton.1 hr'] at hy hR
    exact hq4 y hy hR hQ⟩
 | .bad kk,k,ga,oa,w,Q,v,A,hp,hs,hk,hr,he,hka,hw,hB,hpo,hpa,hq1,hq2,hq3,hq4,hz=>by
  have he':k.pk=kk:=he
  subst he'
  have h:=down_end (g:=gs) (bw:=bw) (ga:=ga) (oa:=oa) (d:=(d:Int)) (err:=21) (p:=p) (w:=w) (P:=fun w''=>Below w.heap.size w w'') (fun w' hb=>by
   refine (meet_bad (g:=gs) (d:Int) ga oa (some ⟨bw,0,none⟩) p.p p.n p.c w' (getSays_bad (hk.later hb) (range_later hr hb) hs.1 ((node_bad hp hW hk hs).later hb))).mono ?_
   rintro e w'' ⟨rfl,hb2⟩
   exact ⟨rfl,hb.trans (hb2.mono hb.size)⟩)
  refine h.mono ?_
  rintro e w' ⟨rfl,hb⟩
  exact ⟨Only.of_below _ hb,(fun _=>rfl),(fun L s hl=>by cases hl)⟩
 | .fork q lv l r,k,ga,oa,w,Q,v,A,hp,hs,hk,hr,he,hka,hw,hB,hpo,hpa,hq1,hq2,hq3,hq4,hz=>by
  have hsz:(V.fork q lv l r).kid.size=1+(l.kid.size+r.kid.size):=fork_size q lv l.kid r.kid
  have hz1:=sees_size hs.2.2.1
  have hz2:=sees_size hs.2.2.2
  have hqd:q.length=d:=by
   have:=(right_split hs.1.right).2.2.1 ⟨q,lv⟩ (by simp [forkN])
   simp only at this
   omega
  have hgd:=node_good hp hk he hs
  have hfar:∀m,FarK k.rows w m→∀j,m.reads j→¬Q j:=fun m h7 j hj hQ=>by
   rcases h7 j hj with e | ⟨r,hr',y,hy,hR,rfl⟩
   ·have:=hp.lt j hQ;omega
   ·exact hq3 r hr' y hy hR hQ
  have hmeet:∀w',Below w.heap.size w w'→Calls Tryz.prog 152 #[.agg #[.pointer (some ⟨gs,0,none⟩),.int .i64 d],.pointer (some ⟨bw,0,none⟩),.pointer (some ⟨ga,oa,none⟩),p.val] w' fun e w''=>∃m,Met B bw w v A ⟨q,lv,l,r,decide (0<ordC (A.length%d) p.R q),.fork q lv l r⟩ k.rows w'' m∧Met B bw w' v A ⟨q,lv,l,r,decide (0<ordC (A.length%d) p.R q),.fork q lv l r⟩ k.rows w'' m∧e= .returned (.tuple #[onTo (ordC (A.length%d) p.R q) m,.int .i64 0]):=fun w' hb=>by
   refine (meet_fork hd k ga oa p w' (hgd.later hb) he (by rw [he];omega) (hk.later hb) (range_later hr hb) hka (hw.later hb) (Nat.le_trans hB hb.size) (hpo.later hb) hpd hqd (by omega)).mono ?_
   rintro e w'' ⟨m,⟨v',h1,h2,h3,h4,h5,h6,h7⟩,he⟩
   exact ⟨m,⟨v',h1,h2,(Only.of_below _ hb).trans h3,h4.imp id (fun ⟨k,e,hk⟩=>⟨k,e,Nat.le_trans hb.size hk⟩),Nat.le_trans hb.size h5,Nat.le_trans hb.size h6,fun j hj=>(h7 j hj).imp (fun h=>Nat.le_trans hb.size h) id⟩,⟨v',h1,h2,h3,h4,h5,h6,h7⟩,he⟩
  have hwv:wayV d p.R (.fork q lv l r) A.length=(if ordC (A.length%d) p.R q=0 then some ([],⟨q,lv,l,r,false,.fork q lv l r⟩)
   else if 0<ordC (A.length%d) p.R q then (wayV d p.R r (A.length+1)).map fun x=>(⟨q,lv,l,r,true,.fork q lv l r⟩::x.1,x.2)
   else (wayV d p.R l (A.length+1)).map fun x=>(⟨q,lv,l,r,false,.fork q lv l r⟩::x.1,x.2)):=rfl
  rw [hwv]
  by_cases h0:ordC (A.length%d) p.R q=0
  ·have hdec:decide (0<ordC (A.length%d) p.R q)=false:=decide_eq_false (by omega)
   rw [if_pos h0]
   have h:=down_end (g:=gs) (bw:=bw) (ga:=ga) (oa:=oa) (d:=(d:Int)) (err:=0) (p:=p) (w:=w) (P:=fun w''=>∃m,Met B bw w v A ⟨q,lv,l,r,false,.fork q lv l r⟩ k.rows w'' m) (fun w' hb=>by
    refine (hmeet w' hb).mono ?_
    rintro e w'' ⟨m,hm,-,rfl⟩
    rw [hdec] at hm
    exact ⟨by unfold onTo;rw [if_pos h0],m,hm⟩)
   refine h.mono ?_
   rintro e w' ⟨rfl,m,v',h1,h2,h3,h4,-,-,h7⟩
   refine ⟨h3,(fun h=>by cases h),fun L s' hl=>?_⟩
   simp only [Option.some.injEq,Prod.mk.injEq] at hl
   obtain ⟨rfl,rfl⟩:=hl
   exact ⟨rfl,v',[m],h1,.cons h2 .nil,h4,fun x hx j hj hQ=>by
    rw [List.mem_singleton.1 hx] at hj
    exact hfar m h7 j hj hQ⟩
  ·rw [if_neg h0]
   -- which kid it is,told once
   obtain ⟨sd,hsd⟩:∃sd:Bool,sd=decide (0<ordC (A.length%d) p.R q):=⟨_,rfl⟩
   rw [← hsd] at hmeet
   have hres:(if 0<ordC (A.length%d) p.R q then (wayV d p.R r (A.length+1)).map fun x=>((⟨q,lv,l,r,true,.fork q lv l r⟩:St)::x.1,x.2) else (wayV d p.R l (A.length+1)).map fun x=>((⟨q,lv,l,r,false,.fork q lv l r⟩:St)::x.1,x.2))=(wayV d p.R (if sd then r else l) (A.length+1)).map fun x=>((⟨q,lv,l,r,sd,.fork q lv l r⟩:St)::x.1,x.2):=by
    by_cases h1:0<ordC (A.length%d) p.R q
    ·rw [if_pos h1,hsd,decide_eq_true h1]
     rfl
    ·rw [if_neg h1,hsd,decide_eq_false h1]
     rfl
   rw [hres]
   have ihr:=down_any (gs:=gs) (B:=B) (bw:=bw) hd hW p hpd r
   have ihl:=down_any (gs:=gs) (B:=B) (bw:=bw) hd hW p hpd l
   have ih:∀(k:Kd) (ga oa:Nat) (w:World) (Q:Nat→Prop) (v:Value) (A:List MSt),PL w gs Q s→Sees s.W d (if sd then r else l)→k.Ok w→w.rangeAt ga oa k.cells→k.pk=(if sd then r else l).kid→(∀x∈k.rows,AsideR bw v A x)→WaySt B bw w v A→B≤w.heap.size→p.Ok w→AsideR bw v A p→¬Q bw→(∀j,v.ownBlock=some j→¬Q j)→Aw Q k→(∀y,p.p=some y→p.R≠[]→¬Q y.block)→(A.length:Int)+(if sd then r else l).kid.size≤90000→
     Calls Tryz.prog 106 #[.agg #[.pointer (some ⟨gs,0,none⟩),.int .i64 d],.pointer (some ⟨bw,0,none⟩),.pointer (some ⟨ga,oa,none⟩),p.val] w (WayTold B bw w v A Q (wayV d p.R (if sd then r else l) A.length)):=by
    cases sd
    ·exact ihl
    ·exact ihr
   have hss:Sees s.W d (if sd then r else l):=by
    cases sd
    ·exact hs.2.2.1
    ·exact hs.2.2.2
   have hzz:(if sd then r else l).kid.size≤l.kid.size+r.kid.size:=by
    cases sd
    ·show l.kid.size≤_;omega
    ·show r.kid.size≤_;omega
   refine down_on (P:=fun gb ob w' w''=>∃m,Met B bw w v A ⟨q,lv,l,r,sd,.fork q lv l r⟩ k.rows w'' m∧Met B bw w' v A ⟨q,lv,l,r,sd,.fork q lv l r⟩ k.rows w'' m∧gb=m.gk∧ob=37*m.sideN) (fun w' hb=>?_) (fun gb ob w' w'' hb hm=>?_) (Array.getElem?_eq_some_iff.1 hw.box).1
   ·refine (hmeet w' hb).mono ?_
    rintro e w'' ⟨m,hm,hm',rfl⟩
    exact ⟨m.gk,37*m.sideN,by unfold onTo;rw [if_neg h0],m,hm,hm',rfl,rfl⟩
   ·obtain ⟨m,⟨v',h1,h2,h3,h4,h5,h6,h7⟩,⟨v2,g1,g2,g3,g4,g5,g6,-⟩,rfl,rfl⟩:=hm
    have hbwl:=(Array.getElem?_eq_some_iff.1 hw.box).1
    have hmo:=h1.way.each m (by simp)
    have hms:m.side=sd:=h2.side.symm
    have hkk:∃kc:Kd,kc.Ok w''∧w''.rangeAt m.gk (37*m.sideN) kc.cells∧kc.pk=(if sd then r else l).kid∧∀x∈kc.rows,x∈m.rows:=by
     unfold MSt.sideN
     rw [hms]
     cases sd
     ·exact ⟨m.k1,hmo.k1,hmo.kid1,h2.l.symm,fun x hx=>by simp [MSt.rows,hx]⟩
     ·exact ⟨m.k2,hmo.k2,hmo.kid2,h2.r.symm,fun x hx=>by simp [MSt.rows,hx]⟩
    obtain ⟨kc,hc1,hc2,hc3,hc4⟩:=hkk
    have hpo':p.Ok w'':=Nd.rw_keep hpo fun y hy hR=>h3.block _ (rw_lt hpo y hy hR) (fun e=>e.elim (hpa y hy hR).1 (hpa y hy hR).2.1)
    refine ⟨fun b hb1 hb2 hb3=>g3.block b hb2 (fun e=>e.elim hb3 (fun e=>by have:=(hw.own.lt b e).2;omega)),?_⟩
    have hnq:∀j,Q j→¬(j=bw∨v.ownBlock=some j):=fun j hj e=>e.elim (fun e=>hq1 (e▸hj)) (fun e=>hq2 j e hj)
    have h:=ih kc m.gk (37*m.sideN) w'' Q v' (A++[m]) (hp.keep _ h3 hnq) hss hc1 hc2 hc3 (fun x hx=>aside_on h1 (hc4 x hx)) h1 (Nat.le_trans hB h3.size) hpo' (aside_more hpa hpo h4 ⟨h5,h6⟩) hq1 (fun j e hj=>by
     rcases h4 with h | ⟨i,h,hi⟩
     ·exact hq2 j (h.symm.trans e) hj
     ·rw [h] at e
      have:=Option.some.inj e
      have:=hp.lt j hj
      omega) (fun r hr y hy hR=>hfar m h7 _ (Or.inr (Or.inr ⟨r,hc4 r hr,y,hy,hR,rfl⟩))) hq4 (by rw [List.length_append];simp only [List.length_cons,List.length_nil];omega)
    rw [List.length_append] at h
    simp only [List.length_cons,List.length_nil,Nat.zero_add] at h
    refine h.mono ?_
    rintro e w3 ⟨ho,hn,hsm⟩
    cases hwy:wayV d p.R (if sd then r else l) (A.length+1) with
    | none=>
     refine ⟨21,hn hwy,only_way h3 ho h4,fun _=>hn hwy,fun L s' hl=>?_⟩
     cases hl
    | some x=>
     obtain ⟨L0,s0⟩:=x
     obtain ⟨he0,v3,A3,hw3,hl3,hv3,hf3⟩:=hsm L0 s0 hwy
     refine ⟨0,he0,only_way h3 ho h4,fun hh=>?_,fun L s' hl=>?_⟩
     ·cases hh
     ·simp only [Option.map_some,Option.some.injEq,Prod.mk.injEq] at hl
      obtain ⟨rfl,rfl⟩:=hl
      refine ⟨he0,v3,m::A3,by rw [List.append_assoc] at hw3;exact hw3,.cons h2 hl3,?_,fun x hx=>(List.mem_cons.1 hx).elim (fun e=>by rw [e];exact hfar m h7) (fun hx=>hf3 x hx)⟩
      rcases hv3 with h | ⟨i,h,hi⟩
      ·rcases h4 with h5 | ⟨i,h5,hi⟩
       ·exact Or.inl (h.trans h5)
       ·exact Or.inr ⟨i,h.trans h5,hi⟩
      ·exact Or.inr ⟨i,h,Nat.le_trans h3.size hi⟩
theorem tr_built (p:Option Addr) (d:Int):Tryz.prog.built 91 [(0,.pointer p),(1,.int .i64 d)]=some #[.pointer p,.int .i64 d]:=by kernel_rfl
theorem tr_one (p:Option Addr) (d:Int):(#[.pointer p,.int .i64 d]:Array Value).all (·.oneCell')=true:=all_oneCell_toArray (cs:=[.pointer p,.int .i64 d]) fun u hu=>by
 simp only [List.mem_cons,List.not_mem_nil,or_false] at hu
 rcases hu with rfl | rfl<;>rfl
def WaySays (sp:Option Addr) (d:Int) (k:Kd) (r:Rw) (err:Int) (w:World):Prop:=∀w',Below w.heap.size w w'→Calls Tryz.prog 53 #[.agg #[.pointer sp,.int .i64 d],.agg k.cells.toArray,r.val] w' (WayErr w' err)
theorem Has_err (sp:Option Addr) (d:Int) (k:Kd) (r:Rw) (err:Int) (w:World) (hk:k.Ok w) (hw:WaySays sp d k r err w) (he:err≠0):
  Calls Tryz.prog 25 #[.pointer sp,.agg k.cells.toArray,r.val,.int .i64 d] w fun e w'=>e= .returned (.tuple #[.bool false,.int .i64 err])∧Below w.heap.size w w':=by
 have b1:Below w.heap.size w (w.alloc (.cells k.cells.toArray 34)):=(Below.refl _ _).alloc (Nat.le_refl _) _
 have r1:=heap_alloc_new w (.cells k.cells.toArray 34)
 have HW:=Lib.hid hw
 have e1:(err !=0)=true:=by simpa using he
 have HCL:=Lib.hid (Kd.cells_length hk.len)
 have R1:=Lib.hid r1
 have B1:=Lib.hid b1
 obtain ⟨rp,rn,rc,rR⟩:=r
 unfold WaySays Rw.val at HW
 unfold Rw.val
 simp only at HW ⊢
 obtain ⟨du,hdu,hdr⟩:=UTr
 obtain ⟨dk,hdk,hdkr⟩:=UKd
 have HDU:=Lib.hid hdu
 have HDR:=Lib.hid hdr
 have HDK:=Lib.hid hdk
 have HDKR:=Lib.hid hdkr
 clear hk hw he b1 r1 hdu hdr hdk hdkr
 go_enter Tryz.func25,Tryz.ntmps25
 go_upto_region 1 with fail
 generalize w.alloc (.cells k.cells.toArray 34)=w1 at *
 go_upto_region 2 with (first
  | (refine wpList_build (cells:= #[.pointer sp,.int .i64 d]) (by rfl) (by rfl) (by simp only [List.map_toArray,List.map_cons,List.map_nil];exact tr_built _ _) ?_)
  | (refine wpList_store_row (by rfl) 91 (.tmp 10) (.tmp 15) (by rfl) w1.heap.size #[.pointer sp,.int .i64 d] (by rfl) (by rfl) _ _ (heap_alloc_new w1 _) STr rfl (tr_one _ _) ?_;rw [setRow_alloc]))
 have hb2:Below w1.heap.size w1 (w1.alloc (.cells #[.pointer sp,.int .i64 d] 91)):=(Below.refl _ _).alloc (Nat.le_refl _) _
 have hr2:=heap_alloc_new w1 (.cells #[.pointer sp,.int .i64 d] 91)
 generalize w1.alloc (.cells #[.pointer sp,.int .i64 d] 91)=w2 at *
 have R2:=Lib.hid (range_tr hr2)
 have RK2:=Lib.hid (range_kd ((hb2.block _ (Array.getElem?_eq_some_iff.1 R1.out).1).trans R1.out))
 have B2:=Lib.hid (B1.out.trans (hb2.mono B1.out.size))
 clear hb2 hr2
 go_wp2_with (first
  | (refine wpList_load_mid (by rfl) 91 _ (by rfl) w1.heap.size 0 (by rfl) [.pointer sp,.int .i64 d] du R2.out HDU.out HDR.out STr ?_)
  | (refine wpList_load_mid (by rfl) 34 _ (by rfl) w.heap.size 0 (by rfl) k.cells dk RK2.out HDK.out HDKR.out (by rw [HCL.out];exact SKd) ?_)
  | (go_at_call 53;refine (HW.out w2 B2.out).mono ?_;rintro _ w3 ⟨rfl,b3⟩;have B3:=Lib.hid (B2.out.trans (b3.mono B2.out.size));clear b3))
 go_ret2
 exact ⟨rfl,B3.out⟩
theorem Insert_err (sp:Option Addr) (d:Int) (k:Kd) (r:Rw) (err:Int) (w:World) (hk:k.Ok w) (hw:WaySays sp d k r err w) (he:err≠0):
  Calls Tryz.prog 15 #[.pointer sp,.agg k.cells.toArray,r.val,.int .i64 d] w fun e w'=>e= .returned (.tuple #[.agg kd0.cells.toArray,.int .i64 err])∧Below w.heap.size w w':=by
 obtain ⟨W,hW,r0,r1,b1⟩:=two_alloc w (.cells k.cells.toArray 34) (.cells kd0.cells.toArray 34)
 have HW:=Lib.hid hw
 have e1:(err !=0)=true:=by simpa using he
 have HCL:=Lib.hid (Kd.cells_length hk.len)
 have R0:=Lib.hid r0
 have R1:=Lib.hid r1
 have B1:=Lib.hid b1
 obtain ⟨rp,rn,rc,rR⟩:=r
 unfold WaySays at HW
 unfold Rw.val at HW
 unfold Rw.val
 simp only at HW ⊢
 obtain ⟨du,hdu,hdr⟩:=UTr
 obtain ⟨dk,hdk,hdkr⟩:=UKd
 have HDU:=Lib.hid hdu
 have HDR:=Lib.hid hdr
 have HDK:=Lib.hid hdk
 have HDKR:=Lib.hid hdkr
 have HZ:=Lib.hid (zero_of_info kz)
 have hz0:=HZ.out.1
 clear hk hw he b1 r0 r1 hdu hdr hdk hdkr
 go_enter Tryz.func15,Tryz.ntmps15
 go_upto_region 1 with fail
 clear hW
 go_upto_region 2 with (first
  | (refine wpList_build (cells:= #[.pointer sp,.int .i64 d]) (by rfl) (by rfl) (by simp only [List.map_toArray,List.map_cons,List.map_nil];exact tr_built _ _) ?_)
  | (refine wpList_store_row (by rfl) 91 (.tmp 10) (.tmp 18) (by rfl) W.heap.size #[.pointer sp,.int .i64 d] (by rfl) (by rfl) _ _ (heap_alloc_new W _) STr rfl (tr_one _ _) ?_;rw [setRow_alloc]))
 have hb2:Below W.heap.size W (W.alloc (.cells #[.pointer sp,.int .i64 d] 91)):=(Below.refl _ _).alloc (Nat.le_refl _) _
 have hr2:=heap_alloc_new W (.cells #[.pointer sp,.int .i64 d] 91)
 generalize W.alloc (.cells #[.pointer sp,.int .i64 d] 91)=w2 at *
 have R2:=Lib.hid (range_tr hr2)
 have RK2:=Lib.hid (range_kd ((hb2.block _ (Array.getElem?_eq_some_iff.1 R0.out).1).trans R0.out))
 have RS2:=Lib.hid ((hb2.block _ (Array.getElem?_eq_some_iff.1 R1.out).1).trans R1.out)
 have B2:=Lib.hid (B1.out.trans (hb2.mono B1.out.size))
 clear hb2 hr2
 go_wp2_with (first
  | (refine wpList_load_mid (by rfl) 91 _ (by rfl) W.heap.size 0 (by rfl) [.pointer sp,.int .i64 d] du R2.out HDU.out HDR.out STr ?_)
  | (refine wpList_load_mid (by rfl) 34 _ (by rfl) w.heap.size 0 (by rfl) k.cells dk RK2.out HDK.out HDKR.out (by rw [HCL.out];exact SKd) ?_)
  | (go_at_call 53;refine (HW.out w2 B2.out).mono ?_;rintro _ w3 ⟨rfl,b3⟩;have B3:=Lib.hid (B2.out.trans (b3.mono B2.out.size));have RS3:=Lib.hid ((b3.block _ (Array.getElem?_eq_some_iff.1 RS2.out).1).trans RS2.out);clear b3)
  | (refine wpList_build (by rfl) (by rfl) kd0_built ?_)
  | (refine wpList_store_row (by rfl) 34 _ _ (by rfl) (w.heap.size+1) kd0.cells.toArray (by rfl) (by rfl) _ _ RS3.out (by rw [List.size_toArray,kd0_size];exact SKd) rfl (all_oneCell_toArray Kd.one) ?_))
 refine ret_str2 8 9 (by kernel_rfl) (w.heap.size+1) _ kd0.cells.toArray _ HDK.out HDKR.out (by rw [List.size_toArray,kd0_size];exact SKd) (by rfl) (by rfl) (setRow_heap _ _ _ _ _ _ RS3.out) ?_
 exact ⟨rfl,B3.out.trans (Below.setRow (Below.refl _ _) (by omega) _)⟩
theorem Delete_err (sp:Option Addr) (d:Int) (k:Kd) (r:Rw) (err:Int) (w:World) (hk:k.Ok w) (hw:WaySays sp d k r err w) (he:err≠0):
  Calls Tryz.prog 17 #[.pointer sp,.agg k.cells.toArray,r.val,.int .i64 d] w fun e w'=>e= .returned (.tuple #[.agg kd0.cells.toArray,.int .i64 err])∧Below w.heap.size w w':=by
 obtain ⟨W,hW,r0,rr,r1,b1⟩:=three_alloc w (.cells k.cells.toArray 34) (.cells #[r.val] 24) (.cells kd0.cells.toArray 34)
 have HW:=Lib.hid hw
 have e1:(err !=0)=true:=by simpa using he
 have HCL:=Lib.hid (Kd.cells_length hk.len)
 have R0:=Lib.hid r0
 have R1:=Lib.hid r1
 have RR:=Lib.hid rr
 have B1:=Lib.hid b1
 obtain ⟨rp,rn,rc,rR⟩:=r
 unfold WaySays at HW
 unfold Rw.val at HW RR hW
 unfold Rw.val
 simp only at HW RR hW ⊢
 obtain ⟨du,hdu,hdr⟩:=UTr
 obtain ⟨dk,hdk,hdkr⟩:=UKd
 have HDU:=Lib.hid hdu
 have HDR:=Lib.hid hdr
 have HDK:=Lib.hid hdk
 have HDKR:=Lib.hid hdkr
 have HZ:=Lib.hid (zero_of_info kz)
 have hz0:=HZ.out.1
 clear hk hw he b1 r0 r1 rr hdu hdr hdk hdkr
 go_enter Tryz.func17,Tryz.ntmps17
 go_upto_region 1 with fail
 clear hW
 go_upto_region 2 with (first
  | (refine wpList_build (cells:= #[.pointer sp,.int .i64 d]) (by rfl) (by rfl) (by simp only [List.map_toArray,List.map_cons,List.map_nil];exact tr_built _ _) ?_)
  | (refine wpList_store_row (by rfl) 91 (.tmp 10) (.tmp 16) (by rfl) W.heap.size #[.pointer sp,.int .i64 d] (by rfl) (by rfl) _ _ (heap_alloc_new W _) STr rfl (tr_one _ _) ?_;rw [setRow_alloc]))
 have hb2:Below W.heap.size W (W.alloc (.cells #[.pointer sp,.int .i64 d] 91)):=(Below.refl _ _).alloc (Nat.le_refl _) _
 have hr2:=heap_alloc_new W (.cells #[.pointer sp,.int .i64 d] 91)
 generalize W.alloc (.cells #[.pointer sp,.int .i64 d] 91)=w2 at *
 have R2:=Lib.hid (range_tr hr2)
 have RK2:=Lib.hid (range_kd ((hb2.block _ (Array.getElem?_eq_some_iff.1 R0.out).1).trans R0.out))
 have RS2:=Lib.hid ((hb2.block _ (Array.getElem?_eq_some_iff.1 R1.out).1).trans R1.out)
 have cr:w2.cell? ⟨w.heap.size+1,0,none⟩=some (.slice rp rn rc):=cell_of_row w2 (w.heap.size+1) 0 _ _ _ ((hb2.block _ (Array.getElem?_eq_some_iff.1 RR.out).1).trans RR.out)
 have B2:=Lib.hid (B1.out.trans (hb2.mono B1.out.size))
 clear hb2 hr2
 go_wp2_with (first
  | (refine wpList_load_mid (by rfl) 91 _ (by rfl) W.heap.size 0 (by rfl) [.pointer sp,.int .i64 d] du R2.out HDU.out HDR.out STr ?_)
  | (refine wpList_load_mid (by rfl) 34 _ (by rfl) w.heap.size 0 (by rfl) k.cells dk RK2.out HDK.out HDKR.out (by rw [HCL.out];exact SKd) ?_)
  | (go_at_call 53;refine (HW.out w2 B2.out).mono ?_;rintro _ w3 ⟨rfl,b3⟩;have B3:=Lib.hid (B2.out.trans (b3.mono B2.out.size));have RS3:=Lib.hid ((b3.block _ (Array.getElem?_eq_some_iff.1 RS2.out).1).trans RS2.out);clear b3)
  | (refine wpList_build (by rfl) (by rfl) kd0_built ?_)
  | (refine wpList_store_row (by rfl) 34 _ _ (by rfl) (w.heap.size+2) kd0.cells.toArray (by rfl) (by rfl) _ _ RS3.out (by rw [List.size_toArray,kd0_size];exact SKd) rfl (all_oneCell_toArray Kd.one) ?_))
 refine ret_str2 8 9 (by kernel_rfl) (w.heap.size+2) _ kd0.cells.toArray _ HDK.out HDKR.out (by rw [List.size_toArray,kd0_size];exact SKd) (by rfl) (by rfl) (setRow_heap _ _ _ _ _ _ RS3.out) ?_
 exact ⟨rfl,B3.out.trans (Below.setRow (Below.refl _ _) (by omega) _)⟩
end Go.Proofs.YtinihaflmdihaaaGreat.Kt
