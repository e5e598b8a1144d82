/- NlTally, PgKey, PgPe, PgMap, PgLand, PgNew. -/
import Derived.BigRegion
import Derived.Maps.RangeWalk
import Derived.DeepKeys4
import Derived.Maps.OwnSet
import Derived.Test.YtinihaflmdihaaaGreatL11
set_option maxRecDepth 100000
set_option maxHeartbeats 8000000
set_option linter.all false
namespace Go.Proofs.YtinihaflmdihaaaGreat.Nd
open Go.RowKit Go.Proofs.YtinihaflmdihaaaGreat.Dk
open List renaming setIfInBounds_toArray → yA, set_cons_zero → yB, set_cons_succ → yC
def Fsh (w:World) (kd:Kd):Prop:=∀r∈kd.rows,∀x,r.p=some x→r.R≠[]→w.heap.size≤x.block
theorem Fsh.start {w:World} {x:Int} {r:Rw} {B:Nat} {w':World} (h:FrRw w' B r) (hB:w.heap.size≤B):Fsh w ⟨zeros 32,⟨none,0,0,[]⟩,⟨none,0,0,[]⟩,0,x,r⟩:=fun r' hr' y hy hR=>by
 simp only [Kd.rows,List.mem_cons,List.not_mem_nil,or_false] at hr'
 rcases hr' with rfl | rfl | rfl
 ·exact absurd rfl hR
 ·exact absurd rfl hR
 ·exact Nat.le_trans hB (h.lo y hy hR)
theorem Fsh.box {w w':World} {kd:Kd} {l z:Int} {r1 r2:Rw} {B:Nat} (h:Fsh w kd) (h1:FrRw w' B r1) (h2:FrRw w' B r2) (hB:w.heap.size≤B):Fsh w {kd with live:=l,size:=z,lo:=r1,hi:=r2}:=fun r' hr' y hy hR=>by
 simp only [Kd.rows,List.mem_cons,List.not_mem_nil,or_false] at hr'
 rcases hr' with rfl | rfl | rfl
 ·exact Nat.le_trans hB (h1.lo y hy hR)
 ·exact Nat.le_trans hB (h2.lo y hy hR)
 ·exact h _ (by simp [Kd.rows]) y hy hR
def Ta1 (w:World) (gn kind:Nat) (p:Option Addr) (n c:Nat) (q:Option Addr) (m f gr gx:Nat) (L:List PE) (KR:List Int) (i:Value) (wr:World):Prop:=
 ∃(k:Nat) (kd:Kd),k≤n∧i= .int .i64 k∧TaSt w wr gn kind p n c q m f gr gx kd∧kd.pk=⟨zeros 32,(boxR (L.take k)).1,(boxR (L.take k)).2,liveR (L.take k),n,KR⟩∧Fsh w kd
def Ta2 (w:World) (gn kind:Nat) (p:Option Addr) (n c:Nat) (q:Option Addr) (m f gr gx:Nat) (b:List Int×List Int) (lv:Int) (L:List PK) (KR:List Int) (i:Value) (wr:World):Prop:=
 ∃(k:Nat) (kd:Kd),k≤m∧i= .int .i64 k∧TaSt w wr gn kind p n c q m f gr gx kd∧kd.pk=⟨zeros 32,((L.take k).foldl boxK b).1,((L.take k).foldl boxK b).2,lv+((L.take k).map PK.live).sum,n+((L.take k).map PK.size).sum,KR⟩∧Fsh w kd
def y0v (w:World) (T:PK) (e:Ending) (w':World):Prop:=∃kd:Kd,e= .returned (.agg kd.cells.toArray)∧kd.pk=T∧kd.Ok w'∧Fsh w kd∧Below w.heap.size w w'
theorem x7J {R:List Int} {n:Nat} (h:n=R.length):part (fun k=>R.getD k 0) n n=R:=by
 subst h
 apply List.ext_getElem
 ·simp [part]
 ·intro i h1 h2
  simp [part,List.getD_eq_getElem?_getD,h2]
theorem In64.nat {x:Nat} (h:x≤9223372036854775807):In64 (x:Int):=⟨by omega,by omega⟩
theorem x7K (kind:Nat) (p:Option Addr) (n c:Nat) (q:Option Addr) (m f:Nat) (E:List En) (K:List Kd) (d:Int) (w:World) (hE:EntsIn w p n c E) (hK:KidsIn w q m f K) (hr:(pnOf kind E K).right d=true):
  Calls Tryz.prog 206 #[.agg #[.int .u8 kind,.slice p n c,.slice q m f]] w (y0v w (pnOf kind E K).tally):=by
 have BJ:Below w.heap.size w (w.alloc (.cells #[.int .u8 kind,.slice p n c,.slice q m f] 81)):=(Below.refl _ _).alloc (Nat.le_refl _) _
 have BM:=NodeAt.start w kind p n c q m f
 have z1:(w.alloc (.cells #[.int .u8 kind,.slice p n c,.slice q m f] 81)).heap.size=w.heap.size+1:=by simp
 have Ao:=PN.fit hr
 obtain ⟨hd,AZ,Ac,-⟩:=PN.kinds hr
 have AV:n≤4:=by have:=Ao.rows;simp only [pnOf,List.length_map] at this;rw [hE.size];exact this
 have Al:m≤4:=by have:=Ao.kids;simp only [pnOf,List.length_map] at this;rw [hK.size];exact this
 have B9:=yH (show ∀e∈E,(e.row.R.length:Int)=d from fun e he=>AZ _ (List.mem_map.2 ⟨e,he,rfl⟩))
 have Af:=yH (show ∀k∈K,(0≤k.live∧k.live≤1048576)∧(0≤k.size∧k.size≤1048576) from fun k hk=>by
  have h:=x4q (Ac _ (List.mem_map.2 ⟨k,hk,rfl⟩))
  exact ⟨h.1,h.2.1⟩)
 have Ad:=yH (fun w1 (h:Below w.heap.size w w1)=>y4F kind p n c q m f E K d w1 (hE.later h) (hK.later h) hr)
 have Aq:(pnOf kind E K).tally=⟨zeros 32,((K.map Kd.pk).foldl boxK (boxR (E.map En.pe))).1,((K.map Kd.pk).foldl boxK (boxR (E.map En.pe))).2,liveR (E.map En.pe)+((K.map Kd.pk).map PK.live).sum,n+((K.map Kd.pk).map PK.size).sum,(pnOf kind E K).keyOf⟩:=by
  unfold PN.tally PN.box PN.live PN.size pnOf
  simp only [List.length_map]
  rw [← hE.size]
 obtain ⟨T,hT⟩:∃T,(pnOf kind E K).tally=T:=⟨_,rfl⟩
 rw [hT] at Aq ⊢
 generalize (pnOf kind E K).keyOf=KR at *
 have Bf:=yH Aq
 have HD:=yH hd
 have AU:=yH AV
 have Bg:=yH Al
 have HE:=yH hE
 have HK:=yH hK
 have Ax:=yH hE.size
 have BZ:=yH hK.size
 obtain ⟨du,BL,BK⟩:=UKd
 have B5:=yH BL
 have B3:=yH BK
 have HZ:=yH (zero_of_info kz)
 clear hE hK hr Ao AZ Ac Aq hT hd AV Al BL BK
 have BE:=HZ.out.1
 go_enter Tryz.func206,Tryz.ntmps206
 go_upto_region 1 with fail
 have Av:Below (w.heap.size+1) (w.alloc (.cells #[.int .u8 kind,.slice p n c,.slice q m f] 81)) ((w.alloc (.cells #[.int .u8 kind,.slice p n c,.slice q m f] 81)).alloc (.cells kd0.cells.toArray 34)):=(Below.refl _ _).alloc (by omega) _
 have r2:=heap_alloc_new (w.alloc (.cells #[.int .u8 kind,.slice p n c,.slice q m f] 81)) (.cells kd0.cells.toArray 34)
 rw [z1] at r2
 have z2:((w.alloc (.cells #[.int .u8 kind,.slice p n c,.slice q m f] 81)).alloc (.cells kd0.cells.toArray 34)).heap.size=w.heap.size+2:=by simp
 have AN:=yH (BM.later (by rw [z1];exact Av))
 have J:=yH (BJ.trans (Av.mono (by omega)))
 have B4:=yH r2
 have v:=yH z2
 clear BJ BM z1 Av r2 z2
 generalize (w.alloc (.cells #[.int .u8 kind,.slice p n c,.slice q m f] 81)).alloc (.cells kd0.cells.toArray 34)=w2 at *
 go_cut [3] (fun v3 wx=>∃(G:Nat) (O:Rw),v3= .pointer (some ⟨G,0,none⟩)∧O.R=KR∧TaSt w wx w.heap.size kind p n c q m f (w.heap.size+1) G ⟨zeros 32,⟨none,0,0,[]⟩,⟨none,0,0,[]⟩,0,n,O⟩∧Fsh w ⟨zeros 32,⟨none,0,0,[]⟩,⟨none,0,0,[]⟩,0,n,O⟩)
 case first=>
  refine wp_region_held_drew (S:=fun w'=>NodeAt w' w.heap.size kind p n c q m f) (by kernel_rfl) (AN.out.later (Below.refl _ _).drew) (fun hHeld=>?_)
  refine tK 0 ?_
  refine tQ 1 ?_ ?_ ?_
  rotate_left
  ·intro w' hSw
   obtain ⟨t0,t1,t2⟩:=hSw.cells
   go_simp
   try with_reducible rfl
  refine tK 2 ?_
  refine tQ 3 ?_ ?_ ?_
  rotate_left
  ·intro w' hSw
   obtain ⟨t0,t1,t2⟩:=hSw.cells
   go_simp
   try with_reducible rfl
  refine rY [4,6] ?_
  refine rC (fun K hK=>?_) (rC (fun K hK=>?_) AllReadyH.nil)
  ·
   go_simp
   have U:Below w2.heap.size w2 w2.drew:=(Below.refl _ _).drew
   refine (Ad.out w2.drew (J.out.trans (U.mono J.out.size))).mono ?_
   rintro _ w5 ⟨O,rfl,s,AB,b5⟩
   have Au:=yH s
   have l:=yH AB
   have I:Below w2.heap.size w2 w5:=U.trans (b5.mono U.size)
   have M:=yH I
   have AC:=yH (AN.out.later I)
   have AG:=yH (yK I B4.out)
   clear s AB b5 I U
   unfold Rw.val
   try go_wp2_with fail
   refine hK.out _ _ AC.out (fun hHeld=>?_)
   clear hK K
   try simp only [Act.put,yA,yB,yC]
   refine tQ 5 ?_ ?_ ?_
   rotate_left
   ·intro w' hSw
    refine Eq.trans (b:=Result.ok (Next.value (.agg (⟨zeros 32,⟨none,0,0,[]⟩,⟨none,0,0,[]⟩,0,n,O⟩:Kd).cells.toArray)) w') ?_ ?_
    ·apply x0t (t:=34) (parts:= #[(3,.tmp 10),(4,.tmp 12)])
     ·rfl
     ·simp only [List.map_toArray,List.map_cons,List.map_nil]
      exact x8V n O.p O.n O.c O.R
    ·with_reducible rfl
   refine rO 6 fun K hK=>?_
   go_simp
   have N:Below w5.heap.size w5 (w5.alloc (.cells kd0.cells.toArray 34)):=(Below.refl _ _).alloc (Nat.le_refl _) _
   have AS:=yH (AC.out.later N)
   have Bm:=yH (yK N AG.out)
   have AR:=yH (heap_alloc_new w5 (.cells kd0.cells.toArray 34))
   have AQ:=yH (M.out.trans (N.mono M.out.size))
   have BG:=yH (l.out.later N)
   clear N
   try go_wp2_with fail
   refine hK.out _ _ AS.out (fun hHeld=>?_)
   clear hK K
   try simp only [Act.put,yA,yB,yC]
   refine rO 7 fun K hK=>?_
   refine wp_store_row 34 (.tmp 3) (.tmp 13) (by rfl) w5.heap.size (⟨zeros 32,⟨none,0,0,[]⟩,⟨none,0,0,[]⟩,0,n,O⟩:Kd).cells.toArray (by rfl) (by rfl) _ _ AR.out (by rw [List.size_toArray,x6R];exact SKd) (by rw [List.size_toArray,List.size_toArray,x01,x6R]) (all_oneCell_toArray Kd.one) ?_
   have u:=yH (x8U (w0:=w) (gr:=w.heap.size+1) (x:=n) AS.out Bm.out AR.out ⟨BG.out.ok,(fun x hx hR=>by have:=l.out.lt x hx hR;omega),BG.out.away (by have:=v.out;have:=M.out.size;simp;omega)⟩ (J.out.trans (AQ.out.mono J.out.size)) ⟨Nat.le_refl _,by omega,by have:=J.out.size;have:=M.out.size;omega⟩ ⟨by have:=v.out;have:=M.out.size;omega,by have:=v.out;have:=M.out.size;omega,by omega⟩ (In64.nat (by have:=AU.out;omega)))
   refine hK.out _ _ u.out.node (fun hHeld=>?_)
   clear hK K
   try simp only [Act.put]
   refine wpAnyH_done (by kernel_rfl) ?_ _
   go_wp2_with fail
   go_meet
   exact ⟨w5.heap.size,O,rfl,Au.out,u.out,Fsh.start l.out (by have:=J.out.size;simp;omega)⟩
  ·
   go_simp
   have N:Below w2.drew.heap.size w2.drew (w2.drew.alloc (.cells kd0.cells.toArray 34)):=(Below.refl _ _).alloc (Nat.le_refl _) _
   have AQ:=yH (show Below w2.heap.size w2 (w2.drew.alloc (.cells kd0.cells.toArray 34)) from (Below.refl w2.heap.size w2).drew.trans N)
   have AS:=yH (AN.out.later AQ.out)
   have AR:=yH (show (w2.drew.alloc (.cells kd0.cells.toArray 34)).heap[w2.heap.size]? =some (.cells kd0.cells.toArray 34 (0,0)) from heap_alloc_new w2.drew (.cells kd0.cells.toArray 34))
   clear N
   try go_wp2_with fail
   refine hK.out _ _ AS.out (fun hHeld=>?_)
   clear hK K
   try simp only [Act.put,yA,yB,yC]
   refine rO 4 fun K hK=>?_
   go_simp
   have U:Below w2.heap.size w2 (w2.drew.alloc (.cells kd0.cells.toArray 34)):=AQ.out
   refine (Ad.out (w2.drew.alloc (.cells kd0.cells.toArray 34)) (J.out.trans (U.mono J.out.size))).mono ?_
   rintro _ w5 ⟨O,rfl,s,AB,b5⟩
   have Au:=yH s
   have l:=yH AB
   have I:Below w2.heap.size w2 w5:=U.trans (b5.mono U.size)
   have M:=yH I
   have AC:=yH (AN.out.later I)
   have AG:=yH (yK I B4.out)
   have BO:=yH ((b5.block _ (by simp)).trans AR.out)
   clear s AB b5 I U
   unfold Rw.val
   try go_wp2_with fail
   refine hK.out _ _ AC.out (fun hHeld=>?_)
   clear hK K
   try simp only [Act.put,yA,yB,yC]
   refine tQ 5 ?_ ?_ ?_
   rotate_left
   ·intro w' hSw
    refine Eq.trans (b:=Result.ok (Next.value (.agg (⟨zeros 32,⟨none,0,0,[]⟩,⟨none,0,0,[]⟩,0,n,O⟩:Kd).cells.toArray)) w') ?_ ?_
    ·apply x0t (t:=34) (parts:= #[(3,.tmp 10),(4,.tmp 12)])
     ·rfl
     ·simp only [List.map_toArray,List.map_cons,List.map_nil]
      exact x8V n O.p O.n O.c O.R
    ·with_reducible rfl
   refine rO 7 fun K hK=>?_
   refine wp_store_row 34 (.tmp 3) (.tmp 13) (by rfl) w2.heap.size (⟨zeros 32,⟨none,0,0,[]⟩,⟨none,0,0,[]⟩,0,n,O⟩:Kd).cells.toArray (by rfl) (by rfl) _ _ BO.out (by rw [List.size_toArray,x6R];exact SKd) (by rw [List.size_toArray,List.size_toArray,x01,x6R]) (all_oneCell_toArray Kd.one) ?_
   have u:=yH (x8U (w0:=w) (gr:=w.heap.size+1) (x:=n) AC.out AG.out BO.out ⟨l.out.ok,(l.out.away (by simp)),l.out.away (by have:=v.out;have:=M.out.size;simp;omega)⟩ (J.out.trans (M.out.mono J.out.size)) ⟨Nat.le_refl _,by omega,by have:=J.out.size;have:=M.out.size;omega⟩ ⟨by have:=v.out;have:=M.out.size;omega,by have:=v.out;have:=M.out.size;omega,by omega⟩ (In64.nat (by have:=AU.out;omega)))
   refine hK.out _ _ u.out.node (fun hHeld=>?_)
   clear hK K
   try simp only [Act.put]
   refine wpAnyH_done (by kernel_rfl) ?_ _
   go_wp2_with fail
   go_meet
   exact ⟨w2.heap.size,O,rfl,Au.out,u.out,Fsh.start l.out (by have:=J.out.size;simp;omega)⟩
 case rest=>
  obtain ⟨G,O,rfl,s,Q,X⟩:=hcut
  have HFS:=yH X
  obtain ⟨wx,BD⟩:∃w3,w3=wc:=⟨_,rfl⟩
  rw [← BD] at Q ⊢
  clear BD B4 J AN v
  clear w2
  obtain ⟨t0,t1,t2⟩:=Q.node.cells
  have HST:=yH Q
  have HPK0:=yH (show (⟨zeros 32,⟨none,0,0,[]⟩,⟨none,0,0,[]⟩,0,n,O⟩:Kd).pk=⟨zeros 32,(boxR ((E.map En.pe).take 0)).1,(boxR ((E.map En.pe).take 0)).2,liveR ((E.map En.pe).take 0),n,KR⟩ from by rw [← s];rfl)
  clear Q s X
  go_wp2_with fail
  go_loopw [17] (fun i wr=>Ta1 w w.heap.size kind p n c q m f (w.heap.size+1) G (E.map En.pe) KR i wr) (fun i _=>n - (intOf i).toNat)
  case atStart=>exact ⟨0,_,by omega,rfl,HST.out,HPK0.out,HFS.out⟩
  case round=>
   obtain ⟨k,kd,hk,rfl,Q,AI,X⟩:=hrel
   have FS:=yH X
   have ST:=yH Q
   have B:=yH AI
   have AV:=AU.out
   clear Q AI X HFS HST HPK0 t0 t1 t2
   by_cases hlt:k<n
   ·obtain ⟨g,o,rfl,c1,c2,A1⟩:=HE.out.get k hlt
    have c1:=(ST.out.low.cell (block_lt_of_cell c1)).trans c1
    have c2:=(ST.out.low.cell (block_lt_of_cell c2)).trans c2
    have i1:(0:Int)≤k∧(k:Int)<n:=by omega
    have C:k<E.length:=by rw [← Ax.out];exact hlt
    have L:k<(E.map En.pe).length:=by rw [List.length_map];exact C
    have AW:=yH (show boxR ((E.map En.pe).take (k+1))=boxE (boxR ((E.map En.pe).take k)) (E.getD k default).pe from by
     unfold boxR
     rw [x3M boxE _ _ _ L,x1M En.pe E k C])
    have u:=yH (show liveR ((E.map En.pe).take (k+1))=liveR ((E.map En.pe).take k)+(if (E.getD k default).pe.live then (1:Int) else 0) from by
     unfold liveR
     rw [x2Y _ _ _ L,x1M En.pe E k C])
    have BX:=B9.out _ (getD_mem E k C)
    have Bz:=x3q ((E.map En.pe).take k)
    have B7:((E.map En.pe).take k).length≤4:=by rw [List.length_take];omega
    generalize E.getD k default=e at *
    have P:=yH A1
    have CE:=yH BX
    have BR:e.row.n≤8∧1≤e.row.n:=by have:=A1.ints.size;have:=HD.out;omega
    have AX:=yH BR
    unfold Rw.val at c1
    clear A1 BX BR
    go_upto_region 5 with fail
    obtain ⟨z0,z1⟩:=x0W wr (.slice e.row.p e.row.n e.row.c) (.bool e.live) 85
    have N:Below wr.heap.size wr (wr.alloc (.cells #[.slice e.row.p e.row.n e.row.c,.bool e.live] 85)):=(Below.refl _ _).alloc (Nat.le_refl _) _
    have SA:=yH (ST.out.later N)
    have Ak:=yH (show wr.heap.size≠G from fun e=>by have:=(yL ST.out.row);omega)
    generalize wr.alloc (.cells #[.slice e.row.p e.row.n e.row.c,.bool e.live] 85)=wa at *
    generalize wr.heap.size=ge at *
    clear N c1 c2 ST
    cases hlv:e.live with
    | false=>
     rw [hlv] at z1
     have HP1:=yH (show kd.pk=⟨zeros 32,(boxR ((E.map En.pe).take (k+1))).1,(boxR ((E.map En.pe).take (k+1))).2,liveR ((E.map En.pe).take (k+1)),n,KR⟩ from by
      rw [AW.out,u.out,B.out]
      simp [boxE,En.pe,hlv])
     clear hlv
     go_wp2_with fail
     go_roundw
     case rel=>exact ⟨k+1,kd,by omega,by go_num,SA.out,HP1.out,FS.out⟩
     case measure=>simp [intOf];omega
    | true=>
     rw [hlv] at z1
     have BS:kd.live=liveR ((E.map En.pe).take k):=congrArg PK.live B.out
     obtain ⟨lv,AJ⟩:∃lv:Nat,kd.live=lv:=⟨kd.live.toNat,by omega⟩
     have C6:lv≤4:=by omega
     have AF:kd.lo.R=(boxR ((E.map En.pe).take k)).1:=congrArg PK.lo B.out
     have AD:kd.hi.R=(boxR ((E.map En.pe).take k)).2:=congrArg PK.hi B.out
     have HP1:=yH (show ∀r1 r2:Rw,r1.R=(hull (kd.lo.R,kd.hi.R) (e.row.R,e.row.R)).1→r2.R=(hull (kd.lo.R,kd.hi.R) (e.row.R,e.row.R)).2→({kd with live:=(lv:Int)+1,lo:=r1,hi:=r2}:Kd).pk=⟨zeros 32,(boxR ((E.map En.pe).take (k+1))).1,(boxR ((E.map En.pe).take (k+1))).2,liveR ((E.map En.pe).take (k+1)),n,KR⟩ from fun r1 r2 e1 e2=>by
      rw [AW.out,u.out,← BS,AJ]
      have e3:boxE (boxR ((E.map En.pe).take k)) e.pe=hull (kd.lo.R,kd.hi.R) (e.row.R,e.row.R):=by
       unfold boxE
       rw [show e.pe.live=true from hlv,if_pos rfl,AF,AD]
       rfl
      rw [e3,← e1,← e2]
      have e4:=B.out
      simp only [Kd.pk,PK.mk.injEq] at e4 ⊢
      simp only [show e.pe.live=true from hlv,if_true,true_and]
      exact ⟨e4.1,e4.2.2.2.2⟩)
     have BP:=SA.out.cell.live
     rw [Nat.zero_add,AJ] at BP
     have Ar:=frozen_of_row wa G 34 _ _ SA.out.row
     clear hlv BS AJ AF AD Bz B7
     go_upto_region 7 with fail
     have SB:=yH (SA.out.setLive ((lv:Int)+1) ⟨by omega,by omega⟩)
     have z0:=(World.cell?_of_block (w:=wa) (w':=wa.setCell ⟨G,34,none⟩ (.int .i64 ((lv:Int)+1))) (a:=⟨ge,0,none⟩) (heap_setCell_other _ _ _ _ Ak.out)).trans z0
     generalize wa.setCell ⟨G,34,none⟩ (.int .i64 ((lv:Int)+1))=wb at *
     clear z1 BP Ar SA
     have Z0:=yH z0
     clear z0
     refine wp_region_held_drew (S:=fun w'=>w'.cell? ⟨ge,0,none⟩=some (.slice e.row.p e.row.n e.row.c)) (by kernel_rfl) (show wb.drew.cell? ⟨ge,0,none⟩=_ from Z0.out) (fun hHeld=>?_)
     refine tK 0 ?_
     refine tK 2 ?_
     refine tQ 3 ?_ ?_ ?_
     rotate_left
     ·intro w' hSw
      have z0:=hSw
      go_simp
      try with_reducible rfl
     refine rY [1,4] ?_
     refine rC (fun K hK=>?_) (rC (fun K hK=>?_) AllReadyH.nil)
     ·
      have b0:wb.drew.cell? ⟨G,32,none⟩=some (.slice kd.lo.p kd.lo.n kd.lo.c):=by have h9:=(SB.out.later (Below.refl _ _).drew).cell.lo;rw [Nat.zero_add] at h9;exact h9
      have b1:wb.drew.cell? ⟨G,33,none⟩=some (.slice kd.hi.p kd.hi.n kd.hi.c):=by have h9:=(SB.out.later (Below.refl _ _).drew).cell.hi;rw [Nat.zero_add] at h9;exact h9
      go_simp
      refine hK.out _ _ hHeld (fun hHeld=>?_)
      clear hK K
      try simp only [Act.put,yA,yB,yC]
      refine rO 4 fun K hK=>?_
      go_simp
      refine (y3m e.row.p e.row.n e.row.c e.row.R ⟨AX.out.2,AX.out.1⟩ wb.drew ((P.out.later (SB.out.low.trans ((Below.refl _ _).drew.mono SB.out.low.size))).ints)).mono ?_
      rintro _ w7 ⟨v7,rfl,g1,g2,rfl,A0,A2,b7⟩
      have AO:=P.out.ints.size
      rw [x7J AO] at A0 A2
      have I1:=yH A0
      have I2:=yH A2
      have A3:Below wb.heap.size wb w7:=(Below.refl wb.heap.size wb).drew.trans b7
      have S7:=yH (SB.out.later A3)
      have j:=yH ((A3.cell (block_lt_of_cell Z0.out)).trans Z0.out)
      clear A0 A2 b7 AO A3
      try go_wp2_with fail
      refine hK.out _ _ j.out (fun hHeld=>?_)
      clear hK K
      try simp only [Act.put,yA,yB,yC]
      refine rO 5 fun K hK=>?_
      go_simp
      refine (x52 kd.lo.p kd.hi.p (some ⟨g1,0,none⟩) (some ⟨g2,0,none⟩) kd.lo.n kd.lo.c kd.hi.n kd.hi.c e.row.n e.row.n e.row.n e.row.n kd.lo.R kd.hi.R e.row.R e.row.R w7 S7.out.ok.lo.ints S7.out.ok.hi.ints I1.out I2.out).mono ?_
      rintro _ w8 ⟨v8,rfl,r1,r2,rfl,e1,e2,Z,Y,b8⟩
      have Am:=yH e1
      have Az:=yH e2
      have F1:=yH Z
      have F2:=yH Y
      have S8:=yH (S7.out.later b8)
      have AL:=yH ((b8.cell (block_lt_of_cell j.out)).trans j.out)
      have H:=yH (show G<w7.heap.size∧w.heap.size+1<w7.heap.size from ⟨(yL S7.out.row),(yL S7.out.res)⟩)
      clear e1 e2 Z Y b8
      try go_wp2_with fail
      refine hK.out _ _ AL.out (fun hHeld=>?_)
      clear hK K
      try simp only [Act.put,yA,yB,yC]
      refine tK 6 ?_
      refine rO 7 fun K hK=>?_
      refine wp_store_mid 32 (.tmp 33) (.tmp 32) (by rfl) G 32 #[r1.val,r2.val] (by rfl) (by rfl) (x2G S8.out.row S8.out.ok.len r1 r2) IBx (x4t r1 r2) ?_
      have S9:=yH (S8.out.setBox (r1:=r1) (r2:=r2) ⟨F1.out.ok,F1.out.away H.out.1,F1.out.away H.out.2⟩ ⟨F2.out.ok,F2.out.away H.out.1,F2.out.away H.out.2⟩)
      have AE:=yH ((World.cell?_of_block (w:=w8) (a:=⟨ge,0,none⟩) (x0L G [r1.val,r2.val] 32 w8 ge Ak.out)).trans AL.out)
      refine hK.out _ _ AE.out (fun hHeld=>?_)
      clear hK K
      try simp only [Act.put]
      refine wpAnyH_done (by kernel_rfl) ?_ _
      have HP2:=yH (HP1.out r1 r2 Am.out Az.out)
      have AH:=S9.out
      clear S9 AE hHeld
      have S9:=yH AH
      clear AH
      generalize w8.setCells G 32 [r1.val,r2.val]=w9 at *
      go_wp2_with fail
      go_roundw
      case rel=>exact ⟨k+1,_,by omega,by go_num,S9.out,HP2.out,FS.out.box F1.out F2.out (by have:=S7.out.low.size;omega)⟩
      case measure=>simp [intOf];omega
     ·
      go_simp
      refine (y3m e.row.p e.row.n e.row.c e.row.R ⟨AX.out.2,AX.out.1⟩ wb.drew ((P.out.later (SB.out.low.trans ((Below.refl _ _).drew.mono SB.out.low.size))).ints)).mono ?_
      rintro _ w7 ⟨v7,rfl,g1,g2,rfl,A0,A2,b7⟩
      have AO:=P.out.ints.size
      rw [x7J AO] at A0 A2
      have I1:=yH A0
      have I2:=yH A2
      have A3:Below wb.heap.size wb w7:=(Below.refl wb.heap.size wb).drew.trans b7
      have S7:=yH (SB.out.later A3)
      have j:=yH ((A3.cell (block_lt_of_cell Z0.out)).trans Z0.out)
      clear A0 A2 b7 AO A3
      try go_wp2_with fail
      refine hK.out _ _ j.out (fun hHeld=>?_)
      clear hK K
      try simp only [Act.put,yA,yB,yC]
      refine rO 1 fun K hK=>?_
      have b0:w7.cell? ⟨G,32,none⟩=some (.slice kd.lo.p kd.lo.n kd.lo.c):=by have h9:=S7.out.cell.lo;rw [Nat.zero_add] at h9;exact h9
      have b1:w7.cell? ⟨G,33,none⟩=some (.slice kd.hi.p kd.hi.n kd.hi.c):=by have h9:=S7.out.cell.hi;rw [Nat.zero_add] at h9;exact h9
      go_simp
      refine hK.out _ _ j.out (fun hHeld=>?_)
      clear hK K
      try simp only [Act.put,yA,yB,yC]
      refine rO 5 fun K hK=>?_
      go_simp
      refine (x52 kd.lo.p kd.hi.p (some ⟨g1,0,none⟩) (some ⟨g2,0,none⟩) kd.lo.n kd.lo.c kd.hi.n kd.hi.c e.row.n e.row.n e.row.n e.row.n kd.lo.R kd.hi.R e.row.R e.row.R w7 S7.out.ok.lo.ints S7.out.ok.hi.ints I1.out I2.out).mono ?_
      rintro _ w8 ⟨v8,rfl,r1,r2,rfl,e1,e2,Z,Y,b8⟩
      have Am:=yH e1
      have Az:=yH e2
      have F1:=yH Z
      have F2:=yH Y
      have S8:=yH (S7.out.later b8)
      have AL:=yH ((b8.cell (block_lt_of_cell j.out)).trans j.out)
      have H:=yH (show G<w7.heap.size∧w.heap.size+1<w7.heap.size from ⟨(yL S7.out.row),(yL S7.out.res)⟩)
      clear e1 e2 Z Y b8
      try go_wp2_with fail
      refine hK.out _ _ AL.out (fun hHeld=>?_)
      clear hK K
      try simp only [Act.put,yA,yB,yC]
      refine tK 6 ?_
      refine rO 7 fun K hK=>?_
      refine wp_store_mid 32 (.tmp 33) (.tmp 32) (by rfl) G 32 #[r1.val,r2.val] (by rfl) (by rfl) (x2G S8.out.row S8.out.ok.len r1 r2) IBx (x4t r1 r2) ?_
      have S9:=yH (S8.out.setBox (r1:=r1) (r2:=r2) ⟨F1.out.ok,F1.out.away H.out.1,F1.out.away H.out.2⟩ ⟨F2.out.ok,F2.out.away H.out.1,F2.out.away H.out.2⟩)
      have AE:=yH ((World.cell?_of_block (w:=w8) (a:=⟨ge,0,none⟩) (x0L G [r1.val,r2.val] 32 w8 ge Ak.out)).trans AL.out)
      refine hK.out _ _ AE.out (fun hHeld=>?_)
      clear hK K
      try simp only [Act.put]
      refine wpAnyH_done (by kernel_rfl) ?_ _
      have HP2:=yH (HP1.out r1 r2 Am.out Az.out)
      have AH:=S9.out
      clear S9 AE hHeld
      have S9:=yH AH
      clear AH
      generalize w8.setCells G 32 [r1.val,r2.val]=w9 at *
      go_wp2_with fail
      go_roundw
      case rel=>exact ⟨k+1,_,by omega,by go_num,S9.out,HP2.out,FS.out.box F1.out F2.out (by have:=S7.out.low.size;omega)⟩
      case measure=>simp [intOf];omega
   ·obtain rfl:n=k:=by omega
    have e0:(E.map En.pe).take n=E.map En.pe:=List.take_of_length_le (by rw [List.length_map,Ax.out];exact Nat.le_refl _)
    rw [e0] at B
    have AA:=x3q (E.map En.pe)
    rw [List.length_map,← Ax.out] at AA
    generalize boxR (E.map En.pe)=b0 at *
    generalize liveR (E.map En.pe)=lv0 at *
    have Bc:=yH AA
    obtain ⟨t0,t1,t2⟩:=ST.out.node.cells
    have HPK0:=yH (show kd.pk=⟨zeros 32,(((K.map Kd.pk).take 0).foldl boxK b0).1,(((K.map Kd.pk).take 0).foldl boxK b0).2,lv0+(((K.map Kd.pk).take 0).map PK.live).sum,n+(((K.map Kd.pk).take 0).map PK.size).sum,KR⟩ from by
     rw [B.out]
     simp)
    clear e0 hlt hk AA B
    go_wp2_with fail
    go_loopw [38] (fun i wr=>Ta2 w w.heap.size kind p n c q m f (w.heap.size+1) G b0 lv0 (K.map Kd.pk) KR i wr) (fun i _=>m - (intOf i).toNat)
    case atStart=>exact ⟨0,kd,by omega,rfl,ST.out,HPK0.out,FS.out⟩
    case round=>
     obtain ⟨k,A,hk,rfl,Q,AI,X⟩:=hrel
     have FS2:=yH X
     have z:=yH Q
     have B:=yH AI
     have Al:=Bg.out
     clear Q AI X FS ST HPK0 t0 t1 t2
     by_cases hlt:k<m
     ·obtain ⟨g,o,rfl,BT,A1⟩:=HK.out.get k hlt
      have i1:(0:Int)≤k∧(k:Int)<m:=by omega
      have C:k<K.length:=by rw [← BZ.out];exact hlt
      have L:k<(K.map Kd.pk).length:=by rw [List.length_map];exact C
      have AW:=yH (show ((K.map Kd.pk).take (k+1)).foldl boxK b0=boxK (((K.map Kd.pk).take k).foldl boxK b0) (K.getD k default).pk from by
       rw [x3M boxK _ _ _ L,x1M Kd.pk K k C])
      have Bd:=yH (show (((K.map Kd.pk).take (k+1)).map PK.live).sum=(((K.map Kd.pk).take k).map PK.live).sum+(K.getD k default).live from by
       rw [x2Y PK.live _ _ L,x1M Kd.pk K k C]
       rfl)
      have By:=yH (show (((K.map Kd.pk).take (k+1)).map PK.size).sum=(((K.map Kd.pk).take k).map PK.size).sum+(K.getD k default).size from by
       rw [x2Y PK.size _ _ L,x1M Kd.pk K k C]
       rfl)
      have Bj:=Af.out _ (getD_mem K k C)
      have AK:∀x∈(K.map Kd.pk).take k,(0≤x.live∧x.live≤1048576)∧(0≤x.size∧x.size≤1048576):=fun x hx=>by
       obtain ⟨y,hy,rfl⟩:=List.mem_map.1 (List.mem_of_mem_take hx)
       exact Af.out y hy
      have Bt:=x5j PK.live 1048576 _ (fun x hx=>(AK x hx).1)
      have Bk:=x5j PK.size 1048576 _ (fun x hx=>(AK x hx).2)
      have B7:((K.map Kd.pk).take k).length≤4:=by rw [List.length_take];omega
      have BB:=Bc.out
      have AV:=AU.out
      have Bl:A.live=lv0+(((K.map Kd.pk).take k).map PK.live).sum:=congrArg PK.live B.out
      have Bi:A.size=n+(((K.map Kd.pk).take k).map PK.size).sum:=congrArg PK.size B.out
      have AF:A.lo.R=(((K.map Kd.pk).take k).foldl boxK b0).1:=congrArg PK.lo B.out
      have AD:A.hi.R=(((K.map Kd.pk).take k).foldl boxK b0).2:=congrArg PK.hi B.out
      generalize K.getD k default=e at *
      obtain ⟨a1,Ai⟩:∃a1:Nat,A.live=a1:=⟨A.live.toNat,by omega⟩
      obtain ⟨a2,As⟩:∃a2:Nat,e.live=a2:=⟨e.live.toNat,by omega⟩
      obtain ⟨a3,An⟩:∃a3:Nat,A.size=a3:=⟨A.size.toNat,by omega⟩
      obtain ⟨a4,At⟩:∃a4:Nat,e.size=a4:=⟨e.size.toNat,by omega⟩
      have CC:a1+a2≤100000000:=by omega
      have CL:a3+a4≤100000000:=by omega
      have HP1:=yH (show ∀r1 r2:Rw,r1.R=(hull (A.lo.R,A.hi.R) (e.lo.R,e.hi.R)).1→r2.R=(hull (A.lo.R,A.hi.R) (e.lo.R,e.hi.R)).2→({A with live:=(a1:Int)+a2,size:=(a3:Int)+a4,lo:=r1,hi:=r2}:Kd).pk=⟨zeros 32,(((K.map Kd.pk).take (k+1)).foldl boxK b0).1,(((K.map Kd.pk).take (k+1)).foldl boxK b0).2,lv0+(((K.map Kd.pk).take (k+1)).map PK.live).sum,n+(((K.map Kd.pk).take (k+1)).map PK.size).sum,KR⟩ from fun r1 r2 e1 e2=>by
       rw [AW.out,Bd.out,By.out]
       have e3:boxK (((K.map Kd.pk).take k).foldl boxK b0) e.pk=hull (A.lo.R,A.hi.R) (e.lo.R,e.hi.R):=by
        unfold boxK
        rw [AF,AD]
        rfl
       rw [e3,← e1,← e2]
       have e4:=B.out
       simp only [Kd.pk,PK.mk.injEq] at e4 ⊢
       refine ⟨e4.1,trivial,trivial,?_,?_,e4.2.2.2.2.2⟩
       ·rw [← Ai,← As];omega
       ·rw [← An,← At];omega)
      have HR:=yH (x02 BT z.out.low)
      have P:=yH A1
      have W:=yH (Kd.cells_length A1.len)
      have Bv:=yH Ai
      have C1:=yH As
      have Bh:=yH An
      have Bs:=yH At
      have BE:=HZ.out.1
      clear BT A1 Ai As An At Bl Bi AF AD Bt Bk B7 BB Bj AK
      go_upto_region 12 with (first
       | (refine wpList_load_mid (by rfl) 34 _ (by rfl) g (o+k*37) (by rfl) e.cells du HR.out B5.out B3.out (by rw [W.out];exact SKd) ?_)
       | (refine wpList_store_row (by rfl) 34 (.tmp 7) (.tmp 41) (by rfl) wr.heap.size e.cells.toArray (by rfl) (by rfl) _ _ (heap_alloc_new wr _) (by rw [List.size_toArray,W.out];exact SKd) (by simp only [List.size_toArray,W.out,x01]) (all_oneCell_toArray Kd.one) ?_;rw [x04]))
      have BW:=heap_alloc_new wr (.cells e.cells.toArray 34)
      have SA:=yH (z.out.later (show Below wr.heap.size wr (wr.alloc (.cells e.cells.toArray 34)) from (Below.refl _ _).alloc (Nat.le_refl _) _))
      have BU:=yH (show wr.heap.size≠G from fun e=>by have:=(yL z.out.row);omega)
      generalize wr.alloc (.cells e.cells.toArray 34)=wa at *
      generalize wr.heap.size=gb at *
      have RX:=yH BW
      clear BW BE z
      have x1:=SA.out.cell.live
      have x2:=(x0M RX.out P.out.len).live
      rw [Nat.zero_add,Bv.out] at x1
      rw [Nat.zero_add,C1.out] at x2
      have Ar:=frozen_of_row wa G 34 _ _ SA.out.row
      go_upto_region 13 with fail
      have SB:=yH (SA.out.setLive ((a1:Int)+a2) ⟨by omega,by omega⟩)
      have RB:=yH ((show (wa.setCell ⟨G,34,none⟩ (.int .i64 ((a1:Int)+a2))).heap[gb]? =wa.heap[gb]? from heap_setCell_other _ _ _ _ BU.out).trans RX.out)
      generalize wa.setCell ⟨G,34,none⟩ (.int .i64 ((a1:Int)+a2))=wb at *
      clear x1 x2 Ar SA RX
      have x1:=SB.out.cell.size
      have x2:=(x0M RB.out P.out.len).size
      rw [Nat.zero_add] at x1
      rw [show ({A with live:=(a1:Int)+a2}:Kd).size=(a3:Int) from Bh.out] at x1
      rw [Nat.zero_add,Bs.out] at x2
      have Bp:=frozen_of_row wb G 35 _ _ SB.out.row
      go_upto_region 14 with fail
      have SC:=yH (SB.out.setSize ((a3:Int)+a4) ⟨by omega,by omega⟩)
      have RC:=yH ((show (wb.setCell ⟨G,35,none⟩ (.int .i64 ((a3:Int)+a4))).heap[gb]? =wb.heap[gb]? from heap_setCell_other _ _ _ _ BU.out).trans RB.out)
      generalize wb.setCell ⟨G,35,none⟩ (.int .i64 ((a3:Int)+a4))=wc at *
      clear x1 x2 Bp SB RB
      have x1:=SC.out.cell.lo
      have x2:=SC.out.cell.hi
      have x3:=(x0M RC.out P.out.len).lo
      have x4:=(x0M RC.out P.out.len).hi
      simp only [Nat.zero_add,Rw.val] at x1 x2 x3 x4
      have BY:=yH (P.out.later SC.out.low)
      go_wp2_with (first
       | (go_at_call 244;refine (x52 A.lo.p A.hi.p e.lo.p e.hi.p A.lo.n A.lo.c A.hi.n A.hi.c e.lo.n e.lo.c e.hi.n e.hi.c A.lo.R A.hi.R e.lo.R e.hi.R wc SC.out.ok.lo.ints SC.out.ok.hi.ints BY.out.lo.ints BY.out.hi.ints).mono ?_;rintro _ w8 ⟨v8,rfl,r1,r2,rfl,e1,e2,Z,Y,b8⟩;have HP2:=yH (HP1.out r1 r2 e1 e2);have F1:=yH Z;have F2:=yH Y;have S8:=yH (SC.out.later b8);have H:=yH (show G<wc.heap.size∧w.heap.size+1<wc.heap.size from ⟨(yL SC.out.row),(yL SC.out.res)⟩);clear e1 e2 Z Y b8)
       | (refine wpList_store_mid (by rfl) 32 (.tmp 59) (.tmp 58) (by rfl) G 32 #[r1.val,r2.val] (by rfl) (by rfl) (x2G S8.out.row S8.out.ok.len r1 r2) IBx (x4t r1 r2) ?_;have S9:=yH (S8.out.setBox (r1:=r1) (r2:=r2) ⟨F1.out.ok,F1.out.away H.out.1,F1.out.away H.out.2⟩ ⟨F2.out.ok,F2.out.away H.out.1,F2.out.away H.out.2⟩)))
      go_roundw
      case rel=>exact ⟨k+1,_,by omega,by go_num,S9.out,HP2.out,FS2.out.box F1.out F2.out (by have:=SC.out.low.size;omega)⟩
      case measure=>simp [intOf];omega
     ·obtain rfl:m=k:=by omega
      have e0:(K.map Kd.pk).take m=K.map Kd.pk:=List.take_of_length_le (by rw [List.length_map,BZ.out];exact Nat.le_refl _)
      rw [e0,← Bf.out] at B
      have W:=yH (Kd.cells_length z.out.ok.len)
      have Be:=yH (x0E z.out.row)
      clear e0
      go_wp2_with (first
       | (refine wpList_load_mid (by rfl) 34 _ (by rfl) G 0 (by rfl) A.cells du Be.out B5.out B3.out (by rw [W.out];exact SKd) ?_)
       | (refine wpList_store_row (by rfl) 34 _ _ (by rfl) (w.heap.size+1) A.cells.toArray (by rfl) (by rfl) _ _ z.out.res (by rw [List.size_toArray,W.out];exact SKd) (by simp only [List.size_toArray,W.out,x01]) (all_oneCell_toArray Kd.one) ?_))
      have r9:=setRow_heap _ (w.heap.size+1) _ A.cells.toArray _ _ z.out.res
      have C0:Below (w.heap.size+1) wr (wr.setRow (w.heap.size+1) A.cells.toArray):=Below.setRow (Below.refl _ _) (Nat.le_refl _) _
      have B6:∀r∈A.rows,r.Ok (wr.setRow (w.heap.size+1) A.cells.toArray):=fun r hr=>rw_keep (z.out.rows r hr).1 (fun x hx hR=>setRow_other _ _ _ _ ((z.out.rows r hr).2.2 x hx hR))
      refine x1B 2 (by kernel_rfl) (w.heap.size+1) _ _ B5.out B3.out (by rw [List.size_toArray,W.out];exact SKd) (by rfl) r9 ⟨A,rfl,B.out,⟨z.out.ok.len,z.out.ok.ok,B6 _ (by simp [Kd.rows]),B6 _ (by simp [Kd.rows]),B6 _ (by simp [Kd.rows]),z.out.ok.live,z.out.ok.size⟩,FS2.out,z.out.low.trans (C0.mono (by omega))⟩
end Go.Proofs.YtinihaflmdihaaaGreat.Nd
namespace Go.Proofs.YtinihaflmdihaaaGreat.Pg
open Go.RowKit
theorem y4S:laidOutB Tryz.prog=true:=by kernel_rfl
theorem keyD:Go.Maps.Keyed Tryz.prog 30:=
 Go.Maps.Keyed.of_law (deep_law_laid y4S (m:=2) (by decide) (of_decide_eq_true (by kernel_rfl)) (by kernel_rfl) (by kernel_rfl))
def klit (d:List Nat):Lit:=.string (keyBytes (d.map fun x:Nat=>Lit.int .u8 (x:Int)))
theorem x7L {α β:Type} (f:α→Option β) (g:α→β):∀l:List α,(∀x∈l,f x=some (g x))→l.mapM f=some (l.map g)
 |[],_=>rfl
 | a::l,h=>by
  rw [List.mapM_cons,h a List.mem_cons_self,x7L f g l (fun x hx=>h x (List.mem_cons_of_mem _ hx))]
  rfl
theorem y5M:Tryz.prog.cellsOf 5=1:=by kernel_rfl
theorem y0w:Tryz.prog.cellsOf 30=32:=by kernel_rfl
theorem y4T (m:Nat) {x:Nat} (hx:x<256):Tryz.prog.keyLits (m+1) 5 [.int .u8 (x:Int)]=some [.int .u8 (x:Int)]:=by
 have A:(Lit.int .u8 (x:Int)).wf=true:=by simp [Lit.wf,IntKind.min,IntKind.max,IntKind.bits,IntKind.signed];omega
 unfold Program.keyLits
 rw [U5]
 simp [A]
theorem y5N (m:Nat) {d:List Nat} (hd:d.length=32) (ho:Sm.allB d):Tryz.prog.keyLits (m+2) 30 (vals d)=some (d.map fun x:Nat=>Lit.int .u8 (x:Int)):=by
 unfold Program.keyLits
 rw [A25]
 simp only [y0w,y5M,x00,hd,if_true,Nat.mul_one]
 rw [x7L _ (fun i=>[Lit.int .u8 ((d.getD i 0:Nat):Int)]) _ (fun i A=>by
  have A:i<32:=List.mem_range.1 A
  have B:((vals d).drop i).take 1=[.int .u8 ((d.getD i 0:Nat):Int)]:=by
   rw [List.drop_eq_getElem_cons (by rw [x00];omega),List.take_succ_cons,List.take_zero]
   simp [vals,List.getD_eq_getElem?_getD,hd,A]
  rw [B]
  refine y4T m (ho _ ?_)
  rw [List.getD_eq_getElem?_getD,List.getElem?_eq_getElem (by omega),Option.getD_some]
  exact List.getElem_mem _)]
 simp only [Option.map_some,Option.some.injEq]
 rw [← hd]
 clear ho hd
 induction d with
 | nil=>rfl
 | cons x d ih=>rw [List.length_cons,List.range_succ_eq_map];simp [List.map_map] at ih ⊢;simpa [Function.comp_def] using ih
theorem x32 {d:List Nat} (hd:d.length=32) (ho:Sm.allB d):keyOf Tryz.prog 30 (.agg (u8s d))=some (klit d):=by
 have B:Tryz.prog.keyType 30=true:=by kernel_rfl
 have A:(Value.agg (u8s d)).formed Tryz.prog 30=true:=by simp [Value.formed,y0w,x08,hd]
 have C:(Value.agg (u8s d)).cells.toList=vals d:=by simp [Value.cells,x2U]
 obtain ⟨m,E⟩:∃m,Tryz.prog.types.size+1=m+2:=⟨Tryz.prog.types.size - 1,by have:0<Tryz.prog.types.size:=of_decide_eq_true (by kernel_rfl);omega⟩
 unfold keyOf
 rw [A25,C,E,y5N m hd ho]
 simp [B,A,klit]
theorem x6Y {a b:List Nat} (ha:a.length=32) (hao:Sm.allB a) (hb:b.length=32) (hbo:Sm.allB b) (h:klit a=klit b):a=b:=by
 have B:=keyD.inj (x32 ha hao) (h▸x32 hb hbo)
 have A:vals a=vals b:=by
  have:=congrArg (fun v:Value=>v.cells.toList) B
  simpa [Value.cells,x2U] using this
 have C:∀x y:Nat,Value.int .u8 (x:Int)=Value.int .u8 (y:Int)→x=y:=fun x y e=>by cases e;rfl
 exact (List.map_inj_right C).1 A
theorem x4Y (d:List Nat):WideAt.IsKeyLit (klit d):=trivial
structure Pe where
 d:List Nat
 q:Option Addr
 (m c:Nat)
 b:List Nat
instance:Inhabited Pe:=⟨⟨[],none,0,0,[]⟩⟩
def Pe.cells (e:Pe):List Value:=vals e.d++[.slice e.q e.m e.c]
def x0e (L:List Pe):Pages:=L.map fun e=>(e.d,e.b)
theorem x1q (L:List Pe):(x0e L).length=L.length:=by simp [x0e]
theorem x5t (L:List Pe) {i:Nat} (h:i<L.length):(x0e L).getD i default=((L.getD i default).d,(L.getD i default).b):=by
 simp [x0e,List.getD_eq_getElem?_getD,h]
def x2K:Value→Option (DataW Value×List MemPlace)
 | .slice p n c=>some (.held (.slice p n c),[])
 | _=>none
theorem x5u {v:Value} {z:DataW Value×List MemPlace} (h:x2K v=some z):∃p n c,v= .slice p n c∧z=(.held (.slice p n c),[]):=by
 unfold x2K at h
 split at h
 ·cases h;exact ⟨_,_,_,rfl,rfl⟩
 ·cases h
def Pe.hd (e:Pe):Value:=.slice e.q e.m e.c
structure Reads (D:DataW Value) (L:List Pe):Prop where
 tidy:Go.Maps.Tidy D
 len:∀e∈L,e.d.length=32∧Sm.allB e.d
 one:(L.map (·.d)).Nodup
 at':∀e∈L,∀z,D.atKey (klit e.d) z= .held e.hd
 key:∀kl,Go.Maps.has D kl=true→∃e∈L,kl=klit e.d
 size:Go.Maps.size D=L.length
theorem Reads.nil:Reads (.map []) []:=⟨Go.Maps.tidy_empty,(fun e he=>by cases he),List.nodup_nil,(fun e he=>by cases he),(fun kl h=>by cases h),rfl⟩
theorem x53 (L:List Pe):(x0e L).map (·.1)=L.map (·.d):=by simp [x0e,Function.comp_def]
theorem Reads.has_mem {D:DataW Value} {L:List Pe} (h:Reads D L) {d:List Nat} (hd:d.length=32) (ho:Sm.allB d):Go.Maps.has D (klit d)=true↔d∈L.map (·.d):=by
 constructor
 ·intro hh
  obtain ⟨e,A,B⟩:=h.key _ hh
  rw [x6Y hd ho (h.len e A).1 (h.len e A).2 B]
  exact List.mem_map_of_mem A
 ·intro hm
  obtain ⟨e,A,rfl⟩:=List.mem_map.1 hm
  exact Go.Maps.has_true_of_atKey (h.at' e A)
theorem Reads.has {D:DataW Value} {L:List Pe} (h:Reads D L) {d:List Nat} (hd:d.length=32) (ho:Sm.allB d):Go.Maps.has D (klit d)=decide (idx d (x0e L)<(x0e L).length):=by
 rw [Bool.eq_iff_iff,h.has_mem hd ho,decide_eq_true_iff,x7w,x53]
theorem Reads.got {D:DataW Value} {L:List Pe} (h:Reads D L) {d:List Nat} (hi:idx d (x0e L)<(x0e L).length):∃e∈L,e.d=d∧(∀z,D.atKey (klit d) z= .held e.hd)∧x0O (x0e L) d=some e.b:=by
 have B:idx d (x0e L)<L.length:=by rwa [x1q] at hi
 have A:=x5l hi
 rw [x5t L B] at A
 have C:L.getD (idx d (x0e L)) default∈L:=by
  rw [List.getD_eq_getElem?_getD,List.getElem?_eq_getElem B]
  exact List.getElem_mem _
 refine ⟨_,C,A,?_,?_⟩
 ·have:=h.at' _ C
  simp only at A
  rwa [A] at this
 ·rw [x1f hi,x5t L B]
theorem Reads.put {D:DataW Value} {L:List Pe} (h:Reads D L) {e:Pe} (hd:e.d.length=32) (ho:Sm.allB e.d) (hn:e.d∉L.map (·.d)):Reads (D.put (klit e.d) (.held e.hd)) (L++[e]):=by
 have B:Go.Maps.has D (klit e.d)=false:=by
  rw [← Bool.not_eq_true,h.has_mem hd ho]
  exact hn
 have E:∀x∈L,klit x.d≠klit e.d:=fun x A he=>hn (by rw [← x6Y (h.len x A).1 (h.len x A).2 hd ho he];exact List.mem_map_of_mem A)
 refine ⟨h.tidy.put (x4Y _) _,?_,?_,?_,?_,?_⟩
 ·intro x A
  rcases List.mem_append.1 A with A | A
  ·exact h.len x A
  ·rw [List.mem_singleton.1 A];exact ⟨hd,ho⟩
 ·rw [List.map_append,List.nodup_append]
  refine ⟨h.one,by simp,fun a ha c hc hac=>hn ?_⟩
  simp only [List.map_cons,List.map_nil,List.mem_singleton] at hc
  rw [← hc,← hac]
  exact ha
 ·intro x A z
  rcases List.mem_append.1 A with A | A
  ·rw [Go.Maps.atKey_put_other (E x A),h.at' x A]
  ·rw [List.mem_singleton.1 A,Go.Maps.atKey_put_same h.tidy.isMap (x4Y _)]
 ·intro kl hk
  by_cases he:kl=klit e.d
  ·exact ⟨e,by simp,he⟩
  ·rw [Go.Maps.has_put_other he] at hk
   obtain ⟨x,A,C⟩:=h.key kl hk
   exact ⟨x,List.mem_append_left _ A,C⟩
 ·rw [Go.Maps.size_put h.tidy,B,h.size,List.length_append]
  rfl
def but (L:List Pe) (d:List Nat):List Pe:=L.filter fun x=>decide (x.d≠d)
theorem Reads.next {D:DataW Value} {L:List Pe} (h:Reads D L) {v:Value} {kl:Lit} (hk:keyOf Tryz.prog 30 v=some kl) {y:DataW Value} (ha:∀z,D.atKey kl z=y):∃e∈L,v= .agg (u8s e.d)∧kl=klit e.d:=by
 obtain ⟨e,A,rfl⟩:=h.key kl (Go.Maps.has_true_of_atKey ha)
 exact ⟨e,A,keyD.inj hk (x32 (h.len e A).1 (h.len e A).2),rfl⟩
theorem x7M {a b:List Nat} (ha:a.length=32) (hao:Sm.allB a) (hb:b.length=32) (hbo:Sm.allB b):(klit a).sameKey (klit b)=decide (a=b):=by
 by_cases h:a=b
 ·subst h
  rw [WideAt.sameKey_self (x4Y _)]
  simp
 ·rw [Go.Maps.sameKey_ne (fun e=>h (x6Y ha hao hb hbo e))]
  simp [h]
structure TQ (Q:Nat→Prop) (w:World) (p:Option Addr) (m c:Nat) (b:List Nat):Prop where
 tx:Tx w p m c b
 own:∀x,p=some x→b≠[]→Q x.block
 le:b.length≤100000
theorem TQ.keep {Q:Nat→Prop} {w w':World} {p:Option Addr} {m c:Nat} {b:List Nat} (h:TQ Q w p m c b) (hk:∀k,Q k→w'.heap[k]? =w.heap[k]?):TQ Q w' p m c b:=
 ⟨Dk.tx_keep h.tx (fun x hx hb=>hk _ (h.own x hx hb)),h.own,h.le⟩
theorem TQ.wide {Q Q':Nat→Prop} {w:World} {p:Option Addr} {m c:Nat} {b:List Nat} (h:TQ Q w p m c b) (hq:∀k,Q k→Q' k):TQ Q' w p m c b:=⟨h.tx,fun x hx hb=>hq _ (h.own x hx hb),h.le⟩
structure MapAt (Q:Nat→Prop) (w:World) (b:Nat) (L:List Pe):Prop where
 mine:Q b
 map:∃D,w.ownsMap Tryz.prog 30 x2K b L.length D∧Reads D L
 text:∀e∈L,TQ Q w e.q e.m e.c e.b
theorem x2Z {w w':World} {b n:Nat} {D:DataW Value} (h:w.ownsMap Tryz.prog 30 x2K b n D) (hk:w'.heap[b]? =w.heap[b]?):w'.ownsMap Tryz.prog 30 x2K b n D:=by
 obtain ⟨B,A,C,r⟩:=h
 exact ⟨B,A,hk.trans C,r⟩
theorem MapAt.keep {Q:Nat→Prop} {w w':World} {b:Nat} {L:List Pe} (h:MapAt Q w b L) (hk:∀k,Q k→w'.heap[k]? =w.heap[k]?):MapAt Q w' b L:=by
 obtain ⟨D,B,A⟩:=h.map
 exact ⟨h.mine,⟨D,x2Z B (hk _ h.mine),A⟩,fun e he=>(h.text e he).keep hk⟩
theorem MapAt.wide {Q Q':Nat→Prop} {w:World} {b:Nat} {L:List Pe} (h:MapAt Q w b L) (hq:∀k,Q k→Q' k):MapAt Q' w b L:=⟨hq _ h.mine,h.map,fun e he=>(h.text e he).wide hq⟩
structure PairAt (Q:Nat→Prop) (w:World) (c:Nat) (x y:List Nat):Prop where
 mine:Q c
 row:∃p m k q n l,w.heap[c]? =some (.cells #[.slice p m k,.slice q n l] 112 (0,0))∧TQ Q w p m k x∧TQ Q w q n l y
theorem PairAt.keep {Q:Nat→Prop} {w w':World} {c:Nat} {x y:List Nat} (h:PairAt Q w c x y) (hk:∀k,Q k→w'.heap[k]? =w.heap[k]?):PairAt Q w' c x y:=by
 obtain ⟨p,m,k,q,n,l,B,A,C⟩:=h.row
 exact ⟨h.mine,p,m,k,q,n,l,(hk _ h.mine).trans B,A.keep hk,C.keep hk⟩
theorem PairAt.wide {Q Q':Nat→Prop} {w:World} {c:Nat} {x y:List Nat} (h:PairAt Q w c x y) (hq:∀k,Q k→Q' k):PairAt Q' w c x y:=by
 obtain ⟨p,m,k,q,n,l,B,A,C⟩:=h.row
 exact ⟨hq _ h.mine,p,m,k,q,n,l,B,A.wide hq,C.wide hq⟩
def MapsAt (Q:Nat→Prop) (w:World) (mp:Option Nat) (W:Pages):Prop:=(mp=none∧W=[])∨∃b L,mp=some b∧x0e L=W∧MapAt Q w b L
def ClashAt (Q:Nat→Prop) (w:World) (cl:Option Addr) (x:Option (List Nat×List Nat)):Prop:=(cl=none∧x=none)∨∃c a b,cl=some ⟨c,0,none⟩∧x=some (a,b)∧PairAt Q w c a b
theorem MapsAt.keep {Q:Nat→Prop} {w w':World} {mp:Option Nat} {W:Pages} (h:MapsAt Q w mp W) (hk:∀k,Q k→w'.heap[k]? =w.heap[k]?):MapsAt Q w' mp W:=
 h.imp id fun ⟨b,L,h1,h2,h3⟩=>⟨b,L,h1,h2,h3.keep hk⟩
theorem MapsAt.wide {Q Q':Nat→Prop} {w:World} {mp:Option Nat} {W:Pages} (h:MapsAt Q w mp W) (hq:∀k,Q k→Q' k):MapsAt Q' w mp W:=
 h.imp id fun ⟨b,L,h1,h2,h3⟩=>⟨b,L,h1,h2,h3.wide hq⟩
theorem ClashAt.keep {Q:Nat→Prop} {w w':World} {cl:Option Addr} {x:Option (List Nat×List Nat)} (h:ClashAt Q w cl x) (hk:∀k,Q k→w'.heap[k]? =w.heap[k]?):ClashAt Q w' cl x:=
 h.imp id fun ⟨c,a,b,h1,h2,h3⟩=>⟨c,a,b,h1,h2,h3.keep hk⟩
theorem ClashAt.wide {Q Q':Nat→Prop} {w:World} {cl:Option Addr} {x:Option (List Nat×List Nat)} (h:ClashAt Q w cl x) (hq:∀k,Q k→Q' k):ClashAt Q' w cl x:=
 h.imp id fun ⟨c,a,b,h1,h2,h3⟩=>⟨c,a,b,h1,h2,h3.wide hq⟩
structure SAt (Q:Nat→Prop) (w:World) (g:Nat) (mp:Option Nat) (cl:Option Addr) (s:S):Prop where
 row:w.heap[g]? =some (.cells #[.map mp,.pointer cl] 89 (0,0))
 pages:MapsAt Q w mp s.W
 clash:ClashAt Q w cl s.cl
 mine:Q g
 lt:∀k,Q k→k<w.heap.size
 ok:s.ok
def PL (w:World) (g:Nat) (Q:Nat→Prop) (s:S):Prop:=∃mp cl,SAt Q w g mp cl s
section
variable {Q Q' X:Nat→Prop} {w w':World} {g:Nat} {mp:Option Nat} {cl:Option Addr} {s:S}
theorem SAt.c0 (h:SAt Q w g mp cl s):w.cell? ⟨g,0,none⟩=some (.map mp):=(cell_of_row w g 0 _ _ _ h.row).trans rfl
theorem SAt.c1 (h:SAt Q w g mp cl s):w.cell? ⟨g,1,none⟩=some (.pointer cl):=(cell_of_row w g 1 _ _ _ h.row).trans rfl
theorem SAt.keep (h:SAt Q w g mp cl s) (hs:w.heap.size≤w'.heap.size) (hk:∀k,Q k→w'.heap[k]? =w.heap[k]?):SAt Q w' g mp cl s:=
 ⟨(hk _ h.mine).trans h.row,h.pages.keep hk,h.clash.keep hk,h.mine,fun k hq=>Nat.lt_of_lt_of_le (h.lt k hq) hs,h.ok⟩
theorem SAt.later (h:SAt Q w g mp cl s) (hb:Below w.heap.size w w'):SAt Q w' g mp cl s:=h.keep hb.size (fun k hq=>hb.block k (h.lt k hq))
theorem SAt.only (h:SAt Q w g mp cl s) (ho:Dk.Only X w w') (hx:∀k,Q k→¬X k):SAt Q w' g mp cl s:=h.keep ho.size (fun k hq=>ho.block k (h.lt k hq) (hx k hq))
theorem PL.lt (h:PL w g Q s):∀k,Q k→k<w.heap.size:=by obtain ⟨_,_,h⟩:=h;exact h.lt
theorem PL.keep (X:Nat→Prop) (h:PL w g Q s) (ho:Dk.Only X w w') (hx:∀k,Q k→¬X k):PL w' g Q s:=by
 obtain ⟨A,B,h⟩:=h
 exact ⟨A,B,h.only ho hx⟩
theorem x16 {p:Option Addr} {m c:Nat} {b:List Nat} (h:Tx w p m c b) {x:Addr} (hx:p=some x) (hb:b≠[]) {k:Nat} {a1:Option Nat} {a2:Option Addr} {t:TypeId} {fr:Nat×Nat} (hk:w.heap[k]? =some (.cells #[.map a1,.pointer a2] t fr)):x.block≠k:=by
 rintro rfl
 obtain ⟨g,o,B,C⟩:=h.bytes.ne hb
 rw [hx] at B
 cases B
 have A:=C 0 (List.length_pos_iff.2 hb)
 rw [Nat.add_zero,cell_of_row w g o _ _ _ hk] at A
 rcases o with _ | _ | o<;>simp at A
theorem x1m {p:Option Addr} {m c:Nat} {b:List Nat} (h:Tx w p m c b) {x:Addr} (hx:p=some x) (hb:b≠[]) {k:Nat} {es:Array MapEntry} {cl:Nat} (hk:w.heap[k]? =some (.map es cl)):x.block≠k:=by
 rintro rfl
 obtain ⟨g,o,A,C⟩:=h.bytes.ne hb
 rw [hx] at A
 cases A
 have B:=C 0 (List.length_pos_iff.2 hb)
 simp [World.cell?,hk] at B
theorem TQ.turn {k:Nat} {p:Option Addr} {m c:Nat} {b:List Nat} (h:TQ Q w p m c b) (ho:Dk.Only (fun j=>j=k) w w') (hne:∀x,p=some x→b≠[]→x.block≠k):TQ Q w' p m c b:=
 ⟨Dk.tx_keep h.tx (fun x hx hb=>ho.block _ (by
  obtain ⟨g',o',hp,hc⟩:=h.tx.bytes.ne hb
  rw [hx] at hp
  cases hp
  exact block_lt_of_cell (hc 0 (List.length_pos_iff.2 hb))) (hne x hx hb)),h.own,h.le⟩
theorem PairAt.turn_map {k c:Nat} {x y:List Nat} {es:Array MapEntry} {ck:Nat} (h:PairAt Q w c x y) (hk:w.heap[k]? =some (.map es ck)) (ho:Dk.Only (fun j=>j=k) w w'):PairAt Q w' c x y:=by
 obtain ⟨p,m,l,q,n,d,A,B,C⟩:=h.row
 have E:c<w.heap.size:=(yL A)
 refine ⟨h.mine,p,m,l,q,n,d,(ho.block c E (fun e=>?_)).trans A,B.turn ho (fun z hz hb=>x1m B.tx hz hb hk),C.turn ho (fun z hz hb=>x1m C.tx hz hb hk)⟩
 rw [e,hk] at A
 cases A
theorem PairAt.turn_row {k c:Nat} {x y:List Nat} {a1:Option Nat} {a2:Option Addr} {t:TypeId} {fr:Nat×Nat} (h:PairAt Q w c x y) (hk:w.heap[k]? =some (.cells #[.map a1,.pointer a2] t fr)) (ho:Dk.Only (fun j=>j=k) w w'):PairAt Q w' c x y:=by
 obtain ⟨p,m,l,q,n,d,A,B,C⟩:=h.row
 have E:c<w.heap.size:=(yL A)
 refine ⟨h.mine,p,m,l,q,n,d,(ho.block c E (fun e=>?_)).trans A,B.turn ho (fun z hz hb=>x16 B.tx hz hb hk),C.turn ho (fun z hz hb=>x16 C.tx hz hb hk)⟩
 rw [e,hk] at A
 simp at A
theorem ClashAt.turn_map {k:Nat} {es:Array MapEntry} {ck:Nat} {cx:Option (List Nat×List Nat)} (h:ClashAt Q w cl cx) (hk:w.heap[k]? =some (.map es ck)) (ho:Dk.Only (fun j=>j=k) w w'):ClashAt Q w' cl cx:=
 h.imp id fun ⟨c,a,b,h1,h2,h3⟩=>⟨c,a,b,h1,h2,h3.turn_map hk ho⟩
theorem ClashAt.turn_row {k:Nat} {a1:Option Nat} {a2:Option Addr} {t:TypeId} {fr:Nat×Nat} {cx:Option (List Nat×List Nat)} (h:ClashAt Q w cl cx) (hk:w.heap[k]? =some (.cells #[.map a1,.pointer a2] t fr)) (ho:Dk.Only (fun j=>j=k) w w'):ClashAt Q w' cl cx:=
 h.imp id fun ⟨c,a,b,h1,h2,h3⟩=>⟨c,a,b,h1,h2,h3.turn_row hk ho⟩
theorem MapAt.turn_row {k b:Nat} {L:List Pe} {a1:Option Nat} {a2:Option Addr} {t:TypeId} {fr:Nat×Nat} (h:MapAt Q w b L) (hk:w.heap[k]? =some (.cells #[.map a1,.pointer a2] t fr)) (ho:Dk.Only (fun j=>j=k) w w'):MapAt Q w' b L:=by
 obtain ⟨D,A,C⟩:=h.map
 refine ⟨h.mine,⟨D,x2Z A (ho.block b A.lt (fun e=>?_)),C⟩,fun e he=>(h.text e he).turn ho (fun z hz hb=>x16 (h.text e he).tx hz hb hk)⟩
 obtain ⟨E,G,B,_⟩:=A
 rw [e,hk] at B
 cases B
theorem MapsAt.turn_row {k:Nat} {a1:Option Nat} {a2:Option Addr} {t:TypeId} {fr:Nat×Nat} {W:Pages} (h:MapsAt Q w mp W) (hk:w.heap[k]? =some (.cells #[.map a1,.pointer a2] t fr)) (ho:Dk.Only (fun j=>j=k) w w'):MapsAt Q w' mp W:=
 h.imp id fun ⟨b,L,h1,h2,h3⟩=>⟨b,L,h1,h2,h3.turn_row hk ho⟩
end
theorem UST:Tryz.prog.underlying 86=some (.map 30 45):=by kernel_rfl
theorem SAt.made (w:World):SAt (fun k=>k=w.heap.size) (w.alloc (.cells #[.map none,.pointer none] 89)) w.heap.size none none ⟨[],none⟩:=
 ⟨heap_alloc_new w _,Or.inl ⟨rfl,rfl⟩,Or.inl ⟨rfl,rfl⟩,rfl,(fun k hk=>by subst hk;simp),S.new_ok⟩
theorem new_any (w:World):Calls Tryz.prog 13 #[] w fun e w'=>∃g Q,e= .returned (.pointer (some ⟨g,0,none⟩))∧PL w' g Q ⟨[],none⟩∧(∀k,Q k→w.heap.size≤k)∧Below w.heap.size w w':=by
 have A:=SAt.made w
 have B:=(Below.refl w.heap.size w).alloc (Nat.le_refl _) (.cells #[.map none,.pointer none] 89)
 go_enter Tryz.func13,Tryz.ntmps13
 go_wp2_with fail
 go_ret
 exact ⟨_,_,rfl,⟨_,_,A⟩,(fun k hk=>by omega),B⟩
end Go.Proofs.YtinihaflmdihaaaGreat.Pg
