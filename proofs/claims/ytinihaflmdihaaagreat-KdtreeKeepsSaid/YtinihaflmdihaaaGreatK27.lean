/- KdSettle, KdRaiseM. -/
import Derived.Lib.MinMax
import Derived.Test.YtinihaflmdihaaaGreatK26
set_option maxRecDepth 100000
set_option maxHeartbeats 8000000
set_option linter.all false
namespace Go.Proofs.YtinihaflmdihaaaGreat.Kt
open Go.RowKit Go.Shelf Go.Proofs.YtinihaflmdihaaaGreat.Nd Go.Proofs.YtinihaflmdihaaaGreat.Dk Go.Proofs.YtinihaflmdihaaaGreat.Pg Go.Proofs.YtinihaflmdihaaaGreat.Wl
open List renaming setIfInBounds_toArray → yA, set_cons_zero → yB, set_cons_succ → yC
attribute [local go_sem] Oper.semAt_some
def MSt.on (m:MSt):Int:=if m.side then m.k2.size else m.k1.size
def MSt.off (m:MSt):Int:=if m.side then m.k1.size else m.k2.size
theorem tdiv3 {x b:Int} (h1: -b≤x) (h2:x≤b): -b≤x.tdiv 3∧x.tdiv 3≤b:=by
 rcases Int.le_total 0 x with h | h
 ·rw [Int.tdiv_eq_ediv_of_nonneg h]
  omega
 ·have h3:(-x).tdiv 3= -(x.tdiv 3):=Int.neg_tdiv x 3
  rw [Int.tdiv_eq_ediv_of_nonneg (by omega)] at h3
  omega
def stpM (m:MSt) (i:Int) (st:Int×Int×Int):Int×Int×Int:=
 if ((m.on+st.2.2+m.off+1)*2).tdiv 3+1<max (m.on+st.2.2) m.off then (i,m.kid.live+1,m.kid.live+1 - m.kid.size) else (st.1,m.on+st.2.2+m.off+1,m.on+st.2.2+m.off+1 - m.kid.size)
def foldM (A:List MSt) (pre:List Nat):Int×Int×Int:=pre.foldl (fun st j=>stpM (backAt A j) ((A.length:Int) - 1 - j) st) ((A.length:Int),0,0)
theorem foldM_snoc (A:List MSt) (pre:List Nat) (x:Nat):foldM A (pre++[x])=stpM (backAt A x) ((A.length:Int) - 1 - x) (foldM A pre):=by
 unfold foldM
 rw [List.foldl_append]
 rfl
structure SzM (m:MSt):Prop where
 k1:0≤m.k1.size∧m.k1.size≤1048576
 k2:0≤m.k2.size∧m.k2.size≤1048576
 size:0≤m.kid.size∧m.kid.size≤1048576
 live:0≤m.kid.live∧m.kid.live≤1048576
theorem SzM.on {m:MSt} (h:SzM m):(0≤m.on∧m.on≤1048576)∧0≤m.off∧m.off≤1048576:=by
 unfold MSt.on MSt.off
 cases m.side
 ·exact ⟨h.k1,h.k2⟩
 ·exact ⟨h.k2,h.k1⟩
theorem stp_bound {m:MSt} (h:SzM m) (i:Int) (st:Int×Int×Int) (b:Nat) (hb: -(b:Int)≤st.2.2∧st.2.2≤b): -((b+4194304:Nat):Int)≤(stpM m i st).2.2∧(stpM m i st).2.2≤((b+4194304:Nat):Int):=by
 have h1:=h.on
 have h2:=h.size
 have h3:=h.live
 unfold stpM
 split<;>simp only<;>omega
theorem back_mem {A:List MSt} (h:A≠[]) (x:Nat):backAt A x∈A:=by
 have hp:=List.length_pos_iff.2 h
 unfold backAt
 rw [List.getD_eq_getElem?_getD,List.getElem?_eq_getElem (by omega)]
 exact List.getElem_mem _
theorem foldM_bound {A:List MSt} (h:∀m∈A,SzM m) (h0:A≠[]) (pre:List Nat): -((4194304*pre.length:Nat):Int)≤(foldM A pre).2.2∧(foldM A pre).2.2≤((4194304*pre.length:Nat):Int):=by
 obtain ⟨r,hr⟩:∃r,r=pre.reverse:=⟨_,rfl⟩
 have:pre=r.reverse:=by rw [hr,List.reverse_reverse]
 subst this
 clear hr
 induction r with
 | nil=>exact ⟨Int.le_refl _,Int.le_refl _⟩
 | cons x r ih=>
  rw [List.reverse_cons,foldM_snoc,List.length_append]
  have:=stp_bound (h _ (back_mem h0 x)) ((A.length:Int) - 1 - x) _ _ ih
  simpa [Nat.mul_add] using this
def SetOk (L:List St):Prop:=∀j s,L[j]? =some s→0≤s.on+(settle (j+1) (L.drop (j+1))).2.2+s.off+1
theorem link_nums {m:MSt} {s:St} (h:Link m s):m.on=s.on∧m.off=s.off∧m.kid.live=s.old.kid.live∧m.kid.size=s.old.kid.size:=by
 unfold MSt.on MSt.off St.on St.off
 rw [h.l,h.r,h.side,h.old]
 exact ⟨rfl,rfl,rfl,rfl⟩
theorem settle_cons (i:Nat) (s:St) (L:List St):settle i (s::L)=if (s.on+(settle (i+1) L).2.2+s.off+1)*2/3+1<max (s.on+(settle (i+1) L).2.2) s.off then (i,s.old.kid.live+1,s.old.kid.live+1 - s.old.kid.size) else ((settle (i+1) L).1,s.on+(settle (i+1) L).2.2+s.off+1,s.on+(settle (i+1) L).2.2+s.off+1 - s.old.kid.size):=by rw [settle]
theorem foldM_settle {A:List MSt} {L:List St} (hl:Links A L) (h:SetOk L):∀j,j≤A.length→foldM A (List.range j)=((((settle (A.length - j) (L.drop (A.length - j))).1:Nat):Int),(settle (A.length - j) (L.drop (A.length - j))).2.1,(settle (A.length - j) (L.drop (A.length - j))).2.2)
 | 0,_=>by
  rw [Nat.sub_zero,hl.length,List.drop_length]
  show ((A.length:Int),(0:Int),(0:Int))=_
  rw [hl.length]
  rfl
 | j+1,hj=>by
  rw [List.range_succ,foldM_snoc,foldM_settle hl h j (by omega)]
  have hlen:=hl.length
  have hi:A.length - (j+1)<L.length:=by omega
  have hd:L.drop (A.length - (j+1))=L[A.length - (j+1)]::L.drop (A.length - j):=by
   rw [List.drop_eq_getElem_cons hi]
   congr 2
   omega
  obtain ⟨m,hm,hk⟩:=hl.get _ _ (List.getElem?_eq_getElem hi)
  have hb:backAt A j=m:=by
   unfold backAt
   rw [show A.length - 1 - j=A.length - (j+1) from by omega,List.getD_eq_getElem?_getD,hm]
   rfl
  obtain ⟨e1,e2,e3,e4⟩:=link_nums hk
  have h0:=h _ _ (List.getElem?_eq_getElem hi)
  rw [show A.length - (j+1)+1=A.length - j from by omega] at h0
  rw [hb,hd]
  generalize L[A.length - (j+1)]=s at *
  have hc:settle (A.length - (j+1)) (s::L.drop (A.length - j))=_:=settle_cons _ _ _
  rw [show A.length - (j+1)+1=A.length - j from by omega] at hc
  rw [hc]
  generalize settle (A.length - j) (L.drop (A.length - j))=X at *
  obtain ⟨x,y,z⟩:=X
  unfold stpM
  simp only at h0 ⊢
  rw [e1,e2,e3,e4,Int.tdiv_eq_ediv_of_nonneg (by omega)]
  split
  ·simp only [Prod.mk.injEq,and_true]
   omega
  ·rfl
def SeI (w:World) (A:List MSt) (pre:List Nat) (W:World):Prop:=
 W.heap[w.heap.size]? =some (.cells #[.int .i64 (foldM A pre).1] 3 (0,0))∧W.heap[w.heap.size+1]? =some (.cells #[.int .i64 (foldM A pre).2.1] 3 (0,0))∧W.heap[w.heap.size+2]? =some (.cells #[.int .i64 (foldM A pre).2.2] 3 (0,0))∧Below w.heap.size w W∧w.heap.size+4≤W.heap.size
theorem box_grown {W W':World} {row:Option Nat} {k:Nat} {cs:Array Value} {t:TypeId} {z:Nat×Nat} (h:W.heap[k]? =some (.cells cs t z)) (hg:W.grownBy W' row) (hr:∀r,row=some r→∃o:Obj,W.heap[r]? =some o∧o.isCells=false):W'.heap[k]? =some (.cells cs t z):=(hg.block k (yL h) (fun e=>by
 obtain ⟨o,ho,hc⟩:=hr k e.symm
 rw [h] at ho
 cases ho
 cases hc)).trans h
theorem seI_own (w:World) (A:List MSt) {B:Nat} (hB:w.heap.size≤B):OwnFrom B (SeI w A):=fun _ _ _ _ ⟨h0,h1,h2,hb,hs⟩ hg hr=>
 ⟨box_grown h0 hg fun r e=>(hr r e).2,box_grown h1 hg fun r e=>(hr r e).2,box_grown h2 hg fun r e=>(hr r e).2,hb.grown hg hb.size (fun k e=>Nat.le_trans hB (hr k e).1),Nat.le_trans hs hg.size⟩
def SeX (w:World) (v:Value) (A:List MSt) (x:Nat) (a':Act) (W:World):Prop:=
 ∃B6,w.heap.size+4≤B6∧a'={tmps:= #[v,undef,.pointer (some ⟨w.heap.size,0,none⟩),.pointer (some ⟨w.heap.size+1,0,none⟩),.pointer (some ⟨w.heap.size+1+1,0,none⟩),.int .i64 ((A.length:Int) - 1 - x),.pointer (some ⟨B6,0,none⟩),undef,undef,v,.int .i64 A.length,v,.func (.func 153) #[] #[.pointer (some ⟨w.heap.size+1+1+1,0,none⟩)],.int .i64 ((A.length:Int) - 1 - x),.agg (backAt A x).cells.toArray,undef,undef,undef,undef,undef,undef,undef,undef,undef,undef,undef,undef,undef,undef,undef,undef,undef,undef,undef,undef,undef,undef,undef,undef,undef,undef,undef,undef,undef,undef,undef,undef,undef,undef,undef,undef,undef,undef,undef,undef,undef,undef,undef],defers:=[]}∧W.heap[B6]? =some (.cells (backAt A x).cells.toArray 101 (0,0))
theorem seX_own (w:World) (v:Value) (A:List MSt) (B:Nat) (x:Nat) (a':Act):OwnFrom B (fun (_:Unit) W=>SeX w v A x a' W):=fun _ _ _ _ ⟨B6,hB,e,h⟩ hg hr=>
 ⟨B6,hB,e,box_grown h hg fun r e=>(hr r e).2⟩
theorem kd_get35 (k:Kd) (h:k.sum.length=32):k.cells[34]? =some (.int .i64 k.live)∧k.cells[35]? =some (.int .i64 k.size):=by
 unfold Kd.cells
 refine ⟨?_,?_⟩<;>(rw [List.getElem?_append_right (by rw [vals_length,h];omega),vals_length,h];rfl)
theorem mst_get34 (m:MSt) (h:m.kid.sum.length=32):m.cells[34]? =some (.int .i64 m.kid.live)∧m.cells[35]? =some (.int .i64 m.kid.size):=by
 have hl:=Kd.cells_length h
 unfold MSt.cells
 refine ⟨?_,?_⟩
 ·rw [List.getElem?_append_left (by rw [hl];omega)]
  exact (kd_get35 m.kid h).1
 ·rw [List.getElem?_append_left (by rw [hl];omega)]
  exact (kd_get35 m.kid h).2
theorem cell_of_lrow (w:World) (b j:Nat) {L:List Value} {t:TypeId} {z:Nat×Nat} {v:Value} (h:w.heap[b]? =some (.cells L.toArray t z)) (hv:L[j]? =some v):w.cell? ⟨b,j,none⟩=some v:=(cell_of_row w b j _ _ _ h).trans (by simpa using hv)
structure SeW (w W:World) (B6:Nat) (cs:Obj) (h s m:Int) (W':World):Prop where
 r0:W'.heap[w.heap.size]? =some (.cells #[.int .i64 h] 3 (0,0))
 r1:W'.heap[w.heap.size+1]? =some (.cells #[.int .i64 s] 3 (0,0))
 r2:W'.heap[w.heap.size+2]? =some (.cells #[.int .i64 m] 3 (0,0))
 r6:W'.heap[B6]? =some cs
 b:Below w.heap.size w W'
 z:W.heap.size≤W'.heap.size
 k:∀j,j<W.heap.size→j≠w.heap.size→j≠w.heap.size+1→j≠w.heap.size+2→W'.heap[j]? =W.heap[j]?
 o:KeepsOthers W W'
theorem SeW.later {w W W' W'':World} {B6:Nat} {cs:Obj} {h s m:Int} (x:SeW w W B6 cs h s m W') (hb:Below W'.heap.size W' W'') (hB:w.heap.size≤W.heap.size):SeW w W B6 cs h s m W'':=by
 have key:∀ {j:Nat} {o:Obj},W'.heap[j]? =some o→W''.heap[j]? =some o:=fun {j o} e=>(hb.block j (yL e)).trans e
 exact ⟨key x.r0,key x.r1,key x.r2,key x.r6,x.b.trans (hb.mono (Nat.le_trans hB x.z)),Nat.le_trans x.z hb.size,fun j h1 h2 h3 h4=>(hb.block j (Nat.lt_of_lt_of_le h1 x.z)).trans (x.k j h1 h2 h3 h4),x.o.trans ⟨hb.size,fun _ _ e _=>key e⟩⟩
theorem SeW.put {w W W':World} {B6:Nat} {cs:Obj} {h s m:Int} (x:SeW w W B6 cs h s m W') (hB:w.heap.size+3≤B6):(∀v:Int,SeW w W B6 cs v s m (W'.setCell ⟨w.heap.size,0,none⟩ (.int .i64 v)))∧(∀v:Int,SeW w W B6 cs h v m (W'.setCell ⟨w.heap.size+1,0,none⟩ (.int .i64 v)))∧(∀v:Int,SeW w W B6 cs h s v (W'.setCell ⟨w.heap.size+2,0,none⟩ (.int .i64 v))):=by
 have key:∀(k:Nat) (v:Value) {j:Nat},j≠k→(W'.setCell ⟨k,0,none⟩ v).heap[j]? =W'.heap[j]? :=fun k v j e=>Below.heap_setCell _ _ _ _ e
 have hz:∀(k:Nat) (v:Value),W.heap.size≤(W'.setCell ⟨k,0,none⟩ v).heap.size:=fun k v=>by simpa using x.z
 refine ⟨fun v=>?_,fun v=>?_,fun v=>?_⟩
 ·exact ⟨heap_setCell_same _ _ 0 _ _ _ x.r0,(key _ _ (by omega)).trans x.r1,(key _ _ (by omega)).trans x.r2,(key _ _ (by omega)).trans x.r6,x.b.setCell (Nat.le_refl _) _,hz _ _,fun j h1 h2 h3 h4=>(key _ _ h2).trans (x.k j h1 h2 h3 h4),x.o.trans (KeepsOthers.setCell _ _ _)⟩
 ·exact ⟨(key _ _ (by omega)).trans x.r0,heap_setCell_same _ _ 0 _ _ _ x.r1,(key _ _ (by omega)).trans x.r2,(key _ _ (by omega)).trans x.r6,x.b.setCell (show w.heap.size≤w.heap.size+1 by omega) _,hz _ _,fun j h1 h2 h3 h4=>(key _ _ h3).trans (x.k j h1 h2 h3 h4),x.o.trans (KeepsOthers.setCell _ _ _)⟩
 ·exact ⟨(key _ _ (by omega)).trans x.r0,(key _ _ (by omega)).trans x.r1,heap_setCell_same _ _ 0 _ _ _ x.r2,(key _ _ (by omega)).trans x.r6,x.b.setCell (show w.heap.size≤w.heap.size+2 by omega) _,hz _ _,fun j h1 h2 h3 h4=>(key _ _ h4).trans (x.k j h1 h2 h3 h4),x.o.trans (KeepsOthers.setCell _ _ _)⟩
theorem SeW.cells {w W W':World} {B6:Nat} {cs:Obj} {h s m:Int} (x:SeW w W B6 cs h s m W'):(W'.cell? ⟨w.heap.size,0,none⟩=some (.int .i64 h)∧W'.frozen? ⟨w.heap.size,0,none⟩=false)∧(W'.cell? ⟨w.heap.size+1,0,none⟩=some (.int .i64 s)∧W'.frozen? ⟨w.heap.size+1,0,none⟩=false)∧(W'.cell? ⟨w.heap.size+1+1,0,none⟩=some (.int .i64 m)∧W'.frozen? ⟨w.heap.size+1+1,0,none⟩=false):=
 ⟨⟨cell_of_row _ _ 0 _ _ _ x.r0,frozen_of_row _ _ 0 _ _ x.r0⟩,⟨cell_of_row _ _ 0 _ _ _ x.r1,frozen_of_row _ _ 0 _ _ x.r1⟩,cell_of_row _ _ 0 _ _ _ x.r2,frozen_of_row _ _ 0 _ _ x.r2⟩
theorem ret_mark2 {fn:Func} {w2:World} {tmps:Array Value} {p q:Tmp} {g g2 D:Nat} {x y:Int} {R:Ending→World→Prop} (hr:fn.results= #[.cell p 3,.cell q 3]) (hp:tmps.getD p undef= .pointer (some ⟨g,0,none⟩)) (hq:tmps.getD q undef= .pointer (some ⟨g2,0,none⟩)) (hx:w2.cell? ⟨g,0,none⟩=some (.int .i64 x)) (hy:w2.cell? ⟨g2,0,none⟩=some (.int .i64 y)) (hK:w2.heap[D]? =some (.deferred (some []))) (h:R (.returned (.tuple #[.int .i64 x,.int .i64 y])) (w2.putObj D (.deferred none))):bodyPostM Fence.wide 5 Tryz.prog fn R .ret ⟨tmps,[{target:=.collected D,args:= #[]}]⟩ w2:=by
 refine ⟨by simp,.inl ⟨_,_,rfl,run_takeDeferred hK,?_⟩⟩
 refine ⟨.tuple #[.int .i64 x,.int .i64 y],?_,h⟩
 have hp':tmps[p]?.getD undef= .pointer (some ⟨g,0,none⟩):=by simpa using hp
 have hq':tmps[q]?.getD undef= .pointer (some ⟨g2,0,none⟩):=by simpa using hq
 have hc':=cell_kept hx (grownBy_putObj' _ D (.deferred none)) (fun r e=>by cases e;exact ⟨_,hK,rfl⟩)
 have hc2:=cell_kept hy (grownBy_putObj' _ D (.deferred none)) (fun r e=>by cases e;exact ⟨_,hK,rfl⟩)
 simp [results,hr,go_sem,hp',hq',hc',hc2]
theorem settle_any {B bw:Nat} {w:World} {q:Option Addr} {c:Nat} {A:List MSt} {L:List St} (h:WaySt B bw w (.slice q A.length c) A) (hl:Links A L) (hA:A.length≤1000) (hz:∀m∈A,SzM m) (hL:SetOk L):
  Calls Tryz.prog 55 #[.slice q A.length c] w fun e w'=>e= .returned (.tuple #[.int .i64 (settle 0 L).1,.int .i64 (settle 0 L).2.1])∧Below w.heap.size w w':=by
 obtain ⟨n,hn⟩:∃n,n=A.length:=⟨_,rfl⟩
 have HN:=yH hn
 have hback:=fun w'=>back_any (.slice q n c) rfl w'
 have HFS:=yH (foldM_settle hl hL A.length (Nat.le_refl _))
 have HB:=yH (foldM_bound hz)
 have HZ:=yH hz
 have HA:=yH hA
 have HWY:=yH h.way
 obtain ⟨g,hgz,hg,hgl⟩:∃g,g<w.heap.size+1∧(A≠[]→q=some ⟨g,0,none⟩∧A.length≤c∧∀i,i<A.length→w.rangeAt g (i*41) (A.getD i default).cells)∧(A≠[]→g<w.heap.size):=by
  by_cases h0:A=[]
  ·exact ⟨0,by omega,fun e=>absurd h0 e,fun e=>absurd h0 e⟩
  ·obtain ⟨g,h1,h2,h3⟩:=way_range h h0
   have hp:=List.length_pos_iff.2 h0
   have h5:=MSt.cells_length (h.way.each _ (List.getElem_mem hp)).kid.len
   have h4:=block_lt_of_cell (h3 0 hp 0 _ (List.getElem?_eq_getElem (by rw [List.getD_eq_getElem?_getD,List.getElem?_eq_getElem hp];show 0<(A[0]).cells.length;rw [h5];decide)))
   exact ⟨g,by simp only at h4;omega,fun _=>⟨h1,h2,h3⟩,fun _=>h4⟩
 have HGL:=yH hgl
 have HGZ:=yH hgz
 have HG:=yH hg
 have H41:=yH (show ∀m∈A,m.cells.length=41 from fun m hm=>MSt.cells_length (h.way.each m hm).kid.len)
 have HZS:=yH (zero_of_info spz)
 have hz0:=HZS.out.1
 rw [← hn]
 clear hn hl hL hz hA h hg hgz hgl
 refine callsIn_wide.1 (callsIn_of_wp_marks (n:=5) Tryz.func55 rfl trivial ?_ rfl)
 simp only [Tryz.ntmps55,List.size_toArray,List.length_cons,List.length_nil,Nat.reduceAdd,Nat.reduceSub,Array.replicate_succ,Array.replicate_zero,List.push_toArray,List.append_toArray,List.nil_append,List.cons_append]
 refine wpIn_wide.2 ?_
 go_wp2_with (go_at_call 107;refine (hback _).mono ?_;rintro _ w4 ⟨rfl,hw4⟩;have HW4:=yH hw4;clear hw4)
 have HX4:=yH (show SeI w A [] w4∧w4.heap[w.heap.size+3]? =some (.cells #[.slice q n c] 93 (0,0))∧w4.heap.size=w.heap.size+4 from by
  obtain ⟨W,hW,k0,k1,k2,b3⟩:=three_alloc w (.cells #[.int .i64 n] 3) (.cells #[.int .i64 0] 3) (.cells #[.int .i64 0] 3)
  have hs3:W.heap.size=w.heap.size+3:=by rw [← hW];simp
  have h4:=HW4.out
  rw [hW] at h4
  have b4:Below W.heap.size W (W.alloc (.cells #[.slice q n c] 93)):=(Below.refl _ _).alloc (Nat.le_refl _) _
  have h5:=heap_alloc_new W (.cells #[.slice q n c] 93)
  rw [hs3] at h5
  rw [h4]
  refine ⟨⟨?_,?_,?_,b3.trans (b4.mono b3.size),by simp;omega⟩,h5,by simp;omega⟩
  ·rw [b4.block _ (by omega),k0,HN.out];rfl
  ·rw [b4.block _ (by omega),k1];rfl
  ·rw [b4.block _ (by omega),k2];rfl)
 have hBs:=cell_of_row w4 (w.heap.size+3) 0 _ _ _ HX4.out.2.1
 clear HW4
 refine (wpIn_wide (n:=5)).1 ?_
 refine wpIn_rangeFunc_ownH rfl (by omega) (gf:=153) (lb:= #[.pointer (some ⟨w.heap.size+1+1+1,0,none⟩)]) (by rfl) trivial (enters_of Tryz.func153 (by kernel_rfl) rfl)
  (back_stops 4 (w.heap.size+3) g c q A (by have:=HA.out;omega) (fun h=>⟨(HG.out h).1,(HG.out h).2.1⟩) H41.out w4 (by rw [← HN.out];exact hBs) (fun i hi=>range_later ((HG.out (fun e=>by rw [e] at hi;cases hi)).2.2 i hi) HX4.out.1.2.2.2.1)) (fun h k=>⟨k.1.trans h.1,k.2.trans h.2⟩) ?kb (Below.refl _ _) (fun _=>rfl)
  (SeI w A) (fun _ _ _=>False) (seI_own w A (by rw [HX4.out.2.2];omega)) (fun _ _ _ _ _ h=>False.elim h) HX4.out.1
  (SeX w (.slice q n c) A) (seX_own _ _ _ _) ?assign ?body ?done (fun _ _ _ _ _ _ h=>False.elim h)
 case kb=>exact fun W l o o' hl _ _ _=>⟨World.putObj_heap_other (by have:=HX4.out.2.2;omega),World.putObj_heap_other (by have:=HX4.out.2.2;have:=HGZ.out;omega)⟩
 case assign=>
  intro l pre x W K hI hK
  have HKK:=yH hK
  have HI:=yH hI
  have hA0:A≠[]∨A=[]:=(Decidable.em (A=[])).symm
  have HCL:=yH (show (backAt A x).cells.length=41∧∀u∈(backAt A x).cells,u.oneCell'=true from ⟨by
   rcases hA0 with h | h
   ·exact H41.out _ (back_mem h x)
   ·rw [h];rfl,MSt.one⟩)
  have RZ:=yH (heap_alloc_new W (.cells sp0.toArray 101))
  have HSR:=yH (setRow_alloc W sp0.toArray (backAt A x).cells.toArray 101)
  have R5:=yH (heap_alloc_new W (.cells (backAt A x).cells.toArray 101))
  have K5:=yH (show KeepsFrom w4.heap.size W (W.alloc (.cells (backAt A x).cells.toArray 101)) from (KeepsOthers.alloc W _).from _)
  have I5:=yH (seI_own w A (B:=w4.heap.size) (by rw [HX4.out.2.2];omega) pre W _ none HI.out (World.grownBy_alloc W (.cells (backAt A x).cells.toArray 101) none) (fun r e=>by cases e))
  have hws:w.heap.size+4≤W.heap.size:=hI.2.2.2.2
  have HWS:=yH hws
  have P5:=yH (show KpB (w.heap.size+3) g W (W.alloc (.cells (backAt A x).cells.toArray 101)) from ⟨Below.heap_alloc _ _ _ (by omega),Below.heap_alloc _ _ _ (by have:=HGZ.out;omega)⟩)
  clear hI hK hws hA0
  unfold encB
  generalize hcs:(backAt A x).cells=cs at *
  have HCS:=yH hcs
  clear hcs
  simp only [List.zip_toArray,List.zip_cons_cons,List.zip_nil_left,List.size_toArray,List.length_cons,List.length_nil]
  gi_upto_region 5 with fail
  refine region_list_round (by rfl) ?_
  go_wp2_with (refine wpList_store_row (by rfl) 101 _ _ (by rfl) W.heap.size cs.toArray (by rfl) (by rfl) _ _ RZ.out (by rw [List.size_toArray,HCL.out.1];exact SSp) (by simp only [List.size_toArray,HCL.out.1];rfl) (all_oneCell_toArray HCL.out.2) ?_;rw [HSR.out])
  refine nrm_normal ?_
  exact HKK.out _ _ K5.out P5.out I5.out ⟨_,HWS.out,by rw [HN.out,HCS.out],by rw [HCS.out];exact R5.out⟩
 case body=>
  rintro l pre x a' W hl - ⟨r0,r1,r2,hbw,hsz⟩ ⟨B6,hB6,rfl,r6⟩ hlen
  have hA0:A≠[]:=fun e=>by rw [e] at hlen;cases hlen
  have hbd:=HB.out hA0 pre
  have hmo:=foldM_snoc A pre x
  have hmz:=HZ.out _ (back_mem hA0 x)
  have hmk:=(HWY.out.each _ (back_mem hA0 x)).later hbw
  have hA:=HA.out
  have HZZ:=yH hsz
  rw [← HN.out]
  rw [← HN.out] at hmo
  generalize hcs:(backAt A x).cells.toArray=cs at r6 ⊢
  generalize backAt A x=m at *
  generalize hF:foldM A pre=F at *
  obtain ⟨hv,sz,mo⟩:=F
  have HMO:=yH hmo
  have hmb: -4194304000≤mo∧mo≤4194304000:=by simp only at hbd;omega
  have HW0:=yH (show SeW w W B6 (.cells cs 101 (0,0)) hv sz mo W from ⟨r0,r1,r2,r6,hbw,Nat.le_refl _,fun _ _ _ _ _=>rfl,KeepsOthers.refl _⟩)
  obtain ⟨⟨c0,f0⟩,⟨c1,f1⟩,c2,f2⟩:=HW0.out.cells
  have hr6:W.heap[B6]? =some (.cells m.cells.toArray 101 (0,0)):=by rw [r6,← hcs]
  have g39:=cell_of_lrow W B6 39 hr6 (mst_get m hmk.kid.len).2.2.1
  have g40:=cell_of_lrow W B6 40 hr6 (mst_get m hmk.kid.len).2.2.2
  have HGC:=yH (show ∀(w':World),w'.heap[B6]? =some (.cells cs 101 (0,0))→w'.cell? ⟨B6,34,none⟩=some (.int .i64 m.kid.live)∧w'.cell? ⟨B6,35,none⟩=some (.int .i64 m.kid.size) from fun w' h6=>by
   rw [← hcs] at h6
   exact ⟨cell_of_lrow w' B6 34 h6 (mst_get34 m hmk.kid.len).1,cell_of_lrow w' B6 35 h6 (mst_get34 m hmk.kid.len).2⟩)
  have s1:W.cell? ⟨m.gk,35,none⟩=some (.int .i64 m.k1.size):=by have:=hmk.kid1 35 _ (kd_get35 m.k1 hmk.k1.len).2;simpa using this
  have s2:W.cell? ⟨m.gk,72,none⟩=some (.int .i64 m.k2.size):=by have:=hmk.kid2 35 _ (kd_get35 m.k2 hmk.k2.len).2;simpa using this
  have hck:=hmk.caps.2
  have hso:=hmz.on
  have hsl:=hmz.live
  have hss:=hmz.size
  have HBB:=yH (show w.heap.size+3≤B6 by omega)
  have q1:IntKind.i64.wrap (m.on+mo)=m.on+mo:=IntWalk.i64_in _ (by omega)
  have q2:IntKind.i64.wrap (m.on+mo+m.off)=m.on+mo+m.off:=IntWalk.i64_in _ (by omega)
  have q3:IntKind.i64.wrap (m.on+mo+m.off+1)=m.on+mo+m.off+1:=IntWalk.i64_in _ (by omega)
  have q4:IntKind.i64.wrap ((m.on+mo+m.off+1)*2)=(m.on+mo+m.off+1)*2:=IntWalk.i64_in _ (by omega)
  have hq: -9000000000≤((m.on+mo+m.off+1)*2).tdiv 3∧((m.on+mo+m.off+1)*2).tdiv 3≤9000000000:=tdiv3 (by omega) (by omega)
  have q5:IntKind.i64.wrap (((m.on+mo+m.off+1)*2).tdiv 3)=((m.on+mo+m.off+1)*2).tdiv 3:=IntWalk.i64_in _ (by omega)
  have q6:IntKind.i64.wrap (((m.on+mo+m.off+1)*2).tdiv 3+1)=((m.on+mo+m.off+1)*2).tdiv 3+1:=IntWalk.i64_in _ (by omega)
  have q7:IntKind.i64.wrap (m.on+mo+m.off+1 - m.kid.size)=m.on+mo+m.off+1 - m.kid.size:=IntWalk.i64_in _ (by omega)
  have q8:IntKind.i64.wrap (m.kid.live+1)=m.kid.live+1:=IntWalk.i64_in _ (by omega)
  have q9:IntKind.i64.wrap (m.kid.live+1 - m.kid.size)=m.kid.live+1 - m.kid.size:=IntWalk.i64_in _ (by omega)
  have HEND:=yH (show ∀(W':World) (st:Int×Int×Int),foldM A (pre++[x])=st→SeW w W B6 (.cells cs 101 (0,0)) st.1 st.2.1 st.2.2 W'→KeepsFrom w4.heap.size W W'∧KpB (w.heap.size+3) g W W'∧SeI w A (pre++[x]) W' from fun W' st hst hx=>by
   have h1:=HGZ.out
   have h2:g≠w.heap.size:=by have:=HGL.out hA0;omega
   refine ⟨hx.o.from _,⟨hx.k _ (by omega) (by omega) (by omega) (by omega),hx.k _ (by omega) h2 (by omega) (by omega)⟩,?_⟩
   unfold SeI
   rw [hst]
   exact ⟨hx.r0,hx.r1,hx.r2,hx.b,Nat.le_trans hsz hx.z⟩)
  clear hmk hmz hbw hF r0 r1 r2 r6 hr6 hcs hmo hbd hso hsz
  have w1:IntKind.i64.wrap 1=1:=IntWalk.i64_in _ (by omega)
  have w0:IntKind.i64.wrap 0=0:=IntWalk.i64_in _ (by omega)
  cases hside:m.side
  ·have e40:W.cell? ⟨B6,40,none⟩=some (.int .i64 0):=by rw [g40];unfold MSt.sideN;rw [hside];rfl
   have eon:W.cell? ⟨m.gk,35,none⟩=some (.int .i64 m.on):=by rw [s1];unfold MSt.on;rw [hside];rfl
   have eoff:W.cell? ⟨m.gk,72,none⟩=some (.int .i64 m.off):=by rw [s2];unfold MSt.off;rw [hside];rfl
   clear g40 s1 s2 hside
   gi_upto_region 6 with fail
   refine region_round (S:=fun w'=>Below W.heap.size W w') (by kernel_rfl) (by rfl) ((Below.refl _ _).drew) (fun hHeld=>?_)
   generalize W.drew=x0 at *
   refine tK 0 ?_
   refine tK 1 ?_
   refine tQ 2 ?_ ?_ ?_
   rotate_left
   ·intro w' hSw
    have y:=(hSw.cell (block_lt_of_cell g39)).trans g39
    go_simp
    try with_reducible rfl
   refine tK 3 ?_
   refine tQ 4 ?_ ?_ ?_
   rotate_left
   ·intro w' hSw
    have y:=(hSw.cell (block_lt_of_cell e40)).trans e40
    go_simp
    try with_reducible rfl
   refine tK 5 ?_
   refine tK 6 ?_
   refine tQ 7 ?_ ?_ ?_
   rotate_left
   ·intro w' hSw
    have y:=(hSw.cell (block_lt_of_cell eon)).trans eon
    go_simp
    try with_reducible rfl
   refine tQ 8 ?_ ?_ ?_
   rotate_left
   ·intro w' hSw
    have y:=(hSw.cell (block_lt_of_cell c2)).trans c2
    go_simp
    try with_reducible rfl
   refine tK 9 ?_
   refine tK 10 ?_
   refine tK 11 ?_
   refine tQ 12 ?_ ?_ ?_
   rotate_left
   ·intro w' hSw
    have y:=(hSw.cell (block_lt_of_cell g39)).trans g39
    go_simp
    try with_reducible rfl
   refine tK 13 ?_
   refine tQ 14 ?_ ?_ ?_
   rotate_left
   ·intro w' hSw
    have y:=(hSw.cell (block_lt_of_cell e40)).trans e40
    go_simp
    try with_reducible rfl
   refine tK 15 ?_
   refine tK 16 ?_
   refine tK 17 ?_
   refine tQ 18 ?_ ?_ ?_
   rotate_left
   ·intro w' hSw
    have y:=(hSw.cell (block_lt_of_cell eoff)).trans eoff
    go_simp
    try with_reducible rfl
   refine tK 19 ?_
   refine tK 20 ?_
   refine wpAnyH_done (by kernel_rfl) ?_ _
   refine nrm_normal ?_
   have HW1:=yH (HW0.out.later hHeld (by have:=HZZ.out;omega))
   clear hHeld c0 f0 c1 f1 c2 f2 e40 eon eoff g39
   obtain ⟨⟨c0,f0⟩,⟨c1,f1⟩,c2,f2⟩:=HW1.out.cells
   obtain ⟨c34,c35⟩:=HGC.out _ HW1.out.r6
   gi_upto_region 8 with fail
   have HW2:=yH ((HW1.out.put HBB.out).2.1 (m.on+mo+m.off+1))
   clear c0 f0 c1 f1 c2 f2 c34 c35
   generalize x0.setCell ⟨w.heap.size+1,0,none⟩ (.int .i64 (m.on+mo+m.off+1))=x1 at *
   obtain ⟨⟨c0,f0⟩,⟨c1,f1⟩,c2,f2⟩:=HW2.out.cells
   obtain ⟨c34,c35⟩:=HGC.out _ HW2.out.r6
   by_cases hC:((m.on+mo+m.off+1)*2).tdiv 3+1<max (m.on+mo) m.off
   ·have hgt:max (m.on+mo) m.off>((m.on+mo+m.off+1)*2).tdiv 3+1:=hC
    have HC:=yH hC
    gi_upto_region 9 with fail
    have HW3:=yH (HW2.out.later (W'':=x1.drew) ((Below.refl _ _).drew) (by have:=HZZ.out;omega))
    clear c0 f0 c1 f1 c2 f2 c34 c35
    refine region_round (S:=fun w'=>w'.cell? ⟨B6,34,none⟩=some (.int .i64 m.kid.live)) (by kernel_rfl) (by rfl) ((HGC.out _ HW3.out.r6).1) (fun hHeld=>?_)
    generalize x1.drew=x3 at *
    refine tK 0 ?_
    refine tK 1 ?_
    refine tK 2 ?_
    refine tQ 3 ?_ ?_ ?_
    rotate_left
    ·intro w' hSw
     have y:=hSw
     go_simp
     try with_reducible rfl
    refine tK 4 ?_
    refine rY [5] ?_
    refine rC (fun K hK=>?_) AllReadyH.nil
    obtain ⟨⟨c0,f0⟩,-⟩:=HW3.out.cells
    go_simp
    refine hK.out _ _ (HGC.out _ ((HW3.out.put HBB.out).1 ((n:Int) - 1 - x)).r6).1 (fun hHeld=>?_)
    clear hK K
    try simp only [Act.put,yA,yB,yC]
    refine rY [6] ?_
    refine rC (fun K hK=>?_) AllReadyH.nil
    obtain ⟨-,⟨c1,f1⟩,-⟩:=((HW3.out.put HBB.out).1 ((n:Int) - 1 - x)).cells
    go_simp
    refine hK.out _ _ (HGC.out _ ((((HW3.out.put HBB.out).1 ((n:Int) - 1 - x)).put HBB.out).2.1 (m.kid.live+1)).r6).1 (fun hHeld=>?_)
    clear hK K
    try simp only [Act.put,yA,yB,yC]
    refine wpAnyH_done (by kernel_rfl) ?_ _
    refine nrm_normal ?_
    clear hHeld
    have HW5:=yH ((((HW3.out.put HBB.out).1 ((n:Int) - 1 - x)).put HBB.out).2.1 (m.kid.live+1))
    generalize (x3.setCell ⟨w.heap.size,0,none⟩ (.int .i64 ((n:Int) - 1 - x))).setCell ⟨w.heap.size+1,0,none⟩ (.int .i64 (m.kid.live+1))=x5 at *
    obtain ⟨⟨c0,f0⟩,⟨c1,f1⟩,c2,f2⟩:=HW5.out.cells
    obtain ⟨c34,c35⟩:=HGC.out _ HW5.out.r6
    gi_wp2
    have h1:=HMO.out
    unfold stpM at h1
    simp only at h1
    rw [if_pos HC.out] at h1
    exact HEND.out _ _ h1 ((HW5.out.put HBB.out).2.2 _)
   ·have hgt:¬max (m.on+mo) m.off>((m.on+mo+m.off+1)*2).tdiv 3+1:=hC
    have HC:=yH hC
    gi_wp2
    have h1:=HMO.out
    unfold stpM at h1
    simp only at h1
    rw [if_neg (Int.not_lt.2 HC.out)] at h1
    exact HEND.out _ _ h1 ((HW2.out.put HBB.out).2.2 _)
  ·have e40:W.cell? ⟨B6,40,none⟩=some (.int .i64 1):=by rw [g40];unfold MSt.sideN;rw [hside];rfl
   have eon:W.cell? ⟨m.gk,72,none⟩=some (.int .i64 m.on):=by rw [s2];unfold MSt.on;rw [hside];rfl
   have eoff:W.cell? ⟨m.gk,35,none⟩=some (.int .i64 m.off):=by rw [s1];unfold MSt.off;rw [hside];rfl
   clear g40 s1 s2 hside
   gi_upto_region 6 with fail
   refine region_round (S:=fun w'=>Below W.heap.size W w') (by kernel_rfl) (by rfl) ((Below.refl _ _).drew) (fun hHeld=>?_)
   generalize W.drew=x0 at *
   refine tK 0 ?_
   refine tK 1 ?_
   refine tQ 2 ?_ ?_ ?_
   rotate_left
   ·intro w' hSw
    have y:=(hSw.cell (block_lt_of_cell g39)).trans g39
    go_simp
    try with_reducible rfl
   refine tK 3 ?_
   refine tQ 4 ?_ ?_ ?_
   rotate_left
   ·intro w' hSw
    have y:=(hSw.cell (block_lt_of_cell e40)).trans e40
    go_simp
    try with_reducible rfl
   refine tK 5 ?_
   refine tK 6 ?_
   refine tQ 7 ?_ ?_ ?_
   rotate_left
   ·intro w' hSw
    have y:=(hSw.cell (block_lt_of_cell eon)).trans eon
    go_simp
    try with_reducible rfl
   refine tQ 8 ?_ ?_ ?_
   rotate_left
   ·intro w' hSw
    have y:=(hSw.cell (block_lt_of_cell c2)).trans c2
    go_simp
    try with_reducible rfl
   refine tK 9 ?_
   refine tK 10 ?_
   refine tK 11 ?_
   refine tQ 12 ?_ ?_ ?_
   rotate_left
   ·intro w' hSw
    have y:=(hSw.cell (block_lt_of_cell g39)).trans g39
    go_simp
    try with_reducible rfl
   refine tK 13 ?_
   refine tQ 14 ?_ ?_ ?_
   rotate_left
   ·intro w' hSw
    have y:=(hSw.cell (block_lt_of_cell e40)).trans e40
    go_simp
    try with_reducible rfl
   refine tK 15 ?_
   refine tK 16 ?_
   refine tK 17 ?_
   refine tQ 18 ?_ ?_ ?_
   rotate_left
   ·intro w' hSw
    have y:=(hSw.cell (block_lt_of_cell eoff)).trans eoff
    go_simp
    try with_reducible rfl
   refine tK 19 ?_
   refine tK 20 ?_
   refine wpAnyH_done (by kernel_rfl) ?_ _
   refine nrm_normal ?_
   have HW1:=yH (HW0.out.later hHeld (by have:=HZZ.out;omega))
   clear hHeld c0 f0 c1 f1 c2 f2 e40 eon eoff g39
   obtain ⟨⟨c0,f0⟩,⟨c1,f1⟩,c2,f2⟩:=HW1.out.cells
   obtain ⟨c34,c35⟩:=HGC.out _ HW1.out.r6
   gi_upto_region 8 with fail
   have HW2:=yH ((HW1.out.put HBB.out).2.1 (m.on+mo+m.off+1))
   clear c0 f0 c1 f1 c2 f2 c34 c35
   generalize x0.setCell ⟨w.heap.size+1,0,none⟩ (.int .i64 (m.on+mo+m.off+1))=x1 at *
   obtain ⟨⟨c0,f0⟩,⟨c1,f1⟩,c2,f2⟩:=HW2.out.cells
   obtain ⟨c34,c35⟩:=HGC.out _ HW2.out.r6
   by_cases hC:((m.on+mo+m.off+1)*2).tdiv 3+1<max (m.on+mo) m.off
   ·have hgt:max (m.on+mo) m.off>((m.on+mo+m.off+1)*2).tdiv 3+1:=hC
    have HC:=yH hC
    gi_upto_region 9 with fail
    have HW3:=yH (HW2.out.later (W'':=x1.drew) ((Below.refl _ _).drew) (by have:=HZZ.out;omega))
    clear c0 f0 c1 f1 c2 f2 c34 c35
    refine region_round (S:=fun w'=>w'.cell? ⟨B6,34,none⟩=some (.int .i64 m.kid.live)) (by kernel_rfl) (by rfl) ((HGC.out _ HW3.out.r6).1) (fun hHeld=>?_)
    generalize x1.drew=x3 at *
    refine tK 0 ?_
    refine tK 1 ?_
    refine tK 2 ?_
    refine tQ 3 ?_ ?_ ?_
    rotate_left
    ·intro w' hSw
     have y:=hSw
     go_simp
     try with_reducible rfl
    refine tK 4 ?_
    refine rY [5] ?_
    refine rC (fun K hK=>?_) AllReadyH.nil
    obtain ⟨⟨c0,f0⟩,-⟩:=HW3.out.cells
    go_simp
    refine hK.out _ _ (HGC.out _ ((HW3.out.put HBB.out).1 ((n:Int) - 1 - x)).r6).1 (fun hHeld=>?_)
    clear hK K
    try simp only [Act.put,yA,yB,yC]
    refine rY [6] ?_
    refine rC (fun K hK=>?_) AllReadyH.nil
    obtain ⟨-,⟨c1,f1⟩,-⟩:=((HW3.out.put HBB.out).1 ((n:Int) - 1 - x)).cells
    go_simp
    refine hK.out _ _ (HGC.out _ ((((HW3.out.put HBB.out).1 ((n:Int) - 1 - x)).put HBB.out).2.1 (m.kid.live+1)).r6).1 (fun hHeld=>?_)
    clear hK K
    try simp only [Act.put,yA,yB,yC]
    refine wpAnyH_done (by kernel_rfl) ?_ _
    refine nrm_normal ?_
    clear hHeld
    have HW5:=yH ((((HW3.out.put HBB.out).1 ((n:Int) - 1 - x)).put HBB.out).2.1 (m.kid.live+1))
    generalize (x3.setCell ⟨w.heap.size,0,none⟩ (.int .i64 ((n:Int) - 1 - x))).setCell ⟨w.heap.size+1,0,none⟩ (.int .i64 (m.kid.live+1))=x5 at *
    obtain ⟨⟨c0,f0⟩,⟨c1,f1⟩,c2,f2⟩:=HW5.out.cells
    obtain ⟨c34,c35⟩:=HGC.out _ HW5.out.r6
    gi_wp2
    have h1:=HMO.out
    unfold stpM at h1
    simp only at h1
    rw [if_pos HC.out] at h1
    exact HEND.out _ _ h1 ((HW5.out.put HBB.out).2.2 _)
   ·have hgt:¬max (m.on+mo) m.off>((m.on+mo+m.off+1)*2).tdiv 3+1:=hC
    have HC:=yH hC
    gi_wp2
    have h1:=HMO.out
    unfold stpM at h1
    simp only at h1
    rw [if_neg (Int.not_lt.2 HC.out)] at h1
    exact HEND.out _ _ h1 ((HW2.out.put HBB.out).2.2 _)
 case done=>
  rintro D xs W hD rfl ⟨r0,r1,r2,hbw,hsz⟩ hK
  have hst:=HFS.out
  rw [Nat.sub_self,List.drop_zero] at hst
  rw [hst] at r0 r1 r2
  generalize hX:settle 0 L=X at r0 r1 r2
  obtain ⟨x,y,z⟩:=X
  have HXE:=yH hX
  clear hX
  simp only at r0 r1 r2
  have HBD:=yH (show w.heap.size+3≤D by have:=HX4.out.2.2;omega)
  have HW0:=yH (show SeW w W D (.deferred (some [])) x y z W from ⟨r0,r1,r2,hK,hbw,Nat.le_refl _,fun _ _ _ _ _=>rfl,KeepsOthers.refl _⟩)
  have HZZ:=yH hsz
  clear hst hK hbw r0 r1 r2 hsz
  go_upto_region 11 with fail
  refine region_nrm (S:=fun w'=>SeW w W D (.deferred (some [])) x y z w') (by kernel_rfl) (HW0.out.later (W'':=W.drew) ((Below.refl _ _).drew) (by have:=HZZ.out;omega)) (fun hHeld=>?_)
  have HX0:=yH hHeld
  generalize W.drew=x0 at *
  refine tQ 0 ?_ ?_ ?_
  rotate_left
  ·intro w' hSw
   obtain ⟨⟨c0,f0⟩,⟨c1,f1⟩,-⟩:=hSw.cells
   go_simp
   try with_reducible rfl
  refine tQ 1 ?_ ?_ ?_
  rotate_left
  ·intro w' hSw
   obtain ⟨⟨c0,f0⟩,⟨c1,f1⟩,-⟩:=hSw.cells
   go_simp
   try with_reducible rfl
  refine rY [2] ?_
  refine rC (fun K hK=>?_) AllReadyH.nil
  obtain ⟨⟨c0,f0⟩,-⟩:=HX0.out.cells
  go_simp
  refine hK.out _ _ ((HX0.out.put HBD.out).1 (x:Int)) (fun hHeld=>?_)
  clear hK K
  try simp only [Act.put,yA,yB,yC]
  refine rY [3] ?_
  refine rC (fun K hK=>?_) AllReadyH.nil
  obtain ⟨-,⟨c1,f1⟩,-⟩:=((HX0.out.put HBD.out).1 (x:Int)).cells
  go_simp
  refine hK.out _ _ ((((HX0.out.put HBD.out).1 (x:Int)).put HBD.out).2.1 y) (fun hHeld=>?_)
  clear hK K
  try simp only [Act.put,yA,yB,yC]
  refine wpAnyH_done (by kernel_rfl) ?_ _
  have HX2:=yH hHeld
  clear hHeld
  generalize (x0.setCell ⟨w.heap.size,0,none⟩ (.int .i64 ((x:Nat):Int))).setCell ⟨w.heap.size+1,0,none⟩ (.int .i64 y)=x2 at *
  refine nrm_normal ?_
  go_wp2_with fail
  exact ret_mark2 (p:=2) (q:=3) (by kernel_rfl) rfl rfl HX2.out.cells.1.1 HX2.out.cells.2.1.1 HX2.out.r6 ⟨by rw [HXE.out],HX2.out.b.grown (grownBy_putObj' x2 D (.deferred none)) HX2.out.b.size (fun k e=>by cases e;have:=HX4.out.2.2;omega)⟩
end Go.Proofs.YtinihaflmdihaaaGreat.Kt
namespace Go.Proofs.YtinihaflmdihaaaGreat.Kt
open Go.RowKit Go.Shelf Go.Proofs.YtinihaflmdihaaaGreat.Nd Go.Proofs.YtinihaflmdihaaaGreat.Dk Go.Proofs.YtinihaflmdihaaaGreat.Pg
def forkM (m:MSt) (a:PK):PN:=if m.side then forkN m.row.R m.live m.k1.pk a else forkN m.row.R m.live a m.k2.pk
def rzM (A:List MSt) (st:PK×Pg.S) (j:Nat):PK×Pg.S:=((forkM (backAt A j) st.1).says,st.2.put (forkM (backAt A j) st.1).bytes)
def foldR (A:List MSt) (k:PK) (s:Pg.S) (pre:List Nat):PK×Pg.S:=pre.foldl (rzM A) (k,s)
theorem foldR_snoc (A:List MSt) (k:PK) (s:Pg.S) (pre:List Nat) (x:Nat):foldR A k s (pre++[x])=rzM A (foldR A k s pre) x:=by
 unfold foldR
 rw [List.foldl_append]
 rfl
def raiseP:List St→V→List (List Nat)
 |[],_=>[]
 | s::L,k=>raiseP L k++[(if s.side then forkN s.row s.live s.l.kid (raiseV L k).kid else forkN s.row s.live (raiseV L k).kid s.r.kid).bytes]
theorem raise_kid (s:St) (L:List St) (k:V):(raiseV (s::L) k).kid=(if s.side then forkN s.row s.live s.l.kid (raiseV L k).kid else forkN s.row s.live (raiseV L k).kid s.r.kid).says:=by
 rw [raiseV]
 split<;>rfl
theorem foldR_raise {A:List MSt} {L:List St} (hl:Links A L) (k:V) (s:Pg.S):∀j,j≤A.length→foldR A k.kid s (List.range j)=((raiseV (L.drop (A.length - j)) k).kid,puts s (raiseP (L.drop (A.length - j)) k))
 | 0,_=>by
  rw [Nat.sub_zero,hl.length,List.drop_length]
  rfl
 | j+1,hj=>by
  rw [List.range_succ,foldR_snoc,foldR_raise hl k s j (by omega)]
  have hlen:=hl.length
  have hi:A.length - (j+1)<L.length:=by omega
  have hd:L.drop (A.length - (j+1))=L[A.length - (j+1)]::L.drop (A.length - j):=by
   rw [List.drop_eq_getElem_cons hi]
   congr 2
   omega
  obtain ⟨m,hm,hk⟩:=hl.get _ _ (List.getElem?_eq_getElem hi)
  have hb:backAt A j=m:=by
   unfold backAt
   rw [show A.length - 1 - j=A.length - (j+1) from by omega,List.getD_eq_getElem?_getD,hm]
   rfl
  rw [hd]
  generalize L[A.length - (j+1)]=x at *
  have hf:forkM m (raiseV (L.drop (A.length - j)) k).kid=if x.side then forkN x.row x.live x.l.kid (raiseV (L.drop (A.length - j)) k).kid else forkN x.row x.live (raiseV (L.drop (A.length - j)) k).kid x.r.kid:=by
   unfold forkM
   rw [hk.side,hk.row,hk.live,hk.l,hk.r]
  unfold rzM
  rw [hb,hf,raise_kid,raiseP,puts_append]
  rfl
structure GoodK (d:Nat) (a:PK):Prop where
 right:a.right d=true
 key:a.key=[]
 zero:0≤a.size
structure GoodM (d:Nat) (Z:Nat) (m:MSt):Prop where
 row:m.row.R.length=d
 k1:GoodK d m.k1.pk
 k2:GoodK d m.k2.pk
 z1:m.k1.pk.size≤Z
 z2:m.k2.pk.size≤Z
theorem forkM_good {d Z:Nat} {m:MSt} {a:PK} (hd:1≤d∧d≤8) (h:GoodM d Z m) (ha:GoodK d a) (hz:a.size+Z+1≤1048576):((forkM m a).right d=true∧(forkM m a).size≤1048576)∧GoodK d (forkM m a).says∧(forkM m a).says.size≤a.size+Z+1:=by
 have h1:=h.z1
 have h2:=h.z2
 have z1:=h.k1.zero
 have z2:=h.k2.zero
 have z0:=ha.zero
 have key:∀n:PN,n.right d=true→1≤n.size→n.size≤a.size+Z+1→n.says.key=[]→(n.right d=true∧n.size≤1048576)∧GoodK d n.says∧n.says.size≤a.size+Z+1:=fun n hr h1 hs hk=>⟨⟨hr,by omega⟩,⟨says_right hr h1 (by omega),hk,by show 0≤n.size;omega⟩,hs⟩
 unfold forkM
 split
 ·have hf:=fork_size m.row.R m.live m.k1.pk a
  exact key _ (fork_right hd h.row h.k1.right ha.right h.k1.key ha.key) (by omega) (by omega) rfl
 ·have hf:=fork_size m.row.R m.live a m.k2.pk
  exact key _ (fork_right hd h.row ha.right h.k2.right ha.key h.k2.key) (by omega) (by omega) rfl
theorem foldR_good {d Z:Nat} {A:List MSt} (hd:1≤d∧d≤8) (h0:A≠[]) (h:∀m∈A,GoodM d Z m) {k:PK} {s:Pg.S} (hk:GoodK d k) (hz:k.size+(A.length*(Z+1):Nat)≤1048576) (pre:List Nat) (hp:pre.length≤A.length):GoodK d (foldR A k s pre).1∧(foldR A k s pre).1.size≤k.size+(pre.length*(Z+1):Nat)∧(foldR A k s pre).2.W.length≤s.W.length+pre.length:=by
 obtain ⟨r,hr⟩:∃r,r=pre.reverse:=⟨_,rfl⟩
 have:pre=r.reverse:=by rw [hr,List.reverse_reverse]
 subst this
 clear hr
 induction r with
 | nil=>exact ⟨hk,by simp [foldR],Nat.le_refl _⟩
 | cons x r ih=>
  rw [List.reverse_cons,List.length_append,List.length_singleton] at hp
  obtain ⟨h1,h2,h3⟩:=ih (by omega)
  rw [List.reverse_cons,foldR_snoc,List.length_append,List.length_singleton]
  have hmul:(r.reverse.length+1)*(Z+1)≤A.length*(Z+1):=Nat.mul_le_mul_right _ hp
  rw [Nat.add_mul,Nat.one_mul] at hmul ⊢
  obtain ⟨_,h5,h6⟩:=forkM_good (a:=(foldR A k s r.reverse).1) hd (h _ (back_mem h0 x)) h1 (by omega)
  refine ⟨h5,?_,?_⟩
  ·show (forkM (backAt A x) (foldR A k s r.reverse).1).says.size≤_
   omega
  ·have:=puts_few [(forkM (backAt A x) (foldR A k s r.reverse).1).bytes] (foldR A k s r.reverse).2
   have e:puts (foldR A k s r.reverse).2 [(forkM (backAt A x) (foldR A k s r.reverse).1).bytes]=(rzM A (foldR A k s r.reverse) x).2:=rfl
   rw [e] at this
   simp only [List.length_singleton] at this
   omega
structure StM (w:World) (m:MSt):Prop where
 ent:w.rangeAt m.ge 0 [m.row.val,.bool m.live]
 row:m.row.Ok w
 k1:m.side=true→w.rangeAt m.gk 0 m.k1.cells∧m.k1.Ok w
 k2:m.side=false→w.rangeAt m.gk 37 m.k2.cells∧m.k2.Ok w
 kidT:w.there m.gk 0 74
theorem MSt.Ok.stM {w:World} {m:MSt} (h:m.Ok w):StM w m:=⟨h.ent,h.row,fun _=>⟨h.kid1,h.k1⟩,fun _=>⟨h.kid2,h.k2⟩,h.kidT⟩
theorem StM.keep {w w':World} {m:MSt} (h:StM w m) (hk:∀k,m.reads k→w'.heap[k]? =w.heap[k]?):StM w' m:=by
 have hg:=hk m.ge (Or.inl rfl)
 have hkk:=hk m.gk (Or.inr (Or.inl rfl))
 have hr:∀r∈m.rows,∀x,r.p=some x→r.R≠[]→w'.heap[x.block]? =w.heap[x.block]? :=fun r hr x hx hR=>hk _ (Or.inr (Or.inr ⟨r,hr,x,hx,hR,rfl⟩))
 exact ⟨range_keep h.ent hg,Nd.rw_keep h.row (hr _ (by simp [MSt.rows])),fun e=>⟨range_keep (h.k1 e).1 hkk,kd_keep (h.k1 e).2 fun r h1=>hr r (by simp [MSt.rows,h1])⟩,fun e=>⟨range_keep (h.k2 e).1 hkk,kd_keep (h.k2 e).2 fun r h1=>hr r (by simp [MSt.rows,h1])⟩,there_keep h.kidT hkk⟩
def MSt.at' (m:MSt):Nat:=if m.side then 37 else 0
theorem StM.put {w:World} {m:MSt} (h:StM w m) (hl:m.k1.sum.length=32∧m.k2.sum.length=32) (ha:∀r∈m.rows,∀x,r.p=some x→r.R≠[]→x.block≠m.ge∧x.block≠m.gk) (hne:m.ge≠m.gk) {cs:List Value} (hc:cs.length=37):StM (w.setCells m.gk m.at' cs) m:=by
 have ho:=only_cells w m.gk m.at' cs
 have hk:∀k,k<w.heap.size→k≠m.gk→(w.setCells m.gk m.at' cs).heap[k]? =w.heap[k]? :=fun k h1 h2=>ho.block k h1 h2
 have hrow:∀r∈m.rows,r.Ok w→r.Ok (w.setCells m.gk m.at' cs):=fun r hr hok=>Nd.rw_keep hok (fun x hx hR=>hk _ (rw_lt hok x hx hR) (ha r hr x hx hR).2)
 have hkd:∀k:Kd,k.Ok w→(∀r∈k.rows,r∈m.rows)→k.Ok (w.setCells m.gk m.at' cs):=fun k hok hs=>⟨hok.len,hok.ok,hrow _ (hs _ (by simp [Kd.rows])) hok.lo,hrow _ (hs _ (by simp [Kd.rows])) hok.hi,hrow _ (hs _ (by simp [Kd.rows])) hok.key,hok.live,hok.size⟩
 refine ⟨?_,hrow _ (by simp [MSt.rows]) h.row,fun e=>⟨?_,hkd _ (h.k1 e).2 (fun r h1=>by simp [MSt.rows,h1])⟩,fun e=>⟨?_,hkd _ (h.k2 e).2 (fun r h1=>by simp [MSt.rows,h1])⟩,World.there_setCells h.kidT _ _ _⟩
 ·exact World.rangeAt_setCells_apart h.ent _ _ _ (Or.inl hne)
 ·refine World.rangeAt_setCells_apart (h.k1 e).1 _ _ _ (Or.inr (Or.inl ?_))
  rw [Kd.cells_length hl.1]
  unfold MSt.at'
  rw [if_pos e]
  omega
 ·refine World.rangeAt_setCells_apart (h.k2 e).1 _ _ _ (Or.inr (Or.inr ?_))
  rw [hc]
  unfold MSt.at'
  rw [e]
  decide
theorem StM.node {w:World} {m:MSt} {kk:Kd} (h:StM w m) (hc:m.ce≥1∧m.ck≥2) (hr:w.rangeAt m.gk m.at' kk.cells) (hk:kk.Ok w):∃E K,EntsIn w (some ⟨m.ge,0,none⟩) 1 m.ce E∧KidsIn w (some ⟨m.gk,0,none⟩) 2 m.ck K∧pnOf 1 E K=forkM m kk.pk:=by
 have hE:EntsIn w (some ⟨m.ge,0,none⟩) 1 m.ce [⟨m.row,m.live⟩]:=by
  refine ⟨rfl,hc.1,by decide,fun e he=>by rw [List.mem_singleton.1 he];exact h.row,Or.inr ⟨m.ge,0,rfl,fun i hi=>?_⟩⟩
  obtain rfl:i=0:=by simp at hi;exact hi
  exact ⟨h.ent 0 _ rfl,h.ent 1 _ rfl⟩
 have hK:∀a b:Kd,w.rangeAt m.gk 0 a.cells→a.Ok w→w.rangeAt m.gk 37 b.cells→b.Ok w→KidsIn w (some ⟨m.gk,0,none⟩) 2 m.ck [a,b]:=fun a b ra oa rb ob=>by
  refine ⟨rfl,hc.2,by decide,fun e he=>?_,Or.inr ⟨m.gk,0,rfl,fun i hi=>?_⟩⟩
  ·simp only [List.mem_cons,List.not_mem_nil,or_false] at he
   rcases he with rfl | rfl
   ·exact oa
   ·exact ob
  ·have hi:i<2:=hi
   rcases i with _ | _ | i
   ·exact ra
   ·exact rb
   ·omega
 cases hs:m.side with
 | true=>
  have hr':w.rangeAt m.gk 37 kk.cells:=by unfold MSt.at' at hr;rw [hs] at hr;exact hr
  exact ⟨_,_,hE,hK _ _ (h.k1 hs).1 (h.k1 hs).2 hr' hk,by unfold forkM;rw [hs];rfl⟩
 | false=>
  have hr':w.rangeAt m.gk 0 kk.cells:=by unfold MSt.at' at hr;rw [hs] at hr;exact hr
  exact ⟨_,_,hE,hK _ _ hr' hk (h.k2 hs).1 (h.k2 hs).2,by unfold forkM;rw [hs];rfl⟩
theorem WayM.two {B:Nat} {w:World} {A:List MSt} (h:WayM B w A):∀a∈A,∀b∈A,a=b∨(¬a.reads b.ge∧¬a.reads b.gk):=by
 have hp:=h.part
 clear h
 induction hp with
 | nil=>intro a ha;cases ha
 | cons hx _ ih=>
  intro a ha b hb
  rcases List.mem_cons.1 ha with e1 | ha1<;>rcases List.mem_cons.1 hb with e2 | hb1
  ·exact Or.inl (e1.trans e2.symm)
  ·subst e1
   exact Or.inr (hx b hb1).1
  ·subst e2
   exact Or.inr ⟨fun e=>(hx a ha1).2 ⟨_,e,Or.inl rfl⟩,fun e=>(hx a ha1).2 ⟨_,e,Or.inr rfl⟩⟩
  ·exact ih a ha1 b hb1
theorem WayM.take {B:Nat} {w:World} {A:List MSt} (h:WayM B w A) (n:Nat):WayM B w (A.take n):=
 ⟨fun m hm=>h.each m (List.mem_of_mem_take hm),fun m hm=>h.new m (List.mem_of_mem_take hm),h.part.sublist (List.take_sublist n A)⟩
end Go.Proofs.YtinihaflmdihaaaGreat.Kt
