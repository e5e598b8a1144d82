/- KdSettle, KdRaiseM. -/
import Derived.Lib.MinMax
import Derived.Test.YtinihaflmdihaaaGreatL23
set_option maxRecDepth 100000
set_option maxHeartbeats 8000000
set_option linter.all false
namespace Go.Proofs.YtinihaflmdihaaaGreat.Kt
open Go.RowKit Go.Shelf Go.Proofs.YtinihaflmdihaaaGreat.Nd Go.Proofs.YtinihaflmdihaaaGreat.Dk Go.Proofs.YtinihaflmdihaaaGreat.Pg Go.Proofs.YtinihaflmdihaaaGreat.Wl
open List renaming setIfInBounds_toArray → yA, set_cons_zero → yB, set_cons_succ → yC
attribute [local go_sem] Oper.semAt_some
def MSt.on (m:MSt):Int:=if m.side then m.k2.size else m.k1.size
def MSt.off (m:MSt):Int:=if m.side then m.k1.size else m.k2.size
theorem tdiv3 {x b:Int} (h1: -b≤x) (h2:x≤b): -b≤x.tdiv 3∧x.tdiv 3≤b:=by
 rcases Int.le_total 0 x with h | h
 ·rw [Int.tdiv_eq_ediv_of_nonneg h]
  omega
 ·have A:(-x).tdiv 3= -(x.tdiv 3):=Int.neg_tdiv x 3
  rw [Int.tdiv_eq_ediv_of_nonneg (by omega)] at A
  omega
def stpM (m:MSt) (i:Int) (st:Int×Int×Int):Int×Int×Int:=
 if ((m.on+st.2.2+m.off+1)*2).tdiv 3+1<max (m.on+st.2.2) m.off then (i,m.kid.live+1,m.kid.live+1 - m.kid.size) else (st.1,m.on+st.2.2+m.off+1,m.on+st.2.2+m.off+1 - m.kid.size)
def foldM (A:List MSt) (pre:List Nat):Int×Int×Int:=pre.foldl (fun st j=>stpM (x0P A j) ((A.length:Int) - 1 - j) st) ((A.length:Int),0,0)
theorem x43 (A:List MSt) (pre:List Nat) (x:Nat):foldM A (pre++[x])=stpM (x0P A x) ((A.length:Int) - 1 - x) (foldM A pre):=by
 unfold foldM
 rw [List.foldl_append]
 rfl
structure SzM (m:MSt):Prop where
 k1:0≤m.k1.size∧m.k1.size≤1048576
 k2:0≤m.k2.size∧m.k2.size≤1048576
 size:0≤m.kid.size∧m.kid.size≤1048576
 live:0≤m.kid.live∧m.kid.live≤1048576
theorem SzM.on {m:MSt} (h:SzM m):(0≤m.on∧m.on≤1048576)∧0≤m.off∧m.off≤1048576:=by
 unfold MSt.on MSt.off
 cases m.side
 ·exact ⟨h.k1,h.k2⟩
 ·exact ⟨h.k2,h.k1⟩
theorem y1R {m:MSt} (h:SzM m) (i:Int) (st:Int×Int×Int) (b:Nat) (hb: -(b:Int)≤st.2.2∧st.2.2≤b): -((b+4194304:Nat):Int)≤(stpM m i st).2.2∧(stpM m i st).2.2≤((b+4194304:Nat):Int):=by
 have B:=h.on
 have A:=h.size
 have C:=h.live
 unfold stpM
 split<;>simp only<;>omega
theorem x27 {A:List MSt} (h:A≠[]) (x:Nat):x0P A x∈A:=by
 have B:=List.length_pos_iff.2 h
 unfold x0P
 rw [List.getD_eq_getElem?_getD,List.getElem?_eq_getElem (by omega)]
 exact List.getElem_mem _
theorem x8C {A:List MSt} (h:∀m∈A,SzM m) (h0:A≠[]) (pre:List Nat): -((4194304*pre.length:Nat):Int)≤(foldM A pre).2.2∧(foldM A pre).2.2≤((4194304*pre.length:Nat):Int):=by
 obtain ⟨r,B⟩:∃r,r=pre.reverse:=⟨_,rfl⟩
 have:pre=r.reverse:=by rw [B,List.reverse_reverse]
 subst this
 clear B
 induction r with
 | nil=>exact ⟨Int.le_refl _,Int.le_refl _⟩
 | cons x r ih=>
  rw [List.reverse_cons,x43,List.length_append]
  have:=y1R (h _ (x27 h0 x)) ((A.length:Int) - 1 - x) _ _ ih
  simpa [Nat.mul_add] using this
def SetOk (L:List St):Prop:=∀j s,L[j]? =some s→0≤s.on+(x0G (j+1) (L.drop (j+1))).2.2+s.off+1
theorem y1S {m:MSt} {s:St} (h:Link m s):m.on=s.on∧m.off=s.off∧m.kid.live=s.old.kid.live∧m.kid.size=s.old.kid.size:=by
 unfold MSt.on MSt.off St.on St.off
 rw [h.l,h.r,h.side,h.old]
 exact ⟨rfl,rfl,rfl,rfl⟩
theorem x28 (i:Nat) (s:St) (L:List St):x0G i (s::L)=if (s.on+(x0G (i+1) L).2.2+s.off+1)*2/3+1<max (s.on+(x0G (i+1) L).2.2) s.off then (i,s.old.kid.live+1,s.old.kid.live+1 - s.old.kid.size) else ((x0G (i+1) L).1,s.on+(x0G (i+1) L).2.2+s.off+1,s.on+(x0G (i+1) L).2.2+s.off+1 - s.old.kid.size):=by rw [x0G]
theorem x4K {A:List MSt} {L:List St} (hl:Links A L) (h:SetOk L):∀j,j≤A.length→foldM A (List.range j)=((((x0G (A.length - j) (L.drop (A.length - j))).1:Nat):Int),(x0G (A.length - j) (L.drop (A.length - j))).2.1,(x0G (A.length - j) (L.drop (A.length - j))).2.2)
 | 0,_=>by
  rw [Nat.sub_zero,hl.length,List.drop_length]
  show ((A.length:Int),(0:Int),(0:Int))=_
  rw [hl.length]
  rfl
 | j+1,hj=>by
  rw [List.range_succ,x43,x4K hl h j (by omega)]
  have hlen:=hl.length
  have hi:A.length - (j+1)<L.length:=by omega
  have E:L.drop (A.length - (j+1))=L[A.length - (j+1)]::L.drop (A.length - j):=by
   rw [List.drop_eq_getElem_cons hi]
   congr 2
   omega
  obtain ⟨m,H,J⟩:=hl.get _ _ (List.getElem?_eq_getElem hi)
  have K:x0P A j=m:=by
   unfold x0P
   rw [show A.length - 1 - j=A.length - (j+1) from by omega,List.getD_eq_getElem?_getD,H]
   rfl
  obtain ⟨G,M,I,N⟩:=y1S J
  have B:=h _ _ (List.getElem?_eq_getElem hi)
  rw [show A.length - (j+1)+1=A.length - j from by omega] at B
  rw [K,E]
  generalize L[A.length - (j+1)]=s at *
  have C:x0G (A.length - (j+1)) (s::L.drop (A.length - j))=_:=x28 _ _ _
  rw [show A.length - (j+1)+1=A.length - j from by omega] at C
  rw [C]
  generalize x0G (A.length - j) (L.drop (A.length - j))=X at *
  obtain ⟨x,y,z⟩:=X
  unfold stpM
  simp only at B ⊢
  rw [G,M,I,N,Int.tdiv_eq_ediv_of_nonneg (by omega)]
  split
  ·simp only [Prod.mk.injEq,and_true]
   omega
  ·rfl
def SeI (w:World) (A:List MSt) (pre:List Nat) (W:World):Prop:=
 W.heap[w.heap.size]? =some (.cells #[.int .i64 (foldM A pre).1] 3 (0,0))∧W.heap[w.heap.size+1]? =some (.cells #[.int .i64 (foldM A pre).2.1] 3 (0,0))∧W.heap[w.heap.size+2]? =some (.cells #[.int .i64 (foldM A pre).2.2] 3 (0,0))∧Below w.heap.size w W∧w.heap.size+4≤W.heap.size
theorem x0r {W W':World} {row:Option Nat} {k:Nat} {cs:Array Value} {t:TypeId} {z:Nat×Nat} (h:W.heap[k]? =some (.cells cs t z)) (hg:W.grownBy W' row) (hr:∀r,row=some r→∃o:Obj,W.heap[r]? =some o∧o.isCells=false):W'.heap[k]? =some (.cells cs t z):=(hg.block k (yL h) (fun e=>by
 obtain ⟨o,ho,hc⟩:=hr k e.symm
 rw [h] at ho
 cases ho
 cases hc)).trans h
theorem y1T (w:World) (A:List MSt) {B:Nat} (hB:w.heap.size≤B):OwnFrom B (SeI w A):=fun _ _ _ _ ⟨h0,h1,h2,hb,hs⟩ hg hr=>
 ⟨x0r h0 hg fun r e=>(hr r e).2,x0r h1 hg fun r e=>(hr r e).2,x0r h2 hg fun r e=>(hr r e).2,hb.grown hg hb.size (fun k e=>Nat.le_trans hB (hr k e).1),Nat.le_trans hs hg.size⟩
def SeX (w:World) (v:Value) (A:List MSt) (x:Nat) (a':Act) (W:World):Prop:=
 ∃B6,w.heap.size+4≤B6∧a'={tmps:= #[v,undef,.pointer (some ⟨w.heap.size,0,none⟩),.pointer (some ⟨w.heap.size+1,0,none⟩),.pointer (some ⟨w.heap.size+1+1,0,none⟩),.int .i64 ((A.length:Int) - 1 - x),.pointer (some ⟨B6,0,none⟩),undef,undef,v,.int .i64 A.length,v,.func (.func 153) #[] #[.pointer (some ⟨w.heap.size+1+1+1,0,none⟩)],.int .i64 ((A.length:Int) - 1 - x),.agg (x0P A x).cells.toArray,undef,undef,undef,undef,undef,undef,undef,undef,undef,undef,undef,undef,undef,undef,undef,undef,undef,undef,undef,undef,undef,undef,undef,undef,undef,undef,undef,undef,undef,undef,undef,undef,undef,undef,undef,undef,undef,undef,undef,undef,undef,undef,undef],defers:=[]}∧W.heap[B6]? =some (.cells (x0P A x).cells.toArray 101 (0,0))
theorem y4q (w:World) (v:Value) (A:List MSt) (B:Nat) (x:Nat) (a':Act):OwnFrom B (fun (_:Unit) W=>SeX w v A x a' W):=fun _ _ _ _ ⟨B6,hB,e,h⟩ hg hr=>
 ⟨B6,hB,e,x0r h hg fun r e=>(hr r e).2⟩
theorem x4c (k:Kd) (h:k.sum.length=32):k.cells[34]? =some (.int .i64 k.live)∧k.cells[35]? =some (.int .i64 k.size):=by
 unfold Kd.cells
 refine ⟨?_,?_⟩<;>(rw [List.getElem?_append_right (by rw [x00,h];omega),x00,h];rfl)
theorem x7Y (m:MSt) (h:m.kid.sum.length=32):m.cells[34]? =some (.int .i64 m.kid.live)∧m.cells[35]? =some (.int .i64 m.kid.size):=by
 have A:=Kd.cells_length h
 unfold MSt.cells
 refine ⟨?_,?_⟩
 ·rw [List.getElem?_append_left (by rw [A];omega)]
  exact (x4c m.kid h).1
 ·rw [List.getElem?_append_left (by rw [A];omega)]
  exact (x4c m.kid h).2
theorem x1A (w:World) (b j:Nat) {L:List Value} {t:TypeId} {z:Nat×Nat} {v:Value} (h:w.heap[b]? =some (.cells L.toArray t z)) (hv:L[j]? =some v):w.cell? ⟨b,j,none⟩=some v:=(cell_of_row w b j _ _ _ h).trans (by simpa using hv)
structure SeW (w W:World) (B6:Nat) (cs:Obj) (h s m:Int) (W':World):Prop where
 r0:W'.heap[w.heap.size]? =some (.cells #[.int .i64 h] 3 (0,0))
 r1:W'.heap[w.heap.size+1]? =some (.cells #[.int .i64 s] 3 (0,0))
 r2:W'.heap[w.heap.size+2]? =some (.cells #[.int .i64 m] 3 (0,0))
 r6:W'.heap[B6]? =some cs
 b:Below w.heap.size w W'
 z:W.heap.size≤W'.heap.size
 k:∀j,j<W.heap.size→j≠w.heap.size→j≠w.heap.size+1→j≠w.heap.size+2→W'.heap[j]? =W.heap[j]?
 o:KeepsOthers W W'
theorem SeW.later {w W W' W'':World} {B6:Nat} {cs:Obj} {h s m:Int} (x:SeW w W B6 cs h s m W') (hb:Below W'.heap.size W' W'') (hB:w.heap.size≤W.heap.size):SeW w W B6 cs h s m W'':=by
 have A:∀ {j:Nat} {o:Obj},W'.heap[j]? =some o→W''.heap[j]? =some o:=fun {j o} e=>(hb.block j (yL e)).trans e
 exact ⟨A x.r0,A x.r1,A x.r2,A x.r6,x.b.trans (hb.mono (Nat.le_trans hB x.z)),Nat.le_trans x.z hb.size,fun j h1 h2 h3 h4=>(hb.block j (Nat.lt_of_lt_of_le h1 x.z)).trans (x.k j h1 h2 h3 h4),x.o.trans ⟨hb.size,fun _ _ e _=>A e⟩⟩
theorem SeW.put {w W W':World} {B6:Nat} {cs:Obj} {h s m:Int} (x:SeW w W B6 cs h s m W') (hB:w.heap.size+3≤B6):(∀v:Int,SeW w W B6 cs v s m (W'.setCell ⟨w.heap.size,0,none⟩ (.int .i64 v)))∧(∀v:Int,SeW w W B6 cs h v m (W'.setCell ⟨w.heap.size+1,0,none⟩ (.int .i64 v)))∧(∀v:Int,SeW w W B6 cs h s v (W'.setCell ⟨w.heap.size+2,0,none⟩ (.int .i64 v))):=by
 have A:∀(k:Nat) (v:Value) {j:Nat},j≠k→(W'.setCell ⟨k,0,none⟩ v).heap[j]? =W'.heap[j]? :=fun k v j e=>Below.heap_setCell _ _ _ _ e
 have B:∀(k:Nat) (v:Value),W.heap.size≤(W'.setCell ⟨k,0,none⟩ v).heap.size:=fun k v=>by simpa using x.z
 refine ⟨fun v=>?_,fun v=>?_,fun v=>?_⟩
 ·exact ⟨heap_setCell_same _ _ 0 _ _ _ x.r0,(A _ _ (by omega)).trans x.r1,(A _ _ (by omega)).trans x.r2,(A _ _ (by omega)).trans x.r6,x.b.setCell (Nat.le_refl _) _,B _ _,fun j h1 h2 h3 h4=>(A _ _ h2).trans (x.k j h1 h2 h3 h4),x.o.trans (KeepsOthers.setCell _ _ _)⟩
 ·exact ⟨(A _ _ (by omega)).trans x.r0,heap_setCell_same _ _ 0 _ _ _ x.r1,(A _ _ (by omega)).trans x.r2,(A _ _ (by omega)).trans x.r6,x.b.setCell (show w.heap.size≤w.heap.size+1 by omega) _,B _ _,fun j h1 h2 h3 h4=>(A _ _ h3).trans (x.k j h1 h2 h3 h4),x.o.trans (KeepsOthers.setCell _ _ _)⟩
 ·exact ⟨(A _ _ (by omega)).trans x.r0,(A _ _ (by omega)).trans x.r1,heap_setCell_same _ _ 0 _ _ _ x.r2,(A _ _ (by omega)).trans x.r6,x.b.setCell (show w.heap.size≤w.heap.size+2 by omega) _,B _ _,fun j h1 h2 h3 h4=>(A _ _ h4).trans (x.k j h1 h2 h3 h4),x.o.trans (KeepsOthers.setCell _ _ _)⟩
theorem SeW.cells {w W W':World} {B6:Nat} {cs:Obj} {h s m:Int} (x:SeW w W B6 cs h s m W'):(W'.cell? ⟨w.heap.size,0,none⟩=some (.int .i64 h)∧W'.frozen? ⟨w.heap.size,0,none⟩=false)∧(W'.cell? ⟨w.heap.size+1,0,none⟩=some (.int .i64 s)∧W'.frozen? ⟨w.heap.size+1,0,none⟩=false)∧(W'.cell? ⟨w.heap.size+1+1,0,none⟩=some (.int .i64 m)∧W'.frozen? ⟨w.heap.size+1+1,0,none⟩=false):=
 ⟨⟨cell_of_row _ _ 0 _ _ _ x.r0,frozen_of_row _ _ 0 _ _ x.r0⟩,⟨cell_of_row _ _ 0 _ _ _ x.r1,frozen_of_row _ _ 0 _ _ x.r1⟩,cell_of_row _ _ 0 _ _ _ x.r2,frozen_of_row _ _ 0 _ _ x.r2⟩
theorem y1U {fn:Func} {w2:World} {tmps:Array Value} {p q:Tmp} {g g2 D:Nat} {x y:Int} {R:Ending→World→Prop} (hr:fn.results= #[.cell p 3,.cell q 3]) (hp:tmps.getD p undef= .pointer (some ⟨g,0,none⟩)) (hq:tmps.getD q undef= .pointer (some ⟨g2,0,none⟩)) (hx:w2.cell? ⟨g,0,none⟩=some (.int .i64 x)) (hy:w2.cell? ⟨g2,0,none⟩=some (.int .i64 y)) (hK:w2.heap[D]? =some (.deferred (some []))) (h:R (.returned (.tuple #[.int .i64 x,.int .i64 y])) (w2.putObj D (.deferred none))):bodyPostM Fence.wide 5 Tryz.prog fn R .ret ⟨tmps,[{target:=.collected D,args:= #[]}]⟩ w2:=by
 refine ⟨by simp,.inl ⟨_,_,rfl,run_takeDeferred hK,?_⟩⟩
 refine ⟨.tuple #[.int .i64 x,.int .i64 y],?_,h⟩
 have A:tmps[p]?.getD undef= .pointer (some ⟨g,0,none⟩):=by simpa using hp
 have E:tmps[q]?.getD undef= .pointer (some ⟨g2,0,none⟩):=by simpa using hq
 have C:=cell_kept hx (grownBy_putObj' _ D (.deferred none)) (fun r e=>by cases e;exact ⟨_,hK,rfl⟩)
 have B:=cell_kept hy (grownBy_putObj' _ D (.deferred none)) (fun r e=>by cases e;exact ⟨_,hK,rfl⟩)
 simp [results,hr,go_sem,A,E,C,B]
theorem x9p {B bw:Nat} {w:World} {q:Option Addr} {c:Nat} {A:List MSt} {L:List St} (h:WaySt B bw w (.slice q A.length c) A) (hl:Links A L) (hA:A.length≤1000) (hz:∀m∈A,SzM m) (hL:SetOk L):
  Calls Tryz.prog 55 #[.slice q A.length c] w fun e w'=>e= .returned (.tuple #[.int .i64 (x0G 0 L).1,.int .i64 (x0G 0 L).2.1])∧Below w.heap.size w w':=by
 obtain ⟨n,hn⟩:∃n,n=A.length:=⟨_,rfl⟩
 have HN:=yH hn
 have AP:=fun w'=>x8z (.slice q n c) rfl w'
 have Aj:=yH (x4K hl hL A.length (Nat.le_refl _))
 have HB:=yH (x8C hz)
 have HZ:=yH hz
 have HA:=yH hA
 have Ag:=yH h.way
 obtain ⟨g,AX,hg,AR⟩:∃g,g<w.heap.size+1∧(A≠[]→q=some ⟨g,0,none⟩∧A.length≤c∧∀i,i<A.length→w.rangeAt g (i*41) (A.getD i default).cells)∧(A≠[]→g<w.heap.size):=by
  by_cases h0:A=[]
  ·exact ⟨0,by omega,fun e=>absurd h0 e,fun e=>absurd h0 e⟩
  ·obtain ⟨g,N,h2,h3⟩:=x3a h h0
   have hp:=List.length_pos_iff.2 h0
   have h5:=MSt.cells_length (h.way.each _ (List.getElem_mem hp)).kid.len
   have h4:=block_lt_of_cell (h3 0 hp 0 _ (List.getElem?_eq_getElem (by rw [List.getD_eq_getElem?_getD,List.getElem?_eq_getElem hp];show 0<(A[0]).cells.length;rw [h5];decide)))
   exact ⟨g,by simp only at h4;omega,fun _=>⟨N,h2,h3⟩,fun _=>h4⟩
 have As:=yH AR
 have HGZ:=yH AX
 have HG:=yH hg
 have AS:=yH (show ∀m∈A,m.cells.length=41 from fun m hm=>MSt.cells_length (h.way.each m hm).kid.len)
 have Ak:=yH (zero_of_info spz)
 have B5:=Ak.out.1
 rw [← hn]
 clear hn hl hL hz hA h hg AX AR
 refine callsIn_wide.1 (callsIn_of_wp_marks (n:=5) Tryz.func55 rfl trivial ?_ rfl)
 simp only [Tryz.ntmps55,List.size_toArray,List.length_cons,List.length_nil,Nat.reduceAdd,Nat.reduceSub,Array.replicate_succ,Array.replicate_zero,List.push_toArray,List.append_toArray,List.nil_append,List.cons_append]
 refine wpIn_wide.2 ?_
 go_wp2_with (go_at_call 107;refine (AP _).mono ?_;rintro _ w4 ⟨rfl,AV⟩;have AQ:=yH AV;clear AV)
 have HX4:=yH (show SeI w A [] w4∧w4.heap[w.heap.size+3]? =some (.cells #[.slice q n c] 93 (0,0))∧w4.heap.size=w.heap.size+4 from by
  obtain ⟨W,hW,k0,k1,k2,b3⟩:=x37 w (.cells #[.int .i64 n] 3) (.cells #[.int .i64 0] 3) (.cells #[.int .i64 0] 3)
  have An:W.heap.size=w.heap.size+3:=by rw [← hW];simp
  have h4:=AQ.out
  rw [hW] at h4
  have b4:Below W.heap.size W (W.alloc (.cells #[.slice q n c] 93)):=(Below.refl _ _).alloc (Nat.le_refl _) _
  have h5:=heap_alloc_new W (.cells #[.slice q n c] 93)
  rw [An] at h5
  rw [h4]
  refine ⟨⟨?_,?_,?_,b3.trans (b4.mono b3.size),by simp;omega⟩,h5,by simp;omega⟩
  ·rw [b4.block _ (by omega),k0,HN.out];rfl
  ·rw [b4.block _ (by omega),k1];rfl
  ·rw [b4.block _ (by omega),k2];rfl)
 have Ai:=cell_of_row w4 (w.heap.size+3) 0 _ _ _ HX4.out.2.1
 clear AQ
 refine (wpIn_wide (n:=5)).1 ?_
 refine wpIn_rangeFunc_ownH rfl (by omega) (gf:=153) (lb:= #[.pointer (some ⟨w.heap.size+1+1+1,0,none⟩)]) (by rfl) trivial (enters_of Tryz.func153 (by kernel_rfl) rfl)
  (x65 4 (w.heap.size+3) g c q A (by have:=HA.out;omega) (fun h=>⟨(HG.out h).1,(HG.out h).2.1⟩) AS.out w4 (by rw [← HN.out];exact Ai) (fun i hi=>x02 ((HG.out (fun e=>by rw [e] at hi;cases hi)).2.2 i hi) HX4.out.1.2.2.2.1)) (fun h k=>⟨k.1.trans h.1,k.2.trans h.2⟩) ?kb (Below.refl _ _) (fun _=>rfl)
  (SeI w A) (fun _ _ _=>False) (y1T w A (by rw [HX4.out.2.2];omega)) (fun _ _ _ _ _ h=>False.elim h) HX4.out.1
  (SeX w (.slice q n c) A) (y4q _ _ _ _) ?assign ?body ?done (fun _ _ _ _ _ _ h=>False.elim h)
 case kb=>exact fun W l o o' hl _ _ _=>⟨World.putObj_heap_other (by have:=HX4.out.2.2;omega),World.putObj_heap_other (by have:=HX4.out.2.2;have:=HGZ.out;omega)⟩
 case assign=>
  intro l pre x W K hI I
  have Ao:=yH I
  have HI:=yH hI
  have v:A≠[]∨A=[]:=(Decidable.em (A=[])).symm
  have AK:=yH (show (x0P A x).cells.length=41∧∀u∈(x0P A x).cells,u.oneCell'=true from ⟨by
   rcases v with h | h
   ·exact AS.out _ (x27 h x)
   ·rw [h];rfl,MSt.one⟩)
  have RZ:=yH (heap_alloc_new W (.cells sp0.toArray 101))
  have Aq:=yH (x04 W sp0.toArray (x0P A x).cells.toArray 101)
  have R5:=yH (heap_alloc_new W (.cells (x0P A x).cells.toArray 101))
  have K5:=yH (show KeepsFrom w4.heap.size W (W.alloc (.cells (x0P A x).cells.toArray 101)) from (KeepsOthers.alloc W _).from _)
  have I5:=yH (y1T w A (B:=w4.heap.size) (by rw [HX4.out.2.2];omega) pre W _ none HI.out (World.grownBy_alloc W (.cells (x0P A x).cells.toArray 101) none) (fun r e=>by cases e))
  have AZ:w.heap.size+4≤W.heap.size:=hI.2.2.2.2
  have Ap:=yH AZ
  have P5:=yH (show KpB (w.heap.size+3) g W (W.alloc (.cells (x0P A x).cells.toArray 101)) from ⟨Below.heap_alloc _ _ _ (by omega),Below.heap_alloc _ _ _ (by have:=HGZ.out;omega)⟩)
  clear hI I AZ v
  unfold encB
  generalize hcs:(x0P A x).cells=cs at *
  have AY:=yH hcs
  clear hcs
  simp only [List.zip_toArray,List.zip_cons_cons,List.zip_nil_left,List.size_toArray,List.length_cons,List.length_nil]
  gi_upto_region 5 with fail
  refine x0X (by rfl) ?_
  go_wp2_with (refine wpList_store_row (by rfl) 101 _ _ (by rfl) W.heap.size cs.toArray (by rfl) (by rfl) _ _ RZ.out (by rw [List.size_toArray,AK.out.1];exact SSp) (by simp only [List.size_toArray,AK.out.1];rfl) (all_oneCell_toArray AK.out.2) ?_;rw [Aq.out])
  refine x0f ?_
  exact Ao.out _ _ K5.out P5.out I5.out ⟨_,Ap.out,by rw [HN.out,AY.out],by rw [AY.out];exact R5.out⟩
 case body=>
  rintro l pre x a' W hl - ⟨r0,r1,r2,A3,A2⟩ ⟨j,BD,rfl,r6⟩ AG
  have v:A≠[]:=fun e=>by rw [e] at AG;cases AG
  have AW:=HB.out v pre
  have AL:=x43 A pre x
  have AA:=HZ.out _ (x27 v x)
  have P:=(Ag.out.each _ (x27 v x)).later A3
  have hA:=HA.out
  have A4:=yH A2
  rw [← HN.out]
  rw [← HN.out] at AL
  generalize hcs:(x0P A x).cells.toArray=cs at r6 ⊢
  generalize x0P A x=m at *
  generalize hF:foldM A pre=F at *
  obtain ⟨hv,sz,E⟩:=F
  have AD:=yH AL
  have B0: -4194304000≤E∧E≤4194304000:=by simp only at AW;omega
  have A6:=yH (show SeW w W j (.cells cs 101 (0,0)) hv sz E W from ⟨r0,r1,r2,r6,A3,Nat.le_refl _,fun _ _ _ _ _=>rfl,KeepsOthers.refl _⟩)
  obtain ⟨⟨d,Z⟩,⟨a,Y⟩,f,f2⟩:=A6.out.cells
  have AO:W.heap[j]? =some (.cells m.cells.toArray 101 (0,0)):=by rw [r6,← hcs]
  have O:=x1A W j 39 AO (x39 m P.kid.len).2.2.1
  have AB:=x1A W j 40 AO (x39 m P.kid.len).2.2.2
  have H:=yH (show ∀(w':World),w'.heap[j]? =some (.cells cs 101 (0,0))→w'.cell? ⟨j,34,none⟩=some (.int .i64 m.kid.live)∧w'.cell? ⟨j,35,none⟩=some (.int .i64 m.kid.size) from fun w' h6=>by
   rw [← hcs] at h6
   exact ⟨x1A w' j 34 h6 (x7Y m P.kid.len).1,x1A w' j 35 h6 (x7Y m P.kid.len).2⟩)
  have s1:W.cell? ⟨m.gk,35,none⟩=some (.int .i64 m.k1.size):=by have:=P.kid1 35 _ (x4c m.k1 P.k1.len).2;simpa using this
  have s2:W.cell? ⟨m.gk,72,none⟩=some (.int .i64 m.k2.size):=by have:=P.kid2 35 _ (x4c m.k2 P.k2.len).2;simpa using this
  have BE:=P.caps.2
  have Al:=AA.on
  have BL:=AA.live
  have B4:=AA.size
  have C:=yH (show w.heap.size+3≤j by omega)
  have q1:IntKind.i64.wrap (m.on+E)=m.on+E:=IntWalk.i64_in _ (by omega)
  have q2:IntKind.i64.wrap (m.on+E+m.off)=m.on+E+m.off:=IntWalk.i64_in _ (by omega)
  have q3:IntKind.i64.wrap (m.on+E+m.off+1)=m.on+E+m.off+1:=IntWalk.i64_in _ (by omega)
  have q4:IntKind.i64.wrap ((m.on+E+m.off+1)*2)=(m.on+E+m.off+1)*2:=IntWalk.i64_in _ (by omega)
  have hq: -9000000000≤((m.on+E+m.off+1)*2).tdiv 3∧((m.on+E+m.off+1)*2).tdiv 3≤9000000000:=tdiv3 (by omega) (by omega)
  have q5:IntKind.i64.wrap (((m.on+E+m.off+1)*2).tdiv 3)=((m.on+E+m.off+1)*2).tdiv 3:=IntWalk.i64_in _ (by omega)
  have q6:IntKind.i64.wrap (((m.on+E+m.off+1)*2).tdiv 3+1)=((m.on+E+m.off+1)*2).tdiv 3+1:=IntWalk.i64_in _ (by omega)
  have q7:IntKind.i64.wrap (m.on+E+m.off+1 - m.kid.size)=m.on+E+m.off+1 - m.kid.size:=IntWalk.i64_in _ (by omega)
  have q8:IntKind.i64.wrap (m.kid.live+1)=m.kid.live+1:=IntWalk.i64_in _ (by omega)
  have q9:IntKind.i64.wrap (m.kid.live+1 - m.kid.size)=m.kid.live+1 - m.kid.size:=IntWalk.i64_in _ (by omega)
  have A1:=yH (show ∀(W':World) (st:Int×Int×Int),foldM A (pre++[x])=st→SeW w W j (.cells cs 101 (0,0)) st.1 st.2.1 st.2.2 W'→KeepsFrom w4.heap.size W W'∧KpB (w.heap.size+3) g W W'∧SeI w A (pre++[x]) W' from fun W' st A7 hx=>by
   have N:=HGZ.out
   have h2:g≠w.heap.size:=by have:=As.out v;omega
   refine ⟨hx.o.from _,⟨hx.k _ (by omega) (by omega) (by omega) (by omega),hx.k _ (by omega) h2 (by omega) (by omega)⟩,?_⟩
   unfold SeI
   rw [A7]
   exact ⟨hx.r0,hx.r1,hx.r2,hx.b,Nat.le_trans A2 hx.z⟩)
  clear P AA A3 hF r0 r1 r2 r6 AO hcs AL AW Al A2
  have w1:IntKind.i64.wrap 1=1:=IntWalk.i64_in _ (by omega)
  have w0:IntKind.i64.wrap 0=0:=IntWalk.i64_in _ (by omega)
  cases hside:m.side
  ·have M:W.cell? ⟨j,40,none⟩=some (.int .i64 0):=by rw [AB];unfold MSt.sideN;rw [hside];rfl
   have s:W.cell? ⟨m.gk,35,none⟩=some (.int .i64 m.on):=by rw [s1];unfold MSt.on;rw [hside];rfl
   have J:W.cell? ⟨m.gk,72,none⟩=some (.int .i64 m.off):=by rw [s2];unfold MSt.off;rw [hside];rfl
   clear AB s1 s2 hside
   gi_upto_region 6 with fail
   refine x1n (S:=fun w'=>Below W.heap.size W w') (by kernel_rfl) (by rfl) ((Below.refl _ _).drew) (fun hHeld=>?_)
   generalize W.drew=x0 at *
   refine tK 0 ?_
   refine tK 1 ?_
   refine tQ 2 ?_ ?_ ?_
   rotate_left
   ·intro w' hSw
    have y:=(hSw.cell (block_lt_of_cell O)).trans O
    go_simp
    try with_reducible rfl
   refine tK 3 ?_
   refine tQ 4 ?_ ?_ ?_
   rotate_left
   ·intro w' hSw
    have y:=(hSw.cell (block_lt_of_cell M)).trans M
    go_simp
    try with_reducible rfl
   refine tK 5 ?_
   refine tK 6 ?_
   refine tQ 7 ?_ ?_ ?_
   rotate_left
   ·intro w' hSw
    have y:=(hSw.cell (block_lt_of_cell s)).trans s
    go_simp
    try with_reducible rfl
   refine tQ 8 ?_ ?_ ?_
   rotate_left
   ·intro w' hSw
    have y:=(hSw.cell (block_lt_of_cell f)).trans f
    go_simp
    try with_reducible rfl
   refine tK 9 ?_
   refine tK 10 ?_
   refine tK 11 ?_
   refine tQ 12 ?_ ?_ ?_
   rotate_left
   ·intro w' hSw
    have y:=(hSw.cell (block_lt_of_cell O)).trans O
    go_simp
    try with_reducible rfl
   refine tK 13 ?_
   refine tQ 14 ?_ ?_ ?_
   rotate_left
   ·intro w' hSw
    have y:=(hSw.cell (block_lt_of_cell M)).trans M
    go_simp
    try with_reducible rfl
   refine tK 15 ?_
   refine tK 16 ?_
   refine tK 17 ?_
   refine tQ 18 ?_ ?_ ?_
   rotate_left
   ·intro w' hSw
    have y:=(hSw.cell (block_lt_of_cell J)).trans J
    go_simp
    try with_reducible rfl
   refine tK 19 ?_
   refine tK 20 ?_
   refine wpAnyH_done (by kernel_rfl) ?_ _
   refine x0f ?_
   have t:=yH (A6.out.later hHeld (by have:=A4.out;omega))
   clear hHeld d Z a Y f f2 M s J O
   obtain ⟨⟨d,Z⟩,⟨a,Y⟩,f,f2⟩:=t.out.cells
   obtain ⟨R,U⟩:=H.out _ t.out.r6
   gi_upto_region 8 with fail
   have Q:=yH ((t.out.put C.out).2.1 (m.on+E+m.off+1))
   clear d Z a Y f f2 R U
   generalize x0.setCell ⟨w.heap.size+1,0,none⟩ (.int .i64 (m.on+E+m.off+1))=x1 at *
   obtain ⟨⟨d,Z⟩,⟨a,Y⟩,f,f2⟩:=Q.out.cells
   obtain ⟨R,U⟩:=H.out _ Q.out.r6
   by_cases hC:((m.on+E+m.off+1)*2).tdiv 3+1<max (m.on+E) m.off
   ·have AN:max (m.on+E) m.off>((m.on+E+m.off+1)*2).tdiv 3+1:=hC
    have HC:=yH hC
    gi_upto_region 9 with fail
    have G:=yH (Q.out.later (W'':=x1.drew) ((Below.refl _ _).drew) (by have:=A4.out;omega))
    clear d Z a Y f f2 R U
    refine x1n (S:=fun w'=>w'.cell? ⟨j,34,none⟩=some (.int .i64 m.kid.live)) (by kernel_rfl) (by rfl) ((H.out _ G.out.r6).1) (fun hHeld=>?_)
    generalize x1.drew=x3 at *
    refine tK 0 ?_
    refine tK 1 ?_
    refine tK 2 ?_
    refine tQ 3 ?_ ?_ ?_
    rotate_left
    ·intro w' hSw
     have y:=hSw
     go_simp
     try with_reducible rfl
    refine tK 4 ?_
    refine rO 5 fun K I=>?_
    obtain ⟨⟨d,Z⟩,-⟩:=G.out.cells
    go_simp
    refine I.out _ _ (H.out _ ((G.out.put C.out).1 ((n:Int) - 1 - x)).r6).1 (fun hHeld=>?_)
    clear I K
    try simp only [Act.put,yA,yB,yC]
    refine rO 6 fun K I=>?_
    obtain ⟨-,⟨a,Y⟩,-⟩:=((G.out.put C.out).1 ((n:Int) - 1 - x)).cells
    go_simp
    refine I.out _ _ (H.out _ ((((G.out.put C.out).1 ((n:Int) - 1 - x)).put C.out).2.1 (m.kid.live+1)).r6).1 (fun hHeld=>?_)
    clear I K
    try simp only [Act.put,yA,yB,yC]
    refine wpAnyH_done (by kernel_rfl) ?_ _
    refine x0f ?_
    clear hHeld
    have A0:=yH ((((G.out.put C.out).1 ((n:Int) - 1 - x)).put C.out).2.1 (m.kid.live+1))
    generalize (x3.setCell ⟨w.heap.size,0,none⟩ (.int .i64 ((n:Int) - 1 - x))).setCell ⟨w.heap.size+1,0,none⟩ (.int .i64 (m.kid.live+1))=x5 at *
    obtain ⟨⟨d,Z⟩,⟨a,Y⟩,f,f2⟩:=A0.out.cells
    obtain ⟨R,U⟩:=H.out _ A0.out.r6
    gi_wp2
    have N:=AD.out
    unfold stpM at N
    simp only at N
    rw [if_pos HC.out] at N
    exact A1.out _ _ N ((A0.out.put C.out).2.2 _)
   ·have AN:¬max (m.on+E) m.off>((m.on+E+m.off+1)*2).tdiv 3+1:=hC
    have HC:=yH hC
    gi_wp2
    have N:=AD.out
    unfold stpM at N
    simp only at N
    rw [if_neg (Int.not_lt.2 HC.out)] at N
    exact A1.out _ _ N ((Q.out.put C.out).2.2 _)
  ·have M:W.cell? ⟨j,40,none⟩=some (.int .i64 1):=by rw [AB];unfold MSt.sideN;rw [hside];rfl
   have s:W.cell? ⟨m.gk,72,none⟩=some (.int .i64 m.on):=by rw [s2];unfold MSt.on;rw [hside];rfl
   have J:W.cell? ⟨m.gk,35,none⟩=some (.int .i64 m.off):=by rw [s1];unfold MSt.off;rw [hside];rfl
   clear AB s1 s2 hside
   gi_upto_region 6 with fail
   refine x1n (S:=fun w'=>Below W.heap.size W w') (by kernel_rfl) (by rfl) ((Below.refl _ _).drew) (fun hHeld=>?_)
   generalize W.drew=x0 at *
   refine tK 0 ?_
   refine tK 1 ?_
   refine tQ 2 ?_ ?_ ?_
   rotate_left
   ·intro w' hSw
    have y:=(hSw.cell (block_lt_of_cell O)).trans O
    go_simp
    try with_reducible rfl
   refine tK 3 ?_
   refine tQ 4 ?_ ?_ ?_
   rotate_left
   ·intro w' hSw
    have y:=(hSw.cell (block_lt_of_cell M)).trans M
    go_simp
    try with_reducible rfl
   refine tK 5 ?_
   refine tK 6 ?_
   refine tQ 7 ?_ ?_ ?_
   rotate_left
   ·intro w' hSw
    have y:=(hSw.cell (block_lt_of_cell s)).trans s
    go_simp
    try with_reducible rfl
   refine tQ 8 ?_ ?_ ?_
   rotate_left
   ·intro w' hSw
    have y:=(hSw.cell (block_lt_of_cell f)).trans f
    go_simp
    try with_reducible rfl
   refine tK 9 ?_
   refine tK 10 ?_
   refine tK 11 ?_
   refine tQ 12 ?_ ?_ ?_
   rotate_left
   ·intro w' hSw
    have y:=(hSw.cell (block_lt_of_cell O)).trans O
    go_simp
    try with_reducible rfl
   refine tK 13 ?_
   refine tQ 14 ?_ ?_ ?_
   rotate_left
   ·intro w' hSw
    have y:=(hSw.cell (block_lt_of_cell M)).trans M
    go_simp
    try with_reducible rfl
   refine tK 15 ?_
   refine tK 16 ?_
   refine tK 17 ?_
   refine tQ 18 ?_ ?_ ?_
   rotate_left
   ·intro w' hSw
    have y:=(hSw.cell (block_lt_of_cell J)).trans J
    go_simp
    try with_reducible rfl
   refine tK 19 ?_
   refine tK 20 ?_
   refine wpAnyH_done (by kernel_rfl) ?_ _
   refine x0f ?_
   have t:=yH (A6.out.later hHeld (by have:=A4.out;omega))
   clear hHeld d Z a Y f f2 M s J O
   obtain ⟨⟨d,Z⟩,⟨a,Y⟩,f,f2⟩:=t.out.cells
   obtain ⟨R,U⟩:=H.out _ t.out.r6
   gi_upto_region 8 with fail
   have Q:=yH ((t.out.put C.out).2.1 (m.on+E+m.off+1))
   clear d Z a Y f f2 R U
   generalize x0.setCell ⟨w.heap.size+1,0,none⟩ (.int .i64 (m.on+E+m.off+1))=x1 at *
   obtain ⟨⟨d,Z⟩,⟨a,Y⟩,f,f2⟩:=Q.out.cells
   obtain ⟨R,U⟩:=H.out _ Q.out.r6
   by_cases hC:((m.on+E+m.off+1)*2).tdiv 3+1<max (m.on+E) m.off
   ·have AN:max (m.on+E) m.off>((m.on+E+m.off+1)*2).tdiv 3+1:=hC
    have HC:=yH hC
    gi_upto_region 9 with fail
    have G:=yH (Q.out.later (W'':=x1.drew) ((Below.refl _ _).drew) (by have:=A4.out;omega))
    clear d Z a Y f f2 R U
    refine x1n (S:=fun w'=>w'.cell? ⟨j,34,none⟩=some (.int .i64 m.kid.live)) (by kernel_rfl) (by rfl) ((H.out _ G.out.r6).1) (fun hHeld=>?_)
    generalize x1.drew=x3 at *
    refine tK 0 ?_
    refine tK 1 ?_
    refine tK 2 ?_
    refine tQ 3 ?_ ?_ ?_
    rotate_left
    ·intro w' hSw
     have y:=hSw
     go_simp
     try with_reducible rfl
    refine tK 4 ?_
    refine rO 5 fun K I=>?_
    obtain ⟨⟨d,Z⟩,-⟩:=G.out.cells
    go_simp
    refine I.out _ _ (H.out _ ((G.out.put C.out).1 ((n:Int) - 1 - x)).r6).1 (fun hHeld=>?_)
    clear I K
    try simp only [Act.put,yA,yB,yC]
    refine rO 6 fun K I=>?_
    obtain ⟨-,⟨a,Y⟩,-⟩:=((G.out.put C.out).1 ((n:Int) - 1 - x)).cells
    go_simp
    refine I.out _ _ (H.out _ ((((G.out.put C.out).1 ((n:Int) - 1 - x)).put C.out).2.1 (m.kid.live+1)).r6).1 (fun hHeld=>?_)
    clear I K
    try simp only [Act.put,yA,yB,yC]
    refine wpAnyH_done (by kernel_rfl) ?_ _
    refine x0f ?_
    clear hHeld
    have A0:=yH ((((G.out.put C.out).1 ((n:Int) - 1 - x)).put C.out).2.1 (m.kid.live+1))
    generalize (x3.setCell ⟨w.heap.size,0,none⟩ (.int .i64 ((n:Int) - 1 - x))).setCell ⟨w.heap.size+1,0,none⟩ (.int .i64 (m.kid.live+1))=x5 at *
    obtain ⟨⟨d,Z⟩,⟨a,Y⟩,f,f2⟩:=A0.out.cells
    obtain ⟨R,U⟩:=H.out _ A0.out.r6
    gi_wp2
    have N:=AD.out
    unfold stpM at N
    simp only at N
    rw [if_pos HC.out] at N
    exact A1.out _ _ N ((A0.out.put C.out).2.2 _)
   ·have AN:¬max (m.on+E) m.off>((m.on+E+m.off+1)*2).tdiv 3+1:=hC
    have HC:=yH hC
    gi_wp2
    have N:=AD.out
    unfold stpM at N
    simp only at N
    rw [if_neg (Int.not_lt.2 HC.out)] at N
    exact A1.out _ _ N ((Q.out.put C.out).2.2 _)
 case done=>
  rintro D xs W hD rfl ⟨r0,r1,r2,A3,A2⟩ I
  have A7:=Aj.out
  rw [Nat.sub_self,List.drop_zero] at A7
  rw [A7] at r0 r1 r2
  generalize hX:x0G 0 L=X at r0 r1 r2
  obtain ⟨x,y,z⟩:=X
  have Ar:=yH hX
  clear hX
  simp only at r0 r1 r2
  have AE:=yH (show w.heap.size+3≤D by have:=HX4.out.2.2;omega)
  have A6:=yH (show SeW w W D (.deferred (some [])) x y z W from ⟨r0,r1,r2,I,A3,Nat.le_refl _,fun _ _ _ _ _=>rfl,KeepsOthers.refl _⟩)
  have A4:=yH A2
  clear A7 I A3 r0 r1 r2 A2
  go_upto_region 11 with fail
  refine x9c (S:=fun w'=>SeW w W D (.deferred (some [])) x y z w') (by kernel_rfl) (A6.out.later (W'':=W.drew) ((Below.refl _ _).drew) (by have:=A4.out;omega)) (fun hHeld=>?_)
  have AC:=yH hHeld
  generalize W.drew=x0 at *
  refine tQ 0 ?_ ?_ ?_
  rotate_left
  ·intro w' hSw
   obtain ⟨⟨d,Z⟩,⟨a,Y⟩,-⟩:=hSw.cells
   go_simp
   try with_reducible rfl
  refine tQ 1 ?_ ?_ ?_
  rotate_left
  ·intro w' hSw
   obtain ⟨⟨d,Z⟩,⟨a,Y⟩,-⟩:=hSw.cells
   go_simp
   try with_reducible rfl
  refine rO 2 fun K I=>?_
  obtain ⟨⟨d,Z⟩,-⟩:=AC.out.cells
  go_simp
  refine I.out _ _ ((AC.out.put AE.out).1 (x:Int)) (fun hHeld=>?_)
  clear I K
  try simp only [Act.put,yA,yB,yC]
  refine rO 3 fun K I=>?_
  obtain ⟨-,⟨a,Y⟩,-⟩:=((AC.out.put AE.out).1 (x:Int)).cells
  go_simp
  refine I.out _ _ ((((AC.out.put AE.out).1 (x:Int)).put AE.out).2.1 y) (fun hHeld=>?_)
  clear I K
  try simp only [Act.put,yA,yB,yC]
  refine wpAnyH_done (by kernel_rfl) ?_ _
  have A8:=yH hHeld
  clear hHeld
  generalize (x0.setCell ⟨w.heap.size,0,none⟩ (.int .i64 ((x:Nat):Int))).setCell ⟨w.heap.size+1,0,none⟩ (.int .i64 y)=x2 at *
  refine x0f ?_
  go_wp2_with fail
  exact y1U (p:=2) (q:=3) (by kernel_rfl) rfl rfl A8.out.cells.1.1 A8.out.cells.2.1.1 A8.out.r6 ⟨by rw [Ar.out],A8.out.b.grown (grownBy_putObj' x2 D (.deferred none)) A8.out.b.size (fun k e=>by cases e;have:=HX4.out.2.2;omega)⟩
end Go.Proofs.YtinihaflmdihaaaGreat.Kt
namespace Go.Proofs.YtinihaflmdihaaaGreat.Kt
open Go.RowKit Go.Shelf Go.Proofs.YtinihaflmdihaaaGreat.Nd Go.Proofs.YtinihaflmdihaaaGreat.Dk Go.Proofs.YtinihaflmdihaaaGreat.Pg
def forkM (m:MSt) (a:PK):PN:=if m.side then forkN m.row.R m.live m.k1.pk a else forkN m.row.R m.live a m.k2.pk
def rzM (A:List MSt) (st:PK×Pg.S) (j:Nat):PK×Pg.S:=((forkM (x0P A j) st.1).says,st.2.put (forkM (x0P A j) st.1).bytes)
def foldR (A:List MSt) (k:PK) (s:Pg.S) (pre:List Nat):PK×Pg.S:=pre.foldl (rzM A) (k,s)
theorem x44 (A:List MSt) (k:PK) (s:Pg.S) (pre:List Nat) (x:Nat):foldR A k s (pre++[x])=rzM A (foldR A k s pre) x:=by
 unfold foldR
 rw [List.foldl_append]
 rfl
def x4L:List St→V→List (List Nat)
 |[],_=>[]
 | s::L,k=>x4L L k++[(if s.side then forkN s.row s.live s.l.kid (x1P L k).kid else forkN s.row s.live (x1P L k).kid s.r.kid).bytes]
theorem y1V (s:St) (L:List St) (k:V):(x1P (s::L) k).kid=(if s.side then forkN s.row s.live s.l.kid (x1P L k).kid else forkN s.row s.live (x1P L k).kid s.r.kid).says:=by
 rw [x1P]
 split<;>rfl
theorem x3A {A:List MSt} {L:List St} (hl:Links A L) (k:V) (s:Pg.S):∀j,j≤A.length→foldR A k.kid s (List.range j)=((x1P (L.drop (A.length - j)) k).kid,puts s (x4L (L.drop (A.length - j)) k))
 | 0,_=>by
  rw [Nat.sub_zero,hl.length,List.drop_length]
  rfl
 | j+1,hj=>by
  rw [List.range_succ,x44,x3A hl k s j (by omega)]
  have hlen:=hl.length
  have hi:A.length - (j+1)<L.length:=by omega
  have C:L.drop (A.length - (j+1))=L[A.length - (j+1)]::L.drop (A.length - j):=by
   rw [List.drop_eq_getElem_cons hi]
   congr 2
   omega
  obtain ⟨m,G,B⟩:=hl.get _ _ (List.getElem?_eq_getElem hi)
  have H:x0P A j=m:=by
   unfold x0P
   rw [show A.length - 1 - j=A.length - (j+1) from by omega,List.getD_eq_getElem?_getD,G]
   rfl
  rw [C]
  generalize L[A.length - (j+1)]=x at *
  have E:forkM m (x1P (L.drop (A.length - j)) k).kid=if x.side then forkN x.row x.live x.l.kid (x1P (L.drop (A.length - j)) k).kid else forkN x.row x.live (x1P (L.drop (A.length - j)) k).kid x.r.kid:=by
   unfold forkM
   rw [B.side,B.row,B.live,B.l,B.r]
  unfold rzM
  rw [H,E,y1V,x4L,x0q]
  rfl
structure GoodK (d:Nat) (a:PK):Prop where
 right:a.right d=true
 key:a.key=[]
 zero:0≤a.size
structure GoodM (d:Nat) (Z:Nat) (m:MSt):Prop where
 row:m.row.R.length=d
 k1:GoodK d m.k1.pk
 k2:GoodK d m.k2.pk
 z1:m.k1.pk.size≤Z
 z2:m.k2.pk.size≤Z
theorem x66 {d Z:Nat} {m:MSt} {a:PK} (hd:1≤d∧d≤8) (h:GoodM d Z m) (ha:GoodK d a) (hz:a.size+Z+1≤1048576):((forkM m a).right d=true∧(forkM m a).size≤1048576)∧GoodK d (forkM m a).says∧(forkM m a).says.size≤a.size+Z+1:=by
 have B:=h.z1
 have E:=h.z2
 have I:=h.k1.zero
 have G:=h.k2.zero
 have H:=ha.zero
 have A:∀n:PN,n.right d=true→1≤n.size→n.size≤a.size+Z+1→n.says.key=[]→(n.right d=true∧n.size≤1048576)∧GoodK d n.says∧n.says.size≤a.size+Z+1:=fun n hr B hs hk=>⟨⟨hr,by omega⟩,⟨x1w hr B (by omega),hk,by show 0≤n.size;omega⟩,hs⟩
 unfold forkM
 split
 ·have C:=x0Z m.row.R m.live m.k1.pk a
  exact A _ (x1H hd h.row h.k1.right ha.right h.k1.key ha.key) (by omega) (by omega) rfl
 ·have C:=x0Z m.row.R m.live a m.k2.pk
  exact A _ (x1H hd h.row ha.right h.k2.right ha.key h.k2.key) (by omega) (by omega) rfl
theorem x9q {d Z:Nat} {A:List MSt} (hd:1≤d∧d≤8) (h0:A≠[]) (h:∀m∈A,GoodM d Z m) {k:PK} {s:Pg.S} (hk:GoodK d k) (hz:k.size+(A.length*(Z+1):Nat)≤1048576) (pre:List Nat) (hp:pre.length≤A.length):GoodK d (foldR A k s pre).1∧(foldR A k s pre).1.size≤k.size+(pre.length*(Z+1):Nat)∧(foldR A k s pre).2.W.length≤s.W.length+pre.length:=by
 obtain ⟨r,C⟩:∃r,r=pre.reverse:=⟨_,rfl⟩
 have:pre=r.reverse:=by rw [C,List.reverse_reverse]
 subst this
 clear C
 induction r with
 | nil=>exact ⟨hk,by simp [foldR],Nat.le_refl _⟩
 | cons x r ih=>
  rw [List.reverse_cons,List.length_append,List.length_singleton] at hp
  obtain ⟨E,H,I⟩:=ih (by omega)
  rw [List.reverse_cons,x44,List.length_append,List.length_singleton]
  have B:(r.reverse.length+1)*(Z+1)≤A.length*(Z+1):=Nat.mul_le_mul_right _ hp
  rw [Nat.add_mul,Nat.one_mul] at B ⊢
  obtain ⟨_,G,J⟩:=x66 (a:=(foldR A k s r.reverse).1) hd (h _ (x27 h0 x)) E (by omega)
  refine ⟨G,?_,?_⟩
  ·show (forkM (x0P A x) (foldR A k s r.reverse).1).says.size≤_
   omega
  ·have:=x1V [(forkM (x0P A x) (foldR A k s r.reverse).1).bytes] (foldR A k s r.reverse).2
   have e:puts (foldR A k s r.reverse).2 [(forkM (x0P A x) (foldR A k s r.reverse).1).bytes]=(rzM A (foldR A k s r.reverse) x).2:=rfl
   rw [e] at this
   simp only [List.length_singleton] at this
   omega
structure StM (w:World) (m:MSt):Prop where
 ent:w.rangeAt m.ge 0 [m.row.val,.bool m.live]
 row:m.row.Ok w
 k1:m.side=true→w.rangeAt m.gk 0 m.k1.cells∧m.k1.Ok w
 k2:m.side=false→w.rangeAt m.gk 37 m.k2.cells∧m.k2.Ok w
 kidT:w.there m.gk 0 74
theorem MSt.Ok.stM {w:World} {m:MSt} (h:m.Ok w):StM w m:=⟨h.ent,h.row,fun _=>⟨h.kid1,h.k1⟩,fun _=>⟨h.kid2,h.k2⟩,h.kidT⟩
theorem StM.keep {w w':World} {m:MSt} (h:StM w m) (hk:∀k,m.reads k→w'.heap[k]? =w.heap[k]?):StM w' m:=by
 have C:=hk m.ge (Or.inl rfl)
 have A:=hk m.gk (Or.inr (Or.inl rfl))
 have B:∀r∈m.rows,∀x,r.p=some x→r.R≠[]→w'.heap[x.block]? =w.heap[x.block]? :=fun r B x hx hR=>hk _ (Or.inr (Or.inr ⟨r,B,x,hx,hR,rfl⟩))
 exact ⟨x0Y h.ent C,Nd.rw_keep h.row (B _ (by simp [MSt.rows])),fun e=>⟨x0Y (h.k1 e).1 A,x1I (h.k1 e).2 fun r h1=>B r (by simp [MSt.rows,h1])⟩,fun e=>⟨x0Y (h.k2 e).1 A,x1I (h.k2 e).2 fun r h1=>B r (by simp [MSt.rows,h1])⟩,x2g h.kidT A⟩
def MSt.at' (m:MSt):Nat:=if m.side then 37 else 0
theorem StM.put {w:World} {m:MSt} (h:StM w m) (hl:m.k1.sum.length=32∧m.k2.sum.length=32) (ha:∀r∈m.rows,∀x,r.p=some x→r.R≠[]→x.block≠m.ge∧x.block≠m.gk) (hne:m.ge≠m.gk) {cs:List Value} (hc:cs.length=37):StM (w.setCells m.gk m.at' cs) m:=by
 have C:=x13 w m.gk m.at' cs
 have E:∀k,k<w.heap.size→k≠m.gk→(w.setCells m.gk m.at' cs).heap[k]? =w.heap[k]? :=fun k h1 h2=>C.block k h1 h2
 have A:∀r∈m.rows,r.Ok w→r.Ok (w.setCells m.gk m.at' cs):=fun r hr hok=>Nd.rw_keep hok (fun x hx hR=>E _ (rw_lt hok x hx hR) (ha r hr x hx hR).2)
 have B:∀k:Kd,k.Ok w→(∀r∈k.rows,r∈m.rows)→k.Ok (w.setCells m.gk m.at' cs):=fun k hok hs=>⟨hok.len,hok.ok,A _ (hs _ (by simp [Kd.rows])) hok.lo,A _ (hs _ (by simp [Kd.rows])) hok.hi,A _ (hs _ (by simp [Kd.rows])) hok.key,hok.live,hok.size⟩
 refine ⟨?_,A _ (by simp [MSt.rows]) h.row,fun e=>⟨?_,B _ (h.k1 e).2 (fun r h1=>by simp [MSt.rows,h1])⟩,fun e=>⟨?_,B _ (h.k2 e).2 (fun r h1=>by simp [MSt.rows,h1])⟩,World.there_setCells h.kidT _ _ _⟩
 ·exact World.rangeAt_setCells_apart h.ent _ _ _ (Or.inl hne)
 ·refine World.rangeAt_setCells_apart (h.k1 e).1 _ _ _ (Or.inr (Or.inl ?_))
  rw [Kd.cells_length hl.1]
  unfold MSt.at'
  rw [if_pos e]
  omega
 ·refine World.rangeAt_setCells_apart (h.k2 e).1 _ _ _ (Or.inr (Or.inr ?_))
  rw [hc]
  unfold MSt.at'
  rw [e]
  decide
theorem StM.node {w:World} {m:MSt} {kk:Kd} (h:StM w m) (hc:m.ce≥1∧m.ck≥2) (hr:w.rangeAt m.gk m.at' kk.cells) (hk:kk.Ok w):∃E K,EntsIn w (some ⟨m.ge,0,none⟩) 1 m.ce E∧KidsIn w (some ⟨m.gk,0,none⟩) 2 m.ck K∧pnOf 1 E K=forkM m kk.pk:=by
 have G:EntsIn w (some ⟨m.ge,0,none⟩) 1 m.ce [⟨m.row,m.live⟩]:=by
  refine ⟨rfl,hc.1,by decide,fun e he=>by rw [List.mem_singleton.1 he];exact h.row,Or.inr ⟨m.ge,0,rfl,fun i B=>?_⟩⟩
  obtain rfl:i=0:=by simp at B;exact B
  exact ⟨h.ent 0 _ rfl,h.ent 1 _ rfl⟩
 have C:∀a b:Kd,w.rangeAt m.gk 0 a.cells→a.Ok w→w.rangeAt m.gk 37 b.cells→b.Ok w→KidsIn w (some ⟨m.gk,0,none⟩) 2 m.ck [a,b]:=fun a b ra oa rb ob=>by
  refine ⟨rfl,hc.2,by decide,fun e he=>?_,Or.inr ⟨m.gk,0,rfl,fun i B=>?_⟩⟩
  ·simp only [List.mem_cons,List.not_mem_nil,or_false] at he
   rcases he with rfl | rfl
   ·exact oa
   ·exact ob
  ·have B:i<2:=B
   rcases i with _ | _ | i
   ·exact ra
   ·exact rb
   ·omega
 cases hs:m.side with
 | true=>
  have A:w.rangeAt m.gk 37 kk.cells:=by unfold MSt.at' at hr;rw [hs] at hr;exact hr
  exact ⟨_,_,G,C _ _ (h.k1 hs).1 (h.k1 hs).2 A hk,by unfold forkM;rw [hs];rfl⟩
 | false=>
  have A:w.rangeAt m.gk 0 kk.cells:=by unfold MSt.at' at hr;rw [hs] at hr;exact hr
  exact ⟨_,_,G,C _ _ A hk (h.k2 hs).1 (h.k2 hs).2,by unfold forkM;rw [hs];rfl⟩
theorem WayM.two {B:Nat} {w:World} {A:List MSt} (h:WayM B w A):∀a∈A,∀b∈A,a=b∨(¬a.reads b.ge∧¬a.reads b.gk):=by
 have I:=h.part
 clear h
 induction I with
 | nil=>intro a ha;cases ha
 | cons hx _ ih=>
  intro a ha b hb
  rcases List.mem_cons.1 ha with G | C<;>rcases List.mem_cons.1 hb with H | E
  ·exact Or.inl (G.trans H.symm)
  ·subst G
   exact Or.inr (hx b E).1
  ·subst H
   exact Or.inr ⟨fun e=>(hx a C).2 ⟨_,e,Or.inl rfl⟩,fun e=>(hx a C).2 ⟨_,e,Or.inr rfl⟩⟩
  ·exact ih a C b E
theorem WayM.take {B:Nat} {w:World} {A:List MSt} (h:WayM B w A) (n:Nat):WayM B w (A.take n):=
 ⟨fun m hm=>h.each m (List.mem_of_mem_take hm),fun m hm=>h.new m (List.mem_of_mem_take hm),h.part.sublist (List.take_sublist n A)⟩
end Go.Proofs.YtinihaflmdihaaaGreat.Kt
