/- KdWayV, KdBack. -/
import Derived.RangeFuncNested
import Derived.RangeFuncBound
import Derived.RangeFuncCalls
import Derived.RangeFuncLeaves
import Derived.WalkKit
import Derived.OwnWalkIn
import Derived.TacticsInMore
import Derived.LoopNIn
import Derived.LoopIn
import Derived.Test.YtinihaflmdihaaaGreatW1
import Derived.Test.YtinihaflmdihaaaGreatW25
import Derived.Test.YtinihaflmdihaaaGreatW34
set_option maxRecDepth 100000
set_option maxHeartbeats 8000000
set_option linter.unusedVariables false
set_option linter.unusedSimpArgs false
namespace Go.Proofs.YtinihaflmdihaaaGreat.Kt
open Go.RowKit Go.Proofs.YtinihaflmdihaaaGreat.Nd Go.Proofs.YtinihaflmdihaaaGreat.Dk Go.Proofs.YtinihaflmdihaaaGreat.Pg
open List renaming setIfInBounds_toArray → sA, set_cons_zero → sZ, set_cons_succ → sS
def WayRes (w:World) (Q:Nat→Prop) (o:Option (List St×St)) (e:Ending) (w':World):Prop:=Below w.heap.size w w'∧
 (o=none→e= .returned (.tuple #[.slice none 0 0,.int .i64 21]))∧(∀L s,o=some (L,s)→∃q c A bw,e= .returned (.tuple #[.slice q A.length c,.int .i64 0])∧WaySt w.heap.size bw w' (.slice q A.length c) A∧Links A (L++[s])∧∀m∈A,∀j,m.reads j→¬Q j)
theorem way_any {gs d:Nat} {Q:Nat→Prop} {s:Pg.S} (hd:1≤d∧d≤8) (hW:TextsK d s.W) (u:V) (k:Kd) (r:Rw) (w:World) (hp:PL w gs Q s) (hs:Sees s.W d u) (hk:k.Ok w) (he:k.pk=u.kid) (hr:r.Ok w) (hrd:r.n=d) (hz:u.kid.size≤90000) (hka:Aw Q k) (hra:∀y,r.p=some y→r.R≠[]→¬Q y.block):
  Calls Tryz.prog 53 #[.agg #[.pointer (some ⟨gs,0,none⟩),.int .i64 d],.agg k.cells.toArray,r.val] w (WayRes w Q (wayV d r.R u 0)):=by
 obtain ⟨W,hW0,r0,r1,b1⟩:=two_alloc w (.cells #[.pointer (some ⟨gs,0,none⟩),.int .i64 d] 91) (.cells k.cells.toArray 34)
 have b2:Below W.heap.size W (W.alloc (.cells #[r.val] 24)):=(Below.refl _ _).alloc (Nat.le_refl _) _
 have hb:takesB d [r]=true:=by
  unfold takesB
  rw [decide_eq_true (by omega)]
  simp [hrd]
 have HT:=Lib.hid (takes_any (some ⟨gs,0,none⟩) d _ 1 1 [r] _ (rows_one (hr.later b1)) (by omega))
 rw [hb] at HT
 have R0:=Lib.hid (range_tr r0)
 have R0':=Lib.hid r0
 have R1':=Lib.hid r1
 have B2:=Lib.hid b2
 have B1:=Lib.hid b1
 have HWS:=Lib.hid (show w.heap.size+2≤W.heap.size from (Array.getElem?_eq_some_iff.1 r1).1)
 have HD:=Lib.hid (fun (w':World) (hx:Below W.heap.size W w') (bw:Nat) (hbw:W.heap.size≤bw) (hbox:w'.heap[bw]? =some (.cells #[.slice none 0 0] 93 (0,0)))=>down_any (gs:=gs) (B:=w.heap.size) (bw:=bw) hd hW r hrd u k (w.heap.size+1) 0 w' Q (.slice none 0 0) [] (hp.keep (fun _=>False) (Only.of_below _ (b1.trans (hx.mono b1.size))) (fun _ _ e=>e)) hs (hk.later (b1.trans (hx.mono b1.size))) (range_later (range_kd r1) hx) he (fun x hx1 y hy hR=>⟨by have:=rw_lt (kd_rows_ok hk x hx1) y hy hR;have:=b1.size;omega,(fun e=>by cases e),(fun a ha=>by cases ha)⟩) ⟨hbox,World.ownsRow_nil _ _ _ _,(fun e=>by cases e),⟨(fun m hm=>by cases hm),(fun m hm=>by cases hm),List.Pairwise.nil⟩,(fun m hm=>by cases hm),Nat.le_trans b1.size hbw⟩ (Nat.le_trans b1.size hx.size) (hr.later (b1.trans (hx.mono b1.size))) (fun y hy hR=>⟨by have:=rw_lt hr y hy hR;have:=b1.size;omega,(fun e=>by cases e),(fun a ha=>by cases ha)⟩) (fun e=>by have:=hp.lt _ e;have:=b1.size;omega) (fun j e=>by cases e) hka hra (by simp;omega))
 obtain ⟨rp,rn,rc,rR⟩:=r
 unfold Rw.val at HT B2 HD ⊢
 simp only at HT B2 HD ⊢
 obtain ⟨du,hdu,hdr⟩:=UTr
 have HDU:=Lib.hid hdu
 have HDR:=Lib.hid hdr
 generalize hO:wayV d rR u 0=O at *
 have HOS:=Lib.hid (show O=none∨∃L s,O=some (L,s) from by
  cases O with
  | none=>exact Or.inl rfl
  | some x=>exact Or.inr ⟨x.1,x.2,rfl⟩)
 clear hO hd hW hp hs hk he hr hrd hz hka hra hb r0 r1 b1 b2 hdu hdr
 go_enter Tryz.func53,Tryz.ntmps53
 go_upto_region 1 with fail
 clear hW0
 go_upto_region 4 with (first
  | (refine wpList_load_mid (by rfl) 91 _ (by rfl) w.heap.size 0 (by rfl) [.pointer (some ⟨gs,0,none⟩),.int .i64 d] du R0.out HDU.out HDR.out STr ?_)
  | (go_at_call 72;refine HT.out.mono ?_;rintro _ w3 ⟨rfl,b3⟩;have B3:=Lib.hid (B2.out.trans (b3.mono B2.out.size));clear b3))
 have hb4:Below w3.heap.size w3 (w3.alloc (.cells #[.slice none 0 0] 93)):=(Below.refl _ _).alloc (Nat.le_refl _) _
 have hr4:=heap_alloc_new w3 (.cells #[.slice none 0 0] 93)
 generalize w3.alloc (.cells #[.slice none 0 0] 93)=w4 at *
 have B4:=Lib.hid (B3.out.trans (hb4.mono B3.out.size))
 have R4:=Lib.hid (range_tr ((B4.out.block _ (Array.getElem?_eq_some_iff.1 R0'.out).1).trans R0'.out))
 have HD4:=Lib.hid (HD.out w4 B4.out w3.heap.size B3.out.size hr4)
 have B14:=Lib.hid (B1.out.trans (B4.out.mono B1.out.size))
 have HZ3:=Lib.hid (show w.heap.size≤w3.heap.size from by have:=B3.out.size;have:=HWS.out;omega)
 clear hb4 hr4 HD
 rcases HOS.out with hO | ⟨L,s',hO⟩
 ·subst hO
  go_wp2_with (first
   | (refine wpList_load_mid (by rfl) 91 _ (by rfl) w.heap.size 0 (by rfl) [.pointer (some ⟨gs,0,none⟩),.int .i64 d] du R4.out HDU.out HDR.out STr ?_)
   | (go_at_call 106;refine HD4.out.mono ?_;rintro _ w5 ⟨ho,hn,-⟩;obtain rfl:=hn rfl;have HO:=Lib.hid ho;clear ho hn))
  go_ret2
  exact ⟨B14.out.trans (HO.out.below B14.out.size (fun k e=>e.elim (fun e=>by have:=HZ3.out;omega) (fun e=>by cases e))),(fun _=>rfl),(fun L s' h=>by cases h)⟩
 ·have HOO:=Lib.hid hO
  go_upto_region 5 with (first
   | (refine wpList_load_mid (by rfl) 91 _ (by rfl) w.heap.size 0 (by rfl) [.pointer (some ⟨gs,0,none⟩),.int .i64 d] du R4.out HDU.out HDR.out STr ?_)
   | (go_at_call 106;refine HD4.out.mono ?_;rintro _ w5 ⟨ho,-,hsm⟩;obtain ⟨rfl,v',A',hws,hln,-,hff⟩:=hsm L s' hO;have HFF:=Lib.hid hff;clear hff;have HO:=Lib.hid ho;have HWS5:=Lib.hid hws;have HLN:=Lib.hid hln;clear ho hsm hws hln))
  clear hO
  rw [List.nil_append] at HWS5
  obtain ⟨q5,c5,rfl⟩:=lst_form HWS5.out.own
  have cb:=cell_of_row w5 w3.heap.size 0 _ _ _ HWS5.out.box
  go_wp2_with fail
  go_ret2
  refine ⟨B14.out.trans (HO.out.below B14.out.size (fun k e=>e.elim (fun e=>by have:=HZ3.out;omega) (fun e=>by cases e))),fun h=>(by rw [HOO.out] at h;cases h),fun L2 s2 h=>?_⟩
  rw [HOO.out] at h
  simp only [Option.some.injEq,Prod.mk.injEq] at h
  obtain ⟨rfl,rfl⟩:=h
  exact ⟨q5,c5,A',w3.heap.size,rfl,HWS5.out,HLN.out,HFF.out⟩
theorem way_range {B bw:Nat} {w:World} {q:Option Addr} {c:Nat} {A:List MSt} (h:WaySt B bw w (.slice q A.length c) A) (hA:A≠[]):∃g,q=some ⟨g,0,none⟩∧A.length≤c∧∀i,i<A.length→w.rangeAt g (i*41) (A.getD i default).cells:=by
 have hl:∀m∈A,m.cells.length=41:=fun m hm=>MSt.cells_length (h.way.each m hm).kid.len
 rcases h.own.2 with ⟨hv,h0⟩ | ⟨g,cap,cur,hv,_,_,hc,_⟩
 ·exact absurd (List.length_eq_zero_iff.1 h0) hA
 ·simp only [Value.slice.injEq,true_and] at hv
  obtain ⟨rfl,rfl⟩:=hv
  refine ⟨g,rfl,hc,fun i hi j u hu=>?_⟩
  have hx:=flat_get (L:=A) hl i j u hi hu
  have hlt:=(List.getElem?_eq_some_iff.1 hx).1
  rw [World.ownsRow.cellAt h.own (i*41+j) (by rw [← h.own.1];exact hlt),hx]
theorem mst_get (m:MSt) (h:m.kid.sum.length=32):m.cells[37]? =some (.int .u8 1)∧m.cells[38]? =some (.slice (some ⟨m.ge,0,none⟩) 1 m.ce)∧m.cells[39]? =some (.slice (some ⟨m.gk,0,none⟩) 2 m.ck)∧m.cells[40]? =some (.int .i64 m.sideN):=by
 have hl:=Kd.cells_length h
 unfold MSt.cells
 refine ⟨?_,?_,?_,?_⟩<;>(rw [List.getElem?_append_right (by rw [hl];omega),hl];rfl)
theorem live_any {B bw:Nat} {w:World} {q:Option Addr} {c:Nat} {A:List MSt} {m:MSt} (h:WaySt B bw w (.slice q (A++[m]).length c) (A++[m])) (hA:A.length≤100000):
  Calls Tryz.prog 54 #[.slice q (A++[m]).length c] w fun e w'=>e= .returned (.bool m.live)∧w'=w:=by
 obtain ⟨g,rfl,hc,hx⟩:=way_range h (by simp)
 have hm:=h.way.each m (by simp)
 have hr:=hx A.length (by simp)
 have hgd:(A++[m]).getD A.length default=m:=by simp
 rw [hgd] at hr
 have c38:w.cell? ⟨g,A.length*41+38,none⟩=some (.slice (some ⟨m.ge,0,none⟩) 1 m.ce):=hr 38 _ (mst_get m hm.kid.len).2.1
 have ce1:w.cell? ⟨m.ge,1,none⟩=some (.bool m.live):=by have:=hm.ent 1 _ rfl;simpa using this
 have hlen:(A++[m]).length=A.length+1:=by simp
 rw [hlen] at hc ⊢
 generalize A.length=n at *
 have q1:IntKind.i64.wrap (((n+1:Nat):Int) - 1)=(n:Int):=by rw [IntWalk.i64_in _ (by omega)];omega
 have i1:(0:Int)≤n∧(n:Int)<((n+1:Nat):Int):=by omega
 clear h hx hr hm hgd hlen
 go_enter Tryz.func54,Tryz.ntmps54
 go_wp2_with fail
 go_ret
 exact ⟨rfl,rfl⟩
end Go.Proofs.YtinihaflmdihaaaGreat.Kt
namespace Go.Proofs.YtinihaflmdihaaaGreat.Kt
open Go.RowKit Go.Proofs.YtinihaflmdihaaaGreat.Nd Go.Proofs.YtinihaflmdihaaaGreat.Pg
open List renaming setIfInBounds_toArray → sA, set_cons_zero → sZ, set_cons_succ → sS
attribute [local go_sem] Oper.semAt_some
theorem wpListIn_load_mid {F:Fence} {m:Nat} {w:World} {ops:Array Oper} {rest:List Oper} {o:Oper} {a:Act} {Q:Exit→Act→World→Prop} (hg:o.guard=none) (ty:TypeId) (x:Operand) (ho:o.op= .load ty x)
  (b i:Nat) (hx:a.eval x= .pointer (some ⟨b,i,none⟩)) (cs:List Value) (d:TypeDesc) (hc:w.rangeAt b i cs)
  (hu:Tryz.prog.underlying ty=some d) (hd:d.isRow=true) (hi:(Tryz.prog.info? ty).map (·.size)=some cs.length)
  (hk:wpListIn F m Tryz.prog ops Q rest (a.put o.dst (.agg cs.toArray)) w):wpListIn F m Tryz.prog ops Q (o::rest) a w:=by
 refine wpListIn_plain hg fun K hK=>?_
 unfold Oper.wpIn
 refine ⟨by simp [Oper.about,ho],?_⟩
 rw [Oper.semAt_plain F _ _ (by rw [ho];intro c hc';cases hc'),op_load_mid ty x ho b i hx cs d hc hu hd hi]
 exact hK _ _ hk
def backAt (A:List MSt) (j:Nat):MSt:=A.getD (A.length - 1 - j) default
def KpB (Bs g:Nat) (W W':World):Prop:=W'.heap[Bs]? =W.heap[Bs]? ∧W'.heap[g]? =W.heap[g]?
def encB (A:List MSt) (j:Nat):Array Value:= #[.int .i64 ((A.length:Int) - 1 - j),.agg (backAt A j).cells.toArray]
theorem back1_in (m l Bs g c:Nat) (p:Option Addr) (A:List MSt) (hA:A.length≤100000) (hp:A≠[]→p=some ⟨g,0,none⟩∧A.length≤c) (h41:∀m∈A,m.cells.length=41) (J Jx:List Nat→World→Prop) (B0:Nat) (hJa:AbidesFrom B0 J)
  (hY:∀pre x W,J pre W→pre.length<A.length→YieldAt Fence.wide (m - 1) Tryz.prog l (encB A x) W fun e W'=>
   (e= .returned (.bool true)∧J (pre++[x]) W'∧KpB Bs g W W')∨(e= .returned (.bool false)∧Jx (pre++[x]) W'))
  (W:World) (hBs:W.cell? ⟨Bs,0,none⟩=some (.slice p A.length c)) (hx:∀i,i<A.length→W.rangeAt g (i*41) (A.getD i default).cells) (h0:J [] W):
  CallsIn Fence.wide m Tryz.prog 153 #[.func (.yield l) #[] #[],.pointer (some ⟨Bs,0,none⟩)] W fun e W'=>(∃v,e= .returned v)∧
   ((∃ys,ys=List.range A.length∧J ys W')∨(∃pre,True∧Jx pre W')):=by
 obtain ⟨n,hn⟩:∃n,n=A.length:=⟨_,rfl⟩
 rw [← hn] at hBs hx hA
 have HN:=Lib.hid hn
 clear hn
 have q0:IntKind.i64.wrap ((n:Int) - 1)=(n:Int) - 1:=IntWalk.i64_in _ (by omega)
 obtain ⟨d,hd1,hd2⟩:=USp
 refine callsIn_of_wp Tryz.func153 rfl trivial ?_ rfl
 simp only [Tryz.ntmps153,List.size_toArray,List.length_cons,List.length_nil,Nat.reduceAdd,Nat.reduceSub,Array.replicate_succ,Array.replicate_zero,List.push_toArray,List.append_toArray,List.nil_append,List.cons_append]
 gi_wp2
 gi_loopw [3] (fun i wr=>∃j:Nat,j≤n∧i= .int .i64 ((n:Int) - 1 - j)∧J (List.range j) wr∧KpB Bs g W wr)
  (fun i _=>(intOf i+1).toNat)
 case atStart=>exact ⟨0,Nat.zero_le _,by simp,h0,rfl,rfl⟩
 case round=>
  obtain ⟨j,hj,rfl,hJ,hK⟩:=hrel
  have HJ:=Lib.hid hJ
  have HK:=Lib.hid hK
  have cs:=(World.cell?_of_block (w:=W) (a:=⟨Bs,0,none⟩) hK.1).trans hBs
  have HX:=Lib.hid (fun i (hi:i<n)=>(show wr.rangeAt g (i*41) (A.getD i default).cells from fun t u hu=>(World.cell?_of_block (w:=W) (a:=⟨g,i*41+t,none⟩) hK.2).trans (hx i hi t u hu)))
  clear hJ hK
  by_cases hlt:j<n
  ·obtain ⟨k,hk⟩:∃k:Nat,k=n - 1 - j:=⟨_,rfl⟩
   have e1:(n:Int) - 1 - j=(k:Int):=by omega
   have hkn:k<n:=by omega
   rw [e1]
   obtain ⟨rfl,hcc⟩:=hp (fun e=>by have:=HN.out;rw [e] at this;simp at this;omega)
   have i0:(0:Int)≤(k:Int):=by omega
   have i1:(k:Int)<(n:Int):=by omega
   have i2:IntKind.i64.wrap ((k:Int) - 1)=(k:Int) - 1:=IntWalk.i64_in _ (by omega)
   have HR:=Lib.hid (HX.out k hkn)
   have HC:=Lib.hid (h41 (A.getD k default) (by
    rw [List.getD_eq_getElem?_getD,List.getElem?_eq_getElem (by rw [← HN.out];exact hkn)]
    exact List.getElem_mem _))
   have H41:=Lib.hid (show (Tryz.prog.info? 101).map (·.size)=some (A.getD k default).cells.length from by rw [HC.out];exact SSp)
   obtain ⟨fn,tmps,assign,body,hy,hR⟩:=hY (List.range j) j wr HJ.out (by rw [List.length_range,← HN.out];exact hlt)
   have hen:encB A j= #[.int .i64 (k:Int),.agg (A.getD k default).cells.toArray]:=by
    unfold encB backAt
    rw [← HN.out,e1,← hk]
   obtain ⟨cs0,hcs0⟩:∃cs0,cs0=(A.getD k default).cells:=⟨_,rfl⟩
   rw [hen,← hcs0] at hy
   have HKE:=Lib.hid hk
   have HR2:=Lib.hid (show wr.rangeAt g (k*41) cs0 from by rw [hcs0];exact HR.out)
   have H412:=Lib.hid (show (Tryz.prog.info? 101).map (·.size)=some cs0.length from by rw [hcs0];exact H41.out)
   clear hen e1 hk hcs0 HR H41 HC
   gi_wp2_with (first | (refine wpListIn_load_mid (by rfl) 101 (.tmp 15) (by rfl) g (k*41) (by rfl) cs0 d HR2.out hd1 hd2 H412.out ?_) | gi_in)
   refine ⟨fun h=>(by cases h),hR.mono ?_⟩
   rintro _ W3 (⟨rfl,hJ3,hk3⟩ | ⟨rfl,hJx3⟩)
   ·have HJ3:=Lib.hid hJ3
    have HK3:=Lib.hid (show KpB Bs g W W3 from ⟨hk3.1.trans HK.out.1,hk3.2.trans HK.out.2⟩)
    clear hJ3 hk3 hy
    gi_wp2
    go_roundw
    case rel=>exact ⟨j+1,by omega,by have:=HKE.out;(first | rw [i2] | skip);congr 1;omega,by rw [List.range_succ];exact HJ3.out,HK3.out⟩
    case measure=>(try rw [i2]);simp [intOf]
   ·gi_wp2
    refine bodyPost_ret (results_none rfl _ _ _) rfl ?_
    exact ⟨⟨_,rfl⟩,.inr ⟨_,trivial,hJx3⟩⟩
  ·obtain rfl:j=n:=by omega
   have l1:¬(0:Int)≤(j:Int) - 1 - j:=by omega
   gi_wp2
   go_end0
   exact ⟨⟨_,rfl⟩,.inl (by rw [← HN.out];exact HJ.out)⟩
theorem back_stops (m Bs g c:Nat) (p:Option Addr) (A:List MSt) (hA:A.length≤100000) (hp:A≠[]→p=some ⟨g,0,none⟩∧A.length≤c) (h41:∀m∈A,m.cells.length=41) (w:World) (hBs:w.cell? ⟨Bs,0,none⟩=some (.slice p A.length c)) (hx:∀i,i<A.length→w.rangeAt g (i*41) (A.getD i default).cells):
  SeqStopsK Fence.wide m Tryz.prog 153 #[.pointer (some ⟨Bs,0,none⟩)] (encB A) (KpB Bs g) (fun ys=>ys=List.range A.length) (fun _=>True) A.length w:=fun l J Jx W hW hJ _ hY h0=>
 back1_in m l Bs g c p A hA hp h41 J Jx _ hJ hY W ((hW.cell (p:=⟨Bs,0,none⟩) (block_lt_of_cell hBs)).trans hBs) (fun i hi j u hu=>(hW.cell (block_lt_of_cell (hx i hi j u hu))).trans (hx i hi j u hu)) h0
theorem back_any (v:Value) (hv:v.oneCell'=true) (w:World):
  Calls Tryz.prog 107 #[v] w fun e w'=>e= .returned (.func (.func 153) #[] #[.pointer (some ⟨w.heap.size,0,none⟩)])∧w'=w.alloc (.cells #[v] 93):=by
 go_enter Tryz.func107,Tryz.ntmps107
 go_wp2_with fail
 go_ret
 exact ⟨rfl,rfl⟩
end Go.Proofs.YtinihaflmdihaaaGreat.Kt
