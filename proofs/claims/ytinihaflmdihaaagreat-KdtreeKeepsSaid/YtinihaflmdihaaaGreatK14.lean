/- ShaTurn, ShaSched, ShaKs, ShaAll, ShaBig, ShaFill, ShaRow. -/
import Derived.StillTailTactics
import Derived.Deep.WholeRow
import Derived.Deep.MidRow
import Derived.Deep.RegionHeld3
import Derived.Test.YtinihaflmdihaaaGreatK13
set_option maxRecDepth 100000
set_option maxHeartbeats 8000000
set_option linter.all false
namespace Go.Proofs.YtinihaflmdihaaaGreat
open Go.RowKit
theorem rot2 (x:Nat) (w:World) (hx:x<4294967296):Calls Tryz.prog 286 #[.int .u32 x,.int .i64 (-2)] w fun e w'=>e= .returned (.int .u32 (Sm.rot 2 x))∧w=w':=rot_of 2 x _ w hx (by omega)
theorem rot6 (x:Nat) (w:World) (hx:x<4294967296):Calls Tryz.prog 286 #[.int .u32 x,.int .i64 (-6)] w fun e w'=>e= .returned (.int .u32 (Sm.rot 6 x))∧w=w':=rot_of 6 x _ w hx (by omega)
theorem rot11 (x:Nat) (w:World) (hx:x<4294967296):Calls Tryz.prog 286 #[.int .u32 x,.int .i64 (-11)] w fun e w'=>e= .returned (.int .u32 (Sm.rot 11 x))∧w=w':=rot_of 11 x _ w hx (by omega)
theorem rot13 (x:Nat) (w:World) (hx:x<4294967296):Calls Tryz.prog 286 #[.int .u32 x,.int .i64 (-13)] w fun e w'=>e= .returned (.int .u32 (Sm.rot 13 x))∧w=w':=rot_of 13 x _ w hx (by omega)
theorem rot22 (x:Nat) (w:World) (hx:x<4294967296):Calls Tryz.prog 286 #[.int .u32 x,.int .i64 (-22)] w fun e w'=>e= .returned (.int .u32 (Sm.rot 22 x))∧w=w':=rot_of 22 x _ w hx (by omega)
theorem rot25 (x:Nat) (w:World) (hx:x<4294967296):Calls Tryz.prog 286 #[.int .u32 x,.int .i64 (-25)] w fun e w'=>e= .returned (.int .u32 (Sm.rot 25 x))∧w=w':=rot_of 25 x _ w hx (by omega)
theorem rot7 (x:Nat) (w:World) (hx:x<4294967296):Calls Tryz.prog 286 #[.int .u32 x,.int .i64 (-7)] w fun e w'=>e= .returned (.int .u32 (Sm.rot 7 x))∧w=w':=rot_of 7 x _ w hx (by omega)
theorem rot18 (x:Nat) (w:World) (hx:x<4294967296):Calls Tryz.prog 286 #[.int .u32 x,.int .i64 (-18)] w fun e w'=>e= .returned (.int .u32 (Sm.rot 18 x))∧w=w':=rot_of 18 x _ w hx (by omega)
theorem rot17 (x:Nat) (w:World) (hx:x<4294967296):Calls Tryz.prog 286 #[.int .u32 x,.int .i64 (-17)] w fun e w'=>e= .returned (.int .u32 (Sm.rot 17 x))∧w=w':=rot_of 17 x _ w hx (by omega)
theorem rot19 (x:Nat) (w:World) (hx:x<4294967296):Calls Tryz.prog 286 #[.int .u32 x,.int .i64 (-19)] w fun e w'=>e= .returned (.int .u32 (Sm.rot 19 x))∧w=w':=rot_of 19 x _ w hx (by omega)
theorem u32s_get (l:List Nat) (i:Nat) (h:i<l.length):(u32s l)[i]? =some (.int .u32 (l.getD i 0:Nat)):=by
 simp [u32s,List.getD_eq_getElem?_getD,List.getElem?_eq_getElem h]
theorem u32s_cell {w:World} {g:Nat} {l:List Nat} {t:TypeId} {fr:Nat×Nat} (hg:w.heap[g]? =some (.cells (u32s l) t fr)) (i:Nat) (h:i<l.length):w.cell? ⟨g,i,none⟩=some (.int .u32 (l.getD i 0:Nat)):=by
 rw [cell_of_row w g i _ t fr hg,u32s_get l i h]
theorem u32_eq {a b:Int} (h:a=b):Value.int .u32 a=Value.int .u32 b:=by rw [h]
structure Facts (w WB:World) (gw gk:Nat) (W K:List Nat) (A:Array Value):Prop where
 below:Below w.heap.size w WB
 cw:∀i,i<64→WB.cell? ⟨gw,i,none⟩=some (.int .u32 (W.getD i 0:Nat))
 ck:∀i,i<64→WB.cell? ⟨gk,i,none⟩=some (.int .u32 (K.getD i 0:Nat))
 box:WB.heap[w.heap.size]? =some (.cells A 300 (0,0))
 res:∃C,WB.heap[w.heap.size+1]? =some (.cells C 300 (0,0))∧C.size=8
theorem Facts.mk' (w:World) (nq gw gk:Nat) (W K:List Nat) (A C:Array Value)
  (cw:∀i,i<64→w.cell? ⟨gw,i,none⟩=some (.int .u32 (W.getD i 0:Nat)))
  (ck:∀i,i<64→w.cell? ⟨gk,i,none⟩=some (.int .u32 (K.getD i 0:Nat)))
  (bw:gw<w.heap.size) (bk:gk<w.heap.size) (hC:C.size=8:=by rfl):
  Facts w (World.drewN ((w.alloc (.cells A 300)).alloc (.cells C 300)) nq) gw gk W K A:=by
 have hb:Below w.heap.size w ((w.alloc (.cells A 300)).alloc (.cells C 300)):=((Below.refl _ _).alloc (Nat.le_refl _) _).alloc (by simp) _
 refine ⟨hb.trans ⟨rfl,rfl,rfl,Nat.le_refl _,fun _ _=>rfl⟩,fun i hi=>?_,fun i hi=>?_,?_,C,?_,hC⟩
 ·exact (hb.cell (p:=⟨gw,i,none⟩) bw).trans (cw i hi)
 ·exact (hb.cell (p:=⟨gk,i,none⟩) bk).trans (ck i hi)
 ·exact heap_alloc2_old w _ _
 ·exact heap_alloc2_new w _ _
def TurnRel (K W:List Nat) (v:Sm.V8) (W0:World) (a b c d e f g h i:Value) (wr:World):Prop:=
 ∃k:Nat,k≤64∧i= .int .i64 k∧a= .int .u32 (Sm.rounds K W v k).a∧b= .int .u32 (Sm.rounds K W v k).b∧c= .int .u32 (Sm.rounds K W v k).c∧d= .int .u32 (Sm.rounds K W v k).d∧e= .int .u32 (Sm.rounds K W v k).e∧f= .int .u32 (Sm.rounds K W v k).f∧g= .int .u32 (Sm.rounds K W v k).g∧h= .int .u32 (Sm.rounds K W v k).h∧SameHeap W0 wr
theorem turn_any (v:Sm.V8) (hv:v.ok) (W K:List Nat) (hW:Sm.allW W) (hK:Sm.allW K) (lW:W.length=64) (lK:K.length=64) (gw gk:Nat) (w:World)
  (hw:w.heap[gw]? =some (.cells (u32s W) 334 (0,0))) (hk:w.heap[gk]? =some (.cells (u32s K) 334 (0,0))):
  Calls Tryz.prog 285 #[.agg (u32s v.list),.pointer (some ⟨gw,0,none⟩),.pointer (some ⟨gk,0,none⟩)] w fun e w'=>e= .returned (.agg (u32s (Sm.turn K W v).list))∧Below w.heap.size w w':=by
 obtain ⟨a,b,c,d,e,f,g,h⟩:=v
 have cw:∀i,i<64→w.cell? ⟨gw,i,none⟩=some (.int .u32 (W.getD i 0:Nat)):=fun i hi=>u32s_cell hw i (by omega)
 have ck:∀i,i<64→w.cell? ⟨gk,i,none⟩=some (.int .u32 (K.getD i 0:Nat)):=fun i hi=>u32s_cell hk i (by omega)
 have bw:gw<w.heap.size:=(yL hw)
 have bk:gk<w.heap.size:=(yL hk)
 have CW:=yH cw
 have CK:=yH ck
 have LW:=yH lW
 have LK:=yH lK
 have HW:=yH hW
 have HK:=yH hK
 have HV:=yH hv
 clear cw ck lW lK hW hK hv hw hk
 show Calls Tryz.prog 285 #[.agg #[.int .u32 a,.int .u32 b,.int .u32 c,.int .u32 d,.int .u32 e,.int .u32 f,.int .u32 g,.int .u32 h],.pointer (some ⟨gw,0,none⟩),.pointer (some ⟨gk,0,none⟩)] w _
 go_enter Tryz.func285,Tryz.ntmps285
 go_wp2_with fail
 go_quiet (fail)
 go_wp2_with fail
 generalize hWB:World.drewN ((w.alloc (.cells #[.int .u32 a,.int .u32 b,.int .u32 c,.int .u32 d,.int .u32 e,.int .u32 f,.int .u32 g,.int .u32 h] 300)).alloc (.cells #[.int .u32 0,.int .u32 0,.int .u32 0,.int .u32 0,.int .u32 0,.int .u32 0,.int .u32 0,.int .u32 0] 300)) nq=WB
 have FB:Facts w WB gw gk W K #[.int .u32 a,.int .u32 b,.int .u32 c,.int .u32 d,.int .u32 e,.int .u32 f,.int .u32 g,.int .u32 h]:=by
  subst hWB
  exact Facts.mk' w nq gw gk W K _ _ CW.out CK.out bw bk
 have FF:=yH FB
 clear FB hWB
 go_loopw [7,8,9,10,11,12,13,14,38] (fun a' b' c' d' e' f' g' h' i wr=>TurnRel K W ⟨a,b,c,d,e,f,g,h⟩ WB a' b' c' d' e' f' g' h' i wr) (fun _ _ _ _ _ _ _ _ i _=>64 - (intOf i).toNat)
 case atStart=>exact ⟨0,by omega,rfl,rfl,rfl,rfl,rfl,rfl,rfl,rfl,rfl,SameHeap.refl _⟩
 case round=>
  obtain ⟨k,hk,rfl,rfl,rfl,rfl,rfl,rfl,rfl,rfl,rfl,hs⟩:=hrel
  have ho:(Sm.rounds K W ⟨a,b,c,d,e,f,g,h⟩ k).ok:=Sm.rounds_ok HV.out k
  have HS:=yH hs
  clear hs
  by_cases hlt:k<64
  ·obtain ⟨u,hu⟩:∃u,u=Sm.rounds K W ⟨a,b,c,d,e,f,g,h⟩ k:=⟨_,rfl⟩
   rw [← hu] at ho ⊢
   have HU:=yH hu
   clear hu
   have HO:=yH ho
   obtain ⟨ha,hb,hc,hd,he,hf,hg,hh⟩:=ho
   have xw:=(HS.out.cell ⟨gw,k,none⟩).trans (FF.out.cw k hlt)
   have xk:=(HS.out.cell ⟨gk,k,none⟩).trans (FF.out.ck k hlt)
   go_wp2_with (go_at_call 286;first | ((with_reducible refine (rot6 _ _ he).mono ?_);rintro _ _ ⟨rfl,rfl⟩) | ((with_reducible refine (rot11 _ _ he).mono ?_);rintro _ _ ⟨rfl,rfl⟩) | ((with_reducible refine (rot25 _ _ he).mono ?_);rintro _ _ ⟨rfl,rfl⟩))
   go_quiet (fail)
   go_wp2_with (go_at_call 286;first | ((with_reducible refine (rot2 _ _ ha).mono ?_);rintro _ _ ⟨rfl,rfl⟩) | ((with_reducible refine (rot13 _ _ ha).mono ?_);rintro _ _ ⟨rfl,rfl⟩) | ((with_reducible refine (rot22 _ _ ha).mono ?_);rintro _ _ ⟨rfl,rfl⟩))
   go_roundw
   case rel=>
    show TurnRel _ _ _ _ _ _ _ _ _ _ _ _ _ _
    rw [← List.getD_eq_getElem?_getD,← List.getD_eq_getElem?_getD,Sm.t1_int HO.out,Sm.t2_int HO.out]
    refine ⟨k+1,by omega,by go_num,?_,?_,?_,?_,?_,?_,?_,?_,HS.out.drewN _⟩
    ·rw [Sm.rounds,← HU.out];exact u32_eq (by simp only [Sm.step];omega)
    ·rw [Sm.rounds,← HU.out];rfl
    ·rw [Sm.rounds,← HU.out];rfl
    ·rw [Sm.rounds,← HU.out];rfl
    ·rw [Sm.rounds,← HU.out];exact u32_eq (by simp only [Sm.step];omega)
    ·rw [Sm.rounds,← HU.out];rfl
    ·rw [Sm.rounds,← HU.out];rfl
    ·rw [Sm.rounds,← HU.out];rfl
   case measure=>simp [intOf];omega
  ·obtain rfl:k=64:=by omega
   obtain ⟨u,hu⟩:∃u,u=Sm.rounds K W ⟨a,b,c,d,e,f,g,h⟩ 64:=⟨_,rfl⟩
   rw [← hu] at ho ⊢
   have HU:=yH hu
   clear hu ho
   have hbox:wr.heap[w.heap.size]? =some (.cells (u32s [a,b,c,d,e,f,g,h]) 300 (0,0)):=by rw [HS.out.heap];exact FF.out.box
   obtain ⟨C,hC,hC8⟩:=FF.out.res
   rw [← HS.out.heap] at hC
   have HC:=yH hC
   have HC8:=yH hC8
   clear hC hC8
   have c0:=u32s_cell hbox 0 (by simp)
   have c1:=u32s_cell hbox 1 (by simp)
   have c2:=u32s_cell hbox 2 (by simp)
   have c3:=u32s_cell hbox 3 (by simp)
   have c4:=u32s_cell hbox 4 (by simp)
   have c5:=u32s_cell hbox 5 (by simp)
   have c6:=u32s_cell hbox 6 (by simp)
   have c7:=u32s_cell hbox 7 (by simp)
   clear hbox
   simp only [List.getD_cons_zero,List.getD_cons_succ] at c0 c1 c2 c3 c4 c5 c6 c7
   go_wp2_with (refine wpList_store_row (by rfl) 300 _ _ (by rfl) (w.heap.size+1) _ (by rfl) (by rfl) _ _ HC.out (by exact S32) (by exact HC8.out) (by simp [Value.oneCell']) ?_)
   refine ret_row 6 (by kernel_rfl) (w.heap.size+1) _ _ A32 S32 rfl (setRow_heap _ _ _ _ _ _ HC.out) (by rfl) ?_
   refine ⟨?_,?_⟩
   ·rw [Sm.turn,← HU.out]
    simp only [u32s,Sm.add8,Sm.V8.list,List.map_cons,List.map_nil,Int.natCast_emod,Int.natCast_add]
    rfl
   ·exact Below.setRow ((FF.out.below).trans (HS.out.below.mono FF.out.below.size)) (by omega) _
structure SFacts (w WB:World) (gb ob:Nat) (B:List Nat) (L:List Nat):Prop where
 below:Below w.heap.size w WB
 bytes:bytesAt WB gb ob B
 res:∃C,WB.heap[w.heap.size]? =some (.cells C 334 (0,0))∧C.size=64
 lt:gb<w.heap.size
 row:WB.heap[w.heap.size+1]? =some (.cells (u32s L) 334 (0,0))
theorem SFacts.drewN {w WB:World} {gb ob:Nat} {B L:List Nat} (h:SFacts w WB gb ob B L) (n:Nat):SFacts w (WB.drewN n) gb ob B L:=
 ⟨h.below.trans ⟨rfl,rfl,rfl,Nat.le_refl _,fun _ _=>rfl⟩,h.bytes,h.res,h.lt,h.row⟩
theorem SFacts.mk' (w:World) (gb ob:Nat) (B:List Nat) (hw:bytesAt w gb ob B) (hl:0<B.length):SFacts w ((w.alloc (.cells (u32s (zeros 64)) 334)).alloc (.cells (u32s (zeros 64)) 334)) gb ob B (zeros 64):=by
 have hb:Below w.heap.size w ((w.alloc (.cells (u32s (zeros 64)) 334)).alloc (.cells (u32s (zeros 64)) 334)):=((Below.refl _ _).alloc (Nat.le_refl _) _).alloc (by simp) _
 refine ⟨hb,fun i hi=>?_,⟨_,heap_alloc2_old w _ _,by simp [u32s,zeros]⟩,block_lt_of_cell (hw 0 hl),heap_alloc2_new w _ _⟩
 have:=hw i hi
 exact (hb.cell (p:=⟨gb,ob+i,none⟩) (block_lt_of_cell this)).trans this
theorem u32s_set (p r:List Nat) (y x k:Nat) (hk:p.length=k):(u32s (p++y::r)).setIfInBounds k (.int .u32 (x:Nat))=u32s (p++x::r):=by
 subst hk
 apply Array.ext'
 simp [u32s]
theorem SFacts.store {w WB:World} {gb ob:Nat} {B p r:List Nat} {y:Nat} (h:SFacts w WB gb ob B (p++y::r)) (k:Nat) (hk:p.length=k) (x:Nat):
  SFacts w (WB.setCell ⟨w.heap.size+1,k,none⟩ (.int .u32 (x:Nat))) gb ob B (p++x::r):=by
 obtain ⟨C,hC,hC6⟩:=h.res
 refine ⟨h.below.setCell (by show w.heap.size≤w.heap.size+1;omega) _,fun i hi=>?_,⟨C,?_,hC6⟩,h.lt,?_⟩
 ·rw [World.cell?_setCell_other _ _ _ _ (by intro e;have e1:w.heap.size+1=gb:=congrArg Addr.block e;have:=h.lt;omega)]
  exact h.bytes i hi
 ·rw [heap_setCell_other _ _ _ _ (by show w.heap.size≠w.heap.size+1;omega)];exact hC
 ·rw [heap_setCell_same _ _ _ _ _ _ h.row,u32s_set p r y x k hk]
def SRel2 (w:World) (gb ob:Nat) (B:List Nat) (i:Value) (wr:World):Prop:=
 ∃k:Nat,k≤48∧i= .int .i64 ((16+k:Nat):Int)∧SFacts w wr gb ob B (Sm.more (Sm.words B 16) k++zeros (48 - k))
theorem u32s_one (l:List Nat):(u32s l).all (·.oneCell')=true:=by simp [u32s,Value.oneCell']
theorem sched_size (B:List Nat):(u32s (Sm.sched B)).size=64:=by simp [u32s,Sm.length_sched]
def SRel1 (w:World) (gb ob:Nat) (B:List Nat) (i:Value) (wr:World):Prop:=
 ∃k:Nat,k≤16∧i= .int .i64 k∧SFacts w wr gb ob B (Sm.words B k++zeros (64 - k))
theorem Z62:(Tryz.prog.info? 334).map (fun i=>(i.zero,i.size))=some (some (.agg (u32s (zeros 64))),64):=by kernel_rfl
theorem sched_any (B:List Nat) (hB:Sm.allB B) (lB:64≤B.length) (gb ob cap:Nat) (hcap:64≤cap) (w:World) (hw:bytesAt w gb ob B):
  Calls Tryz.prog 284 #[.slice (some ⟨gb,ob,none⟩) 64 cap] w fun e w'=>e= .returned (.agg (u32s (Sm.sched B)))∧Below w.heap.size w w':=by
 have HB:=yH hB
 have LB:=yH lB
 have HW:=yH hw
 clear hB lB hw
 have hz:=(zero_of_info Z62).1
 go_enter Tryz.func284,Tryz.ntmps284
 go_wp2_with fail
 generalize hWB:(w.alloc (.cells (u32s (zeros 64)) 334)).alloc (.cells (u32s (zeros 64)) 334)=WB
 have FB:SFacts w WB gb ob B (zeros 64):=by
  subst hWB
  exact SFacts.mk' w gb ob B HW.out (by have:=LB.out;omega)
 have FF:=yH FB
 clear FB hWB hz
 go_loopw [11] (fun i wr=>SRel1 w gb ob B i wr) (fun i _=>16 - (intOf i).toNat)
 case atStart=>exact ⟨0,by omega,rfl,FF.out⟩
 case round=>
  obtain ⟨k,hk,rfl,hs⟩:=hrel
  have HS:=yH hs
  clear hs FF
  by_cases hlt:k<16
  ·have g0:wr.cell? ⟨gb,ob+4*k,none⟩=_:=HS.out.bytes (4*k) (by have:=LB.out;omega)
   have g1:wr.cell? ⟨gb,ob+4*k+1,none⟩=_:=HS.out.bytes (4*k+1) (by have:=LB.out;omega)
   have g2:wr.cell? ⟨gb,ob+4*k+2,none⟩=_:=HS.out.bytes (4*k+2) (by have:=LB.out;omega)
   have g3:wr.cell? ⟨gb,ob+4*k+3,none⟩=_:=HS.out.bytes (4*k+3) (by have:=LB.out;omega)
   obtain ⟨x0,hx0⟩:∃x,x=B.getD (4*k) 0:=⟨_,rfl⟩
   obtain ⟨x1,hx1⟩:∃x,x=B.getD (4*k+1) 0:=⟨_,rfl⟩
   obtain ⟨x2,hx2⟩:∃x,x=B.getD (4*k+2) 0:=⟨_,rfl⟩
   obtain ⟨x3,hx3⟩:∃x,x=B.getD (4*k+3) 0:=⟨_,rfl⟩
   have b0:x0<256:=by rw [hx0];exact Sm.getD_lt HB.out (by omega) _
   have b1:x1<256:=by rw [hx1];exact Sm.getD_lt HB.out (by omega) _
   have b2:x2<256:=by rw [hx2];exact Sm.getD_lt HB.out (by omega) _
   have b3:x3<256:=by rw [hx3];exact Sm.getD_lt HB.out (by omega) _
   rw [← hx0] at g0
   rw [← hx1] at g1
   rw [← hx2] at g2
   rw [← hx3] at g3
   have X0:=yH hx0
   have X1:=yH hx1
   have X2:=yH hx2
   have X3:=yH hx3
   clear hx0 hx1 hx2 hx3
   have hst:wr.cell? ⟨w.heap.size+1,k,none⟩=_:=u32s_cell HS.out.row k (by simp [Sm.length_words,zeros];omega)
   have hfr:wr.frozen? ⟨w.heap.size+1,k,none⟩=false:=frozen_of_row wr _ k _ _ HS.out.row
   have HL:(0:Int)≤k∧(k:Int)<64:=by omega
   go_wp2_with fail
   rw [show 4*k+4 - 4*k=4 from by omega]
   go_still_tail 24,(by kernel_rfl)
   go_wp2_with fail
   go_roundw
   case rel=>
    show SRel1 _ _ _ _ _ _
    rw [Sm.word_int b0 b1 b2 b3]
    refine ⟨k+1,by omega,by go_num,?_⟩
    have e:Sm.words B (k+1)++zeros (64 - (k+1))=Sm.words B k++(x0*16777216+x1*65536+x2*256+x3)::zeros (64 - (k+1)):=by
     rw [Sm.words,X0.out,X1.out,X2.out,X3.out,List.append_assoc];rfl
    rw [e]
    refine (SFacts.store (y:=0) ?_ k (Sm.length_words B k) _).drewN 1
    rw [show 64 - (k+1)=64 - k - 1 from by omega,← zeros_succ (by omega)]
    exact HS.out
   case measure=>simp [intOf];omega
  ·obtain rfl:k=16:=by omega
   rw [show ((16:Nat):Int)=16 from rfl]
   go_wp2_with fail
   go_loopw [6] (fun i wr=>SRel2 w gb ob B i wr) (fun i _=>64 - (intOf i).toNat)
   case atStart=>exact ⟨0,by omega,rfl,HS.out⟩
   case round=>
    obtain ⟨k,hk2,rfl,hs⟩:=hrel
    have HS2:=yH hs
    clear hs HS hk hlt
    by_cases hlt:k<48
    ·obtain ⟨l,hl⟩:∃l,l=Sm.more (Sm.words B 16) k:=⟨_,rfl⟩
     have HS3:=yH HS2.out
     rw [← hl] at HS3
     have ll:l.length=16+k:=by rw [hl];simp [Sm.length_more,Sm.length_words]
     have lw:Sm.allW l:=by rw [hl];exact Sm.more_ok (Sm.words_ok HB.out 16) k
     have HL:=yH hl
     have LL:=yH ll
     have LW:=yH lw
     clear hl ll lw HS2
     have cells:∀i,i<16+k→wr.cell? ⟨w.heap.size+1,i,none⟩=some (.int .u32 (l.getD i 0:Nat)):=fun i hi=>by
      rw [u32s_cell HS3.out.row i (by simp [LL.out,zeros];omega),getD_left _ _ (by rw [LL.out];omega)]
     obtain ⟨j,hj⟩:∃j,j=16+k:=⟨_,rfl⟩
     rw [← hj] at cells ⊢
     have hst:wr.cell? ⟨w.heap.size+1,j,none⟩=_:=u32s_cell HS3.out.row j (by simp [LL.out,zeros];omega)
     have hfr:wr.frozen? ⟨w.heap.size+1,j,none⟩=false:=frozen_of_row wr _ _ _ _ HS3.out.row
     have g0:=cells (j - 16) (by omega)
     have g1:=cells (j - 15) (by omega)
     have g9:=cells (j - 7) (by omega)
     have g14:=cells (j - 2) (by omega)
     clear cells
     have i0:(0:Int)≤(j:Int) - 16∧(j:Int) - 16<64:=by omega
     have i1:(0:Int)≤(j:Int) - 15∧(j:Int) - 15<64:=by omega
     have i9:(0:Int)≤(j:Int) - 7∧(j:Int) - 7<64:=by omega
     have i14:(0:Int)≤(j:Int) - 2∧(j:Int) - 2<64:=by omega
     have ij:(0:Int)≤(j:Int)∧(j:Int)<64:=by omega
     have HJ:=yH hj
     clear hj
     obtain ⟨x0,hx0⟩:∃x,x=l.getD (j - 16) 0:=⟨_,rfl⟩
     obtain ⟨x1,hx1⟩:∃x,x=l.getD (j - 15) 0:=⟨_,rfl⟩
     obtain ⟨x9,hx9⟩:∃x,x=l.getD (j - 7) 0:=⟨_,rfl⟩
     obtain ⟨x14,hx14⟩:∃x,x=l.getD (j - 2) 0:=⟨_,rfl⟩
     have w0:x0<4294967296:=by rw [hx0];exact Sm.getD_lt LW.out (by omega) _
     have w1:x1<4294967296:=by rw [hx1];exact Sm.getD_lt LW.out (by omega) _
     have w9:x9<4294967296:=by rw [hx9];exact Sm.getD_lt LW.out (by omega) _
     have w14:x14<4294967296:=by rw [hx14];exact Sm.getD_lt LW.out (by omega) _
     rw [← hx0] at g0
     rw [← hx1] at g1
     rw [← hx9] at g9
     rw [← hx14] at g14
     have X0:=yH hx0
     have X1:=yH hx1
     have X9:=yH hx9
     have X14:=yH hx14
     clear hx0 hx1 hx9 hx14
     go_wp2_with fail
     go_quiet (fail)
     go_wp2_with (go_at_call 286;first | ((with_reducible refine (rot7 _ _ w1).mono ?_);rintro _ _ ⟨rfl,rfl⟩) | ((with_reducible refine (rot18 _ _ w1).mono ?_);rintro _ _ ⟨rfl,rfl⟩) | ((with_reducible refine (rot17 _ _ w14).mono ?_);rintro _ _ ⟨rfl,rfl⟩) | ((with_reducible refine (rot19 _ _ w14).mono ?_);rintro _ _ ⟨rfl,rfl⟩))
     generalize hW2:wr.drewN nq=W2
     have f0:W2.cell? ⟨w.heap.size+1,j - 16,none⟩=some (.int .u32 (x0:Nat)):=by rw [← hW2];exact g0
     have f9:W2.cell? ⟨w.heap.size+1,j - 7,none⟩=some (.int .u32 (x9:Nat)):=by rw [← hW2];exact g9
     have fst:W2.cell? ⟨w.heap.size+1,j,none⟩=some (.int .u32 ((l++zeros (48 - k)).getD j 0:Nat)):=by rw [← hW2];exact hst
     have ffr:W2.frozen? ⟨w.heap.size+1,j,none⟩=false:=by rw [← hW2];exact hfr
     have HS4:SFacts w W2 gb ob B (l++zeros (48 - k)):=by rw [← hW2];exact HS3.out.drewN nq
     have HS5:=yH HS4
     clear hW2 g0 g1 g9 g14 hst hfr HS4 HS3
     have q16:IntKind.i64.wrap ((j:Int) - 16)=(j:Int) - 16:=IntWalk.i64_in _ (by omega)
     have q7:IntKind.i64.wrap ((j:Int) - 7)=(j:Int) - 7:=IntWalk.i64_in _ (by omega)
     have p16:((j:Int) - 16).toNat=j - 16:=by omega
     have p7:((j:Int) - 7).toNat=j - 7:=by omega
     have r16:(16:Int)≤j:=by omega
     have r7:(7:Int)≤j:=by omega
     go_still_tail 15,(by kernel_rfl)
     clear q16 q7 p16 p7
     go_wp2_with fail
     go_roundw
     case rel=>
      show SRel2 _ _ _ _ _ _
      rw [Sm.s0_int w1,Sm.s1_int w14]
      have ej:=HJ.out
      have e0:j - 16=k:=by omega
      have e1:j - 15=k+1:=by omega
      have e9:j - 7=k+9:=by omega
      have e14:j - 2=k+14:=by omega
      have ev:(((x0:Nat):Int)+(Sm.s0 x1:Nat)+(x9:Nat)+(Sm.s1 x14:Nat))%4294967296=(((x0+Sm.s0 x1+x9+Sm.s1 x14)%4294967296:Nat):Int):=by omega
      rw [ev]
      refine ⟨k+1,by omega,by rw [ej];go_num,?_⟩
      have e:Sm.more (Sm.words B 16) (k+1)++zeros (48 - (k+1))=l++((x0+Sm.s0 x1+x9+Sm.s1 x14)%4294967296)::zeros (48 - (k+1)):=by
       rw [Sm.more,← HL.out,X0.out,X1.out,X9.out,X14.out,e0,e1,e9,e14,List.append_assoc];rfl
      rw [e]
      refine (SFacts.store (y:=0) ?_ j (by rw [LL.out];omega) _).drewN 1
      rw [show 48 - (k+1)=48 - k - 1 from by omega,← zeros_succ (by omega)]
      exact HS5.out
     case measure=>simp [intOf];omega
    ·obtain rfl:k=48:=by omega
     obtain ⟨C,hC,hC6⟩:=HS2.out.res
     have hrow:wr.heap[w.heap.size+1]? =some (.cells (u32s (Sm.sched B)) 334 (0,0)):=by
      have:=HS2.out.row
      rw [show zeros (48 - 48)=[] from rfl,List.append_nil] at this
      exact this
     have HC:=yH hC
     have HC6:=yH hC6
     have HR:=yH hrow
     clear hC hC6 hrow
     go_wp2_with (first | (refine wpList_load_row (by rfl) 334 _ (by rfl) (w.heap.size+1) (by rfl) 334 _ (0,0) _ HR.out A62 (by rfl) (by rw [sched_size];exact S62) ?_) | (refine wpList_store_row (by rfl) 334 _ _ (by rfl) (w.heap.size) (u32s (Sm.sched B)) (by rfl) (by rfl) _ _ HC.out (by rw [sched_size];exact S62) (by rw [sched_size];exact HC6.out) (u32s_one _) ?_))
     refine ret_row 2 (by kernel_rfl) w.heap.size _ _ A62 S62 rfl (setRow_heap _ _ _ _ _ _ HC.out) (sched_size B) ⟨rfl,?_⟩
     exact Below.setRow HS2.out.below (Nat.le_refl _) _
theorem ks_one:(u32s Sm.ks).all (·.oneCell')=true:=by kernel_rfl
theorem roundWords_any (w:World):
  Calls Tryz.prog 283 #[] w fun e w'=>e= .returned (.agg (u32s Sm.ks))∧Below w.heap.size w w':=by
 go_enter Tryz.func283,Tryz.ntmps283
 go_wp2_with (refine wpList_store_row (by rfl) 334 _ _ (by rfl) w.heap.size (u32s Sm.ks) (by rfl) (by as_aux_lemma=>kernel_rfl) _ _ (heap_alloc_new w _) S62 (by rfl) ks_one ?_;rw [setRow_alloc])
 exact ret_row 0 (by kernel_rfl) w.heap.size _ _ A62 S62 rfl (heap_alloc_new w _) rfl ⟨rfl,(Below.refl _ _).alloc (Nat.le_refl _) _⟩
theorem Bytes.drop64 {w:World} {g o ln cp:Nat} {B:List Nat} (h:Bytes w (some ⟨g,o,none⟩) ln cp B) (hl:64≤ln):Bytes w (some ⟨g,o+64,none⟩) (ln - 64) (cp - 64) (B.drop 64):=by
 have:=h.size
 have:=h.le
 refine ⟨by simp;omega,by omega,Sm.allB_drop h.ok 64,Or.inr ⟨g,o+64,rfl,?_⟩⟩
 have hB:B≠[]:=by rintro rfl;have:=h.size;simp at this;omega
 obtain ⟨g',o',hp,hx⟩:=h.ne hB
 obtain ⟨rfl,rfl⟩:g=g'∧o=o':=by simpa using hp
 exact hx.drop 64
structure TA (w wr:World) (v:Sm.V8) (gk:Nat):Prop where
 below:Below w.heap.size w wr
 box:wr.heap[w.heap.size]? =some (.cells (u32s v.list) 300 (0,0))
 res:∃C,wr.heap[w.heap.size+1]? =some (.cells C 300 (0,0))∧C.size=8
 ks:wr.heap[gk]? =some (.cells (u32s Sm.ks) 334 (0,0))
 gk:w.heap.size+1<gk
theorem TA.later {w wr w':World} {v:Sm.V8} {gk:Nat} (h:TA w wr v gk) (hb:Below wr.heap.size wr w'):TA w w' v gk:=by
 obtain ⟨C,hC,h8⟩:=h.res
 have l0:=(yL h.box)
 have l1:=(yL hC)
 have l2:=(yL h.ks)
 exact ⟨h.below.trans (hb.mono h.below.size),(hb.block _ l0).trans h.box,⟨C,(hb.block _ l1).trans hC,h8⟩,(hb.block _ l2).trans h.ks,h.gk⟩
theorem TA.set {w wr:World} {v:Sm.V8} {gk:Nat} (h:TA w wr v gk) (u:Sm.V8):TA w (wr.setRow w.heap.size (u32s u.list)) u gk:=by
 obtain ⟨C,hC,h8⟩:=h.res
 have:=h.gk
 exact ⟨Below.setRow h.below (Nat.le_refl _) _,setRow_heap _ _ _ _ _ _ h.box,⟨C,(setRow_other _ _ _ _ (by omega)).trans hC,h8⟩,(setRow_other _ _ _ _ (by omega)).trans h.ks,h.gk⟩
theorem TA.start (w w1:World) (v:Sm.V8) (C:Array Value) (h8:C.size=8) (hb:Below ((w.alloc (.cells (u32s v.list) 300)).alloc (.cells C 300)).heap.size ((w.alloc (.cells (u32s v.list) 300)).alloc (.cells C 300)) w1):
  TA w (w1.alloc (.cells (u32s Sm.ks) 334)) v w1.heap.size:=by
 have hs:((w.alloc (.cells (u32s v.list) 300)).alloc (.cells C 300)).heap.size=w.heap.size+2:=by simp
 have hl:=hb.size
 rw [hs] at hl hb
 have h0:Below w.heap.size w w1:=(((Below.refl w.heap.size w).alloc (Nat.le_refl _) _).alloc (by simp) _).trans (hb.mono (by omega))
 refine ⟨h0.alloc h0.size _,?_,⟨C,?_,h8⟩,heap_alloc_new _ _,by omega⟩
 ·rw [Below.heap_alloc _ _ _ (by omega),hb.block _ (by omega)];exact heap_alloc2_old w _ _
 ·rw [Below.heap_alloc _ _ _ (by omega),hb.block _ (by omega)];exact heap_alloc2_new w _ _
theorem size8 (v:Sm.V8):(u32s v.list).size=8:=rfl
def AllRel (w:World) (_p:Option Addr) (B:List Nat) (v:Sm.V8) (gk:Nat) (s:Value) (wr:World):Prop:=
 ∃n q len cap,64*n≤B.length∧s= .slice q len cap∧TA w wr (Sm.blocks B v n) gk∧Bytes w q len cap (B.drop (64*n))
theorem all_any (v:Sm.V8) (hv:v.ok) (B:List Nat) (p:Option Addr) (len cap:Nat) (w:World) (hB:Bytes w p len cap B) (hm:B.length%64=0):
  Calls Tryz.prog 277 #[.agg (u32s v.list),.slice p len cap] w fun e w'=>e= .returned (.agg (u32s (Sm.blocks B v (B.length/64)).list))∧Below w.heap.size w w':=by
 obtain ⟨a,b,c,d,e,f,g,h⟩:=v
 have HV:=yH hv
 have HB:=yH hB
 have HM:=yH hm
 clear hv hB hm
 have hz:=(zero_of_info Z62).1
 show Calls Tryz.prog 277 #[.agg #[.int .u32 a,.int .u32 b,.int .u32 c,.int .u32 d,.int .u32 e,.int .u32 f,.int .u32 g,.int .u32 h],.slice p len cap] w _
 go_enter Tryz.func277,Tryz.ntmps277
 go_wp2_with fail
 refine (roundWords_any _).mono ?_
 rintro _ w1 ⟨rfl,hb1⟩
 have HB1:=yH hb1
 clear hb1
 go_wp2_with (refine wpList_store_row (by rfl) 334 _ _ (by rfl) w1.heap.size (u32s Sm.ks) (by rfl) (by rfl) _ _ (heap_alloc_new _ _) S62 (by simp [u32s,zeros];rfl) ks_one ?_;rw [setRow_alloc])
 generalize hWB:w1.alloc (.cells (u32s Sm.ks) 334)=WB
 have hTA:TA w WB ⟨a,b,c,d,e,f,g,h⟩ w1.heap.size:=by
  subst hWB
  exact TA.start w w1 _ _ rfl HB1.out
 have HT:=yH hTA
 clear hTA hWB HB1
 go_simp
 generalize w1.heap.size=gk at *
 go_loopw [1] (fun s wr=>AllRel w p B ⟨a,b,c,d,e,f,g,h⟩ gk s wr) (fun s _=>lenOf s)
 case atStart=>exact ⟨0,p,len,cap,by omega,rfl,HT.out,by simpa using HB.out⟩
 case round=>
  obtain ⟨n,q,ln,cp,hn,rfl,hT,hb⟩:=hrel
  obtain ⟨V,hV⟩:∃V,V=Sm.blocks B ⟨a,b,c,d,e,f,g,h⟩ n:=⟨_,rfl⟩
  rw [← hV] at hT
  have hok:V.ok:=by rw [hV];exact Sm.blocks_ok HV.out n
  obtain ⟨X,hX⟩:∃X,X=B.drop (64*n):=⟨_,rfl⟩
  rw [← hX] at hb
  have hXl:X.length=B.length - 64*n:=by rw [hX];simp
  have hm:=HM.out
  have hsz:=hb.size
  have hle:=hb.le
  have HVV:=yH hV
  have HX:=yH hX
  have HO:=yH hok
  have HT1:=yH hT
  have HB1:=yH hb
  have HS:=yH hsz
  have HXL:=yH hXl
  by_cases h0:ln=0
  ·have hX0:X=[]:=List.length_eq_zero_iff.1 (by omega)
   have hdiv:B.length/64=n:=by omega
   have HD:=yH hdiv
   obtain ⟨C,hC,hC8⟩:=hT.res
   have HC:=yH hC
   have HC8:=yH hC8
   clear hV hX hok hT hb hXl hm hsz hle hX0 hdiv hC hC8
   subst h0
   go_wp2_with (first | (refine wpList_load_row (by rfl) 300 _ (by rfl) w.heap.size (by rfl) 300 _ (0,0) _ HT1.out.box A32 (by rfl) (by exact S32) ?_) | (refine wpList_store_row (by rfl) 300 _ _ (by rfl) (w.heap.size+1) (u32s V.list) (by rfl) (by rfl) _ _ HC.out (by exact S32) (by exact HC8.out) (u32s_one _) ?_))
   refine ret_row 4 (by kernel_rfl) (w.heap.size+1) _ _ A32 S32 rfl (setRow_heap _ _ _ _ _ _ HC.out) rfl ⟨?_,?_⟩
   ·rw [HD.out,← HVV.out]
   ·exact Below.setRow HT1.out.below (by omega) _
  ·have h64:64≤ln:=by omega
   have hX1:X≠[]:=by
    intro e
    have:=congrArg List.length e
    simp only [List.length_nil] at this
    omega
   have hbw:Bytes wr q ln cp X:=hb.later hT.below hb.lt
   obtain ⟨gb,ob,rfl,hx⟩:=hbw.ne hX1
   have HXX:=yH hx
   have hlt:gb<w.heap.size:=hb.lt gb ob rfl hX1
   have hcp:64≤cp:=by omega
   clear hV hX hok hT hb hXl hm hsz hx hX1 hbw
   have hz:=(zero_of_info Z62).1
   rcases Nat.lt_or_eq_of_le hcp with hcc | hcc
   ·go_wp2_with fail
    refine (sched_any X HB1.out.ok (by have:=HS.out;omega) gb ob cp (by omega) wr HXX.out).mono ?_
    rintro _ w2 ⟨rfl,hb2⟩
    have hTw:TA w (w2.alloc (.cells (u32s (Sm.sched X)) 334)) V gk:=(HT1.out.later hb2).later ((Below.refl _ _).alloc (Nat.le_refl _) _)
    have HT2:=yH hTw
    have HB2:=yH hb2
    clear hTw hb2
    go_wp2_with (first | (refine wpList_store_row (by rfl) 334 _ _ (by rfl) w2.heap.size (u32s (Sm.sched X)) (by rfl) (by rfl) _ _ (heap_alloc_new _ _) (by rw [sched_size];exact S62) (by rw [sched_size];simp [u32s,zeros]) (u32s_one _) ?_;rw [setRow_alloc]) | (refine wpList_load_row (by rfl) 300 _ (by rfl) w.heap.size (by rfl) 300 _ (0,0) _ HT2.out.box A32 (by rfl) (by exact S32) ?_))
    refine (turn_any V HO.out (Sm.sched X) Sm.ks (Sm.sched_ok HB1.out.ok) Sm.ks_ok (Sm.length_sched X) rfl w2.heap.size gk _ (heap_alloc_new _ _) HT2.out.ks).mono ?_
    rintro _ w4 ⟨rfl,hb4⟩
    have hT4:=HT2.out.later hb4
    have HT4:=yH hT4
    clear hT4 hb4
    go_wp2_with (refine wpList_store_row (by rfl) 300 _ _ (by rfl) w.heap.size (u32s (Sm.turn Sm.ks (Sm.sched X) V).list) (by rfl) (by rfl) _ _ HT4.out.box (by rw [size8];exact S32) (by rw [size8,size8]) (u32s_one _) ?_)
    go_roundw
    case rel=>
     refine ⟨n+1,_,_,_,by have:=HXL.out;have:=HS.out;omega,rfl,?_,?_⟩
     ·rw [Sm.blocks,← HVV.out,← HX.out];exact HT4.out.set _
     ·have e:B.drop (64*(n+1))=X.drop 64:=by rw [HX.out,List.drop_drop];congr 1
      rw [e]
      exact HB1.out.drop64 (by omega)
    case measure=>simp [lenOf];omega
   ·subst hcc
    obtain rfl:ln=64:=by omega
    go_wp2_with fail
    refine (sched_any X HB1.out.ok (by have:=HS.out;omega) gb ob 64 (by omega) wr HXX.out).mono ?_
    rintro _ w2 ⟨rfl,hb2⟩
    have hTw:TA w (w2.alloc (.cells (u32s (Sm.sched X)) 334)) V gk:=(HT1.out.later hb2).later ((Below.refl _ _).alloc (Nat.le_refl _) _)
    have HT2:=yH hTw
    have HB2:=yH hb2
    clear hTw hb2
    go_wp2_with (first | (refine wpList_store_row (by rfl) 334 _ _ (by rfl) w2.heap.size (u32s (Sm.sched X)) (by rfl) (by rfl) _ _ (heap_alloc_new _ _) (by rw [sched_size];exact S62) (by rw [sched_size];simp [u32s,zeros]) (u32s_one _) ?_;rw [setRow_alloc]) | (refine wpList_load_row (by rfl) 300 _ (by rfl) w.heap.size (by rfl) 300 _ (0,0) _ HT2.out.box A32 (by rfl) (by exact S32) ?_))
    refine (turn_any V HO.out (Sm.sched X) Sm.ks (Sm.sched_ok HB1.out.ok) Sm.ks_ok (Sm.length_sched X) rfl w2.heap.size gk _ (heap_alloc_new _ _) HT2.out.ks).mono ?_
    rintro _ w4 ⟨rfl,hb4⟩
    have hT4:=HT2.out.later hb4
    have HT4:=yH hT4
    clear hT4 hb4
    go_wp2_with (refine wpList_store_row (by rfl) 300 _ _ (by rfl) w.heap.size (u32s (Sm.turn Sm.ks (Sm.sched X) V).list) (by rfl) (by rfl) _ _ HT4.out.box (by rw [size8];exact S32) (by rw [size8,size8]) (u32s_one _) ?_)
    go_roundw
    case rel=>
     refine ⟨n+1,_,_,_,by have:=HXL.out;have:=HS.out;omega,rfl,?_,?_⟩
     ·rw [Sm.blocks,← HVV.out,← HX.out];exact HT4.out.set _
     ·have e:B.drop (64*(n+1))=X.drop 64:=by rw [HX.out,List.drop_drop];congr 1
      rw [e]
      have e2:X.drop 64=[]:=List.drop_eq_nil_of_le (by have:=HS.out;omega)
      rw [e2]
      exact ⟨rfl,by omega,fun x hx=>by simp at hx,Or.inr ⟨gb,ob,rfl,fun i hi=>by simp at hi⟩⟩
    case measure=>simp [lenOf]
theorem A59:Tryz.prog.underlying 305=some (.array 8 5):=by kernel_rfl
theorem Z59:(Tryz.prog.info? 305).map (fun i=>(i.zero,i.size))=some (some (.agg (u8s (zeros 8))),8):=by kernel_rfl
theorem S59:(Tryz.prog.info? 305).map (·.size)=some 8:=by kernel_rfl
structure BF (T:TypeId) (N:Nat) (w wr:World) (r g:Nat) (L:List Nat):Prop where
 below:Below w.heap.size w wr
 res:∃C,wr.heap[r]? =some (.cells C T (0,0))∧C.size=N
 row:wr.heap[g]? =some (.cells (u8s L) T (0,0))
 lr:w.heap.size≤r
 lg:w.heap.size≤g
 ne:r≠g
theorem BF.store {T:TypeId} {N:Nat} {w wr:World} {r g:Nat} {p q:List Nat} {y:Nat} (h:BF T N w wr r g (p++y::q)) (k:Nat) (hk:p.length=k) (x:Nat):
  BF T N w (wr.setCell ⟨g,k,none⟩ (.int .u8 (x:Nat))) r g (p++x::q):=by
 obtain ⟨C,hC,hC6⟩:=h.res
 refine ⟨h.below.setCell h.lg _,⟨C,?_,hC6⟩,?_,h.lr,h.lg,h.ne⟩
 ·rw [heap_setCell_other _ _ _ _ h.ne];exact hC
 ·rw [heap_setCell_same _ _ _ _ _ _ h.row,u8s_set p q y x k hk]
def bigsTo (n:Nat):Nat→List Nat
 | 0=>[]
 | k+1=>bigsTo n k++[Sm.big n k]
theorem bigsTo_length (n k:Nat):(bigsTo n k).length=k:=by
 induction k with
 | zero=>rfl
 | succ k ih=>simp [bigsTo,ih]
def BigRel (w:World) (r g n:Nat) (i:Value) (wr:World):Prop:=
 ∃k:Nat,k≤8∧i= .int .i64 k∧BF 305 8 w wr r g (bigsTo n k++zeros (8 - k))
theorem bigEnd_any (n:Nat) (_hn:n<18446744073709551616) (w:World):
  Calls Tryz.prog 247 #[.int .u64 n] w fun e w'=>e= .returned (.agg (u8s (Sm.bigs n)))∧Below w.heap.size w w':=by
 have hz:=(zero_of_info Z59).1
 go_enter Tryz.func247,Tryz.ntmps247
 go_wp2_with fail
 generalize hWB:(w.alloc (.cells (u8s (zeros 8)) 305)).alloc (.cells (u8s (zeros 8)) 305)=WB
 have FB:BF 305 8 w WB w.heap.size (w.heap.size+1) (zeros 8):=by
  subst hWB
  exact ⟨((Below.refl _ _).alloc (Nat.le_refl _) _).alloc (by simp) _,⟨_,heap_alloc2_old w _ _,by simp [u8s,zeros]⟩,heap_alloc2_new w _ _,by omega,by omega,by omega⟩
 have FF:=yH FB
 clear FB hWB hz
 go_loopw [5] (fun i wr=>BigRel w w.heap.size (w.heap.size+1) n i wr) (fun i _=>8 - (intOf i).toNat)
 case atStart=>exact ⟨0,by omega,rfl,FF.out⟩
 case round=>
  obtain ⟨k,hk,rfl,hs⟩:=hrel
  have HS:=yH hs
  clear hs FF
  by_cases hlt:k<8
  ·have hst:wr.cell? ⟨w.heap.size+1,k,none⟩=some (.int .u8 ((bigsTo n k++zeros (8 - k)).getD k 0:Nat)):=u8s_cell HS.out.row k (by simp [bigsTo_length,zeros];omega)
   have hfr:wr.frozen? ⟨w.heap.size+1,k,none⟩=false:=frozen_of_row wr _ k _ _ HS.out.row
   have HI:(0:Int)≤8*(7 - k)∧8*(7 - (k:Int))≤64:=by omega
   go_wp2_with fail
   go_roundw
   case rel=>
    show BigRel _ _ _ _ _ _
    rw [show (n:Int)/2^(8*(7 - k))%256=((Sm.big n k:Nat):Int) from by
     unfold Sm.big;rw [Int.natCast_emod,Int.natCast_ediv,Int.natCast_pow];rfl]
    refine ⟨k+1,by omega,by go_num,?_⟩
    have e:bigsTo n (k+1)++zeros (8 - (k+1))=bigsTo n k++Sm.big n k::zeros (8 - (k+1)):=by
     rw [bigsTo,List.append_assoc];rfl
    rw [e]
    refine BF.store (y:=0) ?_ k (bigsTo_length n k) _
    rw [show 8 - (k+1)=8 - k - 1 from by omega,← zeros_succ (by omega)]
    exact HS.out
   case measure=>simp [intOf];omega
  ·obtain rfl:k=8:=by omega
   obtain ⟨C,hC,hC8⟩:=HS.out.res
   have HC:=yH hC
   have HC8:=yH hC8
   clear hC hC8
   have hrow:wr.heap[w.heap.size+1]? =some (.cells (u8s (Sm.bigs n)) 305 (0,0)):=HS.out.row
   have HR:=yH hrow
   clear hrow
   go_wp2_with (first | (refine wpList_load_row (by rfl) 305 _ (by rfl) (w.heap.size+1) (by rfl) 305 _ (0,0) _ HR.out A59 (by rfl) (by exact S59) ?_) | (refine wpList_store_row (by rfl) 305 _ _ (by rfl) w.heap.size (u8s (Sm.bigs n)) (by rfl) (by rfl) _ _ HC.out (by exact S59) (by exact HC8.out) (u8s_one _) ?_))
   refine ret_row 2 (by kernel_rfl) w.heap.size _ _ A59 S59 rfl (setRow_heap _ _ _ _ _ _ HC.out) rfl ⟨rfl,?_⟩
   exact Below.setRow HS.out.below (Nat.le_refl _) _
theorem U31:Tryz.prog.underlying 241=some (.int .u32):=by kernel_rfl
theorem S31:(Tryz.prog.info? 241).map (·.size)=some 1:=by kernel_rfl
def bytesTo (l:List Nat):Nat→List Nat
 | 0=>[]
 | k+1=>bytesTo l k++Sm.bytes4 (l.getD k 0)
theorem bytesTo_length (l:List Nat) (k:Nat):(bytesTo l k).length=4*k:=by
 induction k with
 | zero=>rfl
 | succ k ih=>simp [bytesTo,ih,Sm.bytes4];omega
def BOfRel (w:World) (r g:Nat) (l:List Nat) (i:Value) (wr:World):Prop:=
 ∃k:Nat,k≤8∧i= .int .i64 k∧BF 30 32 w wr r g (bytesTo l k++zeros (32 - 4*k))
theorem bytesOf_any (v:Sm.V8) (hv:v.ok) (w:World):
  Calls Tryz.prog 279 #[.agg (u32s v.list)] w fun e w'=>e= .returned (.agg (u8s (Sm.bytesOf v)))∧Below w.heap.size w w':=by
 have hz:=(zero_of_info Z25).1
 have HV:=yH hv
 clear hv
 go_enter Tryz.func279,Tryz.ntmps279
 go_wp2_with (refine wpList_load_row (by rfl) 300 _ (by rfl) w.heap.size (by rfl) 300 _ (0,0) _ ((Below.heap_alloc _ _ _ (by simp;omega)).trans (heap_alloc2_old w _ _)) A32 (by rfl) (by exact S32) ?_)
 generalize hWB:((w.alloc (.cells (u32s v.list) 300)).alloc (.cells (u8s (zeros 32)) 30)).alloc (.cells (u8s (zeros 32)) 30)=WB
 have FB:BF 30 32 w WB (w.heap.size+1) (w.heap.size+2) (zeros 32):=by
  subst hWB
  refine ⟨(((Below.refl _ _).alloc (Nat.le_refl _) _).alloc (by simp) _).alloc (by simp;omega) _,⟨_,(Below.heap_alloc _ _ _ (by simp)).trans (heap_alloc2_new w _ _),by simp [u8s,zeros]⟩,?_,by omega,by omega,by omega⟩
  have:=heap_alloc_new ((w.alloc (.cells (u32s v.list) 300)).alloc (.cells (u8s (zeros 32)) 30)) (.cells (u8s (zeros 32)) 30)
  rw [show ((w.alloc (.cells (u32s v.list) 300)).alloc (.cells (u8s (zeros 32)) 30)).heap.size=w.heap.size+2 from by simp] at this
  exact this
 have FF:=yH FB
 clear FB hWB hz
 go_simp
 go_loopw [7] (fun i wr=>BOfRel w (w.heap.size+1) (w.heap.size+2) v.list i wr) (fun i _=>8 - (intOf i).toNat)
 case atStart=>exact ⟨0,by omega,rfl,FF.out⟩
 case round=>
  obtain ⟨k,hk,rfl,hs⟩:=hrel
  have HS:=yH hs
  clear hs FF
  by_cases hlt:k<8
  ·have hix:=fun w'=>run_index_array A32 U31 rfl S31 (u32s v.list) k hlt _ (u32s_get v.list k (by simpa [Sm.V8.list] using hlt)) w'
   obtain ⟨x,hx⟩:∃x,x=v.list.getD k 0:=⟨_,rfl⟩
   rw [← hx] at hix
   have HX:=yH hx
   clear hx
   have cl:∀i,i<32→wr.cell? ⟨w.heap.size+2,i,none⟩=some (.int .u8 ((bytesTo v.list k++zeros (32 - 4*k)).getD i 0:Nat)):=fun i hi=>u8s_cell HS.out.row i (by simp [bytesTo_length,zeros];omega)
   have fr:∀i,wr.frozen? ⟨w.heap.size+2,i,none⟩=false:=fun i=>frozen_of_row wr _ i _ _ HS.out.row
   have c0:=cl (4*k) (by omega)
   have c1:=cl (4*k+1) (by omega)
   have c2:=cl (4*k+2) (by omega)
   have c3:=cl (4*k+3) (by omega)
   have f0:=fr (4*k)
   have f1:=fr (4*k+1)
   have f2:=fr (4*k+2)
   have f3:=fr (4*k+3)
   clear cl fr
   go_wp2_with fail
   go_roundw
   case rel=>
    show BOfRel _ _ _ _ _ _
    have e0:(x:Int)/16777216%256=((x/16777216%256:Nat):Int):=by omega
    have e1:(x:Int)/65536%256=((x/65536%256:Nat):Int):=by omega
    have e2:(x:Int)/256%256=((x/256%256:Nat):Int):=by omega
    have e3:(x:Int)%256=((x%256:Nat):Int):=by omega
    rw [e0,e1,e2,e3]
    refine ⟨k+1,by omega,by go_num,?_⟩
    have e:bytesTo v.list (k+1)++zeros (32 - 4*(k+1))=(((bytesTo v.list k++[x/16777216%256])++[x/65536%256])++[x/256%256])++x%256::zeros (32 - 4*(k+1)):=by
     rw [bytesTo,← HX.out];simp [Sm.bytes4]
    have hl:=bytesTo_length v.list k
    rw [e]
    refine BF.store (y:=0) ?_ (4*k+3) (by simp [hl]) _
    rw [List.append_assoc]
    refine BF.store (y:=0) ?_ (4*k+2) (by simp [hl]) _
    rw [List.append_assoc]
    refine BF.store (y:=0) ?_ (4*k+1) (by simp [hl]) _
    rw [List.append_assoc]
    refine BF.store (y:=0) ?_ (4*k) hl _
    have hz4:(0::([0]++(0::([0]++zeros (32 - 4*(k+1))))))=zeros (32 - 4*k):=by
     rw [show 32 - 4*k=(32 - 4*(k+1))+4 from by omega];rfl
    first
     | (rw [show ∀A:List Nat,A++0::([0]++0::([0]++zeros (32 - 4*(k+1))))=A++zeros (32 - 4*k) from fun A=>by rw [← hz4]];exact HS.out)
     | (have:=HS.out;rw [← hz4] at this;simpa using this)
   case measure=>simp [intOf];omega
  ·obtain rfl:k=8:=by omega
   obtain ⟨C,hC,hC8⟩:=HS.out.res
   have HC:=yH hC
   have HC8:=yH hC8
   clear hC hC8
   have hrow:wr.heap[w.heap.size+2]? =some (.cells (u8s (Sm.bytesOf v)) 30 (0,0)):=HS.out.row
   have HR:=yH hrow
   clear hrow
   go_wp2_with (first | (refine wpList_load_row (by rfl) 30 _ (by rfl) (w.heap.size+2) (by rfl) 30 _ (0,0) _ HR.out A25 (by rfl) (by exact S25) ?_) | (refine wpList_store_row (by rfl) 30 _ _ (by rfl) (w.heap.size+1) (u8s (Sm.bytesOf v)) (by rfl) (by rfl) _ _ HC.out (by exact S25) (by exact HC8.out) (u8s_one _) ?_))
   refine ret_row 2 (by kernel_rfl) (w.heap.size+1) _ _ A25 S25 rfl (setRow_heap _ _ _ _ _ _ HC.out) rfl ⟨rfl,?_⟩
   exact Below.setRow HS.out.below (by omega) _
theorem make_bytes (Z:Nat) (h:Z<64) (w:World):(Instr.makeSlice 45 (.int .u64 (1+(Z:Nat))) (.int .u64 (1+(Z:Nat)+8))).run Tryz.prog w= .ok (.slice (some ⟨w.heap.size,0,none⟩) (1+Z) (1+Z+8)) (w.alloc (.cells (u8s (zeros (1+Z+8))) 5)):=by
 obtain ⟨i5,hi,hi0,hi1,hi2⟩:=info_parts I5
 have:=run_make (P:=Tryz.prog) w 45 5 i5 _ A22 hi hi0 .u64 .u64 (1+(Z:Nat)) (1+(Z:Nat)+8) (by omega) (by omega) (by rw [hi2];omega) (by omega)
 rw [this,hi1,made_zeros]
 have e1:(1+(Z:Int)).toNat=1+Z:=by omega
 have e2:(1+(Z:Int)+8).toNat=1+Z+8:=by omega
 rw [e1,e2,Nat.mul_one]
theorem fill_ok (n:Nat):Sm.allB (Sm.fill n):=by
 intro x hx
 simp only [Sm.fill,Sm.bigs,List.mem_cons,List.mem_append,List.mem_replicate,List.not_mem_nil,or_false] at hx
 rcases hx with rfl | ⟨_,rfl⟩ | rfl | rfl | rfl | rfl | rfl | rfl | rfl | rfl<;>first | omega | exact Sm.big_lt _ _
theorem filling_any (L:Nat) (hL:L<1152921504606846976) (w:World):
  Calls Tryz.prog 278 #[.int .u64 L] w fun e w'=>∃len cap,e= .returned (.slice (some ⟨w.heap.size,0,none⟩) len cap)∧Bytes w' (some ⟨w.heap.size,0,none⟩) len cap (Sm.fill L)∧Below w.heap.size w w':=by
 obtain ⟨Z,hZ⟩:∃Z,Z=(119 - L%64)%64:=⟨_,rfl⟩
 have hZl:Z<64:=by omega
 have hz1:(119 - (L:Int)%64)%64=(Z:Int):=by omega
 have hz2:(119 - (L:Int))%64=(Z:Int):=by omega
 have HZ:=yH hZ
 clear hZ
 obtain ⟨i5,hi,hi0,hi1,hi2⟩:=info_parts I5
 have hmk:=make_bytes Z hZl
 have HI:=yH hi
 have HI0:=yH hi0
 have HI1:=yH hi1
 have HI2:=yH hi2
 clear hi hi0 hi1 hi2
 have hb0:Below w.heap.size w (w.alloc (.cells (u8s (zeros (1+Z+8))) 5)):=(Below.refl _ _).alloc (Nat.le_refl _) _
 have hst:(w.alloc (.cells (u8s (zeros (1+Z+8))) 5)).cell? ⟨w.heap.size,0,none⟩=some (.int .u8 ((zeros (1+Z+8)).getD 0 0:Nat)):=u8s_cell (heap_alloc_new _ _) 0 (by simp [zeros])
 have hfr:(w.alloc (.cells (u8s (zeros (1+Z+8))) 5)).frozen? ⟨w.heap.size,0,none⟩=false:=frozen_of_row _ _ _ _ _ (heap_alloc_new _ _)
 go_enter Tryz.func278,Tryz.ntmps278
 go_wp2_with fail
 rw [show (8*(L:Int))=((8*L:Nat):Int) from by omega]
 have e0:(u8s (zeros (1+Z+8))).setIfInBounds 0 (.int .u8 128)=u8s (128::zeros (Z+8)):=by
  have:=u8s_set [] (zeros (Z+8)) 0 128 0 rfl
  rw [show 1+Z+8=(Z+8)+1 from by omega]
  exact this
 rw [e0]
 clear e0 hst hfr hb0 hmk hz1 hz2
 refine (bigEnd_any (8*L) (by omega) _).mono ?_
 rintro _ w3 ⟨rfl,hb3⟩
 have hrow:w3.heap[w.heap.size]? =some (.cells (u8s (128::zeros (Z+8))) 5 (0,0)):=(hb3.block _ (by simp)).trans (heap_alloc_new _ _)
 have hbw:Below w.heap.size w w3:=((Below.refl _ _).alloc (Nat.le_refl _) _).trans (hb3.mono (by simp))
 have hs3:w.heap.size<w3.heap.size:=(yL hrow)
 have hown:(w3.alloc (.cells (u8s (Sm.bigs (8*L))) 305)).ownsRow w.heap.size 5 1 (.slice (some ⟨w.heap.size,0,none⟩) (1+Z) (1+Z+8)) (1+Z) (vals ((128::zeros (Z+8)).take (1+Z))):=
  owns_mk ((Below.heap_alloc _ _ _ hs3).trans hrow) (by simp [zeros];omega) (by omega) (by unfold maxLen;omega) (Nat.le_refl _)
 have HOWN:=yH hown
 have HBW:=yH hbw
 have HN:=yH (heap_alloc_new w3 (.cells (u8s (Sm.bigs (8*L))) 305))
 clear hown hbw hb3 hrow
 have hz:=(zero_of_info Z59).1
 go_wp2_with (first | (refine wpList_store_row (by rfl) 305 _ _ (by rfl) w3.heap.size (u8s (Sm.bigs (8*L))) (by rfl) (by rfl) _ _ (heap_alloc_new _ _) (by exact S59) (by simp [u8s,zeros];rfl) (u8s_one _) ?_;rw [setRow_alloc]) | (at_builtin;refine wpList_append_fits _ (by rfl) (.tmp 21) (.tmp 22) 45 (by rfl) w.heap.size 5 i5 1 A22 HI.out HI1.out w.heap.size (1+Z) (1+Z+8) _ (by rfl) HOWN.out ⟨w3.heap.size,0,none⟩ 8 8 (vals (Sm.bigs (8*L))) (by rfl) (by rfl) (cells_of_row HN.out) (vals_one _) (by omega) ?_;intro w5 hown5 hgrow5))
 have e:vals ((128::zeros (Z+8)).take (1+Z))++vals (Sm.bigs (8*L))=vals (Sm.fill L):=by
  rw [Sm.fill,← HZ.out]
  have:(128::zeros (Z+8)).take (1+Z)=128::zeros Z:=by
   rw [show 1+Z=Z+1 from by omega,List.take_succ_cons]
   simp [zeros]
  rw [this]
  simp [vals,zeros]
 rw [e] at hown5
 go_ret
 exact ⟨_,_,rfl,Bytes.of_owns hown5 (fill_ok L),(HBW.out.alloc HBW.out.size _).grown hgrow5 (by have:=HBW.out.size;simp;omega) (fun k hk=>by simp at hk;omega)⟩
def w32 (l:List Nat):List Value:=l.map fun x=>Value.int .u32 (x:Nat)
theorem w32_toArray (l:List Nat):(w32 l).toArray=u32s l:=rfl
def stL (v:Sm.V8) (bl:List Nat) (L:Nat):List Value:=w32 v.list++vals bl++[.int .u64 (L:Nat)]
structure Held (T:List Nat) (v:Sm.V8) (bl:List Nat):Prop where
 ok:Sm.allB T
 vok:v.ok
 lt:T.length<1152921504606846976
 words:T≠[]→v=Sm.blocks T Sm.first (T.length/64)
 size:bl.length=64
 bok:Sm.allB bl
 block:bl.take (T.length%64)=T.drop (64*(T.length/64))
def StateAt (w:World) (g:Nat) (T:List Nat):Prop:=
 ∃v bl,Held T v bl∧w.heap[g]? =some (.cells (stL v bl T.length).toArray 303 (0,0))
end Go.Proofs.YtinihaflmdihaaaGreat
