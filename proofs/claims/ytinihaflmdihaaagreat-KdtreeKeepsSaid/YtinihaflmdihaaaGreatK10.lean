/- BoxPairFn, BoxBuild, BoxOf, BoxHullR. -/
import Derived.BigRegion
import Derived.Lib.MinMax
import Derived.Test.YtinihaflmdihaaaGreatK3
set_option maxRecDepth 100000
set_option maxHeartbeats 8000000
set_option linter.all false
namespace Go.Proofs.YtinihaflmdihaaaGreat
open Go.RowKit
def pairB (R S T U:List Int) (n m k l:Nat):Bool:=rightB R S n m n&&rightB T U k l n
theorem box_two (w:World) (v u v2 u2:Value):∀w2,w2=(w.alloc (.cells #[v,u] 32)).alloc (.cells #[v2,u2] 32)→
  (w2.cell? ⟨w.heap.size,0,none⟩=some v∧w2.cell? ⟨w.heap.size,1,none⟩=some u∧w2.cell? ⟨w.heap.size+1,0,none⟩=some v2∧w2.cell? ⟨w.heap.size+1,1,none⟩=some u2)∧Below w.heap.size w w2∧w2.heap.size=w.heap.size+2:=by
 rintro w2 rfl
 obtain ⟨a0,a1⟩:=pair_alloc w v u 32
 have hs:(w.alloc (.cells #[v,u] 32)).heap.size=w.heap.size+1:=by simp
 have hb1:Below w.heap.size w (w.alloc (.cells #[v,u] 32)):=(Below.refl _ _).alloc (Nat.le_refl _) _
 generalize w.alloc (.cells #[v,u] 32)=w1 at *
 obtain ⟨b0,b1⟩:=pair_alloc w1 v2 u2 32
 have hb2:Below w1.heap.size w1 (w1.alloc (.cells #[v2,u2] 32)):=(Below.refl _ _).alloc (Nat.le_refl _) _
 rw [hs] at b0 b1
 exact ⟨⟨(hb2.cell (p:=⟨w.heap.size,0,none⟩) (by show w.heap.size<_;omega)).trans a0,(hb2.cell (p:=⟨w.heap.size,1,none⟩) (by show w.heap.size<_;omega)).trans a1,b0,b1⟩,hb1.trans (hb2.mono (by omega)),by simp;omega⟩
structure Four (w0 w:World) (a b:Nat) (p q r s:Option Addr) (n c m e k f l g:Nat) (R S T U:List Int):Prop where
 ba:BoxAt w a p n c q m e
 bb:BoxAt w b r k f s l g
 la:a<w.heap.size
 lb:b<w.heap.size
 i1:Ints w p n c R
 i2:Ints w q m e S
 i3:Ints w r k f T
 i4:Ints w s l g U
 below:Below w0.heap.size w0 w
theorem Four.later {w0 w w':World} {a b:Nat} {p q r s:Option Addr} {n c m e k f l g:Nat} {R S T U:List Int} (h:Four w0 w a b p q r s n c m e k f l g R S T U) (hb:Below w.heap.size w w'):Four w0 w' a b p q r s n c m e k f l g R S T U:=
 ⟨⟨(hb.cell (p:=⟨a,0,none⟩) h.la).trans h.ba.1,(hb.cell (p:=⟨a,1,none⟩) h.la).trans h.ba.2⟩,⟨(hb.cell (p:=⟨b,0,none⟩) h.lb).trans h.bb.1,(hb.cell (p:=⟨b,1,none⟩) h.lb).trans h.bb.2⟩,Nat.lt_of_lt_of_le h.la hb.size,Nat.lt_of_lt_of_le h.lb hb.size,
  h.i1.later hb,h.i2.later hb,h.i3.later hb,h.i4.later hb,h.below.trans (hb.mono h.below.size)⟩
theorem four_of {w w2:World} {p q r s:Option Addr} {n c m e k f l g:Nat} {R S T U:List Int} (h1:Ints w p n c R) (h2:Ints w q m e S) (h3:Ints w r k f T) (h4:Ints w s l g U)
  (h:w2=(w.alloc (.cells #[.slice p n c,.slice q m e] 32)).alloc (.cells #[.slice r k f,.slice s l g] 32)):Four w w2 w.heap.size (w.heap.size+1) p q r s n c m e k f l g R S T U:=by
 obtain ⟨⟨a0,a1,a2,a3⟩,hb,hs⟩:=box_two w _ _ _ _ w2 h
 exact ⟨⟨a0,a1⟩,⟨a2,a3⟩,by omega,by omega,h1.later hb,h2.later hb,h3.later hb,h4.later hb,hb⟩
theorem pair_any (p q r s:Option Addr) (n c m e k f l g:Nat) (R S T U:List Int) (w:World) (h1:Ints w p n c R) (h2:Ints w q m e S) (h3:Ints w r k f T) (h4:Ints w s l g U):
  Calls Tryz.prog 272 #[.agg #[.slice p n c,.slice q m e],.agg #[.slice r k f,.slice s l g]] w fun e w'=>e= .returned (.bool (pairB R S T U n m k l))∧Below w.heap.size w w':=by
 go_enter Tryz.func272,Tryz.ntmps272
 go_upto_region 1 with fail
 obtain ⟨w2,hw2⟩:∃w2,w2=(w.alloc (.cells #[.slice p n c,.slice q m e] 32)).alloc (.cells #[.slice r k f,.slice s l g] 32):=⟨_,rfl⟩
 have HF:=yH (four_of h1 h2 h3 h4 hw2)
 rw [← hw2]
 clear hw2 h1 h2 h3 h4
 have b:=HF.out.ba
 obtain ⟨b0,b1⟩:=b
 have b:=HF.out.bb
 obtain ⟨b2,b3⟩:=b
 go_wp2_with fail
 refine (right_any p q n c m e R S n w2 HF.out.i1 HF.out.i2).mono ?_
 rintro _ w3 ⟨rfl,hb3⟩
 have HG:=yH (HF.out.later hb3)
 clear hb3 HF b0 b1 b2 b3
 have b:=HG.out.ba
 obtain ⟨b0,b1⟩:=b
 have b:=HG.out.bb
 obtain ⟨b2,b3⟩:=b
 cases hr:rightB R S n m n with
 | false=>
  have HR:=yH (show pairB R S T U n m k l=false by unfold pairB;rw [hr];rfl)
  clear hr
  go_wp2_with fail
  go_ret
  exact ⟨congrArg (fun b=>Ending.returned (.bool b)) HR.out.symm,HG.out.below⟩
 | true=>
  have HR:=yH (show pairB R S T U n m k l=rightB T U k l n by unfold pairB;rw [hr];rfl)
  clear hr
  go_wp2_with fail
  refine (right_any r s k f l g T U n w3 HG.out.i3 HG.out.i4).mono ?_
  rintro _ w4 ⟨rfl,hb4⟩
  have HB:=yH (HG.out.below.trans (hb4.mono HG.out.below.size))
  clear hb4
  go_wp2_with fail
  go_ret
  exact ⟨congrArg (fun b=>Ending.returned (.bool b)) HR.out.symm,HB.out⟩
def i64s (l:List Int):Array Value:=(l.map fun x=>Value.int .i64 x).toArray
def part (f:Nat→Int) (n k:Nat):List Int:=(List.range n).map fun i=>if i<k then f i else 0
theorem part_length (f:Nat→Int) (n k:Nat):(part f n k).length=n:=by simp [part]
theorem i64s_get (l:List Int) (i:Nat) (h:i<l.length):(i64s l)[i]? =some (.int .i64 (l.getD i 0)):=by
 simp [i64s,List.getD_eq_getElem?_getD,List.getElem?_eq_getElem h]
theorem part_set (f:Nat→Int) (n k:Nat):(i64s (part f n k)).setIfInBounds k (.int .i64 (f k))=i64s (part f n (k+1)):=by
 apply Array.ext'
 simp only [i64s,part,Array.toList_setIfInBounds,List.map_map]
 apply List.ext_getElem (by simp)
 intro i h1 h2
 rw [List.getElem_set]
 simp only [List.length_map,List.length_range] at h2
 by_cases hk:k=i
 ·subst hk;simp
 ·simp only [hk,if_false,List.getElem_map,List.getElem_range,Function.comp]
  by_cases h3:i<k
  ·rw [if_pos h3,if_pos (by omega)]
  ·rw [if_neg h3,if_neg (by omega)]
def RowAt (w:World) (g:Nat) (L:List Int):Prop:=w.heap[g]? =some (.cells (i64s L) 2 (0,0))
theorem RowAt.cell {w:World} {g:Nat} {L:List Int} (h:RowAt w g L) (i:Nat) (hi:i<L.length):w.cell? ⟨g,i,none⟩=some (.int .i64 (L.getD i 0)):=by
 rw [cell_of_row w g i _ _ _ h,i64s_get L i hi]
theorem RowAt.free {w:World} {g:Nat} {L:List Int} (h:RowAt w g L) (i:Nat):w.frozen? ⟨g,i,none⟩=false:=frozen_of_row w g i _ _ h
theorem RowAt.lt {w:World} {g:Nat} {L:List Int} (h:RowAt w g L):g<w.heap.size:=(yL h)
theorem RowAt.later {w w':World} {g:Nat} {L:List Int} (h:RowAt w g L) {n:Nat} (hb:Below n w w') (hn:g<n):RowAt w' g L:=(hb.block _ hn).trans h
theorem RowAt.ints {w:World} {g:Nat} {L:List Int} (h:RowAt w g L) (hL:∀x∈L,-9223372036854775808≤x∧x≤9223372036854775807):Ints w (some ⟨g,0,none⟩) L.length L.length L:=
 ⟨rfl,Nat.le_refl _,hL,Or.inr ⟨g,0,rfl,fun i hi=>by rw [Nat.zero_add];exact h.cell i hi⟩⟩
theorem made_part (f:Nat→Int) (n:Nat):madeCells (Value.cells (.int .i64 0)) n=i64s (part f n 0):=by
 apply Array.ext
 ·simp [size_madeCells,i64s,part,Value.cells]
 ·intro i h1 h2
  simp [madeCells,i64s,part,Value.cells,Nat.mod_one]
theorem A23:Tryz.prog.underlying 24=some (.slice 2):=by kernel_rfl
theorem I2i:(Tryz.prog.info? 2).map (fun i=>(i.zero,i.size,i.bytes))=some (some (.int .i64 0),1,8):=by kernel_rfl
theorem make_row (n:Nat) (h8:n≤8) (f:Nat→Int) (w:World):(Instr.makeSlice 24 (.int .i64 n) (.int .i64 n)).run Tryz.prog w= .ok (.slice (some ⟨w.heap.size,0,none⟩) n n) (w.alloc (.cells (i64s (part f n 0)) 2)):=by
 obtain ⟨i2,hi,hi0,hi1,hi2⟩:=info_parts I2i
 have:=run_make (P:=Tryz.prog) w 24 2 i2 _ A23 hi hi0 .i64 .i64 n n (by omega) (by omega) (by rw [hi2];omega) (by omega)
 rw [this,hi1]
 simp only [Int.toNat_natCast,Nat.mul_one,made_part f]
theorem part_zero (f g:Nat→Int) (n:Nat):part f n 0=part g n 0:=by simp [part]
structure Made (w:World) (g1 g2 gb n:Nat) (L M:List Int) (wx:World):Prop where
 r1:RowAt wx g1 L
 r2:RowAt wx g2 M
 bx:wx.heap[gb]? =some (.cells #[.slice (some ⟨g1,0,none⟩) n n,.slice (some ⟨g2,0,none⟩) n n] 32 (0,0))
 res:wx.heap[w.heap.size]? =some (.cells #[.slice none 0 0,.slice none 0 0] 32 (0,0))
 ne:(g1≠g2∧g1≠gb∧g2≠gb)∧w.heap.size<g1∧w.heap.size<g2∧w.heap.size<gb
 below:Below w.heap.size w wx
def Sides (w:World) (n:Nat) (f g:Nat→Int) (F:Nat) (cap:Array Value):Prop:=
 ∀(k:Nat) (w':World),k<n→Below w.heap.size w w'→Calls Tryz.prog F (#[.int .i64 k]++cap) w' fun e w''=>e= .returned (.tuple #[.int .i64 (f k),.int .i64 (g k)])∧∃j,w''=w'.drewN j
theorem heap3 (w:World) (a b c:Array Value) (ta tb tc:TypeId):
  (((w.alloc (.cells a ta)).alloc (.cells b tb)).alloc (.cells c tc)).drew.heap[w.heap.size]? =some (.cells a ta (0,0))∧(((w.alloc (.cells a ta)).alloc (.cells b tb)).alloc (.cells c tc)).drew.heap[w.heap.size+1]? =some (.cells b tb (0,0))∧
  (((w.alloc (.cells a ta)).alloc (.cells b tb)).alloc (.cells c tc)).drew.heap[w.heap.size+1+1]? =some (.cells c tc (0,0))∧Below w.heap.size w (((w.alloc (.cells a ta)).alloc (.cells b tb)).alloc (.cells c tc)).drew:=by
 have s1:(w.alloc (.cells a ta)).heap.size=w.heap.size+1:=by simp
 have s2:((w.alloc (.cells a ta)).alloc (.cells b tb)).heap.size=w.heap.size+1+1:=by simp
 have h1:=heap_alloc_new w (.cells a ta)
 have b1:Below w.heap.size w (w.alloc (.cells a ta)):=(Below.refl _ _).alloc (Nat.le_refl _) _
 generalize w.alloc (.cells a ta)=w1 at *
 have h2:=heap_alloc_new w1 (.cells b tb)
 have b2:Below w1.heap.size w1 (w1.alloc (.cells b tb)):=(Below.refl _ _).alloc (Nat.le_refl _) _
 generalize w1.alloc (.cells b tb)=w2 at *
 have h3:=heap_alloc_new w2 (.cells c tc)
 have b3:Below w2.heap.size w2 (w2.alloc (.cells c tc)):=(Below.refl _ _).alloc (Nat.le_refl _) _
 generalize w2.alloc (.cells c tc)=w3 at *
 rw [s1] at h2
 rw [s2] at h3
 exact ⟨(b3.block _ (by omega)).trans ((b2.block _ (by omega)).trans h1),(b3.block _ (by omega)).trans h2,h3,(b1.trans ((b2.trans (b3.mono (by omega))).mono (by omega))).drew⟩
theorem made_mk {w w1 W:World} {g1 g2 gb n:Nat} {L M:List Int} (hr:w1.heap[w.heap.size]? =some (.cells #[.slice none 0 0,.slice none 0 0] 32 (0,0))) (hb:Below w.heap.size w w1) (hsz:w1.heap.size=w.heap.size+1) (hW:Below w1.heap.size w1 W)
  (r1:RowAt W g1 L) (r2:RowAt W g2 M) (bx:W.heap[gb]? =some (.cells #[.slice (some ⟨g1,0,none⟩) n n,.slice (some ⟨g2,0,none⟩) n n] 32 (0,0))) (ne:(g1≠g2∧g1≠gb∧g2≠gb)∧w1.heap.size≤g1∧w1.heap.size≤g2∧w1.heap.size≤gb):Made w g1 g2 gb n L M W:=
 ⟨r1,r2,bx,(hW.block _ (by omega)).trans hr,⟨ne.1,by omega,by omega,by omega⟩,hb.trans (hW.mono (by omega))⟩
def At3 (sz:Nat) (a b c:Array Value×TypeId) (g:Nat) (x:Array Value×TypeId):Prop:=(g=sz∧x=a)∨(g=sz+1∧x=b)∨(g=sz+1+1∧x=c)
theorem made_3 {w w1:World} {a b c:Array Value} {ta tb tc:TypeId} {g1 g2 gb n:Nat} {L M:List Int} (hr:w1.heap[w.heap.size]? =some (.cells #[.slice none 0 0,.slice none 0 0] 32 (0,0))) (hb:Below w.heap.size w w1) (hsz:w1.heap.size=w.heap.size+1)
  (h3:At3 w1.heap.size (a,ta) (b,tb) (c,tc) gb (#[.slice (some ⟨g1,0,none⟩) n n,.slice (some ⟨g2,0,none⟩) n n],32)) (h1:At3 w1.heap.size (a,ta) (b,tb) (c,tc) g1 (i64s L,2)) (h2:At3 w1.heap.size (a,ta) (b,tb) (c,tc) g2 (i64s M,2)) (ne:g1≠g2∧g1≠gb∧g2≠gb):
  Made w g1 g2 gb n L M (((w1.alloc (.cells a ta)).alloc (.cells b tb)).alloc (.cells c tc)).drew:=by
 obtain ⟨q1,q2,q3,q4⟩:=heap3 w1 a b c ta tb tc
 have key:∀g x,At3 w1.heap.size (a,ta) (b,tb) (c,tc) g x→(((w1.alloc (.cells a ta)).alloc (.cells b tb)).alloc (.cells c tc)).drew.heap[g]? =some (.cells x.1 x.2 (0,0))∧w1.heap.size≤g:=by
  rintro g x (⟨rfl,rfl⟩ | ⟨rfl,rfl⟩ | ⟨rfl,rfl⟩)
  ·exact ⟨q1,Nat.le_refl _⟩
  ·exact ⟨q2,by omega⟩
  ·exact ⟨q3,by omega⟩
 exact made_mk hr hb hsz q4 (key _ _ h1).1 (key _ _ h2).1 (key _ _ h3).1 ⟨ne,(key _ _ h1).2,(key _ _ h2).2,(key _ _ h3).2⟩
theorem Made.later {w w' wx:World} {g1 g2 gb n:Nat} {L M:List Int} (h:Made w g1 g2 gb n L M wx) (hb:Below wx.heap.size wx w'):Made w g1 g2 gb n L M w':=
 ⟨h.r1.later hb h.r1.lt,h.r2.later hb h.r2.lt,(hb.block _ (yL h.bx)).trans h.bx,(hb.block _ (yL h.res)).trans h.res,h.ne,h.below.trans (hb.mono h.below.size)⟩
theorem Made.set {w wx:World} {g1 g2 gb n k:Nat} {f g:Nat→Int} (h:Made w g1 g2 gb n (part f n k) (part g n k) wx):
  Made w g1 g2 gb n (part f n (k+1)) (part g n (k+1)) ((wx.setCell ⟨g1,k,none⟩ (.int .i64 (f k))).setCell ⟨g2,k,none⟩ (.int .i64 (g k))):=by
 have h1:=heap_setCell_same wx g1 k _ _ (.int .i64 (f k)) h.r1
 rw [part_set] at h1
 have h2:RowAt (wx.setCell ⟨g1,k,none⟩ (.int .i64 (f k))) g2 (part g n k):=(heap_setCell_other _ _ _ _ (Ne.symm h.ne.1.1)).trans h.r2
 have h3:=heap_setCell_same _ g2 k _ _ (.int .i64 (g k)) h2
 rw [part_set] at h3
 have o:∀b,b≠g1→b≠g2→((wx.setCell ⟨g1,k,none⟩ (.int .i64 (f k))).setCell ⟨g2,k,none⟩ (.int .i64 (g k))).heap[b]? =wx.heap[b]? :=fun b n1 n2=>(heap_setCell_other _ _ _ _ n2).trans (heap_setCell_other _ _ _ _ n1)
 exact ⟨(heap_setCell_other _ _ _ _ h.ne.1.1).trans h1,h3,(o _ (Ne.symm h.ne.1.2.1) (Ne.symm h.ne.1.2.2)).trans h.bx,(o _ (Nat.ne_of_lt h.ne.2.1) (Nat.ne_of_lt h.ne.2.2.1)).trans h.res,h.ne,
  (h.below.setCell (p:=⟨g1,k,none⟩) (Nat.le_of_lt h.ne.2.1) _).setCell (p:=⟨g2,k,none⟩) (Nat.le_of_lt h.ne.2.2.1) _⟩
structure MadeCells (g1 g2 gb n k:Nat) (x y u:Value) (wx:World):Prop where
 b0:wx.cell? ⟨gb,0,none⟩=some (.slice (some ⟨g1,0,none⟩) n n)
 b1:wx.cell? ⟨gb,1,none⟩=some (.slice (some ⟨g2,0,none⟩) n n)
 c1:wx.cell? ⟨g1,k,none⟩=some x
 c2:wx.cell? ⟨g2,k,none⟩=some y
 f1:wx.frozen? ⟨g1,k,none⟩=false
 f2:wx.frozen? ⟨g2,k,none⟩=false
 d1:(wx.setCell ⟨g1,k,none⟩ u).cell? ⟨gb,1,none⟩=some (.slice (some ⟨g2,0,none⟩) n n)
 e2:(wx.setCell ⟨g1,k,none⟩ u).cell? ⟨g2,k,none⟩=some y
 g2:(wx.setCell ⟨g1,k,none⟩ u).frozen? ⟨g2,k,none⟩=false
theorem Made.cells {w wx:World} {g1 g2 gb n k:Nat} {L M:List Int} (h:Made w g1 g2 gb n L M wx) (hL:k<L.length) (hM:k<M.length) (u:Value):MadeCells g1 g2 gb n k (.int .i64 (L.getD k 0)) (.int .i64 (M.getD k 0)) u wx:=by
 have hb:(wx.setCell ⟨g1,k,none⟩ u).heap[gb]? =_:=(heap_setCell_other _ _ _ _ (Ne.symm h.ne.1.2.1)).trans h.bx
 have h2:RowAt (wx.setCell ⟨g1,k,none⟩ u) g2 M:=(heap_setCell_other _ _ _ _ (Ne.symm h.ne.1.1)).trans h.r2
 exact ⟨cell_of_row wx gb 0 _ _ _ h.bx,cell_of_row wx gb 1 _ _ _ h.bx,h.r1.cell k hL,h.r2.cell k hM,h.r1.free k,h.r2.free k,cell_of_row _ gb 1 _ _ _ hb,h2.cell k hM,h2.free k⟩
theorem Made.done {w wx:World} {g1 g2 gb n:Nat} {L M:List Int} (h:Made w g1 g2 gb n L M wx):
  (wx.cell? ⟨gb,0,none⟩=some (.slice (some ⟨g1,0,none⟩) n n)∧wx.cell? ⟨gb,1,none⟩=some (.slice (some ⟨g2,0,none⟩) n n)∧wx.cell? ⟨w.heap.size,0,none⟩=some (.slice none 0 0)∧wx.cell? ⟨w.heap.size,1,none⟩=some (.slice none 0 0)∧wx.frozen? ⟨w.heap.size,0,none⟩=false∧wx.frozen? ⟨w.heap.size,1,none⟩=false)∧
  ((wx.setCell ⟨w.heap.size,0,none⟩ (.slice (some ⟨g1,0,none⟩) n n)).setCell ⟨w.heap.size,1,none⟩ (.slice (some ⟨g2,0,none⟩) n n)).heap[w.heap.size]? =some (.cells #[.slice (some ⟨g1,0,none⟩) n n,.slice (some ⟨g2,0,none⟩) n n] 32 (0,0))∧
  (RowAt ((wx.setCell ⟨w.heap.size,0,none⟩ (.slice (some ⟨g1,0,none⟩) n n)).setCell ⟨w.heap.size,1,none⟩ (.slice (some ⟨g2,0,none⟩) n n)) g1 L∧RowAt ((wx.setCell ⟨w.heap.size,0,none⟩ (.slice (some ⟨g1,0,none⟩) n n)).setCell ⟨w.heap.size,1,none⟩ (.slice (some ⟨g2,0,none⟩) n n)) g2 M∧w.heap.size<g1∧w.heap.size<g2∧g1≠g2∧
   Below w.heap.size w ((wx.setCell ⟨w.heap.size,0,none⟩ (.slice (some ⟨g1,0,none⟩) n n)).setCell ⟨w.heap.size,1,none⟩ (.slice (some ⟨g2,0,none⟩) n n))):=by
 have h1:=heap_setCell_same wx w.heap.size 0 _ _ (.slice (some ⟨g1,0,none⟩) n n) h.res
 have h2:=heap_setCell_same _ w.heap.size 1 _ _ (.slice (some ⟨g2,0,none⟩) n n) h1
 have o:∀b,b≠w.heap.size→((wx.setCell ⟨w.heap.size,0,none⟩ (.slice (some ⟨g1,0,none⟩) n n)).setCell ⟨w.heap.size,1,none⟩ (.slice (some ⟨g2,0,none⟩) n n)).heap[b]? =wx.heap[b]? :=fun b nb=>(heap_setCell_other _ _ _ _ nb).trans (heap_setCell_other _ _ _ _ nb)
 exact ⟨⟨cell_of_row wx gb 0 _ _ _ h.bx,cell_of_row wx gb 1 _ _ _ h.bx,cell_of_row wx _ 0 _ _ _ h.res,cell_of_row wx _ 1 _ _ _ h.res,frozen_of_row wx _ 0 _ _ h.res,frozen_of_row wx _ 1 _ _ h.res⟩,h2,
  (o _ (Nat.ne_of_gt h.ne.2.1)).trans h.r1,(o _ (Nat.ne_of_gt h.ne.2.2.1)).trans h.r2,h.ne.2.1,h.ne.2.2.1,h.ne.1.1,(h.below.setCell (p:=⟨w.heap.size,0,none⟩) (Nat.le_refl _) _).setCell (p:=⟨w.heap.size,1,none⟩) (Nat.le_refl _) _⟩
theorem ret_box {fn:Func} {P:Ending→World→Prop} (p:Tmp) (hr:fn.results= #[.cell p 32]) {tmps:Array Value} {w:World} (g:Nat) (a b:Value)
  (hp:tmps.getD p undef= .pointer (some ⟨g,0,none⟩)) (hg:w.heap[g]? =some (.cells #[a,b] 32 (0,0))) (h:P (.returned (.agg #[a,b])) w):bodyPost Tryz.prog fn P .ret ⟨tmps,[]⟩ w:=by
 have r0:=cell_of_row w g 0 _ _ _ hg
 have r1:=cell_of_row w g 1 _ _ _ hg
 refine bodyPost_ret (a:=⟨tmps,[]⟩) (v:=.agg #[a,b]) ?_ rfl h
 have hp':tmps[p]?.getD undef= .pointer (some ⟨g,0,none⟩):=by simpa using hp
 simp [results,hr,hp',go_sem,r0,r1]
def BuildRel (w:World) (g1 g2 gb n:Nat) (f g:Nat→Int) (i:Value) (wr:World):Prop:=∃k,k≤n∧i= .int .i64 k∧Made w g1 g2 gb n (part f n k) (part g n k) wr
theorem build_any (n:Nat) (h1:1≤n) (h8:n≤8) (f g:Nat→Int) (F:Nat) (cap:Array Value) (hF:∀args w,(callFunc F args).run Tryz.prog w= .ok (.enter F args) w) (w:World) (hs:Sides w n f g F cap):
  Calls Tryz.prog 273 #[.int .i64 n,.func (.func F) #[] cap] w fun e w'=>∃g1 g2:Nat,e= .returned (.agg #[.slice (some ⟨g1,0,none⟩) n n,.slice (some ⟨g2,0,none⟩) n n])∧RowAt w' g1 (part f n n)∧RowAt w' g2 (part g n n)∧w.heap.size<g1∧w.heap.size<g2∧g1≠g2∧Below w.heap.size w w':=by
 have HS:=yH hs
 clear hs
 have M1:=make_row n h8 f
 go_enter Tryz.func273,Tryz.ntmps273
 go_upto_region 1 with fail
 have hr:(w.alloc (.cells #[.slice none 0 0,.slice none 0 0] 32)).heap[w.heap.size]? =some (.cells #[.slice none 0 0,.slice none 0 0] 32 (0,0)):=heap_alloc_new w _
 have hb:Below w.heap.size w (w.alloc (.cells #[.slice none 0 0,.slice none 0 0] 32)):=(Below.refl _ _).alloc (Nat.le_refl _) _
 have hsz:(w.alloc (.cells #[.slice none 0 0,.slice none 0 0] 32)).heap.size=w.heap.size+1:=by simp
 generalize w.alloc (.cells #[.slice none 0 0,.slice none 0 0] 32)=w1 at *
 have HR:=yH hr
 have HB:=yH hb
 have HSZ:=yH hsz
 clear hr hb hsz
 go_cut [5] (fun s5 wx=>∃g1 g2 gb,s5= .pointer (some ⟨gb,0,none⟩)∧Made w g1 g2 gb n (part f n 0) (part f n 0) wx)
 case first=>
  go_region
  all_goals
   go_wp2_with fail
   go_meet
   first
    | exact ⟨w1.heap.size,w1.heap.size+1,w1.heap.size+1+1,rfl,made_3 HR.out HB.out HSZ.out (Or.inr (Or.inr ⟨rfl,rfl⟩)) (Or.inl ⟨rfl,rfl⟩) (Or.inr (Or.inl ⟨rfl,rfl⟩)) (by omega)⟩
    | exact ⟨w1.heap.size,w1.heap.size+1+1,w1.heap.size+1,rfl,made_3 HR.out HB.out HSZ.out (Or.inr (Or.inl ⟨rfl,rfl⟩)) (Or.inl ⟨rfl,rfl⟩) (Or.inr (Or.inr ⟨rfl,rfl⟩)) (by omega)⟩
    | exact ⟨w1.heap.size+1,w1.heap.size,w1.heap.size+1+1,rfl,made_3 HR.out HB.out HSZ.out (Or.inr (Or.inr ⟨rfl,rfl⟩)) (Or.inr (Or.inl ⟨rfl,rfl⟩)) (Or.inl ⟨rfl,rfl⟩) (by omega)⟩
    | exact ⟨w1.heap.size+1,w1.heap.size+1+1,w1.heap.size,rfl,made_3 HR.out HB.out HSZ.out (Or.inl ⟨rfl,rfl⟩) (Or.inr (Or.inl ⟨rfl,rfl⟩)) (Or.inr (Or.inr ⟨rfl,rfl⟩)) (by omega)⟩
    | exact ⟨w1.heap.size+1+1,w1.heap.size,w1.heap.size+1,rfl,made_3 HR.out HB.out HSZ.out (Or.inr (Or.inl ⟨rfl,rfl⟩)) (Or.inr (Or.inr ⟨rfl,rfl⟩)) (Or.inl ⟨rfl,rfl⟩) (by omega)⟩
    | exact ⟨w1.heap.size+1+1,w1.heap.size+1,w1.heap.size,rfl,made_3 HR.out HB.out HSZ.out (Or.inl ⟨rfl,rfl⟩) (Or.inr (Or.inr ⟨rfl,rfl⟩)) (Or.inr (Or.inl ⟨rfl,rfl⟩)) (by omega)⟩
 case rest=>
  obtain ⟨g1,g2,gb,rfl,hm⟩:=hcut
  have HM:=yH (show Made w g1 g2 gb n (part f n 0) (part g n 0) _ from by rw [← part_zero f g n];exact hm)
  clear hm HR HB HSZ M1
  clear w1
  go_wp2_with fail
  go_loopw [13] (fun i wr=>BuildRel w g1 g2 gb n f g i wr) (fun i _=>n - (intOf i).toNat)
  case atStart=>exact ⟨0,by omega,rfl,HM.out⟩
  case round=>
   obtain ⟨k,hk,rfl,hm⟩:=hrel
   clear HM
   have HM:=yH hm
   clear hm
   by_cases hlt:k<n
   ·have HC:=yH (show ∀w',Made w g1 g2 gb n (part f n k) (part g n k) w'→Calls Tryz.prog F (#[.int .i64 k]++cap) w' fun e w''=>e= .returned (.tuple #[.int .i64 (f k),.int .i64 (g k)])∧Made w g1 g2 gb n (part f n k) (part g n k) w'' from fun w' hw'=>
     (HS.out k w' hlt hw'.below).mono (by rintro e w'' ⟨h1,j,rfl⟩;exact ⟨h1,hw'.later (Below.drewN (Below.refl _ _) j)⟩))
    have HX:=yH (show ∀w',Made w g1 g2 gb n (part f n k) (part g n k) w'→MadeCells g1 g2 gb n k _ _ (.int .i64 (f k)) w' from fun w' hw'=>hw'.cells (by rw [part_length];exact hlt) (by rw [part_length];exact hlt) _)
    have HT:=yH (show ∀w',Made w g1 g2 gb n (part f n k) (part g n k) w'→_ from fun w' hw'=>hw'.set)
    have HD:=yH (HM.out.later (Below.refl _ _).drew)
    obtain ⟨a0,a1,a2,a3,a4,a5,a6,a7,a8⟩:=HX.out _ HM.out
    generalize (part f n k).getD k 0=x at *
    generalize (part g n k).getD k 0=y at *
    have i1:(0:Int)≤k∧(k:Int)<n:=by omega
    go_wp2_with fail
    go_region_law (go_simp;refine (HC.out _ (by first | exact HM.out | exact HD.out)).mono ?_;rintro e w5 ⟨rfl,hm5⟩;have HM5:=yH hm5;obtain ⟨y0,y1,y2,y3,y4,y5,y6,y7,y8⟩:=HX.out _ hm5;clear hm5)
    all_goals
     have hm6:=HT.out _ HM5.out
     generalize (w5.setCell ⟨g1,k,none⟩ (.int .i64 (f k))).setCell ⟨g2,k,none⟩ (.int .i64 (g k))=w6 at *
     have HM6:=yH hm6
     clear hm6 y0 y1 y2 y3 y4 y5 y6 y7 y8 a0 a1 a2 a3 a4 a5 a6 a7 a8
     go_wp2_with fail
     go_roundw
     case rel=>exact ⟨k+1,by omega,by go_num,HM6.out⟩
     case measure=>simp [intOf];omega
   ·obtain rfl:k=n:=by omega
    obtain ⟨hq1,hq2,hq3⟩:=HM.out.done
    have HQ2:=yH hq2
    have HQ3:=yH hq3
    obtain ⟨c0,c1,c2,c3,c4,c5⟩:=hq1
    clear hq2 hq3
    go_wp2_with fail
    generalize (wr.setCell ⟨w.heap.size,0,none⟩ (.slice (some ⟨g1,0,none⟩) k k)).setCell ⟨w.heap.size,1,none⟩ (.slice (some ⟨g2,0,none⟩) k k)=w9 at *
    exact ret_box 4 rfl w.heap.size _ _ rfl HQ2.out ⟨g1,g2,rfl,HQ3.out⟩
theorem ofside (B:Nat) (p:Option Addr) (n c:Nat) (R:List Int) (k:Nat) (hk:k<n) (w:World) (hB:w.cell? ⟨B,0,none⟩=some (.slice p n c)) (h:Ints w p n c R):
  Calls Tryz.prog 275 #[.int .i64 k,.pointer (some ⟨B,0,none⟩)] w fun e w'=>e= .returned (.tuple #[.int .i64 (R.getD k 0),.int .i64 (R.getD k 0)])∧∃j,w'=w.drewN j:=by
 obtain ⟨g1,o1,rfl,hc1⟩:=h.cell k hk
 clear h
 generalize R.getD k 0=xR at *
 have b1:(0:Int)≤k∧(k:Int)<n:=by omega
 go_enter Tryz.func275,Tryz.ntmps275
 go_wp2_with fail
 go_quiet (fail)
 go_wp2_with fail
 go_ret2
 exact ⟨rfl,_,rfl⟩
def Bx (w:World) (g:Nat) (a b:Value):Prop:=w.heap[g]? =some (.cells #[a,b] 32 (0,0))
theorem Bx.facts {w:World} {g:Nat} {a b:Value} (h:Bx w g a b):w.cell? ⟨g,0,none⟩=some a∧w.cell? ⟨g,1,none⟩=some b∧w.frozen? ⟨g,0,none⟩=false∧w.frozen? ⟨g,1,none⟩=false:=
 ⟨cell_of_row w g 0 _ _ _ h,cell_of_row w g 1 _ _ _ h,frozen_of_row w g 0 _ _ h,frozen_of_row w g 1 _ _ h⟩
theorem Bx.set {w:World} {g:Nat} {a b:Value} (h:Bx w g a b) (x y:Value):Bx ((w.setCell ⟨g,0,none⟩ x).setCell ⟨g,1,none⟩ y) g x y:=
 heap_setCell_same _ g 1 _ _ y (heap_setCell_same w g 0 _ _ x h)
theorem Bx.lt {w:World} {g:Nat} {a b:Value} (h:Bx w g a b):g<w.heap.size:=(yL h)
theorem Bx.later {w w':World} {g:Nat} {a b:Value} (h:Bx w g a b) (hb:Below w.heap.size w w'):Bx w' g a b:=(hb.block _ h.lt).trans h
theorem Bx.fresh (w:World) (a b:Value):Bx (w.alloc (.cells #[a,b] 32)) w.heap.size a b:=heap_alloc_new w _
theorem RowAt.kept {w:World} {g k:Nat} {L:List Int} (h:RowAt w g L) (hk:g≠k) (x y:Value):RowAt ((w.setCell ⟨k,0,none⟩ x).setCell ⟨k,1,none⟩ y) g L:=
 (heap_setCell_other _ _ _ _ hk).trans ((heap_setCell_other _ _ _ _ hk).trans h)
theorem part_ok {f:Nat→Int} {n k:Nat} (h:∀i,i<n→ -9223372036854775808≤f i∧f i≤9223372036854775807):∀x∈part f n k,-9223372036854775808≤x∧x≤9223372036854775807:=by
 intro x hx
 simp only [part,List.mem_map,List.mem_range] at hx
 obtain ⟨i,hi,rfl⟩:=hx
 split
 ·exact h i hi
 ·omega
def MadeBox (w:World) (f g:Nat→Int) (n:Nat) (v:Value) (w':World):Prop:=
 ∃g1 g2:Nat,v= .agg #[.slice (some ⟨g1,0,none⟩) n n,.slice (some ⟨g2,0,none⟩) n n]∧Ints w' (some ⟨g1,0,none⟩) n n (part f n n)∧Ints w' (some ⟨g2,0,none⟩) n n (part g n n)∧Below w.heap.size w w'
theorem RowAt.part {w:World} {g n:Nat} {f:Nat→Int} (h:RowAt w g (part f n n)) (hf:∀i,i<n→ -9223372036854775808≤f i∧f i≤9223372036854775807):Ints w (some ⟨g,0,none⟩) n n (part f n n):=by
 have:=h.ints (part_ok hf)
 rw [part_length] at this
 exact this
theorem box_laid {w0 w w':World} {R g1 g2 n:Nat} {a b:Value} {f g:Nat→Int} (hx:Bx w R a b) (hR:w0.heap.size≤R) (hw:Below w0.heap.size w0 w) (hb:Below w.heap.size w w')
  (h1:RowAt w' g1 (part f n n)) (h2:RowAt w' g2 (part g n n)) (l1:w.heap.size<g1) (l2:w.heap.size<g2) (hf:∀i,i<n→ -9223372036854775808≤f i∧f i≤9223372036854775807) (hg:∀i,i<n→ -9223372036854775808≤g i∧g i≤9223372036854775807):
  Bx ((w'.setCell ⟨R,0,none⟩ (.slice (some ⟨g1,0,none⟩) n n)).setCell ⟨R,1,none⟩ (.slice (some ⟨g2,0,none⟩) n n)) R (.slice (some ⟨g1,0,none⟩) n n) (.slice (some ⟨g2,0,none⟩) n n)∧
  MadeBox w0 f g n (.agg #[.slice (some ⟨g1,0,none⟩) n n,.slice (some ⟨g2,0,none⟩) n n]) ((w'.setCell ⟨R,0,none⟩ (.slice (some ⟨g1,0,none⟩) n n)).setCell ⟨R,1,none⟩ (.slice (some ⟨g2,0,none⟩) n n)):=by
 have hlt:=hx.lt
 refine ⟨(hx.later hb).set _ _,g1,g2,rfl,(h1.kept (by omega) _ _).part hf,(h2.kept (by omega) _ _).part hg,?_⟩
 exact ((hw.trans (hb.mono hw.size)).setCell (p:=⟨R,0,none⟩) hR _).setCell (p:=⟨R,1,none⟩) hR _
theorem of_any (p:Option Addr) (n c:Nat) (R:List Int) (h:1≤n∧n≤8) (w:World) (hR:Ints w p n c R):
  Calls Tryz.prog 245 #[.slice p n c] w fun e w'=>∃v,e= .returned v∧MadeBox w (fun k=>R.getD k 0) (fun k=>R.getD k 0) n v w':=by
 have hD:=dimensions_any (n:Int)
 rw [decide_eq_true (show 1≤(n:Int)∧(n:Int)≤8 by omega)] at hD
 have HD:=yH hD
 have HR:=yH hR
 clear hD
 go_enter Tryz.func245,Tryz.ntmps245
 go_upto_region 1 with fail
 have x0:=boxed w (.slice p n c) 24
 have s0:(w.alloc (.cells #[.slice p n c] 24)).heap.size=w.heap.size+1:=by simp
 have b0:Below w.heap.size w (w.alloc (.cells #[.slice p n c] 24)):=(Below.refl _ _).alloc (Nat.le_refl _) _
 generalize w.alloc (.cells #[.slice p n c] 24)=w0 at *
 have x1:=Bx.fresh w0 (.slice none 0 0) (.slice none 0 0)
 have b1:Below w0.heap.size w0 (w0.alloc (.cells #[.slice none 0 0,.slice none 0 0] 32)):=(Below.refl _ _).alloc (Nat.le_refl _) _
 rw [s0] at x1
 generalize w0.alloc (.cells #[.slice none 0 0,.slice none 0 0] 32)=w1 at *
 have X:=yH x1
 have hb0:=(b1.cell (p:=⟨w.heap.size,0,none⟩) (by show w.heap.size<_;omega)).trans x0
 have B1:=yH (b0.trans (b1.mono (by omega)))
 clear x0 s0 b0 x1 b1
 clear w0
 have HE:=yH (build_any n h.1 h.2 (fun k=>R.getD k 0) (fun k=>R.getD k 0) 275 #[.pointer (some ⟨w.heap.size,0,none⟩)] (enter_side Tryz.func275 (by kernel_rfl) rfl) w1 (fun k w'' hk hb=>ofside w.heap.size p n c R k hk w'' ((hb.cell (p:=⟨w.heap.size,0,none⟩) (by have:=X.out.lt;show w.heap.size<_;omega)).trans hb0) ((hR.later B1.out).later hb)))
 clear h hR
 go_wp2_with ((go_at_call 263;refine (HD.out _).mono ?_;rintro _ w' ⟨rfl,rfl⟩))
 refine HE.out.mono ?_
 rintro _ w2 ⟨g1,g2,rfl,h1,h2,l1,l2,ne,hb⟩
 obtain ⟨c0,c1,c2,c3⟩:=(X.out.later hb).facts
 have HL:=yH (box_laid X.out (Nat.le_succ _) B1.out hb h1 h2 l1 l2 (fun _ hk=>HR.out.get _ hk) (fun _ hk=>HR.out.get _ hk))
 clear h1 h2 l1 l2 ne hb X B1 hb0
 go_wp2_with fail
 generalize (w2.setCell ⟨w.heap.size+1,0,none⟩ (.slice (some ⟨g1,0,none⟩) n n)).setCell ⟨w.heap.size+1,1,none⟩ (.slice (some ⟨g2,0,none⟩) n n)=w9 at *
 exact ret_box 2 rfl (w.heap.size+1) _ _ rfl HL.out.1 ⟨_,rfl,HL.out.2⟩
theorem hullside (B C:Nat) (p q r s:Option Addr) (n c e f g:Nat) (R S T U:List Int) (k:Nat) (hk:k<n) (w:World) (hB:BoxAt w B p n c q n e) (hC:BoxAt w C r n f s n g) (h1:Ints w p n c R) (h2:Ints w q n e S) (h3:Ints w r n f T) (h4:Ints w s n g U):
  Calls Tryz.prog 274 #[.int .i64 k,.pointer (some ⟨B,0,none⟩),.pointer (some ⟨C,0,none⟩)] w fun e w'=>e= .returned (.tuple #[.int .i64 (min (R.getD k 0) (T.getD k 0)),.int .i64 (max (S.getD k 0) (U.getD k 0))])∧∃j,w'=w.drewN j:=by
 obtain ⟨hB0,hB1⟩:=hB
 obtain ⟨hC0,hC1⟩:=hC
 obtain ⟨g1,o1,rfl,hc1⟩:=h1.cell k hk
 obtain ⟨g2,o2,rfl,hc2⟩:=h2.cell k hk
 obtain ⟨g3,o3,rfl,hc3⟩:=h3.cell k hk
 obtain ⟨g4,o4,rfl,hc4⟩:=h4.cell k hk
 clear h1 h2 h3 h4
 generalize R.getD k 0=xR at *
 generalize S.getD k 0=xS at *
 generalize T.getD k 0=xT at *
 generalize U.getD k 0=xU at *
 have b1:(0:Int)≤k∧(k:Int)<n:=by omega
 go_enter Tryz.func274,Tryz.ntmps274
 go_wp2_with fail
 go_quiet (fail)
 go_wp2_with fail
 go_ret2
 exact ⟨rfl,_,rfl⟩
theorem max_ok {x y:Int} (hx: -9223372036854775808≤x∧x≤9223372036854775807) (hy: -9223372036854775808≤y∧y≤9223372036854775807): -9223372036854775808≤max x y∧max x y≤9223372036854775807:=by omega
theorem min_ok {x y:Int} (hx: -9223372036854775808≤x∧x≤9223372036854775807) (hy: -9223372036854775808≤y∧y≤9223372036854775807): -9223372036854775808≤min x y∧min x y≤9223372036854775807:=by omega
end Go.Proofs.YtinihaflmdihaaaGreat
