/- ShaAll, ShaBig, ShaFill, ShaRow, ShaMore, ShaWrite. -/
import Derived.Deep.RegionHeld3
import Derived.Deep.RegionLaw
import Derived.Test.YtinihaflmdihaaaGreatL13
set_option maxRecDepth 100000
set_option maxHeartbeats 8000000
set_option linter.all false
namespace Go.Proofs.YtinihaflmdihaaaGreat
open Go.RowKit
theorem Bytes.drop64 {w:World} {g o ln cp:Nat} {B:List Nat} (h:Bytes w (some ⟨g,o,none⟩) ln cp B) (hl:64≤ln):Bytes w (some ⟨g,o+64,none⟩) (ln - 64) (cp - 64) (B.drop 64):=by
 have:=h.size
 have:=h.le
 refine ⟨by simp;omega,by omega,Sm.allB_drop h.ok 64,Or.inr ⟨g,o+64,rfl,?_⟩⟩
 have H:B≠[]:=by rintro rfl;have:=h.size;simp at this;omega
 obtain ⟨E,A,G,C⟩:=h.ne H
 obtain ⟨rfl,rfl⟩:g=E∧o=A:=by simpa using G
 exact C.drop 64
structure TA (w wr:World) (v:Sm.V8) (gk:Nat):Prop where
 below:Below w.heap.size w wr
 box:wr.heap[w.heap.size]? =some (.cells (u32s v.list) 300 (0,0))
 res:∃C,wr.heap[w.heap.size+1]? =some (.cells C 300 (0,0))∧C.size=8
 ks:wr.heap[gk]? =some (.cells (u32s Sm.ks) 334 (0,0))
 gk:w.heap.size+1<gk
theorem TA.later {w wr w':World} {v:Sm.V8} {gk:Nat} (h:TA w wr v gk) (hb:Below wr.heap.size wr w'):TA w w' v gk:=by
 obtain ⟨C,A,E⟩:=h.res
 have G:=(yL h.box)
 have H:=(yL A)
 have B:=(yL h.ks)
 exact ⟨h.below.trans (hb.mono h.below.size),(hb.block _ G).trans h.box,⟨C,(hb.block _ H).trans A,E⟩,(hb.block _ B).trans h.ks,h.gk⟩
theorem TA.set {w wr:World} {v:Sm.V8} {gk:Nat} (h:TA w wr v gk) (u:Sm.V8):TA w (wr.setRow w.heap.size (u32s u.list)) u gk:=by
 obtain ⟨C,A,B⟩:=h.res
 have:=h.gk
 exact ⟨Below.setRow h.below (Nat.le_refl _) _,setRow_heap _ _ _ _ _ _ h.box,⟨C,(setRow_other _ _ _ _ (by omega)).trans A,B⟩,(setRow_other _ _ _ _ (by omega)).trans h.ks,h.gk⟩
theorem TA.start (w w1:World) (v:Sm.V8) (C:Array Value) (h8:C.size=8) (hb:Below ((w.alloc (.cells (u32s v.list) 300)).alloc (.cells C 300)).heap.size ((w.alloc (.cells (u32s v.list) 300)).alloc (.cells C 300)) w1):
  TA w (w1.alloc (.cells (u32s Sm.ks) 334)) v w1.heap.size:=by
 have E:((w.alloc (.cells (u32s v.list) 300)).alloc (.cells C 300)).heap.size=w.heap.size+2:=by simp
 have B:=hb.size
 rw [E] at B hb
 have A:Below w.heap.size w w1:=(((Below.refl w.heap.size w).alloc (Nat.le_refl _) _).alloc (by simp) _).trans (hb.mono (by omega))
 refine ⟨A.alloc A.size _,?_,⟨C,?_,h8⟩,heap_alloc_new _ _,by omega⟩
 ·rw [Below.heap_alloc _ _ _ (by omega),hb.block _ (by omega)];exact heap_alloc2_old w _ _
 ·rw [Below.heap_alloc _ _ _ (by omega),hb.block _ (by omega)];exact heap_alloc2_new w _ _
theorem size8 (v:Sm.V8):(u32s v.list).size=8:=rfl
def y5P (w:World) (_p:Option Addr) (B:List Nat) (v:Sm.V8) (gk:Nat) (s:Value) (wr:World):Prop:=
 ∃n q len cap,64*n≤B.length∧s= .slice q len cap∧TA w wr (Sm.blocks B v n) gk∧Bytes w q len cap (B.drop (64*n))
theorem x1s (v:Sm.V8) (hv:v.ok) (B:List Nat) (p:Option Addr) (len cap:Nat) (w:World) (hB:Bytes w p len cap B) (hm:B.length%64=0):
  Calls Tryz.prog 277 #[.agg (u32s v.list),.slice p len cap] w fun e w'=>e= .returned (.agg (u32s (Sm.blocks B v (B.length/64)).list))∧Below w.heap.size w w':=by
 obtain ⟨a,b,c,d,e,f,g,h⟩:=v
 have HV:=yH hv
 have HB:=yH hB
 have HM:=yH hm
 clear hv hB hm
 have hz:=(zero_of_info Z62).1
 show Calls Tryz.prog 277 #[.agg #[.int .u32 a,.int .u32 b,.int .u32 c,.int .u32 d,.int .u32 e,.int .u32 f,.int .u32 g,.int .u32 h],.slice p len cap] w _
 go_enter Tryz.func277,Tryz.ntmps277
 go_wp2_with fail
 refine (x5V _).mono ?_
 rintro _ t ⟨rfl,m⟩
 have A:=yH m
 clear m
 go_wp2_with (refine wpList_store_row (by rfl) 334 _ _ (by rfl) t.heap.size (u32s Sm.ks) (by rfl) (by rfl) _ _ (heap_alloc_new _ _) S62 (by simp [u32s,zeros];rfl) y3o ?_;rw [x04])
 generalize hWB:t.alloc (.cells (u32s Sm.ks) 334)=WB
 have o:TA w WB ⟨a,b,c,d,e,f,g,h⟩ t.heap.size:=by
  subst hWB
  exact TA.start w t _ _ rfl A.out
 have HT:=yH o
 clear o hWB A
 go_simp
 generalize t.heap.size=gk at *
 go_loopw [1] (fun s wr=>y5P w p B ⟨a,b,c,d,e,f,g,h⟩ gk s wr) (fun s _=>lenOf s)
 case atStart=>exact ⟨0,p,len,cap,by omega,rfl,HT.out,by simpa using HB.out⟩
 case round=>
  obtain ⟨n,q,ln,cp,hn,rfl,Y,L⟩:=hrel
  obtain ⟨V,z⟩:∃V,V=Sm.blocks B ⟨a,b,c,d,e,f,g,h⟩ n:=⟨_,rfl⟩
  rw [← z] at Y
  have W:V.ok:=by rw [z];exact Sm.blocks_ok HV.out n
  obtain ⟨X,r⟩:∃X,X=B.drop (64*n):=⟨_,rfl⟩
  rw [← r] at L
  have R:X.length=B.length - 64*n:=by rw [r];simp
  have hm:=HM.out
  have U:=L.size
  have AA:=L.le
  have O:=yH z
  have HX:=yH r
  have HO:=yH W
  have M:=yH Y
  have A:=yH L
  have k:=yH U
  have u:=yH R
  by_cases h0:ln=0
  ·have AB:X=[]:=List.length_eq_zero_iff.1 (by omega)
   have N:B.length/64=n:=by omega
   have HD:=yH N
   obtain ⟨C,hC,l⟩:=Y.res
   have HC:=yH hC
   have A7:=yH l
   clear z r W Y L R hm U AA AB N hC l
   subst h0
   go_wp2_with (first | (refine wpList_load_row (by rfl) 300 _ (by rfl) w.heap.size (by rfl) 300 _ (0,0) _ M.out.box A32 (by rfl) (by exact S32) ?_) | (refine wpList_store_row (by rfl) 300 _ _ (by rfl) (w.heap.size+1) (u32s V.list) (by rfl) (by rfl) _ _ HC.out (by exact S32) (by exact A7.out) (x2a _) ?_))
   refine x0h 4 (by kernel_rfl) (w.heap.size+1) _ _ A32 S32 rfl (setRow_heap _ _ _ _ _ _ HC.out) rfl ⟨?_,?_⟩
   ·rw [HD.out,← O.out]
   ·exact Below.setRow M.out.below (by omega) _
  ·have AL:64≤ln:=by omega
   have Q:X≠[]:=by
    intro e
    have:=congrArg List.length e
    simp only [List.length_nil] at this
    omega
   have j:Bytes wr q ln cp X:=L.later Y.below L.lt
   obtain ⟨gb,ob,rfl,hx⟩:=j.ne Q
   have Z:=yH hx
   have AF:gb<w.heap.size:=L.lt gb ob rfl Q
   have A8:64≤cp:=by omega
   clear z r W Y L R hm U hx Q j
   have hz:=(zero_of_info Z62).1
   rcases Nat.lt_or_eq_of_le A8 with y | y
   ·go_wp2_with fail
    refine (x7O X A.out.ok (by have:=k.out;omega) gb ob cp (by omega) wr Z.out).mono ?_
    rintro _ P ⟨rfl,G⟩
    have J:TA w (P.alloc (.cells (u32s (Sm.sched X)) 334)) V gk:=(M.out.later G).later ((Below.refl _ _).alloc (Nat.le_refl _) _)
    have E:=yH J
    have A6:=yH G
    clear J G
    go_wp2_with (first | (refine wpList_store_row (by rfl) 334 _ _ (by rfl) P.heap.size (u32s (Sm.sched X)) (by rfl) (by rfl) _ _ (heap_alloc_new _ _) (by rw [x17];exact S62) (by rw [x17];simp [u32s,zeros]) (x2a _) ?_;rw [x04]) | (refine wpList_load_row (by rfl) 300 _ (by rfl) w.heap.size (by rfl) 300 _ (0,0) _ E.out.box A32 (by rfl) (by exact S32) ?_))
    refine (x8p V HO.out (Sm.sched X) Sm.ks (Sm.sched_ok A.out.ok) Sm.ks_ok (Sm.length_sched X) rfl P.heap.size gk _ (heap_alloc_new _ _) E.out.ks).mono ?_
    rintro _ w4 ⟨rfl,I⟩
    have H:=E.out.later I
    have K:=yH H
    clear H I
    go_wp2_with (refine wpList_store_row (by rfl) 300 _ _ (by rfl) w.heap.size (u32s (Sm.turn Sm.ks (Sm.sched X) V).list) (by rfl) (by rfl) _ _ K.out.box (by rw [size8];exact S32) (by rw [size8,size8]) (x2a _) ?_)
    go_roundw
    case rel=>
     refine ⟨n+1,_,_,_,by have:=u.out;have:=k.out;omega,rfl,?_,?_⟩
     ·rw [Sm.blocks,← O.out,← HX.out];exact K.out.set _
     ·have e:B.drop (64*(n+1))=X.drop 64:=by rw [HX.out,List.drop_drop];congr 1
      rw [e]
      exact A.out.drop64 (by omega)
    case measure=>simp [lenOf];omega
   ·subst y
    obtain rfl:ln=64:=by omega
    go_wp2_with fail
    refine (x7O X A.out.ok (by have:=k.out;omega) gb ob 64 (by omega) wr Z.out).mono ?_
    rintro _ P ⟨rfl,G⟩
    have J:TA w (P.alloc (.cells (u32s (Sm.sched X)) 334)) V gk:=(M.out.later G).later ((Below.refl _ _).alloc (Nat.le_refl _) _)
    have E:=yH J
    have A6:=yH G
    clear J G
    go_wp2_with (first | (refine wpList_store_row (by rfl) 334 _ _ (by rfl) P.heap.size (u32s (Sm.sched X)) (by rfl) (by rfl) _ _ (heap_alloc_new _ _) (by rw [x17];exact S62) (by rw [x17];simp [u32s,zeros]) (x2a _) ?_;rw [x04]) | (refine wpList_load_row (by rfl) 300 _ (by rfl) w.heap.size (by rfl) 300 _ (0,0) _ E.out.box A32 (by rfl) (by exact S32) ?_))
    refine (x8p V HO.out (Sm.sched X) Sm.ks (Sm.sched_ok A.out.ok) Sm.ks_ok (Sm.length_sched X) rfl P.heap.size gk _ (heap_alloc_new _ _) E.out.ks).mono ?_
    rintro _ w4 ⟨rfl,I⟩
    have H:=E.out.later I
    have K:=yH H
    clear H I
    go_wp2_with (refine wpList_store_row (by rfl) 300 _ _ (by rfl) w.heap.size (u32s (Sm.turn Sm.ks (Sm.sched X) V).list) (by rfl) (by rfl) _ _ K.out.box (by rw [size8];exact S32) (by rw [size8,size8]) (x2a _) ?_)
    go_roundw
    case rel=>
     refine ⟨n+1,_,_,_,by have:=u.out;have:=k.out;omega,rfl,?_,?_⟩
     ·rw [Sm.blocks,← O.out,← HX.out];exact K.out.set _
     ·have e:B.drop (64*(n+1))=X.drop 64:=by rw [HX.out,List.drop_drop];congr 1
      rw [e]
      have e2:X.drop 64=[]:=List.drop_eq_nil_of_le (by have:=k.out;omega)
      rw [e2]
      exact ⟨rfl,by omega,fun x hx=>by simp at hx,Or.inr ⟨gb,ob,rfl,fun i hi=>by simp at hi⟩⟩
    case measure=>simp [lenOf]
theorem A59:Tryz.prog.underlying 305=some (.array 8 5):=by kernel_rfl
theorem Z59:(Tryz.prog.info? 305).map (fun i=>(i.zero,i.size))=some (some (.agg (u8s (zeros 8))),8):=by kernel_rfl
theorem S59:(Tryz.prog.info? 305).map (·.size)=some 8:=by kernel_rfl
structure BF (T:TypeId) (N:Nat) (w wr:World) (r g:Nat) (L:List Nat):Prop where
 below:Below w.heap.size w wr
 res:∃C,wr.heap[r]? =some (.cells C T (0,0))∧C.size=N
 row:wr.heap[g]? =some (.cells (u8s L) T (0,0))
 lr:w.heap.size≤r
 lg:w.heap.size≤g
 ne:r≠g
theorem BF.store {T:TypeId} {N:Nat} {w wr:World} {r g:Nat} {p q:List Nat} {y:Nat} (h:BF T N w wr r g (p++y::q)) (k:Nat) (hk:p.length=k) (x:Nat):
  BF T N w (wr.setCell ⟨g,k,none⟩ (.int .u8 (x:Nat))) r g (p++x::q):=by
 obtain ⟨C,B,A⟩:=h.res
 refine ⟨h.below.setCell h.lg _,⟨C,?_,A⟩,?_,h.lr,h.lg,h.ne⟩
 ·rw [heap_setCell_other _ _ _ _ h.ne];exact B
 ·rw [heap_setCell_same _ _ _ _ _ _ h.row,x6C p q y x k hk]
def x4G (n:Nat):Nat→List Nat
 | 0=>[]
 | k+1=>x4G n k++[Sm.big n k]
theorem x3T (n k:Nat):(x4G n k).length=k:=by
 induction k with
 | zero=>rfl
 | succ k ih=>simp [x4G,ih]
def y3p (w:World) (r g n:Nat) (i:Value) (wr:World):Prop:=
 ∃k:Nat,k≤8∧i= .int .i64 k∧BF 305 8 w wr r g (x4G n k++zeros (8 - k))
theorem x5v (n:Nat) (_hn:n<18446744073709551616) (w:World):
  Calls Tryz.prog 247 #[.int .u64 n] w fun e w'=>e= .returned (.agg (u8s (Sm.bigs n)))∧Below w.heap.size w w':=by
 have N:=(zero_of_info Z59).1
 go_enter Tryz.func247,Tryz.ntmps247
 go_wp2_with fail
 generalize hWB:(w.alloc (.cells (u8s (zeros 8)) 305)).alloc (.cells (u8s (zeros 8)) 305)=WB
 have J:BF 305 8 w WB w.heap.size (w.heap.size+1) (zeros 8):=by
  subst hWB
  exact ⟨((Below.refl _ _).alloc (Nat.le_refl _) _).alloc (by simp) _,⟨_,heap_alloc2_old w _ _,by simp [u8s,zeros]⟩,heap_alloc2_new w _ _,by omega,by omega,by omega⟩
 have FF:=yH J
 clear J hWB N
 go_loopw [5] (fun i wr=>y3p w w.heap.size (w.heap.size+1) n i wr) (fun i _=>8 - (intOf i).toNat)
 case atStart=>exact ⟨0,by omega,rfl,FF.out⟩
 case round=>
  obtain ⟨k,Q,rfl,K⟩:=hrel
  have B:=yH K
  clear K FF
  by_cases hlt:k<8
  ·have L:wr.cell? ⟨w.heap.size+1,k,none⟩=some (.int .u8 ((x4G n k++zeros (8 - k)).getD k 0:Nat)):=x1k B.out.row k (by simp [x3T,zeros];omega)
   have O:wr.frozen? ⟨w.heap.size+1,k,none⟩=false:=frozen_of_row wr _ k _ _ B.out.row
   have P:(0:Int)≤8*(7 - k)∧8*(7 - (k:Int))≤64:=by omega
   go_wp2_with fail
   go_roundw
   case rel=>
    show y3p _ _ _ _ _ _
    rw [show (n:Int)/2^(8*(7 - k))%256=((Sm.big n k:Nat):Int) from by
     unfold Sm.big;rw [Int.natCast_emod,Int.natCast_ediv,Int.natCast_pow];rfl]
    refine ⟨k+1,by omega,by go_num,?_⟩
    have e:x4G n (k+1)++zeros (8 - (k+1))=x4G n k++Sm.big n k::zeros (8 - (k+1)):=by
     rw [x4G,List.append_assoc];rfl
    rw [e]
    refine BF.store (y:=0) ?_ k (x3T n k) _
    rw [show 8 - (k+1)=8 - k - 1 from by omega,← x1X (by omega)]
    exact B.out
   case measure=>simp [intOf];omega
  ·obtain rfl:k=8:=by omega
   obtain ⟨C,H,E⟩:=B.out.res
   have I:=yH H
   have G:=yH E
   clear H E
   have A:wr.heap[w.heap.size+1]? =some (.cells (u8s (Sm.bigs n)) 305 (0,0)):=B.out.row
   have M:=yH A
   clear A
   go_wp2_with (first | (refine wpList_load_row (by rfl) 305 _ (by rfl) (w.heap.size+1) (by rfl) 305 _ (0,0) _ M.out A59 (by rfl) (by exact S59) ?_) | (refine wpList_store_row (by rfl) 305 _ _ (by rfl) w.heap.size (u8s (Sm.bigs n)) (by rfl) (by rfl) _ _ I.out (by exact S59) (by exact G.out) (x0b _) ?_))
   refine x0h 2 (by kernel_rfl) w.heap.size _ _ A59 S59 rfl (setRow_heap _ _ _ _ _ _ I.out) rfl ⟨rfl,?_⟩
   exact Below.setRow B.out.below (Nat.le_refl _) _
theorem U31:Tryz.prog.underlying 241=some (.int .u32):=by kernel_rfl
theorem S31:(Tryz.prog.info? 241).map (·.size)=some 1:=by kernel_rfl
def x2M (l:List Nat):Nat→List Nat
 | 0=>[]
 | k+1=>x2M l k++Sm.bytes4 (l.getD k 0)
theorem x2q (l:List Nat) (k:Nat):(x2M l k).length=4*k:=by
 induction k with
 | zero=>rfl
 | succ k ih=>simp [x2M,ih,Sm.bytes4];omega
def y3q (w:World) (r g:Nat) (l:List Nat) (i:Value) (wr:World):Prop:=
 ∃k:Nat,k≤8∧i= .int .i64 k∧BF 30 32 w wr r g (x2M l k++zeros (32 - 4*k))
theorem x80 (v:Sm.V8) (hv:v.ok) (w:World):
  Calls Tryz.prog 279 #[.agg (u32s v.list)] w fun e w'=>e= .returned (.agg (u8s (Sm.bytesOf v)))∧Below w.heap.size w w':=by
 have X:=(zero_of_info Z25).1
 have o:=yH hv
 clear hv
 go_enter Tryz.func279,Tryz.ntmps279
 go_wp2_with (refine wpList_load_row (by rfl) 300 _ (by rfl) w.heap.size (by rfl) 300 _ (0,0) _ ((Below.heap_alloc _ _ _ (by simp;omega)).trans (heap_alloc2_old w _ _)) A32 (by rfl) (by exact S32) ?_)
 generalize hWB:((w.alloc (.cells (u32s v.list) 300)).alloc (.cells (u8s (zeros 32)) 30)).alloc (.cells (u8s (zeros 32)) 30)=WB
 have P:BF 30 32 w WB (w.heap.size+1) (w.heap.size+2) (zeros 32):=by
  subst hWB
  refine ⟨(((Below.refl _ _).alloc (Nat.le_refl _) _).alloc (by simp) _).alloc (by simp;omega) _,⟨_,(Below.heap_alloc _ _ _ (by simp)).trans (heap_alloc2_new w _ _),by simp [u8s,zeros]⟩,?_,by omega,by omega,by omega⟩
  have:=heap_alloc_new ((w.alloc (.cells (u32s v.list) 300)).alloc (.cells (u8s (zeros 32)) 30)) (.cells (u8s (zeros 32)) 30)
  rw [show ((w.alloc (.cells (u32s v.list) 300)).alloc (.cells (u8s (zeros 32)) 30)).heap.size=w.heap.size+2 from by simp] at this
  exact this
 have FF:=yH P
 clear P hWB X
 go_simp
 go_loopw [7] (fun i wr=>y3q w (w.heap.size+1) (w.heap.size+2) v.list i wr) (fun i _=>8 - (intOf i).toNat)
 case atStart=>exact ⟨0,by omega,rfl,FF.out⟩
 case round=>
  obtain ⟨k,g,rfl,Q⟩:=hrel
  have E:=yH Q
  clear Q FF
  by_cases hlt:k<8
  ·have M:=fun w'=>x4e A32 U31 rfl S31 (u32s v.list) k hlt _ (x6b v.list k (by simpa [Sm.V8.list] using hlt)) w'
   obtain ⟨x,L⟩:∃x,x=v.list.getD k 0:=⟨_,rfl⟩
   rw [← L] at M
   have Y:=yH L
   clear L
   have J:∀i,i<32→wr.cell? ⟨w.heap.size+2,i,none⟩=some (.int .u8 ((x2M v.list k++zeros (32 - 4*k)).getD i 0:Nat)):=fun i hi=>x1k E.out.row i (by simp [x2q,zeros];omega)
   have I:∀i,wr.frozen? ⟨w.heap.size+2,i,none⟩=false:=fun i=>frozen_of_row wr _ i _ _ E.out.row
   have m:=J (4*k) (by omega)
   have l:=J (4*k+1) (by omega)
   have j:=J (4*k+2) (by omega)
   have n:=J (4*k+3) (by omega)
   have f:=I (4*k)
   have h:=I (4*k+1)
   have c:=I (4*k+2)
   have d:=I (4*k+3)
   clear J I
   go_wp2_with fail
   go_roundw
   case rel=>
    show y3q _ _ _ _ _ _
    have W:(x:Int)/16777216%256=((x/16777216%256:Nat):Int):=by omega
    have a:(x:Int)/65536%256=((x/65536%256:Nat):Int):=by omega
    have b:(x:Int)/256%256=((x/256%256:Nat):Int):=by omega
    have U:(x:Int)%256=((x%256:Nat):Int):=by omega
    rw [W,a,b,U]
    refine ⟨k+1,by omega,by go_num,?_⟩
    have e:x2M v.list (k+1)++zeros (32 - 4*(k+1))=(((x2M v.list k++[x/16777216%256])++[x/65536%256])++[x/256%256])++x%256::zeros (32 - 4*(k+1)):=by
     rw [x2M,← Y.out];simp [Sm.bytes4]
    have K:=x2q v.list k
    rw [e]
    refine BF.store (y:=0) ?_ (4*k+3) (by simp [K]) _
    rw [List.append_assoc]
    refine BF.store (y:=0) ?_ (4*k+2) (by simp [K]) _
    rw [List.append_assoc]
    refine BF.store (y:=0) ?_ (4*k+1) (by simp [K]) _
    rw [List.append_assoc]
    refine BF.store (y:=0) ?_ (4*k) K _
    have H:(0::([0]++(0::([0]++zeros (32 - 4*(k+1))))))=zeros (32 - 4*k):=by
     rw [show 32 - 4*k=(32 - 4*(k+1))+4 from by omega];rfl
    first
     | (rw [show ∀A:List Nat,A++0::([0]++0::([0]++zeros (32 - 4*(k+1))))=A++zeros (32 - 4*k) from fun A=>by rw [← H]];exact E.out)
     | (have:=E.out;rw [← H] at this;simpa using this)
   case measure=>simp [intOf];omega
  ·obtain rfl:k=8:=by omega
   obtain ⟨C,O,G⟩:=E.out.res
   have R:=yH O
   have N:=yH G
   clear O G
   have B:wr.heap[w.heap.size+2]? =some (.cells (u8s (Sm.bytesOf v)) 30 (0,0)):=E.out.row
   have Z:=yH B
   clear B
   go_wp2_with (first | (refine wpList_load_row (by rfl) 30 _ (by rfl) (w.heap.size+2) (by rfl) 30 _ (0,0) _ Z.out A25 (by rfl) (by exact S25) ?_) | (refine wpList_store_row (by rfl) 30 _ _ (by rfl) (w.heap.size+1) (u8s (Sm.bytesOf v)) (by rfl) (by rfl) _ _ R.out (by exact S25) (by exact N.out) (x0b _) ?_))
   refine x0h 2 (by kernel_rfl) (w.heap.size+1) _ _ A25 S25 rfl (setRow_heap _ _ _ _ _ _ R.out) rfl ⟨rfl,?_⟩
   exact Below.setRow E.out.below (by omega) _
theorem x9T (Z:Nat) (h:Z<64) (w:World):(Instr.makeSlice 45 (.int .u64 (1+(Z:Nat))) (.int .u64 (1+(Z:Nat)+8))).run Tryz.prog w= .ok (.slice (some ⟨w.heap.size,0,none⟩) (1+Z) (1+Z+8)) (w.alloc (.cells (u8s (zeros (1+Z+8))) 5)):=by
 obtain ⟨E,I,B,A,C⟩:=info_parts I5
 have:=run_make (P:=Tryz.prog) w 45 5 E _ A22 I B .u64 .u64 (1+(Z:Nat)) (1+(Z:Nat)+8) (by omega) (by omega) (by rw [C];omega) (by omega)
 rw [this,A,x9A]
 have G:(1+(Z:Int)).toNat=1+Z:=by omega
 have H:(1+(Z:Int)+8).toNat=1+Z+8:=by omega
 rw [G,H,Nat.mul_one]
theorem y4W (n:Nat):Sm.allB (Sm.fill n):=by
 intro x hx
 simp only [Sm.fill,Sm.bigs,List.mem_cons,List.mem_append,List.mem_replicate,List.not_mem_nil,or_false] at hx
 rcases hx with rfl | ⟨_,rfl⟩ | rfl | rfl | rfl | rfl | rfl | rfl | rfl | rfl<;>first | omega | exact Sm.big_lt _ _
theorem x81 (L:Nat) (hL:L<1152921504606846976) (w:World):
  Calls Tryz.prog 278 #[.int .u64 L] w fun e w'=>∃len cap,e= .returned (.slice (some ⟨w.heap.size,0,none⟩) len cap)∧Bytes w' (some ⟨w.heap.size,0,none⟩) len cap (Sm.fill L)∧Below w.heap.size w w':=by
 obtain ⟨Z,c⟩:∃Z,Z=(119 - L%64)%64:=⟨_,rfl⟩
 have Y:Z<64:=by omega
 have P:(119 - (L:Int)%64)%64=(Z:Int):=by omega
 have O:(119 - (L:Int))%64=(Z:Int):=by omega
 have f:=yH c
 clear c
 obtain ⟨h,b,K,M,I⟩:=info_parts I5
 have X:=x9T Z Y
 have g:=yH b
 have d:=yH K
 have R:=yH M
 have j:=yH I
 clear b K M I
 have Q:Below w.heap.size w (w.alloc (.cells (u8s (zeros (1+Z+8))) 5)):=(Below.refl _ _).alloc (Nat.le_refl _) _
 have N:(w.alloc (.cells (u8s (zeros (1+Z+8))) 5)).cell? ⟨w.heap.size,0,none⟩=some (.int .u8 ((zeros (1+Z+8)).getD 0 0:Nat)):=x1k (heap_alloc_new _ _) 0 (by simp [zeros])
 have U:(w.alloc (.cells (u8s (zeros (1+Z+8))) 5)).frozen? ⟨w.heap.size,0,none⟩=false:=frozen_of_row _ _ _ _ _ (heap_alloc_new _ _)
 go_enter Tryz.func278,Tryz.ntmps278
 go_wp2_with fail
 rw [show (8*(L:Int))=((8*L:Nat):Int) from by omega]
 have a:(u8s (zeros (1+Z+8))).setIfInBounds 0 (.int .u8 128)=u8s (128::zeros (Z+8)):=by
  have:=x6C [] (zeros (Z+8)) 0 128 0 rfl
  rw [show 1+Z+8=(Z+8)+1 from by omega]
  exact this
 rw [a]
 clear a N U Q X P O
 refine (x5v (8*L) (by omega) _).mono ?_
 rintro _ E ⟨rfl,C⟩
 have A:E.heap[w.heap.size]? =some (.cells (u8s (128::zeros (Z+8))) 5 (0,0)):=(C.block _ (by simp)).trans (heap_alloc_new _ _)
 have H:Below w.heap.size w E:=((Below.refl _ _).alloc (Nat.le_refl _) _).trans (C.mono (by simp))
 have W:w.heap.size<E.heap.size:=(yL A)
 have B:(E.alloc (.cells (u8s (Sm.bigs (8*L))) 305)).ownsRow w.heap.size 5 1 (.slice (some ⟨w.heap.size,0,none⟩) (1+Z) (1+Z+8)) (1+Z) (vals ((128::zeros (Z+8)).take (1+Z))):=
  x1b ((Below.heap_alloc _ _ _ W).trans A) (by simp [zeros];omega) (by omega) (by unfold maxLen;omega) (Nat.le_refl _)
 have J:=yH B
 have G:=yH H
 have i:=yH (heap_alloc_new E (.cells (u8s (Sm.bigs (8*L))) 305))
 clear B H C A
 have l:=(zero_of_info Z59).1
 go_wp2_with (first | (refine wpList_store_row (by rfl) 305 _ _ (by rfl) E.heap.size (u8s (Sm.bigs (8*L))) (by rfl) (by rfl) _ _ (heap_alloc_new _ _) (by exact S59) (by simp [u8s,zeros];rfl) (x0b _) ?_;rw [x04]) | (at_builtin;refine wpList_append_fits _ (by rfl) (.tmp 21) (.tmp 22) 45 (by rfl) w.heap.size 5 h 1 A22 g.out R.out w.heap.size (1+Z) (1+Z+8) _ (by rfl) J.out ⟨E.heap.size,0,none⟩ 8 8 (vals (Sm.bigs (8*L))) (by rfl) (by rfl) (x0o i.out) (x0I _) (by omega) ?_;intro w5 hown5 hgrow5))
 have e:vals ((128::zeros (Z+8)).take (1+Z))++vals (Sm.bigs (8*L))=vals (Sm.fill L):=by
  rw [Sm.fill,← f.out]
  have:(128::zeros (Z+8)).take (1+Z)=128::zeros Z:=by
   rw [show 1+Z=Z+1 from by omega,List.take_succ_cons]
   simp [zeros]
  rw [this]
  simp [vals,zeros]
 rw [e] at hown5
 go_ret
 exact ⟨_,_,rfl,Bytes.of_owns hown5 (y4W L),(G.out.alloc G.out.size _).grown hgrow5 (by have:=G.out.size;simp;omega) (fun k hk=>by simp at hk;omega)⟩
def w32 (l:List Nat):List Value:=l.map fun x=>Value.int .u32 (x:Nat)
theorem x56 (l:List Nat):(w32 l).toArray=u32s l:=rfl
def stL (v:Sm.V8) (bl:List Nat) (L:Nat):List Value:=w32 v.list++vals bl++[.int .u64 (L:Nat)]
structure Held (T:List Nat) (v:Sm.V8) (bl:List Nat):Prop where
 ok:Sm.allB T
 vok:v.ok
 lt:T.length<1152921504606846976
 words:T≠[]→v=Sm.blocks T Sm.first (T.length/64)
 size:bl.length=64
 bok:Sm.allB bl
 block:bl.take (T.length%64)=T.drop (64*(T.length/64))
def StateAt (w:World) (g:Nat) (T:List Nat):Prop:=
 ∃v bl,Held T v bl∧w.heap[g]? =some (.cells (stL v bl T.length).toArray 303 (0,0))
end Go.Proofs.YtinihaflmdihaaaGreat
namespace Go.Proofs.YtinihaflmdihaaaGreat.Sm
theorem x9U {X Y:List Nat} (h:∀i,i<64→X.getD i 0=Y.getD i 0) (i:Nat) (hi:i<16):word X i=word Y i:=by
 unfold word
 rw [h _ (by omega),h _ (by omega),h _ (by omega),h _ (by omega)]
theorem x82 {X Y:List Nat} (h:∀i,i<64→X.getD i 0=Y.getD i 0) (n:Nat) (hn:n≤16):words X n=words Y n:=by
 induction n with
 | zero=>rfl
 | succ n ih=>rw [words,words,ih (by omega),x9U h n (by omega)]
theorem x83 {X Y:List Nat} (h:∀i,i<64→X.getD i 0=Y.getD i 0):sched X=sched Y:=by
 unfold sched
 rw [x82 h 16 (by omega)]
theorem x4H {X Y:List Nat} (v:V8) (n:Nat) (h:∀i,i<64*n→X.getD i 0=Y.getD i 0):blocks X v n=blocks Y v n:=by
 induction n with
 | zero=>rfl
 | succ n ih=>
  rw [blocks,blocks,ih (fun i hi=>h i (by omega))]
  rw [x83 (X:=X.drop (64*n)) (Y:=Y.drop (64*n)) (fun i hi=>by rw [x6p,x6p];exact h _ (by omega))]
theorem blocks_take (B:List Nat) (v:V8) (n F:Nat) (h:64*n≤F):blocks (B.take F) v n=blocks B v n:=
 x4H v n fun i hi=>y06 B F i (by omega)
theorem blocks_app (T B:List Nat) (v:V8) (n:Nat) (h:64*n≤T.length):blocks (T++B) v n=blocks T v n:=
 x4H v n fun i hi=>x6B T B i (by omega)
theorem blocks_add (T B:List Nat) (v:V8) (q n:Nat) (h:T.length=64*q):blocks (T++B) v (q+n)=blocks B (blocks T v q) n:=by
 induction n with
 | zero=>exact blocks_app T B v q (by omega)
 | succ n ih=>
  rw [show q+(n+1)=(q+n)+1 from rfl,blocks,ih,blocks]
  rw [show (T++B).drop (64*(q+n))=B.drop (64*n) from by
   rw [show 64*(q+n)=T.length+64*n from by omega,List.drop_append,List.drop_eq_nil_of_le (by omega)]
   simp]
end Go.Proofs.YtinihaflmdihaaaGreat.Sm
namespace Go.Proofs.YtinihaflmdihaaaGreat
open Go.RowKit
theorem A36:(Tryz.prog.info? 303).map (·.size)=some 73:=by kernel_rfl
theorem x3w (l:List Nat):∀v∈w32 l,v.oneCell'=true:=by
 intro u hu
 simp only [w32,List.mem_map] at hu
 obtain ⟨x,_,rfl⟩:=hu
 rfl
theorem x9V (v:Sm.V8) (bl:List Nat) (L:Nat) (h:bl.length=64):(stL v bl L).length=73:=by simp [stL,w32,vals,Sm.V8.list,h]
theorem x8q {w:World} {g:Nat} {v:Sm.V8} {bl:List Nat} {L:Nat} (hg:w.heap[g]? =some (.cells (stL v bl L).toArray 303 (0,0))):w.rangeAt g 0 (w32 v.list):=
 x2s [] (w32 v.list) (vals bl++[.int .u64 (L:Nat)]) (by simpa [stL] using hg)
theorem y2g {w:World} {g:Nat} {v:Sm.V8} {bl:List Nat} {L:Nat} (hg:w.heap[g]? =some (.cells (stL v bl L).toArray 303 (0,0))) (_h:bl.length=64):w.there g 0 8:=
 x4f hg 0 8 (by simp [stL,w32,vals,Sm.V8.list])
theorem x5w {w:World} {g:Nat} {v:Sm.V8} {bl:List Nat} {L:Nat} (hg:w.heap[g]? =some (.cells (stL v bl L).toArray 303 (0,0))) (h:bl.length=64):w.cell? ⟨g,72,none⟩=some (.int .u64 (L:Nat)):=by
 have:=x2s (w32 v.list++vals bl) [.int .u64 (L:Nat)] [] (by simpa [stL] using hg) 0 _ rfl
 have e:(w32 v.list++vals bl).length=72:=by simp [w32,vals,Sm.V8.list,h]
 rw [e] at this
 exact this
theorem x2b {w:World} {g:Nat} {v:Sm.V8} {bl:List Nat} {L:Nat} (hg:w.heap[g]? =some (.cells (stL v bl L).toArray 303 (0,0))) (h:bl.length=64) (L':Nat):
  (w.setCell ⟨g,72,none⟩ (.int .u64 (L':Nat))).heap[g]? =some (.cells (stL v bl L').toArray 303 (0,0)):=by
 have e:(w32 v.list++vals bl).length=72:=by simp [w32,vals,Sm.V8.list,h]
 have:=x0Q g 303 [.int .u64 (L':Nat)] (w32 v.list++vals bl) [.int .u64 (L:Nat)] [] w (by simpa [stL] using hg) rfl
 rw [e] at this
 simpa [World.setCells,stL] using this
theorem x4I {w:World} {g:Nat} {v:Sm.V8} {bl:List Nat} {L:Nat} (hg:w.heap[g]? =some (.cells (stL v bl L).toArray 303 (0,0))) (u:Sm.V8):
  (w.setCells g 0 (w32 u.list)).heap[g]? =some (.cells (stL u bl L).toArray 303 (0,0)):=by
 have:=x0Q g 303 (w32 u.list) [] (w32 v.list) (vals bl++[.int .u64 (L:Nat)]) w (by simpa [stL] using hg) rfl
 simpa [stL] using this
structure Mid (w W:World) (g:Nat) (v:Sm.V8) (bl:List Nat) (L:Nat) (p:Option Addr) (len cap:Nat) (B:List Nat):Prop where
 row:W.heap[g]? =some (.cells (stL v bl L).toArray 303 (0,0))
 size:bl.length=64
 bytes:Bytes W p len cap B
 ne:B≠[]→∀a,p=some a→a.block≠g
 grown:w.grownBy W (some g)
theorem x03 {w:World} {g:Nat} {v:Sm.V8} {bl:List Nat} {L:Nat} (hg:w.heap[g]? =some (.cells (stL v bl L).toArray 303 (0,0))) (i:Nat) (hi:i<8):w.cell? ⟨g,i,none⟩=some (.int .u32 (v.list.getD i 0:Nat)):=by
 have:=x8q hg i (.int .u32 (v.list.getD i 0:Nat)) (by
  have h:=x6b v.list i (by simpa [Sm.V8.list] using hi)
  rw [← x56] at h
  simpa using h)
 simpa using this
theorem Mid.later {w W W':World} {g:Nat} {v:Sm.V8} {bl:List Nat} {L:Nat} {p:Option Addr} {len cap:Nat} {B:List Nat} (h:Mid w W g v bl L p len cap B) (hb:Below W.heap.size W W'):Mid w W' g v bl L p len cap B:=
 ⟨(hb.block _ (yL h.row)).trans h.row,h.size,h.bytes.later hb h.bytes.lt,h.ne,x7k h.grown hb⟩
theorem Mid.words {w W:World} {g:Nat} {v:Sm.V8} {bl:List Nat} {L:Nat} {p:Option Addr} {len cap:Nat} {B:List Nat} (h:Mid w W g v bl L p len cap B) (u:Sm.V8):Mid w (W.setCells g 0 (w32 u.list)) g u bl L p len cap B:=
 ⟨x4I h.row u,h.size,h.bytes.grown ⟨(x0R g _ 0 W).2.1,(x0R g _ 0 W).2.2.1,(x0R g _ 0 W).2.2.2,by rw [(x0R g _ 0 W).1];exact Nat.le_refl _,fun k _ hne=>x0L g _ 0 W k (by intro e;exact hne (by rw [e]))⟩ h.ne,h.ne,x0J h.grown 0 _⟩
theorem x1D {W:World} {g:Nat} {v:Sm.V8} {bl:List Nat} {L:Nat} (hg:W.heap[g]? =some (.cells (stL v bl L).toArray 303 (0,0))) (h:bl.length=64) (u:Sm.V8):
  (storeCells ⟨g,0,none⟩ (u32s u.list).toList).run Tryz.prog W= .ok () (W.setCells g 0 (w32 u.list)):=by
 have A:=y2g hg h
 have:=run_storeCells_cells (P:=Tryz.prog) g 0 (w32 u.list) 0 W (fun j hj=>by simpa using (A j (by simpa [w32,Sm.V8.list] using hj)).1) (fun j hj=>by simpa using (A j (by simpa [w32,Sm.V8.list] using hj)).2) (x3w u.list)
 exact this
theorem x84 {w W:World} {g:Nat} {v:Sm.V8} {bl:List Nat} {L gb ob len cap:Nat} {B:List Nat} (h:Mid w W g v bl L (some ⟨gb,ob,none⟩) len cap B) (F:Nat) (hF:len - F≤64) (_hc:F<cap):
  (Builtin.copy_ #[45,45] 3 #[.slice (some ⟨g,8,none⟩) 64 64,.slice (some ⟨gb,ob+F,none⟩) (len - F) (cap - F)]).run Tryz.prog W.drew= .ok (goInt (len - F:Nat)) (W.drew.setCells g 8 (vals (B.drop F))):=by
 have M:=h.bytes.size
 have G:=x4f h.row 8 64 (by simp [stL,w32,vals,Sm.V8.list,h.size])
 have E:(vals (B.drop F)).length=len - F:=by simp [vals];omega
 have C:∀j u,(vals (B.drop F))[j]? =some u→W.drew.cell? ((⟨gb,ob+F,none⟩:Addr).add j)=some u:=fun j u hu=>by
  have A:j<(B.drop F).length:=by have:=(List.getElem?_eq_some_iff.1 hu).1;simpa [vals] using this
  obtain ⟨K,H,J,I⟩:=h.bytes.ne (by intro e;rw [e] at A;simp at A)
  obtain ⟨rfl,rfl⟩:gb=K∧ob=H:=by simpa using J
  rw [x1S _ _ A] at hu
  rw [Addr.add_mid,World.cell?_drew,I.drop F j A,hu]
 have:=run_copy_cells (P:=Tryz.prog) W.drew 45 45 3 5 g 8 64 64 ⟨gb,ob+F,none⟩ (len - F) (cap - F) (vals (B.drop F)) A22 E5 (by rw [E];exact (Nat.min_eq_left hF).symm) C
  (fun j A=>by have:=(G j (by omega)).1;simpa using this) (fun j A=>by have:=(G j (by omega)).2;simpa using this) (x0I _)
 rw [E] at this
 exact this
def Start (T:List Nat) (v:Sm.V8):Prop:=v.ok∧T.length%64=0∧v=Sm.blocks T Sm.first (T.length/64)
theorem Held.next {T B bl:List Nat} {v U:Sm.V8} {len F:Nat} (hs:Start T v) (hT:Sm.allB T) (hB:Sm.allB B) (hl:(T++B).length<1152921504606846976) (hlen:len=B.length) (hF:F=len - len%64)
  (hU:U=Sm.blocks (B.take F) v ((B.take F).length/64)) (hb:bl.length=64) (hbo:Sm.allB bl):Held (T++B) U (B.drop F++bl.drop (len - F)):=by
 obtain ⟨E,K,H⟩:=hs
 have I:(B.take F).length/64=len/64:=by simp;omega
 have A:U=Sm.blocks B v (len/64):=by rw [hU,I];exact Sm.blocks_take B v _ F (by omega)
 have J:T.length=64*(T.length/64):=by omega
 have C:(T++B).length/64=T.length/64+len/64:=by simp;omega
 refine ⟨?_,?_,hl,fun _=>?_,by simp [hb];omega,?_,?_⟩
 ·intro x hx
  rcases List.mem_append.1 hx with h | h
  ·exact hT x h
  ·exact hB x h
 ·rw [hU];exact Sm.blocks_ok E _
 ·rw [C,Sm.blocks_add T B Sm.first _ _ J,← H,A]
 ·intro x hx
  rcases List.mem_append.1 hx with h | h
  ·exact hB x (List.mem_of_mem_drop h)
  ·exact hbo x (List.mem_of_mem_drop h)
 ·have G:(T++B).length%64=(B.drop F).length:=by simp;omega
  rw [G,List.take_left,C]
  rw [show 64*(T.length/64+len/64)=T.length+F from by omega,← List.drop_drop,List.drop_left]
theorem x18 {W:World} {g:Nat} {v:Sm.V8} {bl:List Nat} {L:Nat} (hg:W.heap[g]? =some (.cells (stL v bl L).toArray 303 (0,0))) (h:bl.length=64) (o:Nat) (X:List Nat) (hX:o+X.length≤64):
  (W.setCells g (8+o) (vals X)).heap[g]? =some (.cells (stL v (bl.take o++X++bl.drop (o+X.length)) L).toArray 303 (0,0)):=by
 have e:bl=bl.take o++((bl.drop o).take X.length++bl.drop (o+X.length)):=by
  rw [← List.drop_drop,List.take_append_drop,List.take_append_drop]
 have A:W.heap[g]? =some (.cells ((w32 v.list++vals (bl.take o))++vals ((bl.drop o).take X.length)++(vals (bl.drop (o+X.length))++[Value.int .u64 (L:Nat)])).toArray 303 (0,0)):=by
  rw [hg]
  congr 3
  conv=>lhs;rw [stL,e]
  simp [vals]
 have B:(w32 v.list++vals (bl.take o)).length=8+o:=by simp [w32,vals,Sm.V8.list,h];omega
 have:=x0Q g 303 (vals X) _ _ _ W A (by simp [vals,h];omega)
 rw [B] at this
 rw [this]
 simp [stL,vals]
theorem A33:Tryz.prog.underlying 301=some (.array 64 5):=by kernel_rfl
theorem x57 (g r:Nat) (h:r<64) (w:World):(Instr.sliceAt 301 (.pointer (some ⟨g,8,none⟩)) (some (.int .i64 (r:Int))) none none).run Tryz.prog w= .ok (.slice (some ⟨g,8+r,none⟩) (64 - r) (64 - r)) w:=by
 have A:Tryz.prog.arrayLen 301=64:=by simp [Program.arrayLen]
 have E:Tryz.prog.elem 301=5:=by simp [Program.elem]
 have G:=run_sliceAt_array_l (P:=Tryz.prog) w 301 ⟨g,8,none⟩ (by rw [A,E];exact A33) .i64 r (by omega) (by rw [A];omega)
 obtain ⟨J,I,_,C,_⟩:=info_parts I5
 have H:(sizeOf 5).run Tryz.prog w= .ok 1 w:=by simp [sizeOf,typeInfo,I,C]
 rw [G,A,E,H]
 have B:¬(64=r):=by omega
 simp [slicedAt,B,Addr.add_mid]
theorem x5x {W:World} {g:Nat} {v:Sm.V8} {bl:List Nat} {L gb ob len cap:Nat} {B:List Nat} (hg:W.heap[g]? =some (.cells (stL v bl L).toArray 303 (0,0))) (hb:bl.length=64)
  (h:Bytes W (some ⟨gb,ob,none⟩) len cap B) (r n:Nat) (hr:r<64) (hn:n=Nat.min len (64 - r)):
  (Builtin.copy_ #[45,45] 3 #[.slice (some ⟨g,8+r,none⟩) (64 - r) (64 - r),.slice (some ⟨gb,ob,none⟩) len cap]).run Tryz.prog W= .ok (goInt (n:Nat)) (W.setCells g (8+r) (vals (B.take n))):=by
 have O:=h.size
 have I:n≤len:=by rw [hn];exact Nat.min_le_left _ _
 have N:n≤64 - r:=by rw [hn];exact Nat.min_le_right _ _
 have G:=x4f hg 8 64 (by simp [stL,w32,vals,Sm.V8.list,hb])
 have E:(vals (B.take n)).length=n:=by simp [vals];omega
 have C:∀j u,(vals (B.take n))[j]? =some u→W.cell? ((⟨gb,ob,none⟩:Addr).add j)=some u:=fun j u hu=>by
  have A:j<(B.take n).length:=by have:=(List.getElem?_eq_some_iff.1 hu).1;simpa [vals] using this
  obtain ⟨M,H,K,J⟩:=h.ne (by intro e;rw [e] at A;simp at A)
  obtain ⟨rfl,rfl⟩:gb=M∧ob=H:=by simpa using K
  rw [x1S _ _ A] at hu
  rw [Addr.add_mid,J.take n j A,hu]
 have:=run_copy_cells (P:=Tryz.prog) W 45 45 3 5 g (8+r) (64 - r) (64 - r) ⟨gb,ob,none⟩ len cap (vals (B.take n)) A22 E5 (by rw [E];exact hn) C
  (fun j A=>by have:=(G (r+j) (by omega)).1;rw [Nat.add_assoc];exact this) (fun j A=>by have:=(G (r+j) (by omega)).2;rw [Nat.add_assoc];exact this) (x0I _)
 rw [E] at this
 exact this
theorem Held.small {T B bl:List Nat} {v:Sm.V8} {r:Nat} (h:Held T v bl) (hr:T.length%64=r) (hr0:0<r) (hs:r+B.length<64) (hB:Sm.allB B) (hl:(T++B).length<1152921504606846976):
  Held (T++B) v (bl.take r++B++bl.drop (r+B.length)):=by
 have E:=h.size
 have H:T≠[]:=by rintro rfl;simp at hr;omega
 have C:(T++B).length/64=T.length/64:=by simp;omega
 refine ⟨?_,h.vok,hl,fun _=>?_,by simp [E];omega,?_,?_⟩
 ·intro x A
  rcases List.mem_append.1 A with A | A
  ·exact h.ok x A
  ·exact hB x A
 ·rw [C,Sm.blocks_app T B _ _ (by omega)];exact h.words H
 ·intro x A
  rcases List.mem_append.1 A with A | A
  ·rcases List.mem_append.1 A with A | A
   ·exact h.bok x (List.mem_of_mem_take A)
   ·exact hB x A
  ·exact h.bok x (List.mem_of_mem_drop A)
 ·have G:(T++B).length%64=(bl.take r++B).length:=by simp [E];omega
  rw [G,List.take_left,C,List.drop_append_of_le_length (by omega),← h.block,hr]
theorem Start.block {T B bl:List Nat} {v:Sm.V8} {r m:Nat} (h:Held T v bl) (hr:T.length%64=r) (hr0:0<r) (hm:r+m=64) (hmB:m≤B.length):
  Start (T++B.take m) (Sm.blocks (bl.take r++B.take m) v 1):=by
 have H:T≠[]:=by rintro rfl;simp at hr;omega
 have A:(T++B.take m).length=64*(T.length/64+1):=by simp;omega
 refine ⟨Sm.blocks_ok h.vok _,by omega,?_⟩
 have G:(T++B.take m).length/64=T.length/64+1:=by omega
 have C:Sm.blocks (T++B.take m) Sm.first (T.length/64+1)=Sm.turn Sm.ks (Sm.sched ((T++B.take m).drop (64*(T.length/64)))) (Sm.blocks (T++B.take m) Sm.first (T.length/64)):=rfl
 have E:Sm.blocks (bl.take r++B.take m) v 1=Sm.turn Sm.ks (Sm.sched (bl.take r++B.take m)) v:=rfl
 rw [G,C,E,Sm.blocks_app T _ _ _ (by omega),← h.words H,List.drop_append_of_le_length (by omega),← h.block,hr]
theorem Bytes.block {W:World} {g:Nat} {v:Sm.V8} {bl:List Nat} {L:Nat} (hg:W.heap[g]? =some (.cells (stL v bl L).toArray 303 (0,0))) (hb:bl.length=64) (hbo:Sm.allB bl):Bytes W (some ⟨g,8,none⟩) 64 64 bl:=by
 refine ⟨hb.symm,Nat.le_refl _,hbo,Or.inr ⟨g,8,rfl,fun i hi=>?_⟩⟩
 have A:=x2s (w32 v.list) (vals bl) [.int .u64 (L:Nat)] (by simpa [stL] using hg) i _ (x1S bl i hi)
 have e:(w32 v.list).length=8:=rfl
 rw [e] at A
 exact A
theorem y4X (T B:List Nat) (g:Nat) (p:Option Addr) (len cap:Nat) (w:World) (hT:T≠[]) (hm:T.length%64=0) (v:Sm.V8) (bl:List Nat) (hh:Held T v bl)
  (hg:w.heap[g]? =some (.cells (stL v bl T.length).toArray 303 (0,0)))
  (hB:Bytes w p len cap B) (hn:B≠[]→∀a,p=some a→a.block≠g) (hl:(T++B).length<1152921504606846976):
  Calls Tryz.prog 246 #[.pointer (some ⟨g,0,none⟩),.slice p len cap] w fun e w'=>e= .returned (.tuple #[])∧StateAt w' g (T++B)∧w.grownBy w' (some g):=by
 have A2:((T.length:Int)==0)=false:=by
  have:=List.length_pos_iff.2 hT
  simp;omega
 have q:(T.length:Int)%64=0:=by omega
 have A5:w.cell? ⟨g,72,none⟩=some (.int .u64 (T.length:Nat)):=x5w hg hh.size
 have AD:w.frozen? ⟨g,72,none⟩=false:=frozen_of_row w g _ _ _ hg
 obtain ⟨N,hN⟩:∃N,N=T.length:=⟨_,rfl⟩
 rw [← hN] at A5 A2 q
 have z:=hB.size
 have AN:N+len<1152921504606846976:=by simp at hl;omega
 have Y:=yH (show (T++B).length=N+len from by simp;omega)
 have HG:=yH hg
 have X:=yH hh.ok
 have Z:=yH hh.bok
 have A4:=yH hh.size
 have l:=yH hh.vok
 have HS:=yH (show Start T v from ⟨hh.vok,hm,hh.words hT⟩)
 have HB:=yH hB
 have HN:=yH hN
 clear hg hh hB hN z
 go_enter Tryz.func246,Tryz.ntmps246
 go_wp2_with fail
 rw [show (N:Int)+(len:Int)=((N+len:Nat):Int) from by omega]
 generalize hW1:w.setCell ⟨g,72,none⟩ (.int .u64 ((N+len:Nat):Int))=W1
 have hM:Mid w W1 g v bl (N+len) p len cap B:=by
  subst hW1
  have hg:=HG.out
  rw [← HN.out] at hg
  exact ⟨x2b hg A4.out _,A4.out,HB.out.grown (x0D _ _ _ _) hn,hn,x0D _ _ _ _⟩
 have C:=yH hM
 clear hW1 hM HG HB A5 AD A2 q
 obtain ⟨F,hF⟩:∃F,F=len - len%64:=⟨_,rfl⟩
 rw [show (len:Int) - (len:Int)%64=(F:Int) from by omega]
 have R:F≤len:=by omega
 have i:F%64=0:=by omega
 have HF:=yH hF
 have A7:=yH i
 clear hF i
 rcases C.out.bytes.at' with hc | ⟨gb,ob,hp,hx⟩
 ·subst hc
  cases p with
  | none=>
   obtain rfl:len=0:=by have:=C.out.bytes.le;omega
   obtain rfl:F=0:=by omega
   obtain ⟨U,K⟩:∃U,U=Sm.blocks (B.take 0) v ((B.take 0).length/64):=⟨_,rfl⟩
   have O:=x1s v l.out (B.take 0) none 0 0 W1.drew ((C.out.bytes.take 0 R).heap rfl) (by simp)
   rw [show ((0:Nat):Int)=0 from rfl]
   rw [← K] at O
   have M:=yH O
   have o:=yH K
   clear O K
   obtain ⟨a,b,c,d,e,f,h,k⟩:=v
   have c0:W1.cell? ⟨g,0,none⟩=some (.int .u32 a):=x03 C.out.row 0 (by omega)
   have c1:W1.cell? ⟨g,1,none⟩=some (.int .u32 b):=x03 C.out.row 1 (by omega)
   have t:W1.cell? ⟨g,2,none⟩=some (.int .u32 c):=x03 C.out.row 2 (by omega)
   have c3:W1.cell? ⟨g,3,none⟩=some (.int .u32 d):=x03 C.out.row 3 (by omega)
   have s:W1.cell? ⟨g,4,none⟩=some (.int .u32 e):=x03 C.out.row 4 (by omega)
   have c5:W1.cell? ⟨g,5,none⟩=some (.int .u32 f):=x03 C.out.row 5 (by omega)
   have c6:W1.cell? ⟨g,6,none⟩=some (.int .u32 h):=x03 C.out.row 6 (by omega)
   have y:W1.cell? ⟨g,7,none⟩=some (.int .u32 k):=x03 C.out.row 7 (by omega)
   go_region_law ((go_simp;go_at_call 277;refine M.out.mono ?_;rintro _ u ⟨rfl,H⟩;have I:=yH (C.out.later (x1K H rfl rfl rfl rfl));clear H;have G:=x1D I.out.row I.out.size U;have Q:=size8 U))
   generalize hW5:u.setCells g 0 (w32 U.list)=W5
   have J:=I.out.words U
   rw [hW5] at J
   have A:=yH J
   clear hW5 J G Q I c0 c1 t c3 s c5 c6 y
   go_wp2_with fail
   have m:=run_copy_none (P:=Tryz.prog) W5.drew 45 45 3 5 (some ⟨g,8,none⟩) none 64 64 0 0 A22 E5 (by rfl)
   go_still_tail 7,(by kernel_rfl)
   go_wp2_with fail
   go_end0
   have E:=Held.next HS.out X.out A.out.bytes.ok hl A.out.bytes.size (show 0=0 - 0%64 from rfl) o.out A.out.size Z.out
   have e1:B.drop 0=[]:=List.drop_eq_nil_of_le (by have:=A.out.bytes.size;omega)
   rw [e1,Nat.sub_self,List.drop_zero,List.nil_append] at E
   refine ⟨rfl,⟨U,bl,E,?_⟩,?_⟩
   ·have L:=Y.out;(try simp only [List.nil_append] at L);rw [L];exact A.out.row
   ·exact ⟨A.out.grown.os,A.out.grown.tape,A.out.grown.output,A.out.grown.size,A.out.grown.block⟩
  | some x=>
   obtain rfl:len=0:=by have:=C.out.bytes.le;omega
   obtain rfl:F=0:=by omega
   obtain ⟨U,K⟩:∃U,U=Sm.blocks (B.take 0) v ((B.take 0).length/64):=⟨_,rfl⟩
   have O:=x1s v l.out (B.take 0) (some x) 0 0 W1.drew ((C.out.bytes.take 0 R).heap rfl) (by simp)
   rw [show ((0:Nat):Int)=0 from rfl]
   rw [← K] at O
   have M:=yH O
   have o:=yH K
   clear O K
   obtain ⟨a,b,c,d,e,f,h,k⟩:=v
   have c0:W1.cell? ⟨g,0,none⟩=some (.int .u32 a):=x03 C.out.row 0 (by omega)
   have c1:W1.cell? ⟨g,1,none⟩=some (.int .u32 b):=x03 C.out.row 1 (by omega)
   have t:W1.cell? ⟨g,2,none⟩=some (.int .u32 c):=x03 C.out.row 2 (by omega)
   have c3:W1.cell? ⟨g,3,none⟩=some (.int .u32 d):=x03 C.out.row 3 (by omega)
   have s:W1.cell? ⟨g,4,none⟩=some (.int .u32 e):=x03 C.out.row 4 (by omega)
   have c5:W1.cell? ⟨g,5,none⟩=some (.int .u32 f):=x03 C.out.row 5 (by omega)
   have c6:W1.cell? ⟨g,6,none⟩=some (.int .u32 h):=x03 C.out.row 6 (by omega)
   have y:W1.cell? ⟨g,7,none⟩=some (.int .u32 k):=x03 C.out.row 7 (by omega)
   go_region_law ((go_simp;go_at_call 277;refine M.out.mono ?_;rintro _ u ⟨rfl,H⟩;have I:=yH (C.out.later (x1K H rfl rfl rfl rfl));clear H;have G:=x1D I.out.row I.out.size U;have Q:=size8 U))
   generalize hW5:u.setCells g 0 (w32 U.list)=W5
   have J:=I.out.words U
   rw [hW5] at J
   have A:=yH J
   clear hW5 J G Q I c0 c1 t c3 s c5 c6 y
   go_wp2_with fail
   have m:=run_copy_none (P:=Tryz.prog) W5.drew 45 45 3 5 (some ⟨g,8,none⟩) (some x) 64 64 0 0 A22 E5 (by rfl)
   go_still_tail 7,(by kernel_rfl)
   go_wp2_with fail
   go_end0
   have E:=Held.next HS.out X.out A.out.bytes.ok hl A.out.bytes.size (show 0=0 - 0%64 from rfl) o.out A.out.size Z.out
   have e1:B.drop 0=[]:=List.drop_eq_nil_of_le (by have:=A.out.bytes.size;omega)
   rw [e1,Nat.sub_self,List.drop_zero,List.nil_append] at E
   refine ⟨rfl,⟨U,bl,E,?_⟩,?_⟩
   ·have L:=Y.out;(try simp only [List.nil_append] at L);rw [L];exact A.out.row
   ·exact ⟨A.out.grown.os,A.out.grown.tape,A.out.grown.output,A.out.grown.size,A.out.grown.block⟩
 ·subst hp
  clear hx
  have r:=C.out.bytes.le
  have a1:(0:Int)≤F∧(F:Int)≤cap:=by omega
  obtain ⟨U,K⟩:∃U,U=Sm.blocks (B.take F) v ((B.take F).length/64):=⟨_,rfl⟩
  have O:=x1s v l.out (B.take F) (some ⟨gb,ob,none⟩) F cap W1.drew ((C.out.bytes.take F R).heap rfl) (by have:=A7.out;have:=C.out.bytes.size;simp;omega)
  rw [← K] at O
  have M:=yH O
  have o:=yH K
  clear O K
  obtain ⟨a,b,c,d,e,f,h,k⟩:=v
  have c0:W1.cell? ⟨g,0,none⟩=some (.int .u32 a):=x03 C.out.row 0 (by omega)
  have c1:W1.cell? ⟨g,1,none⟩=some (.int .u32 b):=x03 C.out.row 1 (by omega)
  have t:W1.cell? ⟨g,2,none⟩=some (.int .u32 c):=x03 C.out.row 2 (by omega)
  have c3:W1.cell? ⟨g,3,none⟩=some (.int .u32 d):=x03 C.out.row 3 (by omega)
  have s:W1.cell? ⟨g,4,none⟩=some (.int .u32 e):=x03 C.out.row 4 (by omega)
  have c5:W1.cell? ⟨g,5,none⟩=some (.int .u32 f):=x03 C.out.row 5 (by omega)
  have c6:W1.cell? ⟨g,6,none⟩=some (.int .u32 h):=x03 C.out.row 6 (by omega)
  have y:W1.cell? ⟨g,7,none⟩=some (.int .u32 k):=x03 C.out.row 7 (by omega)
  go_region_law ((go_simp;go_at_call 277;refine M.out.mono ?_;rintro _ u ⟨rfl,H⟩;have I:=yH (C.out.later (x1K H rfl rfl rfl rfl));clear H;have G:=x1D I.out.row I.out.size U;have Q:=size8 U))
  generalize hW5:u.setCells g 0 (w32 U.list)=W5
  have J:=I.out.words U
  rw [hW5] at J
  have A:=yH J
  clear hW5 J G Q I c0 c1 t c3 s c5 c6 y
  go_wp2_with fail
  rcases Nat.lt_or_eq_of_le (Nat.le_trans R r) with n | n
  ·have m:=x84 A.out F (by have:=HF.out;omega) n
   go_still_tail 7,(by kernel_rfl)
   go_wp2_with fail
   go_end0
   have AF:(B.drop F).length=len - F:=by have:=A.out.bytes.size;simp;omega
   have j:=x18 (W:=W5.drew) A.out.row A.out.size 0 (B.drop F) (by have:=HF.out;omega)
   have E:=Held.next HS.out X.out A.out.bytes.ok hl A.out.bytes.size HF.out o.out A.out.size Z.out
   refine ⟨rfl,⟨U,_,E,?_⟩,?_⟩
   ·rw [AF] at j
    have L:=Y.out
    (try simp only [List.nil_append] at L)
    rw [L]
    simpa using j
   ·exact x0J (w1:=W5.drew) ⟨A.out.grown.os,A.out.grown.tape,A.out.grown.output,A.out.grown.size,A.out.grown.block⟩ 8 _
  ·subst n
   obtain rfl:len=F:=by omega
   have m:=run_copy_none (P:=Tryz.prog) W5.drew 45 45 3 5 (some ⟨g,8,none⟩) (some ⟨gb,ob,none⟩) 64 64 0 0 A22 E5 (by rfl)
   go_still_tail 7,(by kernel_rfl)
   go_wp2_with fail
   go_end0
   have E:=Held.next HS.out X.out A.out.bytes.ok hl A.out.bytes.size HF.out o.out A.out.size Z.out
   have e1:B.drop len=[]:=List.drop_eq_nil_of_le (by have:=A.out.bytes.size;omega)
   rw [e1,Nat.sub_self,List.drop_zero,List.nil_append] at E
   refine ⟨rfl,⟨U,bl,E,?_⟩,?_⟩
   ·have L:=Y.out;(try simp only [List.nil_append] at L);rw [L];exact A.out.row
   ·exact ⟨A.out.grown.os,A.out.grown.tape,A.out.grown.output,A.out.grown.size,A.out.grown.block⟩
end Go.Proofs.YtinihaflmdihaaaGreat
