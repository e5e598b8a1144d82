/- ShaBig, ShaFill, ShaRow, ShaMore. -/
import Derived.Deep.RegionHeld3
import Derived.Test.YtinihaflmdihaaaGreatW1
import Derived.Test.YtinihaflmdihaaaGreatW2
import Derived.Test.YtinihaflmdihaaaGreatW10
import Derived.Test.YtinihaflmdihaaaGreatW18
set_option maxRecDepth 100000
set_option maxHeartbeats 8000000
set_option linter.unusedVariables false
set_option linter.unusedSimpArgs false
namespace Go.Proofs.YtinihaflmdihaaaGreat
open Go.RowKit
open List renaming setIfInBounds_toArray → sA, set_cons_zero → sZ, set_cons_succ → sS
theorem A59:Tryz.prog.underlying 305=some (.array 8 5):=by kernel_rfl
theorem Z59:(Tryz.prog.info? 305).map (fun i=>(i.zero,i.size))=some (some (.agg (u8s (zeros 8))),8):=by kernel_rfl
theorem S59:(Tryz.prog.info? 305).map (·.size)=some 8:=by kernel_rfl
structure BF (T:TypeId) (N:Nat) (w wr:World) (r g:Nat) (L:List Nat):Prop where
 below:Below w.heap.size w wr
 res:∃C,wr.heap[r]? =some (.cells C T (0,0))∧C.size=N
 row:wr.heap[g]? =some (.cells (u8s L) T (0,0))
 lr:w.heap.size≤r
 lg:w.heap.size≤g
 ne:r≠g
theorem BF.store {T:TypeId} {N:Nat} {w wr:World} {r g:Nat} {p q:List Nat} {y:Nat} (h:BF T N w wr r g (p++y::q)) (k:Nat) (hk:p.length=k) (x:Nat):
  BF T N w (wr.setCell ⟨g,k,none⟩ (.int .u8 (x:Nat))) r g (p++x::q):=by
 obtain ⟨C,hC,hC6⟩:=h.res
 refine ⟨h.below.setCell h.lg _,⟨C,?_,hC6⟩,?_,h.lr,h.lg,h.ne⟩
 ·rw [heap_setCell_other _ _ _ _ h.ne];exact hC
 ·rw [heap_setCell_same _ _ _ _ _ _ h.row,u8s_set p q y x k hk]
def bigsTo (n:Nat):Nat→List Nat
 | 0=>[]
 | k+1=>bigsTo n k++[Sm.big n k]
theorem bigsTo_length (n k:Nat):(bigsTo n k).length=k:=by
 induction k with
 | zero=>rfl
 | succ k ih=>simp [bigsTo,ih]
def BigRel (w:World) (r g n:Nat) (i:Value) (wr:World):Prop:=
 ∃k:Nat,k≤8∧i= .int .i64 k∧BF 305 8 w wr r g (bigsTo n k++zeros (8 - k))
theorem bigEnd_any (n:Nat) (_hn:n<18446744073709551616) (w:World):
  Calls Tryz.prog 247 #[.int .u64 n] w fun e w'=>e= .returned (.agg (u8s (Sm.bigs n)))∧Below w.heap.size w w':=by
 have hz:=(zero_of_info Z59).1
 go_enter Tryz.func247,Tryz.ntmps247
 go_wp2_with fail
 generalize hWB:(w.alloc (.cells (u8s (zeros 8)) 305)).alloc (.cells (u8s (zeros 8)) 305)=WB
 have FB:BF 305 8 w WB w.heap.size (w.heap.size+1) (zeros 8):=by
  subst hWB
  exact ⟨((Below.refl _ _).alloc (Nat.le_refl _) _).alloc (by simp) _,⟨_,heap_alloc2_old w _ _,by simp [u8s,zeros]⟩,heap_alloc2_new w _ _,by omega,by omega,by omega⟩
 have FF:=Lib.hid FB
 clear FB hWB hz
 go_loopw [5] (fun i wr=>BigRel w w.heap.size (w.heap.size+1) n i wr) (fun i _=>8 - (intOf i).toNat)
 case atStart=>exact ⟨0,by omega,rfl,FF.out⟩
 case round=>
  obtain ⟨k,hk,rfl,hs⟩:=hrel
  have HS:=Lib.hid hs
  clear hs FF
  by_cases hlt:k<8
  ·have hst:wr.cell? ⟨w.heap.size+1,k,none⟩=some (.int .u8 ((bigsTo n k++zeros (8 - k)).getD k 0:Nat)):=u8s_cell HS.out.row k (by simp [bigsTo_length,zeros];omega)
   have hfr:wr.frozen? ⟨w.heap.size+1,k,none⟩=false:=frozen_of_row wr _ k _ _ HS.out.row
   have HI:(0:Int)≤8*(7 - k)∧8*(7 - (k:Int))≤64:=by omega
   go_wp2_with fail
   go_roundw
   case rel=>
    show BigRel _ _ _ _ _ _
    rw [show (n:Int)/2^(8*(7 - k))%256=((Sm.big n k:Nat):Int) from by
     unfold Sm.big;rw [Int.natCast_emod,Int.natCast_ediv,Int.natCast_pow];rfl]
    refine ⟨k+1,by omega,by go_num,?_⟩
    have e:bigsTo n (k+1)++zeros (8 - (k+1))=bigsTo n k++Sm.big n k::zeros (8 - (k+1)):=by
     rw [bigsTo,List.append_assoc];rfl
    rw [e]
    refine BF.store (y:=0) ?_ k (bigsTo_length n k) _
    rw [show 8 - (k+1)=8 - k - 1 from by omega,← zeros_succ (by omega)]
    exact HS.out
   case measure=>simp [intOf];omega
  ·obtain rfl:k=8:=by omega
   obtain ⟨C,hC,hC8⟩:=HS.out.res
   have HC:=Lib.hid hC
   have HC8:=Lib.hid hC8
   clear hC hC8
   have hrow:wr.heap[w.heap.size+1]? =some (.cells (u8s (Sm.bigs n)) 305 (0,0)):=HS.out.row
   have HR:=Lib.hid hrow
   clear hrow
   go_wp2_with (first | (refine wpList_load_row (by rfl) 305 _ (by rfl) (w.heap.size+1) (by rfl) 305 _ (0,0) _ HR.out A59 (by rfl) (by exact S59) ?_) | (refine wpList_store_row (by rfl) 305 _ _ (by rfl) w.heap.size (u8s (Sm.bigs n)) (by rfl) (by rfl) _ _ HC.out (by exact S59) (by exact HC8.out) (u8s_one _) ?_))
   refine ret_row 2 (by kernel_rfl) w.heap.size _ _ A59 S59 rfl (setRow_heap _ _ _ _ _ _ HC.out) rfl ⟨rfl,?_⟩
   exact Below.setRow HS.out.below (Nat.le_refl _) _
theorem U31:Tryz.prog.underlying 241=some (.int .u32):=by kernel_rfl
theorem S31:(Tryz.prog.info? 241).map (·.size)=some 1:=by kernel_rfl
def bytesTo (l:List Nat):Nat→List Nat
 | 0=>[]
 | k+1=>bytesTo l k++Sm.bytes4 (l.getD k 0)
theorem bytesTo_length (l:List Nat) (k:Nat):(bytesTo l k).length=4*k:=by
 induction k with
 | zero=>rfl
 | succ k ih=>simp [bytesTo,ih,Sm.bytes4];omega
def BOfRel (w:World) (r g:Nat) (l:List Nat) (i:Value) (wr:World):Prop:=
 ∃k:Nat,k≤8∧i= .int .i64 k∧BF 30 32 w wr r g (bytesTo l k++zeros (32 - 4*k))
theorem bytesOf_any (v:Sm.V8) (hv:v.ok) (w:World):
  Calls Tryz.prog 279 #[.agg (u32s v.list)] w fun e w'=>e= .returned (.agg (u8s (Sm.bytesOf v)))∧Below w.heap.size w w':=by
 have hz:=(zero_of_info Z25).1
 have HV:=Lib.hid hv
 clear hv
 go_enter Tryz.func279,Tryz.ntmps279
 go_wp2_with (refine wpList_load_row (by rfl) 300 _ (by rfl) w.heap.size (by rfl) 300 _ (0,0) _ ((Below.heap_alloc _ _ _ (by simp;omega)).trans (heap_alloc2_old w _ _)) A32 (by rfl) (by exact S32) ?_)
 generalize hWB:((w.alloc (.cells (u32s v.list) 300)).alloc (.cells (u8s (zeros 32)) 30)).alloc (.cells (u8s (zeros 32)) 30)=WB
 have FB:BF 30 32 w WB (w.heap.size+1) (w.heap.size+2) (zeros 32):=by
  subst hWB
  refine ⟨(((Below.refl _ _).alloc (Nat.le_refl _) _).alloc (by simp) _).alloc (by simp;omega) _,⟨_,(Below.heap_alloc _ _ _ (by simp)).trans (heap_alloc2_new w _ _),by simp [u8s,zeros]⟩,?_,by omega,by omega,by omega⟩
  have:=heap_alloc_new ((w.alloc (.cells (u32s v.list) 300)).alloc (.cells (u8s (zeros 32)) 30)) (.cells (u8s (zeros 32)) 30)
  rw [show ((w.alloc (.cells (u32s v.list) 300)).alloc (.cells (u8s (zeros 32)) 30)).heap.size=w.heap.size+2 from by simp] at this
  exact this
 have FF:=Lib.hid FB
 clear FB hWB hz
 go_simp
 go_loopw [7] (fun i wr=>BOfRel w (w.heap.size+1) (w.heap.size+2) v.list i wr) (fun i _=>8 - (intOf i).toNat)
 case atStart=>exact ⟨0,by omega,rfl,FF.out⟩
 case round=>
  obtain ⟨k,hk,rfl,hs⟩:=hrel
  have HS:=Lib.hid hs
  clear hs FF
  by_cases hlt:k<8
  ·have hix:=fun w'=>run_index_array A32 U31 rfl S31 (u32s v.list) k hlt _ (u32s_get v.list k (by simpa [Sm.V8.list] using hlt)) w'
   obtain ⟨x,hx⟩:∃x,x=v.list.getD k 0:=⟨_,rfl⟩
   rw [← hx] at hix
   have HX:=Lib.hid hx
   clear hx
   have cl:∀i,i<32→wr.cell? ⟨w.heap.size+2,i,none⟩=some (.int .u8 ((bytesTo v.list k++zeros (32 - 4*k)).getD i 0:Nat)):=fun i hi=>u8s_cell HS.out.row i (by simp [bytesTo_length,zeros];omega)
   have fr:∀i,wr.frozen? ⟨w.heap.size+2,i,none⟩=false:=fun i=>frozen_of_row wr _ i _ _ HS.out.row
   have c0:=cl (4*k) (by omega)
   have c1:=cl (4*k+1) (by omega)
   have c2:=cl (4*k+2) (by omega)
   have c3:=cl (4*k+3) (by omega)
   have f0:=fr (4*k)
   have f1:=fr (4*k+1)
   have f2:=fr (4*k+2)
   have f3:=fr (4*k+3)
   clear cl fr
   go_wp2_with fail
   go_roundw
   case rel=>
    show BOfRel _ _ _ _ _ _
    have e0:(x:Int)/16777216%256=((x/16777216%256:Nat):Int):=by omega
    have e1:(x:Int)/65536%256=((x/65536%256:Nat):Int):=by omega
    have e2:(x:Int)/256%256=((x/256%256:Nat):Int):=by omega
    have e3:(x:Int)%256=((x%256:Nat):Int):=by omega
    rw [e0,e1,e2,e3]
    refine ⟨k+1,by omega,by go_num,?_⟩
    have e:bytesTo v.list (k+1)++zeros (32 - 4*(k+1))=(((bytesTo v.list k++[x/16777216%256])++[x/65536%256])++[x/256%256])++x%256::zeros (32 - 4*(k+1)):=by
     rw [bytesTo,← HX.out];simp [Sm.bytes4]
    have hl:=bytesTo_length v.list k
    rw [e]
    refine BF.store (y:=0) ?_ (4*k+3) (by simp [hl]) _
    rw [List.append_assoc]
    refine BF.store (y:=0) ?_ (4*k+2) (by simp [hl]) _
    rw [List.append_assoc]
    refine BF.store (y:=0) ?_ (4*k+1) (by simp [hl]) _
    rw [List.append_assoc]
    refine BF.store (y:=0) ?_ (4*k) hl _
    have hz4:(0::([0]++(0::([0]++zeros (32 - 4*(k+1))))))=zeros (32 - 4*k):=by
     rw [show 32 - 4*k=(32 - 4*(k+1))+4 from by omega];rfl
    first
     | (rw [show ∀A:List Nat,A++0::([0]++0::([0]++zeros (32 - 4*(k+1))))=A++zeros (32 - 4*k) from fun A=>by rw [← hz4]];exact HS.out)
     | (have:=HS.out;rw [← hz4] at this;simpa using this)
   case measure=>simp [intOf];omega
  ·obtain rfl:k=8:=by omega
   obtain ⟨C,hC,hC8⟩:=HS.out.res
   have HC:=Lib.hid hC
   have HC8:=Lib.hid hC8
   clear hC hC8
   have hrow:wr.heap[w.heap.size+2]? =some (.cells (u8s (Sm.bytesOf v)) 30 (0,0)):=HS.out.row
   have HR:=Lib.hid hrow
   clear hrow
   go_wp2_with (first | (refine wpList_load_row (by rfl) 30 _ (by rfl) (w.heap.size+2) (by rfl) 30 _ (0,0) _ HR.out A25 (by rfl) (by exact S25) ?_) | (refine wpList_store_row (by rfl) 30 _ _ (by rfl) (w.heap.size+1) (u8s (Sm.bytesOf v)) (by rfl) (by rfl) _ _ HC.out (by exact S25) (by exact HC8.out) (u8s_one _) ?_))
   refine ret_row 2 (by kernel_rfl) (w.heap.size+1) _ _ A25 S25 rfl (setRow_heap _ _ _ _ _ _ HC.out) rfl ⟨rfl,?_⟩
   exact Below.setRow HS.out.below (by omega) _
theorem make_bytes (Z:Nat) (h:Z<64) (w:World):(Instr.makeSlice 45 (.int .u64 (1+(Z:Nat))) (.int .u64 (1+(Z:Nat)+8))).run Tryz.prog w= .ok (.slice (some ⟨w.heap.size,0,none⟩) (1+Z) (1+Z+8)) (w.alloc (.cells (u8s (zeros (1+Z+8))) 5)):=by
 obtain ⟨i5,hi,hi0,hi1,hi2⟩:=info_parts I5
 have:=run_make (P:=Tryz.prog) w 45 5 i5 _ A22 hi hi0 .u64 .u64 (1+(Z:Nat)) (1+(Z:Nat)+8) (by omega) (by omega) (by rw [hi2];omega) (by omega)
 rw [this,hi1,made_zeros]
 have e1:(1+(Z:Int)).toNat=1+Z:=by omega
 have e2:(1+(Z:Int)+8).toNat=1+Z+8:=by omega
 rw [e1,e2,Nat.mul_one]
theorem fill_ok (n:Nat):Sm.allB (Sm.fill n):=by
 intro x hx
 simp only [Sm.fill,Sm.bigs,List.mem_cons,List.mem_append,List.mem_replicate,List.not_mem_nil,or_false] at hx
 rcases hx with rfl | ⟨_,rfl⟩ | rfl | rfl | rfl | rfl | rfl | rfl | rfl | rfl<;>first | omega | exact Sm.big_lt _ _
theorem filling_any (L:Nat) (hL:L<1152921504606846976) (w:World):
  Calls Tryz.prog 278 #[.int .u64 L] w fun e w'=>∃len cap,e= .returned (.slice (some ⟨w.heap.size,0,none⟩) len cap)∧Bytes w' (some ⟨w.heap.size,0,none⟩) len cap (Sm.fill L)∧Below w.heap.size w w':=by
 obtain ⟨Z,hZ⟩:∃Z,Z=(119 - L%64)%64:=⟨_,rfl⟩
 have hZl:Z<64:=by omega
 have hz1:(119 - (L:Int)%64)%64=(Z:Int):=by omega
 have hz2:(119 - (L:Int))%64=(Z:Int):=by omega
 have HZ:=Lib.hid hZ
 clear hZ
 obtain ⟨i5,hi,hi0,hi1,hi2⟩:=info_parts I5
 have hmk:=make_bytes Z hZl
 have HI:=Lib.hid hi
 have HI0:=Lib.hid hi0
 have HI1:=Lib.hid hi1
 have HI2:=Lib.hid hi2
 clear hi hi0 hi1 hi2
 have hb0:Below w.heap.size w (w.alloc (.cells (u8s (zeros (1+Z+8))) 5)):=(Below.refl _ _).alloc (Nat.le_refl _) _
 have hst:(w.alloc (.cells (u8s (zeros (1+Z+8))) 5)).cell? ⟨w.heap.size,0,none⟩=some (.int .u8 ((zeros (1+Z+8)).getD 0 0:Nat)):=u8s_cell (heap_alloc_new _ _) 0 (by simp [zeros])
 have hfr:(w.alloc (.cells (u8s (zeros (1+Z+8))) 5)).frozen? ⟨w.heap.size,0,none⟩=false:=frozen_of_row _ _ _ _ _ (heap_alloc_new _ _)
 go_enter Tryz.func278,Tryz.ntmps278
 go_wp2_with fail
 rw [show (8*(L:Int))=((8*L:Nat):Int) from by omega]
 have e0:(u8s (zeros (1+Z+8))).setIfInBounds 0 (.int .u8 128)=u8s (128::zeros (Z+8)):=by
  have:=u8s_set [] (zeros (Z+8)) 0 128 0 rfl
  rw [show 1+Z+8=(Z+8)+1 from by omega]
  exact this
 rw [e0]
 clear e0 hst hfr hb0 hmk hz1 hz2
 refine (bigEnd_any (8*L) (by omega) _).mono ?_
 rintro _ w3 ⟨rfl,hb3⟩
 have hrow:w3.heap[w.heap.size]? =some (.cells (u8s (128::zeros (Z+8))) 5 (0,0)):=(hb3.block _ (by simp)).trans (heap_alloc_new _ _)
 have hbw:Below w.heap.size w w3:=((Below.refl _ _).alloc (Nat.le_refl _) _).trans (hb3.mono (by simp))
 have hs3:w.heap.size<w3.heap.size:=(Array.getElem?_eq_some_iff.1 hrow).1
 have hown:(w3.alloc (.cells (u8s (Sm.bigs (8*L))) 305)).ownsRow w.heap.size 5 1 (.slice (some ⟨w.heap.size,0,none⟩) (1+Z) (1+Z+8)) (1+Z) (vals ((128::zeros (Z+8)).take (1+Z))):=
  owns_mk ((Below.heap_alloc _ _ _ hs3).trans hrow) (by simp [zeros];omega) (by omega) (by unfold maxLen;omega) (Nat.le_refl _)
 have HOWN:=Lib.hid hown
 have HBW:=Lib.hid hbw
 have HN:=Lib.hid (heap_alloc_new w3 (.cells (u8s (Sm.bigs (8*L))) 305))
 clear hown hbw hb3 hrow
 have hz:=(zero_of_info Z59).1
 go_wp2_with (first | (refine wpList_store_row (by rfl) 305 _ _ (by rfl) w3.heap.size (u8s (Sm.bigs (8*L))) (by rfl) (by rfl) _ _ (heap_alloc_new _ _) (by exact S59) (by simp [u8s,zeros];rfl) (u8s_one _) ?_;rw [setRow_alloc]) | (at_builtin;refine wpList_append_fits _ (by rfl) (.tmp 21) (.tmp 22) 45 (by rfl) w.heap.size 5 i5 1 A22 HI.out HI1.out w.heap.size (1+Z) (1+Z+8) _ (by rfl) HOWN.out ⟨w3.heap.size,0,none⟩ 8 8 (vals (Sm.bigs (8*L))) (by rfl) (by rfl) (cells_of_row HN.out) (vals_one _) (by omega) ?_;intro w5 hown5 hgrow5))
 have e:vals ((128::zeros (Z+8)).take (1+Z))++vals (Sm.bigs (8*L))=vals (Sm.fill L):=by
  rw [Sm.fill,← HZ.out]
  have:(128::zeros (Z+8)).take (1+Z)=128::zeros Z:=by
   rw [show 1+Z=Z+1 from by omega,List.take_succ_cons]
   simp [zeros]
  rw [this]
  simp [vals,zeros]
 rw [e] at hown5
 go_ret
 exact ⟨_,_,rfl,Bytes.of_owns hown5 (fill_ok L),(HBW.out.alloc HBW.out.size _).grown hgrow5 (by have:=HBW.out.size;simp;omega) (fun k hk=>by simp at hk;omega)⟩
def w32 (l:List Nat):List Value:=l.map fun x=>Value.int .u32 (x:Nat)
theorem w32_toArray (l:List Nat):(w32 l).toArray=u32s l:=rfl
def stL (v:Sm.V8) (bl:List Nat) (L:Nat):List Value:=w32 v.list++vals bl++[.int .u64 (L:Nat)]
structure Held (T:List Nat) (v:Sm.V8) (bl:List Nat):Prop where
 ok:Sm.allB T
 vok:v.ok
 lt:T.length<1152921504606846976
 words:T≠[]→v=Sm.blocks T Sm.first (T.length/64)
 size:bl.length=64
 bok:Sm.allB bl
 block:bl.take (T.length%64)=T.drop (64*(T.length/64))
def StateAt (w:World) (g:Nat) (T:List Nat):Prop:=
 ∃v bl,Held T v bl∧w.heap[g]? =some (.cells (stL v bl T.length).toArray 303 (0,0))
end Go.Proofs.YtinihaflmdihaaaGreat
namespace Go.Proofs.YtinihaflmdihaaaGreat.Sm
open List renaming setIfInBounds_toArray → sA, set_cons_zero → sZ, set_cons_succ → sS
theorem word_congr {X Y:List Nat} (h:∀i,i<64→X.getD i 0=Y.getD i 0) (i:Nat) (hi:i<16):word X i=word Y i:=by
 unfold word
 rw [h _ (by omega),h _ (by omega),h _ (by omega),h _ (by omega)]
theorem words_congr {X Y:List Nat} (h:∀i,i<64→X.getD i 0=Y.getD i 0) (n:Nat) (hn:n≤16):words X n=words Y n:=by
 induction n with
 | zero=>rfl
 | succ n ih=>rw [words,words,ih (by omega),word_congr h n (by omega)]
theorem sched_congr {X Y:List Nat} (h:∀i,i<64→X.getD i 0=Y.getD i 0):sched X=sched Y:=by
 unfold sched
 rw [words_congr h 16 (by omega)]
theorem blocks_congr {X Y:List Nat} (v:V8) (n:Nat) (h:∀i,i<64*n→X.getD i 0=Y.getD i 0):blocks X v n=blocks Y v n:=by
 induction n with
 | zero=>rfl
 | succ n ih=>
  rw [blocks,blocks,ih (fun i hi=>h i (by omega))]
  rw [sched_congr (X:=X.drop (64*n)) (Y:=Y.drop (64*n)) (fun i hi=>by rw [getD_drop,getD_drop];exact h _ (by omega))]
theorem blocks_take (B:List Nat) (v:V8) (n F:Nat) (h:64*n≤F):blocks (B.take F) v n=blocks B v n:=
 blocks_congr v n fun i hi=>getD_take B F i (by omega)
theorem blocks_app (T B:List Nat) (v:V8) (n:Nat) (h:64*n≤T.length):blocks (T++B) v n=blocks T v n:=
 blocks_congr v n fun i hi=>getD_app_left T B i (by omega)
theorem blocks_add (T B:List Nat) (v:V8) (q n:Nat) (h:T.length=64*q):blocks (T++B) v (q+n)=blocks B (blocks T v q) n:=by
 induction n with
 | zero=>exact blocks_app T B v q (by omega)
 | succ n ih=>
  rw [show q+(n+1)=(q+n)+1 from rfl,blocks,ih,blocks]
  rw [show (T++B).drop (64*(q+n))=B.drop (64*n) from by
   rw [show 64*(q+n)=T.length+64*n from by omega,List.drop_append,List.drop_eq_nil_of_le (by omega)]
   simp]
end Go.Proofs.YtinihaflmdihaaaGreat.Sm
