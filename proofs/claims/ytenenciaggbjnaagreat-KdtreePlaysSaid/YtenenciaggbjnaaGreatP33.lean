/- ShaRefTurn, ShaRefWith, ShaRefSum, PgRefSum. -/
import Derived.Test.YtenenciaggbjnaaGreatP32
set_option maxRecDepth 100000
set_option maxHeartbeats 8000000
set_option linter.all false
namespace Go.Proofs.YtenenciaggbjnaaGreat
section
open Go.RowKit
theorem x0u (x n:Nat) (hx:x<4294967296) (hn:0<n) (hn':n<32) (w:World):
  Calls Tryz.prog 330 #[.int .u32 x,.int .u64 n] w fun e w'=>e= .returned (.int .u32 (Sm.rot n x))/\w'=w:=by
 have G:(0:Int)<=n:=by omega
 have C:(n:Int)<=32:=by omega
 have E:(0:Int)<=32 - n:=by omega
 have H:(32 - n:Int)<=32:=by omega
 go_enter Tryz.func330,Tryz.ntmps330
 go_wp2
 go_ret;refine ⟨y2i ?_,rfl⟩;have A:(x:Int)*2^(32 - n)%4294967296=((x*2^(32 - n)%4294967296:Nat):Int):=by
  rw [Int.natCast_emod,Int.natCast_mul,Int.natCast_pow];rfl
 have B:(x:Int)/2^n=((x/2^n:Nat):Int):=by
  rw [Int.natCast_ediv,Int.natCast_pow];rfl
 rw [A,B,u32_or_nat _ _ (Nat.lt_of_le_of_lt (Nat.div_le_self _ _) hx) (Nat.mod_lt _ (by omega))];rw [Nat.or_comm];rfl
theorem y6w (x:Nat) (hx:x<4294967296) (w:World):Calls Tryz.prog 330 #[.int .u32 x,.int .u64 2] w fun e w'=>e= .returned (.int .u32 (Sm.rot 2 x))/\w'=w:=x0u x 2 hx (by omega) (by omega) w
theorem y6x (x:Nat) (hx:x<4294967296) (w:World):Calls Tryz.prog 330 #[.int .u32 x,.int .u64 6] w fun e w'=>e= .returned (.int .u32 (Sm.rot 6 x))/\w'=w:=x0u x 6 hx (by omega) (by omega) w
theorem y58 (x:Nat) (hx:x<4294967296) (w:World):Calls Tryz.prog 330 #[.int .u32 x,.int .u64 11] w fun e w'=>e= .returned (.int .u32 (Sm.rot 11 x))/\w'=w:=x0u x 11 hx (by omega) (by omega) w
theorem y59 (x:Nat) (hx:x<4294967296) (w:World):Calls Tryz.prog 330 #[.int .u32 x,.int .u64 13] w fun e w'=>e= .returned (.int .u32 (Sm.rot 13 x))/\w'=w:=x0u x 13 hx (by omega) (by omega) w
theorem y5A (x:Nat) (hx:x<4294967296) (w:World):Calls Tryz.prog 330 #[.int .u32 x,.int .u64 22] w fun e w'=>e= .returned (.int .u32 (Sm.rot 22 x))/\w'=w:=x0u x 22 hx (by omega) (by omega) w
theorem y5B (x:Nat) (hx:x<4294967296) (w:World):Calls Tryz.prog 330 #[.int .u32 x,.int .u64 25] w fun e w'=>e= .returned (.int .u32 (Sm.rot 25 x))/\w'=w:=x0u x 25 hx (by omega) (by omega) w
theorem A50:Tryz.prog.underlying 312=some (.slice 282):=by kernel_rfl
theorem I31:(Tryz.prog.info? 282).map (fun i=>(i.zero,i.size,i.bytes))=some (some (.int .u32 0),1,4):=by kernel_rfl
theorem y3d (w:World):
  Calls Tryz.prog 259 #[] w fun e w'=>e= .returned (.slice (some ⟨w.heap.size,0,none⟩) 64 64)/\w.alloc (.cells (u32s Sm.ks) 282)=w':=by
 go_enter Tryz.func259,Tryz.ntmps259
 go_wp2
 go_ret;exact ⟨rfl,rfl⟩
theorem y7a (w:World):(Instr.makeSlice 312 (.int .i64 64) (.int .i64 64)).run Tryz.prog w= .ok (.slice (some ⟨w.heap.size,0,none⟩) 64 64) (w.alloc (.cells (u32s (zeros 64)) 282)):=by kernel_rfl
def pw (B:List Nat) (i:Nat):Nat->Nat
 | 0=>0
 | n+1=>256*pw B i n+B.getD (4*i+n) 0
theorem pw_lt {B:List Nat} (h:Sm.allB B) (i:Nat):∀n,pw B i n<256^n
 | 0=>by simp [pw]
 | n+1=>by
  have h1:=pw_lt h i n
  have h2:=Sm.getD_lt h (by omega) (4*i+n)
  rw [pw,Nat.pow_succ]
  omega
theorem y6y (B:List Nat) (i:Nat):pw B i 4=Sm.word B i:=by
 simp only [pw,Sm.word,Nat.add_zero];omega
structure RW (w wr:World) (g:Nat) (l:List Nat):Prop where
 below:Below w.heap.size w wr
 row:wr.heap[g]? =some (.cells (u32s l) 282 (0,0))
 lg:w.heap.size<=g
theorem RW.store {w wr:World} {g:Nat} {p q:List Nat} {y:Nat} (h:RW w wr g (p++y::q)) (k:Nat) (hk:p.length=k) (x:Nat):RW w (wr.setCell ⟨g,k,none⟩ (.int .u32 (x:Nat))) g (p++x::q):=
 ⟨h.below.setCell h.lg _,by rw [jU _ _ _ _ _ _ h.row,x7j p q y x k hk],h.lg⟩
theorem RW.drewN {w wr:World} {g:Nat} {l:List Nat} (h:RW w wr g l) (n:Nat):RW w (wr.drewN n) g l:=⟨Below.drewN h.below n,h.row,h.lg⟩
def R1Rel (w:World) (g:Nat) (B:List Nat) (i:Value) (wr:World):Prop:=∃k:Nat,k<=16/\i= .int .i64 k/\RW w wr g (Sm.words B k++zeros (64 - k))
def R2Rel (w:World) (g:Nat) (B:List Nat) (k:Nat) (n:Value) (wr:World):Prop:=∃m:Nat,m<=4/\n= .int .i64 m/\RW w wr g (Sm.words B k++pw B k m::zeros (63 - k))
def R3Rel (w:World) (g:Nat) (B:List Nat) (i:Value) (wr:World):Prop:=∃k:Nat,k<=48/\i= .int .i64 (k+16:Nat)/\RW w wr g (Sm.more (Sm.words B 16) k++zeros (48 - k))
theorem x6X {w:World} {base n:Nat} {v:Value} {xs:List Value} (h:w.ownsRow base 282 1 v n xs):∃q c,v= .slice q n c:=by
 rcases h.2 with ⟨rfl,rfl⟩ | ⟨g,A,B,rfl,_⟩
 ·exact ⟨_,_,rfl⟩
 ·exact ⟨_,_,rfl⟩
theorem y1j {w:World} {base n c:Nat} {q:Option Addr} {xs:List Value} (h:w.ownsRow base 282 1 (.slice q n c) n xs) (hq:Value.slice q n c≠ .slice none 0 0):
  ∃g C,q=some ⟨g,0,none⟩/\base<=g/\w.heap[g]? =some (.cells C 282 (0,0))/\n<=c/\C.toList.take n=xs:=by
 rcases h.2 with ⟨A,_⟩ | ⟨g,J,B,A,H,I,E,_,_,G⟩
 ·exact absurd A hq
 ·simp at A;obtain ⟨rfl,rfl⟩:=A;rw [Nat.mul_one] at G;exact ⟨g,B,rfl,H,I,E,G⟩
theorem y7b {e f g:Nat} (he:e<4294967296) (hf:f<4294967296) (hg:g<4294967296):bits .xor .u32 (bits .and .u32 (e:Nat) (f:Nat)) (bits .and .u32 (4294967295 - (e:Int)) (g:Nat))=((Sm.ch e f g:Nat):Int):=by
 rw [show 4294967295 - (e:Int)=((4294967295 - e:Nat):Int) from by omega,u32_and_nat _ _ he hf,u32_and_nat _ _ (by omega) hg,u32_xor_nat _ _ (Sm.and_lt hf) (Sm.and_lt hg)];rfl
theorem y6z {h e:Nat} (he:e<4294967296) {c k w:Nat}:(((h:Nat)+bits .xor .u32 (bits .xor .u32 (Sm.rot 6 e:Nat) (Sm.rot 11 e:Nat)) (Sm.rot 25 e:Nat)+(c:Nat)+(k:Nat))%4294967296+(w:Nat))%4294967296=(((h+Sm.b1 e+c+k+w)%4294967296:Nat):Int):=by
 rw [Sm.b1_int he];omega
theorem y70 {a m:Nat} (ha:a<4294967296):(bits .xor .u32 (bits .xor .u32 (Sm.rot 2 a:Nat) (Sm.rot 13 a:Nat)) (Sm.rot 22 a:Nat)+(m:Nat))%4294967296=(((Sm.b0 a+m)%4294967296:Nat):Int):=by
 rw [Sm.b0_int ha];omega
theorem y5C (v u:Sm.V8) (k:Nat) (hk:k<8):(Sm.add8 v u).list.getD k 0=(v.list.getD k 0+u.list.getD k 0)%4294967296:=by
 match k,hk with
 | 0,_=>rfl
 | 1,_=>rfl
 | 2,_=>rfl
 | 3,_=>rfl
 | 4,_=>rfl
 | 5,_=>rfl
 | 6,_=>rfl
 | 7,_=>rfl
theorem y7c {v:Sm.V8} (h:v.ok):Sm.allW v.list:=by
 obtain ⟨E,B,C,H,G,I,A,J⟩:=h;intro x hx;simp only [Sm.V8.list,jW,jV,or_false] at hx;rcases hx with rfl | rfl | rfl | rfl | rfl | rfl | rfl | rfl<;>assumption
theorem v8_lt {v:Sm.V8} (h:v.ok) (k:Nat):v.list.getD k 0<4294967296:=Sm.getD_lt (y7c h) (by omega) k
def R5Rel (w:World) (v U:Sm.V8) (g:Nat) (i:Value) (wr:World):Prop:=
 ∃k:Nat,k<=8/\i= .int .i64 k/\wr.heap[g]? =some (.cells (u32s ((Sm.add8 v U).list.take k++U.list.drop k)) 282 (0,0))/\Below w.heap.size w wr
def R4Rel (w:World) (K W:List Nat) (v:Sm.V8) (s i:Value) (wr:World):Prop:=
 ∃(k g c:Nat) (C:Array Value),k<=64/\i= .int .i64 k/\s= .slice (some ⟨g,0,none⟩) 8 c/\8<=c/\wr.heap[g]? =some (.cells C 282 (0,0))/\C.toList.take 8=w32 (Sm.rounds K W v k).list/\
  (0<k->c=8/\C=u32s (Sm.rounds K W v k).list)/\w.heap.size<g/\RW w wr w.heap.size W
theorem x1f {f:FuncId} {args:Array Value} {w:World} {a n:Nat} {v:Value} (h:Calls Tryz.prog f args (w.drewN (a+n)) fun e w'=>e= .returned v/\w'=w.drewN (a+n)):
  Calls Tryz.prog f args (w.drewN (a+n)) fun e w'=>e= .returned v/\∃m,w'=w.drewN (a+m):=by
 refine h.mono fun e w' hw=>⟨hw.1,n,hw.2⟩
theorem x9i (v:Sm.V8) (hv:v.ok) (B K:List Nat) (hB:Sm.allB B) (hK:Sm.allW K) (lB:64<=B.length) (lK:K.length=64) (gh gb ob cb gk:Nat) (_hcb:64<=cb) (w:World)
  (hh:w.heap[gh]? =some (.cells (u32s v.list) 282 (0,0))) (hb:bytesAt w gb ob B) (hk:w.heap[gk]? =some (.cells (u32s K) 282 (0,0))):
  Calls Tryz.prog 306 #[.slice (some ⟨gh,0,none⟩) 8 8,.slice (some ⟨gb,ob,none⟩) 64 cb,.slice (some ⟨gk,0,none⟩) 64 64] w
   fun e w'=>∃g,e= .returned (.slice (some ⟨g,0,none⟩) 8 8)/\w'.heap[g]? =some (.cells (u32s (Sm.turn K (Sm.sched B) v).list) 282 (0,0))/\w.heap.size<=g/\Below w.heap.size w w':=by
 have HH:=yH hh;have HB:=yH hb;have HK:=yH hk;have z:=yH hB;have Bc:=yH hK;have LB:=yH lB;have LK:=yH lK;have HV:=yH hv;clear hh hb hk hB hK lB lK hv;have mk:=fun w=>y7a w
 go_enter Tryz.func306,Tryz.ntmps306
 go_wp2_with fail
 have h0:RW w (w.alloc (.cells (u32s (zeros 64)) 282)) w.heap.size (zeros 64):=⟨jA _ _,jE w _,jB _⟩
 have H0:=yH h0;clear h0 mk;go_loopw [8,9] (fun i _ wr=>R1Rel w w.heap.size B i wr) (fun i _ _=>16 - (intOf i).toNat)
 case atStart=>exact ⟨0,by omega,rfl,H0.out⟩
 case round=>
  obtain ⟨k,hk,rfl,hs⟩:=hrel;have HS:=yH hs;clear hs H0;by_cases hlt:k<16
  ·have B5:decide ((k:Int)<16)=true:=kF (by omega);go_wp2_with fail
   obtain ⟨wo,rfl⟩:∃wo:World,wo=wr:=⟨_,rfl⟩
   go_loopw [9] (fun n wr=>R2Rel w w.heap.size B k n wr) (fun n _=>4 - (intOf n).toNat)
   case atStart=>
    refine ⟨0,by omega,rfl,?_⟩;have:=HS.out;rw [x20 (show 0<64 - k from by omega),show 64 - k - 1=63 - k from by omega] at this;exact this
   case round=>
    obtain ⟨m,hm,rfl,I⟩:=hrel;have H:=yH I;clear I;by_cases hlm:m<4
    ·have C1:wr.cell? ⟨w.heap.size,k,none⟩=some (.int .u32 (pw B k m:Nat)):=by
      have:=x0O H.row k (by simp [Sm.length_words]);rw [jG,kS (by rw [Sm.length_words];exact jB _),Sm.length_words,Nat.sub_self] at this;exact this
     have Cm:wr.frozen? ⟨w.heap.size,k,none⟩=false:=jS wr _ k _ _ H.row;have N:gb<w.heap.size:=jI (HB.out 0 (by have:=LB.out;omega));have Bw:wr.cell? ⟨gb,ob+(4*k+m),none⟩=some (.int .u8 (B.getD (4*k+m) 0:Nat)):=(H.below.cell (p:=⟨gb,ob+(4*k+m),none⟩) N).trans (HB.out _ (by have:=LB.out;omega));have BS:pw B k m<16777216:=jO (pw_lt z k m) (jJ (Nat.pow_le_pow_right (by omega) (show m<=3 from by omega)) (by decide));have Bt:B.getD (4*k+m) 0<256:=Sm.getD_lt z.out (by omega) _;obtain ⟨P,hP⟩:∃P,P=pw B k m:=⟨_,rfl⟩
     obtain ⟨b,AN⟩:∃b,b=B.getD (4*k+m) 0:=⟨_,rfl⟩
     rw [<- hP] at C1 BS;rw [<- AN] at Bw Bt;have HP:=yH hP;have C3:=yH AN;have Cj:(0:Int)<=k:=by omega
     have CV:(k:Int)<64:=by omega
     have q1:IntKind.i64.wrap (4*(k:Int))=4*(k:Int):=IntWalk.i64_in _ (by omega);have q2:IntKind.i64.wrap (4*(k:Int)+m)=4*(k:Int)+m:=IntWalk.i64_in _ (by omega);have q3:(0:Int)<=4*(k:Int)+m:=by omega
     have q4:4*(k:Int)+m<64:=by omega
     have q5:(4*(k:Int)+m).toNat=4*k+m:=by omega
     have q6:IntKind.u32.wrap (256*(P:Int))=256*(P:Int):=by rw [IntKind.wrap_u32'];omega
     have q7:IntKind.u32.wrap (256*(P:Int)+b)=256*(P:Int)+b:=by rw [IntKind.wrap_u32'];omega
     clear hP AN N;go_wp2_with fail
     go_still_tail 17,(by kernel_rfl)
     go_wp2_with fail
     go_roundw
     case rel=>
      have O:pw B k (m+1)=256*P+b:=by rw [pw,<- HP.out,<- C3.out]
      refine ⟨m+1,by omega,by go_num,?_⟩;rw [O,show 256*(P:Int)+(b:Int)=((256*P+b:Nat):Int) from by omega];have h2:=H.out;rw [<- HP.out] at h2;exact (h2.store k (Sm.length_words B k) (256*P+b)).drewN 1
     case measure=>simp [intOf];omega
    ·obtain rfl:m=4:=by omega
     go_wp2_with fail
     go_roundw
     case rel=>
      refine ⟨k+1,by omega,by go_num,?_⟩;have:=H.out;rw [y6y] at this;rw [Sm.words,jR,show 64 - (k+1)=63 - k from by omega];exact this
     case measure=>simp [intOf];omega
  ·have AI:k=16:=by omega
   have B5:decide ((k:Int)<16)=false:=kE (by omega);have Ax:R3Rel w w.heap.size B (.int .i64 16) wr:=by
    have:=HS.out;rw [AI] at this;exact ⟨0,by omega,rfl,this⟩
   have HS3:=yH Ax;clear Ax HS AI;obtain ⟨kk,Av⟩:∃kk:Int,kk=(k:Int):=⟨_,rfl⟩
   rw [<- Av] at B5 ⊢;clear Av hk hlt;go_wp2_with fail
   go_loopw [10,11,12] (fun i _ _ wr=>R3Rel w w.heap.size B i wr) (fun i _ _ _=>64 - (intOf i).toNat)
   case atStart=>exact HS3.out
   case round=>
    obtain ⟨k,hk,rfl,hs⟩:=hrel;have H:=yH hs;clear hs HS3;obtain ⟨j,hj⟩:∃j,j=k+16:=⟨_,rfl⟩
    rw [<- hj];by_cases hlt:k<48
    ·obtain ⟨l,hl⟩:∃l,l=Sm.more (Sm.words B 16) k:=⟨_,rfl⟩
     have A0:l.length=j:=by rw [hl,Sm.length_more,Sm.length_words];omega
     have r:Sm.allW l:=by rw [hl];exact Sm.more_ok (Sm.words_ok z 16) k
     have I:=H.out;rw [<- hl] at I;have M:∀i,i<j->wr.cell? ⟨w.heap.size,i,none⟩=some (.int .u32 (l.getD i 0:Nat)):=fun i hi=>by
      have:=x0O I.row i (by rw [jQ,A0];omega);rw [x85 _ _ (by omega)] at this;exact this
     have g0:=M (j - 16) (by omega);have g1:=M (j - 15) (by omega);have g9:=M (j - 7) (by omega);have As:=M (j - 2) (by omega);have O:wr.cell? ⟨w.heap.size,j,none⟩=_:=x0O I.row j (by simp [A0,zeros];omega);have Ar:wr.frozen? ⟨w.heap.size,j,none⟩=false:=jS wr _ j _ _ I.row;obtain ⟨x0,A8⟩:∃x,x=l.getD (j - 16) 0:=⟨_,rfl⟩
     obtain ⟨x1,A7⟩:∃x,x=l.getD (j - 15) 0:=⟨_,rfl⟩
     obtain ⟨x9,A3⟩:∃x,x=l.getD (j - 7) 0:=⟨_,rfl⟩
     obtain ⟨Y,X⟩:∃x,x=l.getD (j - 2) 0:=⟨_,rfl⟩
     have w0:x0<4294967296:=by rw [A8];exact Sm.getD_lt r (by omega) _
     have w1:x1<4294967296:=by rw [A7];exact Sm.getD_lt r (by omega) _
     have w9:x9<4294967296:=by rw [A3];exact Sm.getD_lt r (by omega) _
     have AM:Y<4294967296:=by rw [X];exact Sm.getD_lt r (by omega) _
     rw [<- A8] at g0;rw [<- A7] at g1;rw [<- A3] at g9;rw [<- X] at As;have X0:=yH A8;have X1:=yH A7;have X9:=yH A3;have BZ:=yH X;have HL:=yH hl;have BQ:=yH A0;have HJ:=yH hj;have H2:=yH I;have Cy:16<=j:=by omega
     have Cx:j<64:=by omega
     have Cd:(0:Int)<=(j:Int) - 15:=by omega
     have r2:(0:Int)<=(j:Int) - 2:=by omega
     have Bm:IntKind.i64.wrap ((j:Int) - 15)=(j:Int) - 15:=IntWalk.i64_in _ (by omega);have q2:IntKind.i64.wrap ((j:Int) - 2)=(j:Int) - 2:=IntWalk.i64_in _ (by omega);have Ba:((j:Int) - 15).toNat=j - 15:=by omega
     have p2:((j:Int) - 2).toNat=j - 2:=by omega
     have Ch:(j:Int) - 15<64:=by omega
     have t2:(j:Int) - 2<64:=by omega
     have Cf:(15:Int)<=j:=by omega
     have u2:(2:Int)<=j:=by omega
     clear A8 A7 A3 X hl A0 r I M hj hk hlt;go_wp2_with fail
     go_quiet (fail)
     go_wp2_with fail
     generalize A:wr.drewN nq=W2;have f0:W2.cell? ⟨w.heap.size,j - 16,none⟩=some (.int .u32 (x0:Nat)):=by rw [<- A];exact g0
     have f9:W2.cell? ⟨w.heap.size,j - 7,none⟩=some (.int .u32 (x9:Nat)):=by rw [<- A];exact g9
     have Cp:W2.cell? ⟨w.heap.size,j,none⟩=some (.int .u32 ((l++zeros (48 - k)).getD j 0:Nat)):=by rw [<- A];exact O
     have Cg:W2.frozen? ⟨w.heap.size,j,none⟩=false:=by rw [<- A];exact Ar
     have B1:RW w W2 w.heap.size (l++zeros (48 - k)):=by rw [<- A];exact H2.drewN nq
     have CA:=yH B1;clear A g0 g1 g9 As O Ar B1 H2 Bm q2 Ba p2;have BP:IntKind.i64.wrap ((j:Int) - 16)=(j:Int) - 16:=IntWalk.i64_in _ (by omega);have q7:IntKind.i64.wrap ((j:Int) - 7)=(j:Int) - 7:=IntWalk.i64_in _ (by omega);have Bl:((j:Int) - 16).toNat=j - 16:=by omega
     have p7:((j:Int) - 7).toNat=j - 7:=by omega
     have Cn:(16:Int)<=j:=by omega
     have r7:(7:Int)<=j:=by omega
     have jj:(j:Int)<64:=by omega
     have Ca:(j:Int) - 16<64:=by omega
     have t7:(j:Int) - 7<64:=by omega
     go_still_tail 32,(by kernel_rfl)
     still_call (x0u x1 7 w1 (by omega) (by omega) _)
     repeat still_step
     still_call (x0u x1 18 w1 (by omega) (by omega) _)
     repeat still_step
     still_call (x0u Y 17 AM (by omega) (by omega) _)
     repeat still_step
     still_call (x0u Y 19 AM (by omega) (by omega) _)
     repeat still_step
     refine wpStill_nil ?_;clear BP q7 Bl p7;go_wp2_with fail
     go_roundw
     case rel=>
      rw [Sm.s0_int w1,Sm.s1_int AM];have ej:=HJ.out;have e0:j - 16=k:=by omega
      have e1:j - 15=k+1:=by omega
      have e9:j - 7=k+9:=by omega
      have By:j - 2=k+14:=by omega
      have ev:(((x0:Nat):Int)+(Sm.s0 x1:Nat)+(x9:Nat)+(Sm.s1 Y:Nat))%4294967296=(((x0+Sm.s0 x1+x9+Sm.s1 Y)%4294967296:Nat):Int):=by omega
      rw [ev];refine ⟨k+1,by omega,by rw [ej];exact congrArg (Value.int .i64) (by omega),?_⟩;have e:Sm.more (Sm.words B 16) (k+1)++zeros (48 - (k+1))=l++((x0+Sm.s0 x1+x9+Sm.s1 Y)%4294967296)::zeros (48 - (k+1)):=by
       rw [Sm.more,<- HL.out,X0.out,X1.out,X9.out,BZ.out,e0,e1,e9,By,jR];rfl
      rw [e];refine (RW.store (y:=0) ?_ j BQ _).drewN 1;rw [show 48 - (k+1)=48 - k - 1 from by omega,<- x20 (by omega)];exact CA.out
     case measure=>simp [intOf];omega
    ·have AB:k=48:=by omega
     have hw:RW w wr w.heap.size (Sm.sched B):=by
      have:=H.out;rw [AB,show zeros (48 - 48)=[] from rfl,kW] at this;exact this
     have HW:=yH hw;have D4:decide ((j:Int)<64)=false:=kE (by omega);have Cl:¬(j:Int)<64:=by omega
     clear AB hw H hk hlt hj;obtain ⟨i5,hi,B7,Ab,B8⟩:=info_parts I31;have HI:=yH hi;have BW:=yH B7;have CC:=yH Ab;have Bv:=yH B8;clear hi B7 Ab B8;have hE:(wr.alloc (.cells #[] 282)).ownsRow wr.heap.size 282 1 (.slice (some ⟨wr.heap.size,0,none⟩) 0 0) 0 []:=World.ownsRow_made wr #[] 0 (jB _) (by unfold maxLen;decide) rfl;have HE:=yH hE;have AY:∀j u,(w32 v.list)[j]? =some u->(wr.alloc (.cells #[] 282)).cell? ((⟨gh,0,none⟩:Addr).add j)=some u:=fun j u hu=>by
      have h1:=(HW.below.block gh (yL HH)).trans HH.out;have h2:=(Below.heap_alloc wr (.cells #[] 282) gh (yL h1)).trans h1;rw [Addr.add_mid,Nat.zero_add,jH _ gh j _ _ _ h2,<- Array.getElem?_toList];rw [<- x5w];exact hu
     have Ak:=yH AY;clear hE AY;go_wp2_with (at_builtin;refine wpList_append_own _ (by rfl) (.tmp 92) (.tmp 93) 312 (by rfl) wr.heap.size 282 i5 (.int .u32 0) 1 4 A50 HI BW CC Bv (by rfl) (by decide) _ 0 [] (by rfl) HE ⟨gh,0,none⟩ 8 8 (w32 v.list) (by rfl) (by rfl) Ak (x4b _) (by unfold maxLen;decide) (by decide) (by simp) ?_;intro v2 w2 hown2 hgrow2 hnil2)
     obtain ⟨qv,cv,A1⟩:=x6X hown2;have Q:=hown2;rw [A1] at Q;obtain ⟨gv,C0,rfl,C9,B3,Bk,Ag⟩:=y1j Q (fun e=>by
      rw [<- A1] at e;have:=(hnil2.1 e).1;simp at this)
     have B6:Below w.heap.size w w2:=HW.below.trans ((((jC wr.heap.size wr).alloc (jB _) _).grown hgrow2 (by simp) (fun k hk=>by simp [Value.ownBlock] at hk;omega)).mono HW.below.size);have Ay:w.heap.size<wr.heap.size:=(yL HW.row)
     have A:RW w w2 w.heap.size (Sm.sched B):=⟨B6,(hgrow2.block _ (by simp;omega) (by simp [Value.ownBlock];omega)).trans ((Below.heap_alloc _ _ _ Ay).trans HW.row),jB _⟩
     have Aa:v2= .slice (some ⟨gv,0,none⟩) 8 cv:=A1;rw [Aa];have O:R4Rel w K (Sm.sched B) v (.slice (some ⟨gv,0,none⟩) 8 cv) (.int .i64 0) w2:=⟨0,gv,cv,C0,by omega,rfl,rfl,by omega,B3,Ag,fun h=>absurd h (by omega),by omega,A⟩
     have HST:=yH O;clear hown2 Q hgrow2 hnil2 A1 Aa C9 B3 Bk Ag B6 Ay A O HE Ak HW;have f:=Sm.length_sched B;have q:=Sm.sched_ok z.out;obtain ⟨W,AO⟩:∃W,W=Sm.sched B:=⟨_,rfl⟩
     have t:=HST.out;rw [<- AO] at t f q;clear HST;have HST:=yH t;have LW:=yH f;have WW:=yH q;have Be:=yH AO;clear f q AO t;go_loopw [13,14,15,16,17,18] (fun s i _ _ _ _ wr=>R4Rel w K W v s i wr) (fun _ i _ _ _ _ _=>64 - (intOf i).toNat)
     case atStart=>exact HST.out
     case round=>
      obtain ⟨k,g,c,C,hk,rfl,rfl,BT,L,J,AH,At,Al⟩:=hrel;have HR:=yH L;have B4:=yH J;have AD:=yH AH;have A5:=yH Al;have Ao:=yH At;clear L J AH Al HST At;by_cases hlt:k<64
      ·obtain ⟨u,hu⟩:∃u,u=Sm.rounds K W v k:=⟨_,rfl⟩
       have AC:u.ok:=by rw [hu];exact Sm.rounds_ok HV k
       have E:∀i,i<8->wr.cell? ⟨g,i,none⟩=some (.int .u32 (u.list.getD i 0:Nat)):=fun i hi=>by
        rw [jH wr g i _ _ _ HR,<- Array.getElem?_toList];have h1:=congrArg (·[i]?) B4;simp only [List.getElem?_take_of_lt hi] at h1;rw [h1,<- hu];simp [w32,jG,show i<u.list.length from hi]
       have HU:=yH hu;obtain ⟨ua,ub,uc,ud,Z,uf,ug,uh⟩:=u;have c0:=E 0 (by omega);have c1:=E 1 (by omega);have c2:=E 2 (by omega);have c3:=E 3 (by omega);have c4:=E 4 (by omega);have c5:=E 5 (by omega);have c6:=E 6 (by omega);have c7:=E 7 (by omega);have HO:=yH AC;obtain ⟨ha,hb,hc,hd,he,hf,hg,hh⟩:=AC;simp only [Sm.V8.list,List.getD_cons_zero,List.getD_cons_succ] at c0 c1 c2 c3 c4 c5 c6 c7 ha hb hc hd he hf hg hh;have cK:wr.cell? ⟨gk,k,none⟩=some (.int .u32 (K.getD k 0:Nat)):=(A5.below.cell (p:=⟨gk,k,none⟩) (yL HK)).trans (x0O HK k (by rw [LK.out];exact hlt));have cW:wr.cell? ⟨w.heap.size,k,none⟩=some (.int .u32 (W.getD k 0:Nat)):=x0O A5.row k (by rw [LW.out];exact hlt);have bK:K.getD k 0<4294967296:=Sm.getD_lt Bc.out (by omega) k;have bW:W.getD k 0<4294967296:=Sm.getD_lt WW.out (by omega) k;obtain ⟨AZ,o⟩:∃x,x=K.getD k 0:=⟨_,rfl⟩
       obtain ⟨Af,d⟩:∃x,x=W.getD k 0:=⟨_,rfl⟩
       rw [<- o] at cK bK;rw [<- d] at cW bW;have BR:=yH o;have C8:=yH d;have i4:(4:Int)<8:=by omega
       have kd:decide ((k:Int)<64)=true:=kF (by omega);have k0:(0:Int)<=k:=by omega
       have D0:(k:Int)<64:=by omega
       have qs:IntKind.u32.wrap (4294967295 - (Z:Int))=4294967295 - (Z:Int):=IntWalk.u32_in _ (by omega);clear hu E o d;go_wp2_with fail
       go_quiet (fail)
       go_wp2_with fail
       rw [y7b he hf hg]
       go_quiet ((go_at_call 330;first | (with_reducible exact x1f (y6x Z he _)) | (with_reducible exact x1f (y58 Z he _)) | (with_reducible exact x1f (y5B Z he _))))
       go_wp2_with fail
       rw [y6z he];have AW:(uh+Sm.b1 Z+Sm.ch Z uf ug+AZ+Af)%4294967296<4294967296:=Nat.mod_lt _ (by omega);obtain ⟨T1,AJ⟩:∃T1,T1=(uh+Sm.b1 Z+Sm.ch Z uf ug+AZ+Af)%4294967296:=⟨_,rfl⟩
       rw [<- AJ] at AW ⊢;have Bi:=yH AJ;clear AJ
       go_quiet (fail)
       go_wp2_with fail
       rw [Sm.mj_int ha hb hc]
       go_quiet ((go_at_call 330;first | (with_reducible exact x1f (y6w ua ha _)) | (with_reducible exact x1f (y59 ua ha _)) | (with_reducible exact x1f (y5A ua ha _))))
       go_wp2_with fail
       rw [y70 ha];have Ai:(Sm.b0 ua+Sm.mj ua ub uc)%4294967296<4294967296:=Nat.mod_lt _ (by omega);obtain ⟨T2,AK⟩:∃T2,T2=(Sm.b0 ua+Sm.mj ua ub uc)%4294967296:=⟨_,rfl⟩
       rw [<- AK] at Ai ⊢;have Bn:=yH AK;clear AK;simp only [World.drewN_drewN];generalize A:World.drewN wr _=W2;have d0:W2.cell? ⟨g,0,none⟩=some (.int .u32 (ua:Nat)):=by rw [<- A];exact c0
       have d1:W2.cell? ⟨g,1,none⟩=some (.int .u32 (ub:Nat)):=by rw [<- A];exact c1
       have d2:W2.cell? ⟨g,2,none⟩=some (.int .u32 (uc:Nat)):=by rw [<- A];exact c2
       have d3:W2.cell? ⟨g,3,none⟩=some (.int .u32 (ud:Nat)):=by rw [<- A];exact c3
       have d4:W2.cell? ⟨g,4,none⟩=some (.int .u32 (Z:Nat)):=by rw [<- A];exact c4
       have d5:W2.cell? ⟨g,5,none⟩=some (.int .u32 (uf:Nat)):=by rw [<- A];exact c5
       have d6:W2.cell? ⟨g,6,none⟩=some (.int .u32 (ug:Nat)):=by rw [<- A];exact c6
       have d7:W2.cell? ⟨g,7,none⟩=some (.int .u32 (uh:Nat)):=by rw [<- A];exact c7
       have R:=yH (show RW w W2 w.heap.size W from by rw [<- A];exact A5.drewN _);clear A c0 c1 c2 c3 c4 c5 c6 c7 cK cW
       go_still_tail 26,(by kernel_rfl)
       go_wp2_with fail
       go_roundw
       case rel=>
        have e1:((T1:Int)+(T2:Int))%4294967296=(((T1+T2)%4294967296:Nat):Int):=by omega
        have e2:((ud:Int)+(T1:Int))%4294967296=(((ud+T1)%4294967296:Nat):Int):=by omega
        rw [e1,e2];have hC:(#[.int .u32 (((T1+T2)%4294967296:Nat):Int),.int .u32 (ua:Nat),.int .u32 (ub:Nat),.int .u32 (uc:Nat),.int .u32 (((ud+T1)%4294967296:Nat):Int),.int .u32 (Z:Nat),.int .u32 (uf:Nat),.int .u32 (ug:Nat)]:Array Value)=u32s (Sm.rounds K W v (k+1)).list:=by
         rw [Sm.rounds,<- HU.out,<- BR.out,<- C8.out,Bi.out,Bn.out];rfl
        rw [hC];refine ⟨k+1,W2.heap.size,8,_,by omega,by go_num,rfl,jB _,jE W2 _,rfl,fun _=>⟨rfl,rfl⟩,(yL R.row),?_⟩;have N:=R.below;have Au:=(yL R.row)
        exact (show RW w (W2.alloc _) w.heap.size W from ⟨N.alloc N.size _,(Below.heap_alloc _ _ _ Au).trans R.row,jB _⟩).drewN 1
       case measure=>simp [intOf];omega
      ·have AF:k=64:=by omega
       obtain ⟨hc,hC⟩:=AD.out (by omega);have hr:=HR.out;rw [hC,AF] at hr;subst hc;obtain ⟨U,hU⟩:∃U,U=Sm.rounds K W v 64:=⟨_,rfl⟩
       rw [<- hU] at hr;have AG:U.ok:=by rw [hU];exact Sm.rounds_ok HV 64
       have AE:R5Rel w v U g (.int .i64 0) wr:=⟨0,by omega,rfl,hr,A5.below⟩
       have HST5:=yH AE;have HU:=yH hU;have Bg:=yH AG;have AX:decide ((k:Int)<64)=false:=kE (by omega);obtain ⟨k4,Aq⟩:∃kk:Int,kk=(k:Int):=⟨_,rfl⟩
       rw [<- Aq] at AX ⊢;clear AF hC hr hU AG AE Aq hk hlt AD HR B4 BT;go_wp2_with fail
       go_loopw [19] (fun i wr=>R5Rel w v U g i wr) (fun i _=>8 - (intOf i).toNat)
       case atStart=>exact HST5.out
       case round=>
        obtain ⟨k,hk,rfl,L,N⟩:=hrel;have A6:=yH L;have AL:=yH N;clear L N HST5;by_cases hlt:k<8
        ·have B0:U.list.drop k=U.list.getD k 0::U.list.drop (k+1):=by
          rw [List.drop_eq_getElem_cons (show k<U.list.length from hlt),jG,jM (show k<U.list.length from hlt)];rfl
         have G:=A6.out;rw [B0] at G;have A2:((Sm.add8 v U).list.take k).length=k:=by rw [kX];exact Nat.min_eq_left (Nat.le_of_lt hlt)
         have e1:wr.cell? ⟨g,k,none⟩=some (.int .u32 (U.list.getD k 0:Nat)):=by
          have:=x0O G k (by rw [jQ,A2];simp);rw [jG,kS (by omega),A2,Nat.sub_self] at this;exact this
         have f1:wr.frozen? ⟨g,k,none⟩=false:=jS wr g k _ _ G;have e2:wr.cell? ⟨gh,k,none⟩=some (.int .u32 (v.list.getD k 0:Nat)):=(AL.cell (p:=⟨gh,k,none⟩) (yL HH)).trans (x0O HH k hlt);have Ac:=y5C v U k hlt;have b1:U.list.getD k 0<4294967296:=v8_lt Bg.out k;have b2:v.list.getD k 0<4294967296:=v8_lt HV.out k;have J:(Sm.add8 v U).list.take (k+1)=(Sm.add8 v U).list.take k++[(Sm.add8 v U).list.getD k 0]:=by
          rw [List.take_succ_eq_append_getElem (show k<(Sm.add8 v U).list.length from hlt),jG,jM (show k<(Sm.add8 v U).list.length from hlt)];rfl
         rw [Ac] at J;obtain ⟨a,Aj⟩:∃a,a=U.list.getD k 0:=⟨_,rfl⟩
         obtain ⟨b,Ap⟩:∃b,b=v.list.getD k 0:=⟨_,rfl⟩
         rw [<- Aj] at e1 b1 G J;rw [<- Ap] at e2 b2 J;have AP:=yH G;have Bb:=yH A2;have Ah:=yH J;have k0:(0:Int)<=k:=by omega
         have k8:(k:Int)<8:=by omega
         clear B0 G A2 Ac J Aj Ap A6;go_wp2_with fail
         go_still_tail 12,(by kernel_rfl)
         go_wp2_with fail
         go_roundw
         case rel=>
          rw [show ((a:Int)+(b:Int))%4294967296=(((b+a)%4294967296:Nat):Int) from by omega];refine ⟨k+1,by omega,by go_num,?_,(AL.setCell (Nat.le_of_lt Ao.out) _).drew⟩;show (World.setCell _ _ _).heap[g]? =_
          rw [jU _ _ _ _ _ _ AP,x7j _ _ _ _ k Bb,Ah.out,jR];rfl
         case measure=>simp [intOf];omega
        ·obtain rfl:k=8:=by omega
         have G:=A6.out;rw [show (Sm.add8 v U).list.take 8++U.list.drop 8=(Sm.add8 v U).list from rfl] at G;have AP:=yH G;clear G A6;go_wp2_with fail
         go_ret;refine ⟨g,rfl,?_,Nat.le_of_lt Ao.out,AL.out⟩;rw [Sm.turn,<- Be.out,<- HU.out];exact AP.out
theorem y5D (n:Nat):∀x∈Sm.bigs n,x<256:=by
 intro x hx;simp only [Sm.bigs,jW,jV,or_false] at hx;rcases hx with rfl | rfl | rfl | rfl | rfl | rfl | rfl | rfl<;>exact Sm.big_lt _ _
def pad (n:Nat):Nat:=(119 - n%64)%64
theorem y3e (T:List Nat):Sm.full T=T++128::(zeros (pad T.length)++Sm.bigs (8*T.length)):=rfl
theorem y5E (T:List Nat):(Sm.full T).length=T.length+1+pad T.length+8:=by
 rw [y3e,jQ,kI,jQ];simp [zeros,Sm.bigs];omega
theorem y5F (T:List Nat):(Sm.full T).length%64=0:=by
 rw [y5E];unfold pad;omega
def zs (T:List Nat) (k:Nat):List Nat:=T++128::zeros k
theorem y71 (T:List Nat) (k:Nat):zs T (k+1)=zs T k++[0]:=by
 unfold zs zeros;rw [List.replicate_succ',jR,List.cons_append]
theorem zs_ok {T:List Nat} (h:Sm.allB T) (k:Nat):Sm.allB (zs T k):=fun x hx=>by
 unfold zs at hx
 simp only [jP,jW] at hx
 rcases hx with hx | rfl | hx
 ·exact h x hx
 ·omega
 ·exact x2C k x hx
theorem y72 (n:Nat):Sm.allB (Sm.bigs n):=fun x hx=>y5D n x hx
theorem y3f (T:List Nat):Sm.full T=zs T (pad T.length)++Sm.bigs (8*T.length):=by
 rw [y3e];unfold zs;rw [jR,List.cons_append]
theorem y3g {T:List Nat} (h:Sm.allB T):Sm.allB (Sm.full T):=fun x hx=>by
 rw [y3f] at hx
 rcases jP.1 hx with hx | hx
 ·exact zs_ok h _ x hx
 ·exact y72 _ x hx
def W1Rel (w:World) (T:List Nat) (m:Nat) (s:Value) (wr:World):Prop:=
 ∃(k:Nat) (q:Option Addr) (d:Nat),k<=m/\s= .slice q (T.length+1+k) d/\wr.ownsRow w.heap.size 5 1 (.slice q (T.length+1+k) d) (T.length+1+k) (vals (zs T k))/\Below w.heap.size w wr
theorem x4v {w:World} {base n:Nat} {v:Value} {xs:List Value} (h:w.ownsRow base 5 1 v n xs):∃q c,v= .slice q n c:=by
 rcases h.2 with ⟨rfl,rfl⟩ | ⟨g,A,B,rfl,_⟩
 ·exact ⟨_,_,rfl⟩
 ·exact ⟨_,_,rfl⟩
theorem y73 {w:World} {base n:Nat} {v:Value} {B:List Nat} (h:w.ownsRow base 5 1 v n (vals B)) (hB:Sm.allB B) (h0:0<n):∃g c,v= .slice (some ⟨g,0,none⟩) n c/\n<=c/\n=B.length/\bytesAt w g 0 B:=by
 obtain ⟨q,c,rfl,H⟩:=x87 h hB;have G:=H.size;obtain ⟨g,o,I,J⟩:=H.ne (by rintro rfl;simp at G;omega);rcases h.2 with ⟨A,_⟩ | ⟨M,L,K,A,_,_,E,_⟩
 ·cases A;omega
 ·simp only [Value.slice.injEq] at A;obtain ⟨C,-,rfl⟩:=A;rw [I] at C;simp only [Option.some.injEq,Addr.mk.injEq] at C;obtain ⟨rfl,rfl,-⟩:=C;exact ⟨g,c,by rw [I],E,G,J⟩
def B3Rel (w:World) (F:List Nat) (M:Nat) (h i:Value) (wr:World):Prop:=
 ∃k g:Nat,k<=M/\i= .int .i64 (64*k:Nat)/\h= .slice (some ⟨g,0,none⟩) 8 8/\wr.heap[g]? =some (.cells (u32s (Sm.blocks F Sm.first k).list) 282 (0,0))/\Below w.heap.size w wr
theorem y5G (V:Sm.V8) (a r:Nat) (ha:a<8) (hr:r<4):(Sm.bytesOf V).getD (4*a+r) 0=V.list.getD a 0/2^(24 - 8*r)%256:=
 match a,ha,r,hr with
 | 0,_,0,_=>rfl
 | 0,_,1,_=>rfl
 | 0,_,2,_=>rfl
 | 0,_,3,_=>(congrArg (·%256) (Nat.div_one _)).symm
 | 1,_,0,_=>rfl
 | 1,_,1,_=>rfl
 | 1,_,2,_=>rfl
 | 1,_,3,_=>(congrArg (·%256) (Nat.div_one _)).symm
 | 2,_,0,_=>rfl
 | 2,_,1,_=>rfl
 | 2,_,2,_=>rfl
 | 2,_,3,_=>(congrArg (·%256) (Nat.div_one _)).symm
 | 3,_,0,_=>rfl
 | 3,_,1,_=>rfl
 | 3,_,2,_=>rfl
 | 3,_,3,_=>(congrArg (·%256) (Nat.div_one _)).symm
 | 4,_,0,_=>rfl
 | 4,_,1,_=>rfl
 | 4,_,2,_=>rfl
 | 4,_,3,_=>(congrArg (·%256) (Nat.div_one _)).symm
 | 5,_,0,_=>rfl
 | 5,_,1,_=>rfl
 | 5,_,2,_=>rfl
 | 5,_,3,_=>(congrArg (·%256) (Nat.div_one _)).symm
 | 6,_,0,_=>rfl
 | 6,_,1,_=>rfl
 | 6,_,2,_=>rfl
 | 6,_,3,_=>(congrArg (·%256) (Nat.div_one _)).symm
 | 7,_,0,_=>rfl
 | 7,_,1,_=>rfl
 | 7,_,2,_=>rfl
 | 7,_,3,_=>(congrArg (·%256) (Nat.div_one _)).symm
def B4Rel (w:World) (V:Sm.V8) (i:Value) (wr:World):Prop:=
 ∃k:Nat,k<=32/\i= .int .i64 k/\wr.heap[w.heap.size]? =some (.cells (u8s ((Sm.bytesOf V).take k++zeros (32 - k))) 30 (0,0))/\Below w.heap.size w wr
def lenV:Value->Nat
 | .slice _ n _=>n
 | _=>0
theorem y5H (T:List Nat) (p:Option Addr) (n c gk:Nat) (w:World) (hT:Tx w p n c T) (hl:T.length<1000000) (hk:w.heap[gk]? =some (.cells (u32s Sm.ks) 282 (0,0))):
  Calls Tryz.prog 258 #[.slice p n c,.slice (some ⟨gk,0,none⟩) 64 64] w fun e w'=>e= .returned (.agg (u8s (Sm.sum T)))/\Below w.heap.size w w':=by
 have HT:=yH hT;have HN:=yH hT.size;have HK:=yH hk;have HZ:=yH (zero_of_info Z25).1;have Z:=(zero_of_info Z25).1;have C4:n<1000000:=by rw [HN.out];exact hl
 clear hT hk;obtain ⟨i5,hi,Ax,Aa,Ay⟩:=info_parts I5;have HI:=yH hi;have W:=yH Ax;have A5:=yH Aa;have A0:=yH Ay;clear hi Ax Aa Ay
 go_enter Tryz.func258,Tryz.ntmps258
 go_upto_region 1 with fail
 generalize hW0:w.alloc (.cells (u8s (zeros 32)) 30)=W0;obtain ⟨Q,X⟩:∃Q,Q=w.heap.size:=⟨_,rfl⟩
 rw [<- X];have Au:=yH (show W0.heap[Q]? =some (.cells (u8s (zeros 32)) 30 (0,0)) from by rw [X,<- hW0];exact jE w _);have C3:=yH (show W0.heap.size=Q+1 from by rw [X,<- hW0];simp);have AA:Below w.heap.size w W0:=by rw [<- hW0];exact jA _ _
 have R:=yH (HT.later AA);have Ae:=yH (show W0.heap[gk]? =some (.cells (u32s Sm.ks) 282 (0,0)) from (AA.block gk (yL HK)).trans HK.out);have Az:=yH AA;have BA:=yH X;clear AA HT HK hW0 X Z;obtain ⟨z,Z⟩:∃z,z=T.length:=⟨_,rfl⟩
 have BU:n=z:=by rw [HN.out,Z]
 subst BU;go_cut [5] (fun s wx=>∃q d,s= .slice q (n+1) d/\wx.ownsRow W0.heap.size 5 1 (.slice q (n+1) d) (n+1) (vals (T++[128]))/\Below W0.heap.size W0 wx)
 case first=>
  have hE:(W0.alloc (.cells #[] 5)).ownsRow W0.heap.size 5 1 (.slice (some ⟨W0.heap.size,0,none⟩) 0 0) 0 (vals ([]:List Nat)):=x23 (L:=[]) (jE W0 _) rfl (jB _) (by unfold maxLen;omega) (jB _);have HE:=yH hE;have AQ:=yH (show Below W0.heap.size W0 (W0.alloc (.cells #[] 5)) from jA _ _);clear hE;have E:=yH Z;clear Z;rcases R.at' with ⟨hp,hc⟩ | ⟨x,hp,_⟩
  ·subst hp;subst hc;obtain rfl:n=0:=by have:=R.le;omega
   have BC:=yH (show T=[] from jZ.1 E.symm);have BD:=yH (show ((W0.alloc (.cells #[] 5)).alloc (.cells (u8s [128]) 5)).heap[W0.heap.size+1]? =some (.cells (u8s [128]) 5 (0,0)) from by
    have:=jE (W0.alloc (.cells #[] 5)) (.cells (u8s [128]) 5);rw [show (W0.alloc (.cells #[] 5)).heap.size=W0.heap.size+1 from by simp] at this;exact this)
   go_wp2_with (at_builtin;first | (refine wpList_append_own_none (by rfl) (.tmp 12) (.tmp 13) 45 (by rfl) W0.heap.size 5 i5 1 A22 HI _ 0 _ (by rfl) HE (by rfl) ?_) | (refine wpList_append_own _ (by rfl) (.tmp 14) (.tmp 15) 45 (by rfl) W0.heap.size 5 i5 (.int .u8 0) 1 1 A22 HI W A5 A0 (by rfl) (by decide) _ 0 [] (by rfl) (HE.alloc _) ⟨W0.heap.size+1,0,none⟩ 1 1 (vals [128]) (by rfl) (by rfl) (x0v (L:=[128]) BD) (x0L _) (by unfold maxLen;omega) (by omega) (by simp;omega) ?_;intro v4 w4 hown4 hgrow4 _;obtain ⟨q4,d4,C⟩:=x4v hown4;have o:=yH hown4;have A3:=yH hgrow4;have u:=yH C;rw [C];clear hown4 hgrow4 C))
   go_meet;refine ⟨q4,d4,rfl,?_,(AQ.alloc (by simp) (.cells (u8s [128]) 5)).grown A3.out (by simp;omega) (fun k hk=>by simp [Value.ownBlock] at hk;omega)⟩;have O:=o.out;rw [u.out] at O;rw [BC.out];exact O
  ·subst hp;go_wp2_with (at_builtin;first | (refine wpList_append_own _ (by rfl) (.tmp 12) (.tmp 13) 45 (by rfl) W0.heap.size 5 i5 (.int .u8 0) 1 1 A22 HI W A5 A0 (by rfl) (by decide) _ 0 [] (by rfl) HE x n c (vals T) (by rfl) (by rw [x00,Nat.mul_one];exact E.symm) ((R.later AQ).cells) (x0L _) (by unfold maxLen;omega) (by omega) (by simp) ?_;intro v3 H hown3 hgrow3 _;rw [Nat.zero_add,kV] at hown3;have Ah:=yH hown3;have A8:=yH (AQ.grown hgrow3 (by simp) (fun k hk=>by simp [Value.ownBlock] at hk;omega));clear hown3 hgrow3) | (refine wpList_append_own _ (by rfl) (.tmp 14) (.tmp 15) 45 (by rfl) W0.heap.size 5 i5 (.int .u8 0) 1 1 A22 HI W A5 A0 (by rfl) (by decide) _ n (vals T) (by rfl) (Ah.alloc _) ⟨H.heap.size,0,none⟩ 1 1 (vals [128]) (by rfl) (by rfl) (x0v (L:=[128]) (jE H _)) (x0L _) (by unfold maxLen;omega) (by omega) (by have:=A8.size;simp;omega) ?_;intro v4 w4 hown4 hgrow4 _;obtain ⟨q4,d4,C⟩:=x4v hown4;have o:=yH hown4;have A3:=yH hgrow4;have u:=yH C;rw [C];clear hown4 hgrow4 C))
   go_meet;refine ⟨q4,d4,rfl,?_,(A8.alloc A8.size (.cells (u8s [128]) 5)).grown A3.out (by have:=A8.size;simp;omega) (fun k hk=>((Ah.alloc (.cells (u8s [128]) 5)).lt k hk).1)⟩;have O:=o.out;rw [u.out,<- x0w] at O;exact O
 case rest=>
 obtain ⟨q1,d1,rfl,AN,AO⟩:=hcut;obtain ⟨w1,Ap⟩:∃w1,w1=wc:=⟨_,rfl⟩
 rw [<- Ap] at AN AO ⊢;clear Ap;have HST:=yH (show W1Rel W0 T (pad n) (.slice q1 (n+1) d1) w1 from ⟨0,q1,d1,by omega,by rw [<- Z],by rw [<- Z];exact AN,AO⟩);have E:=yH Z;clear AN AO Z;obtain ⟨m,hm⟩:∃m,m=pad n:=⟨_,rfl⟩
 rw [<- hm] at HST;have Bd:m<64:=by rw [hm];unfold pad;omega
 have C6:(n+1+m)%64=56:=by rw [hm];unfold pad;omega
 have HM:=yH hm;clear hm;go_wp2_with fail
 go_loopw [5] (fun s wr=>W1Rel W0 T m s wr) (fun s _=>m - (lenV s - n - 1))
 case atStart=>exact HST.out
 case round=>
  obtain ⟨k,q,d,C2,rfl,O,hb⟩:=hrel;rw [<- E.out] at O ⊢;clear HST;have HO:=yH O;have K:=yH hb;clear O hb;obtain ⟨L,hL⟩:∃L,L=n+1+k:=⟨_,rfl⟩
  rw [<- hL] at HO ⊢;by_cases hlt:k<m
  ·have Al:((L:Int)%64 !=56)=true:=by simp;omega
   have BN:L<1000100:=by omega
   have HL:=yH hL;clear hL;go_wp2_with (at_builtin;refine wpList_append_own _ (by rfl) (.tmp 21) (.tmp 22) 45 (by rfl) W0.heap.size 5 i5 (.int .u8 0) 1 1 A22 HI W A5 A0 (by rfl) (by decide) _ L _ (by rfl) (HO.alloc _) ⟨wr.heap.size,0,none⟩ 1 1 (vals [0]) (by rfl) (by rfl) (x0v (L:=[0]) (jE wr _)) (x0L _) (by unfold maxLen;omega) (by omega) (by have:=K.size;simp;omega) ?_;intro v4 w4 hown4 hgrow4 _;obtain ⟨q4,d4,C⟩:=x4v hown4;have o:=yH hown4;have A3:=yH hgrow4;have u:=yH C;rw [C];clear hown4 hgrow4 C)
   go_roundw
   case rel=>
    have O:=o.out;rw [u.out,<- x0w,<- y71] at O;have AZ:L+1=T.length+1+(k+1):=by rw [<- E.out,HL.out];omega
    rw [AZ] at O;exact ⟨k+1,q4,d4,by omega,by rw [AZ],O,(K.alloc K.size _).grown A3.out (by have:=K.size;simp;omega) (fun i hi=>((HO.alloc (.cells (u8s [0]) 5)).lt i hi).1)⟩
   case measure=>have:=HL.out;simp [lenV];omega
  ·obtain rfl:m=k:=by omega
   have Al:((L:Int)%64 !=56)=false:=by simp;omega
   have BN:L<1000100:=by omega
   have HL:=yH hL;clear hL;go_wp2_with fail
   rw [show (8*(n:Int))=((8*n:Nat):Int) from by omega];obtain ⟨N,hN⟩:∃N,N=8*n:=⟨_,rfl⟩
   rw [<- hN];have Bk:N<10000000:=by omega
   have AI:y3c W0 L (zs T m) N (.slice q L d) (.int .i64 0) wr:=⟨0,by omega,rfl,by rw [List.take_zero,kW];exact HO.out,K.out⟩
   have HST2:=yH AI;have B0:=yH hN;clear AI hN Al;go_loopw [5,7] (fun v i wr'=>y3c W0 L (zs T m) N v i wr') (fun _ i _=>8 - (intOf i).toNat)
   case atStart=>exact HST2.out
   case round=>
    obtain ⟨j,hj,rfl,At,G⟩:=hrel;have AD:=yH At;have J:=yH G;clear At G HST2;by_cases hj8:j<8
    ·obtain ⟨y,hy⟩:∃y,y=N/2^(56 - 8*j):=⟨_,rfl⟩
     have BT:(N:Int)/2^(56 - 8*j)=(y:Int):=by rw [hy,Int.natCast_ediv,Int.natCast_pow];rfl
     have BK:=yH hy;clear hy;go_wp2_with (at_builtin;refine wpList_append_own _ (by rfl) (.tmp 32) (.tmp 41) 45 (by rfl) W0.heap.size 5 i5 (.int .u8 0) 1 1 A22 HI W A5 A0 (by rfl) (by decide) _ (L+j) _ (by rfl) (AD.alloc _) ⟨wr.heap.size,0,none⟩ 1 1 (vals [y%256]) (by rfl) (by rfl) (x0v (L:=[y%256]) (jE wr _)) (x0L _) (by unfold maxLen;omega) (by omega) (by have:=J.size;simp;omega) ?_;intro v4 w4 hown4 hgrow4 _)
     have Y:Below W0.heap.size W0 w4:=(J.alloc J.size _).grown hgrow4 (by have:=J.size;simp;omega) (fun i hi=>((AD.alloc (.cells (u8s [y%256]) 5)).lt i hi).1);have e:w4.ownsRow W0.heap.size 5 1 v4 (L+(j+1)) (vals (zs T m++(Sm.bigs N).take (j+1))):=by
      rw [x8z N j hj8,<- jR,x0w _ [Sm.big N j],y5h N j hj8,<- BK.out];exact hown4
     have HE:=yH e;have HB4:=yH Y;clear hown4 hgrow4 e Y;go_wp2_with fail
     go_roundw
     case rel=>exact ⟨j+1,by omega,by go_num,HE.out,HB4.out⟩
     case measure=>simp [intOf];omega
    ·obtain rfl:j=8:=by omega
     rw [show ((8:Nat):Int)=(8:Int) from rfl];have AM:=AD.out;rw [show (Sm.bigs N).take 8=Sm.bigs N from rfl,B0.out,E.out,HM.out,E.out,<- y3f] at AM;obtain ⟨gb,cb,rfl,AP,t,P⟩:=y73 AM (y3g R.ok) (by omega);have AJ:=y5F T;obtain ⟨F,hF⟩:∃F,F=Sm.full T:=⟨_,rfl⟩
     rw [<- hF] at t P AJ;obtain ⟨S,hS⟩:∃S,S=L+8:=⟨_,rfl⟩
     rw [<- hS] at t AP ⊢;have Bq:S<1000200:=by omega
     rw [<- t] at AJ;obtain ⟨M,hM⟩:∃M,S=64*M:=⟨S/64,by omega⟩
     have AU:=yH t;have AL:=yH P;have HF:=yH hF;have BB:=yH (show Sm.allB F from by rw [hF];exact y3g R.ok);have HMM:=yH hM;have B5:=yH hS;have B9:=yH AP;clear t P hF AM AJ hM hS AP AD B0 HO HL;go_wp2_with fail
     obtain ⟨w2,f⟩:∃w2,w2=wr.alloc (.cells (u32s Sm.first.list) 282):=⟨_,rfl⟩
     rw [show wr.alloc (.cells #[.int .u32 1779033703,.int .u32 3144134277,.int .u32 1013904242,.int .u32 2773480762,.int .u32 1359893119,.int .u32 2600822924,.int .u32 528734635,.int .u32 1541459225] 282)=w2 from by rw [f];rfl];have G:Below W0.heap.size W0 w2:=by rw [f];exact J.alloc J.size _
     have AV:Below wr.heap.size wr w2:=by rw [f];exact jA _ _
     have A4:gb<wr.heap.size:=by
      have:=AL.out 0 (by rw [<- AU.out,B5.out];omega);exact jI this
     have Ai:=yH (show bytesAt w2 gb 0 F from fun i hi=>(AV.cell (p:=⟨gb,0+i,none⟩) A4).trans (AL.out i hi));have B6:=yH (jO A4 AV.size);have AF:=yH G;have An:=yH (show w2.heap[gk]? =some (.cells (u32s Sm.ks) 282 (0,0)) from (G.block gk (yL Ae)).trans Ae.out);have AR:=yH (show w2.heap[Q]? =some (.cells (u8s (zeros 32)) 30 (0,0)) from (G.block Q (yL Au)).trans Au.out);have AE:B3Rel w2 F M (.slice (some ⟨wr.heap.size,0,none⟩) 8 8) (.int .i64 0) w2:=⟨0,wr.heap.size,by omega,rfl,rfl,by rw [f];exact jE wr _,jC _ _⟩
     have HST3:=yH AE;clear G AV A4 AE f J AL;go_loopw [8,9] (fun h i wr=>B3Rel w2 F M h i wr) (fun _ i _=>64*M - (intOf i).toNat)
     case atStart=>exact HST3.out
     case round=>
      obtain ⟨k,g,Bj,rfl,rfl,A,hb⟩:=hrel;have HR:=yH A;have K:=yH hb;clear HST3 A hb;obtain ⟨I,hI⟩:∃I,I=64*k:=⟨_,rfl⟩
      rw [<- hI];have HII:=yH hI;by_cases hlt:k<M
      ·have BR:I+64<=S:=by have:=HMM.out;omega
       have Bl:I+64<=cb:=by have:=B9.out;omega
       clear hI;go_wp2_with fail
       obtain ⟨V,hV⟩:∃V,V=Sm.blocks F Sm.first k:=⟨_,rfl⟩
       have AC:V.ok:=by rw [hV];exact Sm.blocks_ok Sm.first_ok k
       have hr:=HR.out;rw [<- hV] at hr;have C0:g<wr.heap.size:=(yL hr)
       have P:bytesAt wr gb I (F.drop I):=fun i hi=>by
        have:=(Ai.drop I) i hi;rw [Nat.zero_add] at this;exact (K.cell (p:=⟨gb,I+i,none⟩) B6).trans this
       have Aq:wr.heap[gk]? =some (.cells (u32s Sm.ks) 282 (0,0)):=(K.block gk (yL An)).trans An.out;refine (x9i V AC (F.drop I) Sm.ks (Sm.allB_drop BB I) Sm.ks_ok (by rw [kY,<- AU.out];omega) rfl g gb I (cb - I) gk (by omega) wr hr P Aq).mono ?_;rintro e w5 ⟨g5,rfl,Aj,Bt,Av⟩;have AT:=yH Aj;have BE:=yH Av;have HV:=yH hV;clear Aj Av hV hr P Aq;go_wp2_with fail
       go_roundw
       case rel=>
        refine ⟨k+1,g5,by omega,by rw [show (((64*(k+1):Nat):Int))=(I:Int)+64 from by have:=HII.out;omega],rfl,?_,K.trans (BE.mono K.size)⟩;rw [Sm.blocks,<- HV.out,<- HII.out];exact AT.out
       case measure=>have:=HII.out;have:=HMM.out;simp [intOf];omega
      ·have BR:I=S:=by have:=HMM.out;omega
       clear hI;have Z:=HZ.out;go_wp2_with fail
       obtain ⟨H,Ao⟩:∃H,H=wr:=⟨_,rfl⟩
       rw [<- Ao] at HR K ⊢;obtain ⟨V,hV⟩:∃V,V=Sm.blocks F Sm.first k:=⟨_,rfl⟩
       have AC:V.ok:=by rw [hV];exact Sm.blocks_ok Sm.first_ok k
       have hr:=HR.out;rw [<- hV] at hr;have AH:Sm.bytesOf V=Sm.sum T:=by
        rw [hV,Sm.sum,<- HF.out,<- AU.out,HMM.out,Nat.mul_div_cancel_left M (by omega),show k=M from by omega]
       have BJ:=yH hr;have BM:=yH (yL hr);have BG:=yH AC;have Ac:=yH AH;have AG:B4Rel H V (.int .i64 0) (H.alloc (.cells (u8s (zeros 32)) 30)):=⟨0,by omega,rfl,jE H _,jA _ _⟩
       have HST4:=yH AG;clear Ao hV hr AC AH AG Z HR;go_loopw [11] (fun i wr=>B4Rel H V i wr) (fun i _=>32 - (intOf i).toNat)
       case atStart=>exact HST4.out
       case round=>
        obtain ⟨B,By,rfl,A,Y⟩:=hrel;have A7:=yH A;have HB4:=yH Y;clear A Y HST4;by_cases hlt4:B<32
        ·obtain ⟨a,ha⟩:∃a,a=B/4:=⟨_,rfl⟩
         obtain ⟨r,hr⟩:∃r,r=B%4:=⟨_,rfl⟩
         have Bi:(B:Int)/4=(a:Int):=by omega
         have Bw:(B:Int)%4=(r:Int):=by omega
         have As:a<8:=by omega
         have BL:r<4:=by omega
         have b:=y5G V a r As BL;rw [show 4*a+r=B from by omega] at b;have cx:wr.cell? ⟨g,a,none⟩=some (.int .u32 (V.list.getD a 0:Nat)):=(HB4.cell (p:=⟨g,a,none⟩) BM).trans (x0O BJ a As);have bx:V.list.getD a 0<4294967296:=v8_lt BG.out a;obtain ⟨x,hx⟩:∃x,x=V.list.getD a 0:=⟨_,rfl⟩
         rw [<- hx] at cx bx b;obtain ⟨y,hy⟩:∃y,y=x/2^(24 - 8*r):=⟨_,rfl⟩
         have BT:(x:Int)/2^(24 - 8*r)=(y:Int):=by rw [hy,Int.natCast_ediv,Int.natCast_pow];rfl
         rw [<- hy] at b;have AK:((Sm.bytesOf V).take B).length=B:=by rw [kX];exact Nat.min_eq_left (Nat.le_of_lt hlt4)
         have l:=A7.out;rw [show 32 - B=(32 - (B+1))+1 from by omega,x20 (Nat.succ_pos _),Nat.succ_sub_one] at l;have ck:wr.cell? ⟨H.heap.size,B,none⟩=some (.int .u8 (((Sm.bytesOf V).take B++0::zeros (32 - (B+1))).getD B 0:Nat)):=x2B l B (by rw [jQ,AK];simp);have fk:wr.frozen? ⟨H.heap.size,B,none⟩=false:=jS wr _ B _ _ l;have U:(Sm.bytesOf V).take (B+1)=(Sm.bytesOf V).take B++[y%256]:=by
          rw [List.take_succ_eq_append_getElem (show B<(Sm.bytesOf V).length from hlt4),<- b,jG,jM (show B<(Sm.bytesOf V).length from hlt4)];rfl
         have BO:=yH l;have BP:=yH AK;have BI:=yH U;have k0:(0:Int)<=B:=by omega
         clear hx hy ha hr b AK l U A7;go_wp2_with fail
         go_roundw
         case rel=>
          refine ⟨B+1,by omega,by go_num,?_,HB4.setCell (jB _) _⟩;rw [show (y:Int)%256=((y%256:Nat):Int) from by omega,jU _ _ _ _ _ _ BO,x7H _ _ _ _ B BP,BI.out,jR];rfl
         case measure=>simp [intOf];omega
        ·obtain rfl:B=32:=by omega
         have A:wr.heap[H.heap.size]? =some (.cells (u8s (Sm.bytesOf V)) 30 (0,0)):=A7.out;have AT:=yH A;have Ag:Q<H.heap.size:=jO (yL AR) K.size;have HC:=yH (show wr.heap[Q]? =some (.cells (u8s (zeros 32)) 30 (0,0)) from (HB4.block Q Ag).trans ((K.block Q (yL AR)).trans AR.out));have B1:Below w.heap.size w wr:=by
          have h3:Below W0.heap.size W0 H:=AF.trans (K.mono AF.size);have h4:Below W0.heap.size W0 wr:=h3.trans (HB4.mono h3.size);exact Az.trans (h4.mono Az.size)
         have BV:=yH B1;clear A Ag B1 A7;go_wp2_with (first | (refine kL (by rfl) 30 _ (by rfl) H.heap.size (by rfl) 30 _ (0,0) _ AT A25 (by rfl) (by exact S25) ?_) | (refine jL (by rfl) 30 _ _ (by rfl) Q (u8s (Sm.bytesOf V)) (by rfl) (by rfl) _ _ HC (by exact S25) (by rfl) (x0f _) ?_))
         refine x0n 4 (by kernel_rfl) Q _ _ A25 S25 rfl (jT _ _ _ _ _ _ HC) rfl ⟨by rw [<- Ac.out],?_⟩;exact Below.setRow BV (by rw [BA.out];exact jB _) _
theorem y1k (T:List Nat) (p:Option Addr) (n c:Nat) (w:World) (hT:Tx w p n c T) (hl:T.length<1000000):
  Calls Tryz.prog 196 #[.slice p n c] w fun e w'=>e= .returned (.agg (u8s (Sm.sum T)))/\Below w.heap.size w w':=by
 have W:=(zero_of_info Z25).1;have U:=yH hT;clear hT
 go_enter Tryz.func196,Tryz.ntmps196
 go_wp2_with fail
 have B:=jA w (.cells (u8s (zeros 32)) 30);have G:=jE w (.cells (u8s (zeros 32)) 30);generalize hW0:w.alloc (.cells (u8s (zeros 32)) 30)=W0 at B G ⊢;have M:=yH (U.later B);have L:=yH B;have R:=yH G;clear hW0 B G U W;refine (y3d W0).mono ?_;rintro _ O ⟨rfl,rfl⟩;have A:=jA W0 (.cells (u32s Sm.ks) 282);have C:=jE W0 (.cells (u32s Sm.ks) 282);obtain ⟨O,I⟩:∃O,O=W0.alloc (.cells (u32s Sm.ks) 282):=⟨_,rfl⟩
 rw [<- I] at A C ⊢;have N:=yH (M.later A);have J:=yH (L.trans (A.mono L.size));have P:=yH (yK A R);have H:=yH C;clear I A C M;go_wp2_with fail
 refine (y5H T p n c W0.heap.size O N hl H).mono ?_;rintro _ X ⟨rfl,E⟩;have Q:=yH (J.trans (E.mono J.size));have K:=yH (yK E P);clear E N H;go_wp2_with (refine jL (by rfl) 30 _ _ (by rfl) w.heap.size (u8s (Sm.sum T)) (by rfl) (by rfl) _ _ K (by exact S25) (by rfl) (x0f _) ?_)
 refine x0n 2 (by kernel_rfl) w.heap.size _ _ A25 S25 rfl (jT _ _ _ _ _ _ K) rfl ⟨rfl,?_⟩;exact Below.setRow Q (jB _) _
end
namespace Pg
open Go.RowKit
theorem y5I (b:List Nat) (p:Option Addr) (n c:Nat) (w:World) (hT:Tx w p n c b) (hn:n<=100000):
  Calls Tryz.prog 138 #[.slice p n c] w fun e w'=>e= .returned (.agg (u8s (sumOf b)))/\Below w.heap.size w w':=by
 have Y:=yH hT;have Z:=(zero_of_info Z25).1;have B:=(jC w.heap.size w).alloc (jB _) (.cells (u8s (zeros 32)) 30);have G:=(jC (w.alloc (.cells (u8s (zeros 32)) 30)).heap.size (w.alloc (.cells (u8s (zeros 32)) 30))).alloc (jB _) (.cells #[.slice p n c] 45);have M:=yH (y0M (jE (w.alloc (.cells (u8s (zeros 32)) 30)) (.cells #[.slice p n c] 45)) ((hT.later B).later G));have O:=yH (B.trans (G.mono B.size));have X:=yH ((heap_alloc_old (w.alloc (.cells (u8s (zeros 32)) 30)) (.cells #[.slice p n c] 45) (kK.1 (jE w (.cells (u8s (zeros 32)) 30))).1).trans (jE w (.cells (u8s (zeros 32)) 30)));have R:=yH hT.size;have H:=yH (show (pre 80 [b]).length<1000000 from by have:=hT.size;rw [y2g];omega);clear hT G B
 go_enter Tryz.func138,Tryz.ntmps138
 go_wp2_with fail
 rw [show (w.alloc (.cells (u8s (zeros 32)) 30)).heap.size=w.heap.size+1 from by simp] at M;generalize (w.alloc (.cells (u8s (zeros 32)) 30)).alloc (.cells #[.slice p n c] 45)=w1 at *;refine (y1i 80 (by omega) [b] _ 1 1 w1 M (by have:=R.out;rw [y2h];omega)).mono ?_;rintro e W ⟨q,m,d,rfl,K,I⟩;have P:=yH (x0K K (y7M 80 (by omega) (fun x hx=>by rw [kZ.1 hx];exact Y.ok)));have N:=yH (O.trans (I.mono O.size));have Q:=yH (yK I X);clear K I;go_wp2_with fail
 refine (y1k (pre 80 [b]) q m d W P H).mono ?_;rintro e a ⟨rfl,J⟩;have U:=yH (N.trans (J.mono N.size));have L:=yH (yK J Q);obtain ⟨D,C⟩:∃D,D=sumOf b:=⟨_,rfl⟩
 rw [show Sm.sum (pre 80 [b])=D from C.symm];have A:=yH (show D.length=32 from by rw [C];rfl);have E:=yH C;clear J C;go_wp2_with (refine jL (by rfl) 30 _ _ (by rfl) w.heap.size (u8s D) (by rfl) (by rfl) _ _ L (by rw [x0C,A.out];exact S25) (by rw [x0C,x0C,A.out];rfl) (x0f _) ?_)
 exact x0n 2 (by kernel_rfl) w.heap.size _ _ A25 S25 rfl (jT _ _ _ _ _ _ L) (by rw [x0C];exact A.out) ⟨by rw [E.out],Below.setRow U (jB _) _⟩
end Pg
end Go.Proofs.YtenenciaggbjnaaGreat
