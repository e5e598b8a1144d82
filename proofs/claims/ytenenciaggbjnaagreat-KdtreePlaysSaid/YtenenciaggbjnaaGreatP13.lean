/- ShaSched, ShaKs, ShaAll, ShaBig, ShaFill, ShaRow, ShaMore. -/
import Derived.StillTailTactics
import Derived.Deep.WholeRow
import Derived.Deep.MidRow
import Derived.Deep.RegionHeld3
import Derived.Test.YtenenciaggbjnaaGreatP12
set_option maxRecDepth 100000
set_option maxHeartbeats 8000000
set_option linter.all false
namespace Go.Proofs.YtenenciaggbjnaaGreat
section
open Go.RowKit
structure SFacts (w WB:World) (gb ob:Nat) (B:List Nat) (L:List Nat):Prop where
 below:Below w.heap.size w WB
 bytes:bytesAt WB gb ob B
 res:∃C,WB.heap[w.heap.size]? =some (.cells C 387 (0,0))/\C.size=64
 lt:gb<w.heap.size
 row:WB.heap[w.heap.size+1]? =some (.cells (u32s L) 387 (0,0))
theorem SFacts.drewN {w WB:World} {gb ob:Nat} {B L:List Nat} (h:SFacts w WB gb ob B L) (n:Nat):SFacts w (WB.drewN n) gb ob B L:=
 ⟨h.below.trans ⟨rfl,rfl,rfl,jB _,fun _ _=>rfl⟩,h.bytes,h.res,h.lt,h.row⟩
theorem SFacts.mk' (w:World) (gb ob:Nat) (B:List Nat) (hw:bytesAt w gb ob B) (hl:0<B.length):SFacts w ((w.alloc (.cells (u32s (zeros 64)) 387)).alloc (.cells (u32s (zeros 64)) 387)) gb ob B (zeros 64):=by
 have A:Below w.heap.size w ((w.alloc (.cells (u32s (zeros 64)) 387)).alloc (.cells (u32s (zeros 64)) 387)):=(jA _ _).alloc (by simp) _;refine ⟨A,fun i hi=>?_,⟨_,heap_alloc2_old w _ _,by simp [u32s,zeros]⟩,jI (hw 0 hl),heap_alloc2_new w _ _⟩;have:=hw i hi;exact (A.cell (p:=⟨gb,ob+i,none⟩) (jI this)).trans this
theorem x7j (p r:List Nat) (y x k:Nat) (hk:p.length=k):(u32s (p++y::r)).setIfInBounds k (.int .u32 (x:Nat))=u32s (p++x::r):=by
 subst hk;apply Array.ext';simp [u32s]
theorem SFacts.store {w WB:World} {gb ob:Nat} {B p r:List Nat} {y:Nat} (h:SFacts w WB gb ob B (p++y::r)) (k:Nat) (hk:p.length=k) (x:Nat):
  SFacts w (WB.setCell ⟨w.heap.size+1,k,none⟩ (.int .u32 (x:Nat))) gb ob B (p++x::r):=by
 obtain ⟨C,E,A⟩:=h.res;refine ⟨h.below.setCell (by show w.heap.size<=w.heap.size+1;omega) _,fun i hi=>?_,⟨C,?_,A⟩,h.lt,?_⟩
 ·rw [World.cell?_setCell_other _ _ _ _ (by intro e;have G:w.heap.size+1=gb:=congrArg Addr.block e;have:=h.lt;omega)];exact h.bytes i hi
 ·rw [kG _ _ _ _ (by show w.heap.size≠w.heap.size+1;omega)];exact E
 ·rw [jU _ _ _ _ _ _ h.row,x7j p r y x k hk]
def SRel2 (w:World) (gb ob:Nat) (B:List Nat) (i:Value) (wr:World):Prop:=
 ∃k:Nat,k<=48/\i= .int .i64 ((16+k:Nat):Int)/\SFacts w wr gb ob B (Sm.more (Sm.words B 16) k++zeros (48 - k))
theorem x3F (l:List Nat):(u32s l).all (·.oneCell')=true:=by simp [u32s,Value.oneCell']
theorem x1S (B:List Nat):(u32s (Sm.sched B)).size=64:=by simp [u32s,Sm.length_sched]
def SRel1 (w:World) (gb ob:Nat) (B:List Nat) (i:Value) (wr:World):Prop:=
 ∃k:Nat,k<=16/\i= .int .i64 k/\SFacts w wr gb ob B (Sm.words B k++zeros (64 - k))
theorem Z62:(Tryz.prog.info? 387).map (fun i=>(i.zero,i.size))=some (some (.agg (u32s (zeros 64))),64):=by kernel_rfl
theorem x8h (B:List Nat) (hB:Sm.allB B) (lB:64<=B.length) (gb ob cap:Nat) (hcap:64<=cap) (w:World) (hw:bytesAt w gb ob B):
  Calls Tryz.prog 334 #[.slice (some ⟨gb,ob,none⟩) 64 cap] w fun e w'=>e= .returned (.agg (u32s (Sm.sched B)))/\Below w.heap.size w w':=by
 have Y:=yH hB;have c:=yH lB;have HW:=yH hw;clear hB lB hw;have hz:=(zero_of_info Z62).1
 go_enter Tryz.func334,Tryz.ntmps334
 go_wp2_with fail
 generalize hWB:(w.alloc (.cells (u32s (zeros 64)) 387)).alloc (.cells (u32s (zeros 64)) 387)=WB;have FB:SFacts w WB gb ob B (zeros 64):=by
  subst hWB;exact SFacts.mk' w gb ob B HW (by have:=c.out;omega)
 have FF:=yH FB;clear FB hWB hz;go_loopw [11] (fun i wr=>SRel1 w gb ob B i wr) (fun i _=>16 - (intOf i).toNat)
 case atStart=>exact ⟨0,by omega,rfl,FF.out⟩
 case round=>
  obtain ⟨k,hk,rfl,X⟩:=hrel;have HS:=yH X;clear X FF;by_cases hlt:k<16
  ·have g:wr.cell? ⟨gb,ob+4*k,none⟩=_:=HS.bytes (4*k) (by have:=c.out;omega);have h:wr.cell? ⟨gb,ob+4*k+1,none⟩=_:=HS.bytes (4*k+1) (by have:=c.out;omega);have g2:wr.cell? ⟨gb,ob+4*k+2,none⟩=_:=HS.bytes (4*k+2) (by have:=c.out;omega);have g3:wr.cell? ⟨gb,ob+4*k+3,none⟩=_:=HS.bytes (4*k+3) (by have:=c.out;omega);obtain ⟨O,G⟩:∃x,x=B.getD (4*k) 0:=⟨_,rfl⟩
   obtain ⟨W,E⟩:∃x,x=B.getD (4*k+1) 0:=⟨_,rfl⟩
   obtain ⟨x2,M⟩:∃x,x=B.getD (4*k+2) 0:=⟨_,rfl⟩
   obtain ⟨x3,N⟩:∃x,x=B.getD (4*k+3) 0:=⟨_,rfl⟩
   have b0:O<256:=by rw [G];exact Sm.getD_lt Y (by omega) _
   have b1:W<256:=by rw [E];exact Sm.getD_lt Y (by omega) _
   have b2:x2<256:=by rw [M];exact Sm.getD_lt Y (by omega) _
   have b3:x3<256:=by rw [N];exact Sm.getD_lt Y (by omega) _
   rw [<- G] at g;rw [<- E] at h;rw [<- M] at g2;rw [<- N] at g3;have s:=yH G;have v:=yH E;have X2:=yH M;have X3:=yH N;clear G E M N;have R:wr.cell? ⟨w.heap.size+1,k,none⟩=_:=x0O HS.row k (by simp [Sm.length_words,zeros];omega);have U:wr.frozen? ⟨w.heap.size+1,k,none⟩=false:=jS wr _ k _ _ HS.row;have HL:(0:Int)<=k/\(k:Int)<64:=by omega
   go_wp2_with fail
   rw [show 4*k+4 - 4*k=4 from by omega]
   go_still_tail 24,(by kernel_rfl)
   go_wp2_with fail
   go_roundw
   case rel=>
    show SRel1 _ _ _ _ _ _
    rw [Sm.word_int b0 b1 b2 b3];refine ⟨k+1,by omega,by go_num,?_⟩;have e:Sm.words B (k+1)++zeros (64 - (k+1))=Sm.words B k++(O*16777216+W*65536+x2*256+x3)::zeros (64 - (k+1)):=by
     rw [Sm.words,s.out,v.out,X2.out,X3.out,jR];rfl
    rw [e];refine (SFacts.store (y:=0) ?_ k (Sm.length_words B k) _).drewN 1;rw [show 64 - (k+1)=64 - k - 1 from by omega,<- x20 (by omega)];exact HS.out
   case measure=>simp [intOf];omega
  ·obtain rfl:k=16:=by omega
   rw [show ((16:Nat):Int)=16 from rfl];go_wp2_with fail
   go_loopw [6] (fun i wr=>SRel2 w gb ob B i wr) (fun i _=>64 - (intOf i).toNat)
   case atStart=>exact ⟨0,by omega,rfl,HS.out⟩
   case round=>
    obtain ⟨k,AK,rfl,X⟩:=hrel;have J:=yH X;clear X HS hk hlt;by_cases hlt:k<48
    ·obtain ⟨l,d⟩:∃l,l=Sm.more (Sm.words B 16) k:=⟨_,rfl⟩
     have I:=yH J.out;rw [<- d] at I;have ll:l.length=16+k:=by rw [d];simp [Sm.length_more,Sm.length_words]
     have lw:Sm.allW l:=by rw [d];exact Sm.more_ok (Sm.words_ok Y 16) k
     have HL:=yH d;have n:=yH ll;have m:=yH lw;clear d ll lw J;have A:∀i,i<16+k->wr.cell? ⟨w.heap.size+1,i,none⟩=some (.int .u32 (l.getD i 0:Nat)):=fun i hi=>by
      rw [x0O I.row i (by simp [n.out,zeros];omega),x85 _ _ (by rw [n.out];omega)]
     obtain ⟨j,u⟩:∃j,j=16+k:=⟨_,rfl⟩
     rw [<- u] at A ⊢;have R:wr.cell? ⟨w.heap.size+1,j,none⟩=_:=x0O I.row j (by simp [n.out,zeros];omega);have U:wr.frozen? ⟨w.heap.size+1,j,none⟩=false:=jS wr _ _ _ _ I.row;have g:=A (j - 16) (by omega);have h:=A (j - 15) (by omega);have q:=A (j - 7) (by omega);have Z:=A (j - 2) (by omega);clear A;have i0:(0:Int)<=(j:Int) - 16/\(j:Int) - 16<64:=by omega
     have i1:(0:Int)<=(j:Int) - 15/\(j:Int) - 15<64:=by omega
     have i9:(0:Int)<=(j:Int) - 7/\(j:Int) - 7<64:=by omega
     have AI:(0:Int)<=(j:Int) - 2/\(j:Int) - 2<64:=by omega
     have ij:(0:Int)<=(j:Int)/\(j:Int)<64:=by omega
     have HJ:=yH u;clear u;obtain ⟨O,G⟩:∃x,x=l.getD (j - 16) 0:=⟨_,rfl⟩
     obtain ⟨W,E⟩:∃x,x=l.getD (j - 15) 0:=⟨_,rfl⟩
     obtain ⟨b,K⟩:∃x,x=l.getD (j - 7) 0:=⟨_,rfl⟩
     obtain ⟨L,H⟩:∃x,x=l.getD (j - 2) 0:=⟨_,rfl⟩
     have w0:O<4294967296:=by rw [G];exact Sm.getD_lt m (by omega) _
     have z:W<4294967296:=by rw [E];exact Sm.getD_lt m (by omega) _
     have w9:b<4294967296:=by rw [K];exact Sm.getD_lt m (by omega) _
     have Q:L<4294967296:=by rw [H];exact Sm.getD_lt m (by omega) _
     rw [<- G] at g;rw [<- E] at h;rw [<- K] at q;rw [<- H] at Z;have s:=yH G;have v:=yH E;have X9:=yH K;have r:=yH H;clear G E K H;go_wp2_with fail
     go_quiet (fail)
     go_wp2_with (go_at_call 336;first | ((with_reducible refine (rot7 _ _ z).mono ?_);rintro _ _ ⟨rfl,rfl⟩) | ((with_reducible refine (rot18 _ _ z).mono ?_);rintro _ _ ⟨rfl,rfl⟩) | ((with_reducible refine (rot17 _ _ Q).mono ?_);rintro _ _ ⟨rfl,rfl⟩) | ((with_reducible refine (rot19 _ _ Q).mono ?_);rintro _ _ ⟨rfl,rfl⟩))
     generalize hW2:wr.drewN nq=W2;have f0:W2.cell? ⟨w.heap.size+1,j - 16,none⟩=some (.int .u32 (O:Nat)):=by rw [<- hW2];exact g
     have f9:W2.cell? ⟨w.heap.size+1,j - 7,none⟩=some (.int .u32 (b:Nat)):=by rw [<- hW2];exact q
     have AB:W2.cell? ⟨w.heap.size+1,j,none⟩=some (.int .u32 ((l++zeros (48 - k)).getD j 0:Nat)):=by rw [<- hW2];exact R
     have AS:W2.frozen? ⟨w.heap.size+1,j,none⟩=false:=by rw [<- hW2];exact U
     have a:SFacts w W2 gb ob B (l++zeros (48 - k)):=by rw [<- hW2];exact I.drewN nq
     have A1:=yH a;clear hW2 g h q Z R U a I;have p:IntKind.i64.wrap ((j:Int) - 16)=(j:Int) - 16:=IntWalk.i64_in _ (by omega);have q7:IntKind.i64.wrap ((j:Int) - 7)=(j:Int) - 7:=IntWalk.i64_in _ (by omega);have o:((j:Int) - 16).toNat=j - 16:=by omega
     have p7:((j:Int) - 7).toNat=j - 7:=by omega
     have AX:(16:Int)<=j:=by omega
     have r7:(7:Int)<=j:=by omega
     go_still_tail 15,(by kernel_rfl)
     clear p q7 o p7;go_wp2_with fail
     go_roundw
     case rel=>
      show SRel2 _ _ _ _ _ _
      rw [Sm.s0_int z,Sm.s1_int Q];have ej:=HJ.out;have e0:j - 16=k:=by omega
      have e1:j - 15=k+1:=by omega
      have e9:j - 7=k+9:=by omega
      have t:j - 2=k+14:=by omega
      have ev:(((O:Nat):Int)+(Sm.s0 W:Nat)+(b:Nat)+(Sm.s1 L:Nat))%4294967296=(((O+Sm.s0 W+b+Sm.s1 L)%4294967296:Nat):Int):=by omega
      rw [ev];refine ⟨k+1,by omega,by rw [ej];go_num,?_⟩;have e:Sm.more (Sm.words B 16) (k+1)++zeros (48 - (k+1))=l++((O+Sm.s0 W+b+Sm.s1 L)%4294967296)::zeros (48 - (k+1)):=by
       rw [Sm.more,<- HL.out,s.out,v.out,X9.out,r.out,e0,e1,e9,t,jR];rfl
      rw [e];refine (SFacts.store (y:=0) ?_ j (by rw [n.out];omega) _).drewN 1;rw [show 48 - (k+1)=48 - k - 1 from by omega,<- x20 (by omega)];exact A1.out
     case measure=>simp [intOf];omega
    ·obtain rfl:k=48:=by omega
     obtain ⟨C,hC,f⟩:=J.res;have P:wr.heap[w.heap.size+1]? =some (.cells (u32s (Sm.sched B)) 387 (0,0)):=by
      have:=J.row;rw [show zeros (48 - 48)=[] from rfl,kW] at this;exact this
     have HC:=yH hC;have A0:=yH f;have HR:=yH P;clear hC f P;go_wp2_with (first | (refine kL (by rfl) 387 _ (by rfl) (w.heap.size+1) (by rfl) 387 _ (0,0) _ HR A62 (by rfl) (by rw [x1S];exact S62) ?_) | (refine jL (by rfl) 387 _ _ (by rfl) (w.heap.size) (u32s (Sm.sched B)) (by rfl) (by rfl) _ _ HC (by rw [x1S];exact S62) (by rw [x1S];exact A0.out) (x3F _) ?_))
     refine x0n 2 (by kernel_rfl) w.heap.size _ _ A62 S62 rfl (jT _ _ _ _ _ _ HC) (x1S B) ⟨rfl,?_⟩;exact Below.setRow J.below (jB _) _
theorem y5Z:(u32s Sm.ks).all (·.oneCell')=true:=by kernel_rfl
theorem x6V (w:World):
  Calls Tryz.prog 333 #[] w fun e w'=>e= .returned (.agg (u32s Sm.ks))/\Below w.heap.size w w':=by
 go_enter Tryz.func333,Tryz.ntmps333
 go_wp2_with (refine jL (by rfl) 387 _ _ (by rfl) w.heap.size (u32s Sm.ks) (by rfl) (by as_aux_lemma=>kernel_rfl) _ _ (jE w _) S62 (by rfl) y5Z ?_;rw [x03])
 exact x0n 0 (by kernel_rfl) w.heap.size _ _ A62 S62 rfl (jE w _) rfl ⟨rfl,jA _ _⟩
theorem Bytes.drop64 {w:World} {g o ln cp:Nat} {B:List Nat} (h:Bytes w (some ⟨g,o,none⟩) ln cp B) (hl:64<=ln):Bytes w (some ⟨g,o+64,none⟩) (ln - 64) (cp - 64) (B.drop 64):=by
 have:=h.size;have:=h.le;refine ⟨by simp;omega,by omega,Sm.allB_drop h.ok 64,Or.inr ⟨g,o+64,rfl,?_⟩⟩;have E:B≠[]:=by rintro rfl;have:=h.size;simp at this;omega
 obtain ⟨G,C,H,A⟩:=h.ne E;obtain ⟨rfl,rfl⟩:g=G/\o=C:=by simpa using H
 exact A.drop 64
structure TA (w wr:World) (v:Sm.V8) (gk:Nat):Prop where
 below:Below w.heap.size w wr
 box:wr.heap[w.heap.size]? =some (.cells (u32s v.list) 356 (0,0))
 res:∃C,wr.heap[w.heap.size+1]? =some (.cells C 356 (0,0))/\C.size=8
 ks:wr.heap[gk]? =some (.cells (u32s Sm.ks) 387 (0,0))
 gk:w.heap.size+1<gk
theorem TA.later {w wr w':World} {v:Sm.V8} {gk:Nat} (h:TA w wr v gk) (hb:Below wr.heap.size wr w'):TA w w' v gk:=by
 obtain ⟨C,A,E⟩:=h.res;have B:=(yL h.box)
 have G:=(yL A)
 have H:=(yL h.ks)
 exact ⟨h.below.trans (hb.mono h.below.size),(hb.block _ B).trans h.box,⟨C,(hb.block _ G).trans A,E⟩,(hb.block _ H).trans h.ks,h.gk⟩
theorem TA.set {w wr:World} {v:Sm.V8} {gk:Nat} (h:TA w wr v gk) (u:Sm.V8):TA w (wr.setRow w.heap.size (u32s u.list)) u gk:=by
 obtain ⟨C,A,B⟩:=h.res;have:=h.gk;exact ⟨Below.setRow h.below (jB _) _,jT _ _ _ _ _ _ h.box,⟨C,(setRow_other _ _ _ _ (by omega)).trans A,B⟩,(setRow_other _ _ _ _ (by omega)).trans h.ks,h.gk⟩
theorem TA.start (w w1:World) (v:Sm.V8) (C:Array Value) (h8:C.size=8) (hb:Below ((w.alloc (.cells (u32s v.list) 356)).alloc (.cells C 356)).heap.size ((w.alloc (.cells (u32s v.list) 356)).alloc (.cells C 356)) w1):
  TA w (w1.alloc (.cells (u32s Sm.ks) 387)) v w1.heap.size:=by
 have B:((w.alloc (.cells (u32s v.list) 356)).alloc (.cells C 356)).heap.size=w.heap.size+2:=by simp
 have E:=hb.size;rw [B] at E hb;have A:Below w.heap.size w w1:=(((jC w.heap.size w).alloc (jB _) _).alloc (by simp) _).trans (hb.mono (by omega));refine ⟨A.alloc A.size _,?_,⟨C,?_,h8⟩,jE _ _,by omega⟩
 ·rw [Below.heap_alloc _ _ _ (by omega),hb.block _ (by omega)];exact heap_alloc2_old w _ _
 ·rw [Below.heap_alloc _ _ _ (by omega),hb.block _ (by omega)];exact heap_alloc2_new w _ _
theorem size8 (v:Sm.V8):(u32s v.list).size=8:=rfl
def y7N (w:World) (_p:Option Addr) (B:List Nat) (v:Sm.V8) (gk:Nat) (s:Value) (wr:World):Prop:=
 ∃n q len cap,64*n<=B.length/\s= .slice q len cap/\TA w wr (Sm.blocks B v n) gk/\Bytes w q len cap (B.drop (64*n))
theorem x2J (v:Sm.V8) (hv:v.ok) (B:List Nat) (p:Option Addr) (len cap:Nat) (w:World) (hB:Bytes w p len cap B) (hm:B.length%64=0):
  Calls Tryz.prog 327 #[.agg (u32s v.list),.slice p len cap] w fun e w'=>e= .returned (.agg (u32s (Sm.blocks B v (B.length/64)).list))/\Below w.heap.size w w':=by
 obtain ⟨a,b,c,d,e,f,g,h⟩:=v;have HV:=yH hv;have HB:=yH hB;have HM:=yH hm;clear hv hB hm;have hz:=(zero_of_info Z62).1;show Calls Tryz.prog 327 #[.agg #[.int .u32 a,.int .u32 b,.int .u32 c,.int .u32 d,.int .u32 e,.int .u32 f,.int .u32 g,.int .u32 h],.slice p len cap] w _
 go_enter Tryz.func327,Tryz.ntmps327
 go_wp2_with fail
 refine (x6V _).mono ?_;rintro _ r ⟨rfl,A0⟩;have A:=yH A0;clear A0;go_wp2_with (refine jL (by rfl) 387 _ _ (by rfl) r.heap.size (u32s Sm.ks) (by rfl) (by rfl) _ _ (jE _ _) S62 (by simp [u32s,zeros];rfl) y5Z ?_;rw [x03])
 generalize hWB:r.alloc (.cells (u32s Sm.ks) 387)=WB;have m:TA w WB ⟨a,b,c,d,e,f,g,h⟩ r.heap.size:=by
  subst hWB;exact TA.start w r _ _ rfl A
 have HT:=yH m;clear m hWB A;go_simp;generalize r.heap.size=gk at *;go_loopw [1] (fun s wr=>y7N w p B ⟨a,b,c,d,e,f,g,h⟩ gk s wr) (fun s _=>lenOf s)
 case atStart=>exact ⟨0,p,len,cap,by omega,rfl,HT.out,by simpa using HB.out⟩
 case round=>
  obtain ⟨n,q,ln,cp,hn,rfl,Y,L⟩:=hrel;obtain ⟨V,t⟩:∃V,V=Sm.blocks B ⟨a,b,c,d,e,f,g,h⟩ n:=⟨_,rfl⟩
  rw [<- t] at Y;have Q:V.ok:=by rw [t];exact Sm.blocks_ok HV n
  obtain ⟨X,y⟩:∃X,X=B.drop (64*n):=⟨_,rfl⟩
  rw [<- y] at L;have U:X.length=B.length - 64*n:=by rw [y];simp
  have hm:=HM.out;have P:=L.size;have AB:=L.le;have O:=yH t;have HX:=yH y;have HO:=yH Q;have M:=yH Y;have A:=yH L;have l:=yH P;have k:=yH U;by_cases h0:ln=0
  ·have A8:X=[]:=jZ.1 (by omega);have N:B.length/64=n:=by omega
   have HD:=yH N;obtain ⟨C,hC,Z⟩:=Y.res;have HC:=yH hC;have A7:=yH Z;clear t y Q Y L U hm P AB A8 N hC Z;subst h0;go_wp2_with (first | (refine kL (by rfl) 356 _ (by rfl) w.heap.size (by rfl) 356 _ (0,0) _ M.box A32 (by rfl) (by exact S32) ?_) | (refine jL (by rfl) 356 _ _ (by rfl) (w.heap.size+1) (u32s V.list) (by rfl) (by rfl) _ _ HC (by exact S32) (by exact A7.out) (x3F _) ?_))
   refine x0n 4 (by kernel_rfl) (w.heap.size+1) _ _ A32 S32 rfl (jT _ _ _ _ _ _ HC) rfl ⟨?_,?_⟩
   ·rw [HD.out,<- O.out]
   ·exact Below.setRow M.below (by omega) _
  ·have AH:64<=ln:=by omega
   have R:X≠[]:=by
    intro e;have:=congrArg List.length e;simp only [List.length_nil] at this;omega
   have z:Bytes wr q ln cp X:=L.later Y.below L.lt;obtain ⟨j,ob,rfl,hx⟩:=z.ne R;have o:=yH hx;have AJ:j<w.heap.size:=L.lt j ob rfl R;have A6:64<=cp:=by omega
   clear t y Q Y L U hm P hx R z;have hz:=(zero_of_info Z62).1;rcases Nat.lt_or_eq_of_le A6 with u | u
   ·go_wp2_with fail
    refine (x8h X A.ok (by have:=l.out;omega) j ob cp (by omega) wr o).mono ?_;rintro _ W ⟨rfl,G⟩;have K:TA w (W.alloc (.cells (u32s (Sm.sched X)) 387)) V gk:=(M.later G).later (jA _ _);have E:=yH K;have AA:=yH G;clear K G;go_wp2_with (first | (refine jL (by rfl) 387 _ _ (by rfl) W.heap.size (u32s (Sm.sched X)) (by rfl) (by rfl) _ _ (jE _ _) (by rw [x1S];exact S62) (by rw [x1S];simp [u32s,zeros]) (x3F _) ?_;rw [x03]) | (refine kL (by rfl) 356 _ (by rfl) w.heap.size (by rfl) 356 _ (0,0) _ E.box A32 (by rfl) (by exact S32) ?_))
    refine (y0N V HO (Sm.sched X) Sm.ks (Sm.sched_ok A.ok) Sm.ks_ok (Sm.length_sched X) rfl W.heap.size gk _ (jE _ _) E.ks).mono ?_;rintro _ w4 ⟨rfl,J⟩;have H:=E.later J;have I:=yH H;clear H J;go_wp2_with (refine jL (by rfl) 356 _ _ (by rfl) w.heap.size (u32s (Sm.turn Sm.ks (Sm.sched X) V).list) (by rfl) (by rfl) _ _ I.box (by rw [size8];exact S32) (by rw [size8,size8]) (x3F _) ?_)
    go_roundw
    case rel=>
     refine ⟨n+1,_,_,_,by have:=k.out;have:=l.out;omega,rfl,?_,?_⟩
     ·rw [Sm.blocks,<- O.out,<- HX.out];exact I.set _
     ·have e:B.drop (64*(n+1))=X.drop 64:=by rw [HX.out,List.drop_drop];congr 1
      rw [e];exact A.drop64 (by omega)
    case measure=>simp [lenOf];omega
   ·subst u;obtain rfl:ln=64:=by omega
    go_wp2_with fail
    refine (x8h X A.ok (by have:=l.out;omega) j ob 64 (by omega) wr o).mono ?_;rintro _ W ⟨rfl,G⟩;have K:TA w (W.alloc (.cells (u32s (Sm.sched X)) 387)) V gk:=(M.later G).later (jA _ _);have E:=yH K;have AA:=yH G;clear K G;go_wp2_with (first | (refine jL (by rfl) 387 _ _ (by rfl) W.heap.size (u32s (Sm.sched X)) (by rfl) (by rfl) _ _ (jE _ _) (by rw [x1S];exact S62) (by rw [x1S];simp [u32s,zeros]) (x3F _) ?_;rw [x03]) | (refine kL (by rfl) 356 _ (by rfl) w.heap.size (by rfl) 356 _ (0,0) _ E.box A32 (by rfl) (by exact S32) ?_))
    refine (y0N V HO (Sm.sched X) Sm.ks (Sm.sched_ok A.ok) Sm.ks_ok (Sm.length_sched X) rfl W.heap.size gk _ (jE _ _) E.ks).mono ?_;rintro _ w4 ⟨rfl,J⟩;have H:=E.later J;have I:=yH H;clear H J;go_wp2_with (refine jL (by rfl) 356 _ _ (by rfl) w.heap.size (u32s (Sm.turn Sm.ks (Sm.sched X) V).list) (by rfl) (by rfl) _ _ I.box (by rw [size8];exact S32) (by rw [size8,size8]) (x3F _) ?_)
    go_roundw
    case rel=>
     refine ⟨n+1,_,_,_,by have:=k.out;have:=l.out;omega,rfl,?_,?_⟩
     ·rw [Sm.blocks,<- O.out,<- HX.out];exact I.set _
     ·have e:B.drop (64*(n+1))=X.drop 64:=by rw [HX.out,List.drop_drop];congr 1
      rw [e];have e2:X.drop 64=[]:=List.drop_eq_nil_of_le (by have:=l.out;omega);rw [e2];exact ⟨rfl,by omega,fun x hx=>by simp at hx,Or.inr ⟨j,ob,rfl,fun i hi=>by simp at hi⟩⟩
    case measure=>simp [lenOf]
theorem A59:Tryz.prog.underlying 361=some (.array 8 5):=by kernel_rfl
theorem Z59:(Tryz.prog.info? 361).map (fun i=>(i.zero,i.size))=some (some (.agg (u8s (zeros 8))),8):=by kernel_rfl
theorem S59:(Tryz.prog.info? 361).map (·.size)=some 8:=by kernel_rfl
structure BF (T:TypeId) (N:Nat) (w wr:World) (r g:Nat) (L:List Nat):Prop where
 below:Below w.heap.size w wr
 res:∃C,wr.heap[r]? =some (.cells C T (0,0))/\C.size=N
 row:wr.heap[g]? =some (.cells (u8s L) T (0,0))
 lr:w.heap.size<=r
 lg:w.heap.size<=g
 ne:r≠g
theorem BF.store {T:TypeId} {N:Nat} {w wr:World} {r g:Nat} {p q:List Nat} {y:Nat} (h:BF T N w wr r g (p++y::q)) (k:Nat) (hk:p.length=k) (x:Nat):
  BF T N w (wr.setCell ⟨g,k,none⟩ (.int .u8 (x:Nat))) r g (p++x::q):=by
 obtain ⟨C,B,A⟩:=h.res;refine ⟨h.below.setCell h.lg _,⟨C,?_,A⟩,?_,h.lr,h.lg,h.ne⟩
 ·rw [kG _ _ _ _ h.ne];exact B
 ·rw [jU _ _ _ _ _ _ h.row,x7H p q y x k hk]
def x51 (n:Nat):Nat->List Nat
 | 0=>[]
 | k+1=>x51 n k++[Sm.big n k]
theorem x45 (n k:Nat):(x51 n k).length=k:=by
 induction k with
 | zero=>rfl
 | succ k ih=>simp [x51,ih]
def y5a (w:World) (r g n:Nat) (i:Value) (wr:World):Prop:=
 ∃k:Nat,k<=8/\i= .int .i64 k/\BF 361 8 w wr r g (x51 n k++zeros (8 - k))
theorem x6y (n:Nat) (_hn:n<18446744073709551616) (w:World):
  Calls Tryz.prog 302 #[.int .u64 n] w fun e w'=>e= .returned (.agg (u8s (Sm.bigs n)))/\Below w.heap.size w w':=by
 have L:=(zero_of_info Z59).1
 go_enter Tryz.func302,Tryz.ntmps302
 go_wp2_with fail
 generalize hWB:(w.alloc (.cells (u8s (zeros 8)) 361)).alloc (.cells (u8s (zeros 8)) 361)=WB;have H:BF 361 8 w WB w.heap.size (w.heap.size+1) (zeros 8):=by
  subst hWB;exact ⟨(jA _ _).alloc (by simp) _,⟨_,heap_alloc2_old w _ _,by simp [u8s,zeros]⟩,heap_alloc2_new w _ _,by omega,by omega,by omega⟩
 have FF:=yH H;clear H hWB L;go_loopw [5] (fun i wr=>y5a w w.heap.size (w.heap.size+1) n i wr) (fun i _=>8 - (intOf i).toNat)
 case atStart=>exact ⟨0,by omega,rfl,FF.out⟩
 case round=>
  obtain ⟨k,P,rfl,I⟩:=hrel;have B:=yH I;clear I FF;by_cases hlt:k<8
  ·have M:wr.cell? ⟨w.heap.size+1,k,none⟩=some (.int .u8 ((x51 n k++zeros (8 - k)).getD k 0:Nat)):=x2B B.row k (by simp [x45,zeros];omega);have O:wr.frozen? ⟨w.heap.size+1,k,none⟩=false:=jS wr _ k _ _ B.row;have Q:(0:Int)<=8*(7 - k)/\8*(7 - (k:Int))<=64:=by omega
   go_wp2_with fail
   go_roundw
   case rel=>
    show y5a _ _ _ _ _ _
    rw [show (n:Int)/2^(8*(7 - k))%256=((Sm.big n k:Nat):Int) from by
     unfold Sm.big;rw [Int.natCast_emod,Int.natCast_ediv,Int.natCast_pow];rfl]
    refine ⟨k+1,by omega,by go_num,?_⟩;have e:x51 n (k+1)++zeros (8 - (k+1))=x51 n k++Sm.big n k::zeros (8 - (k+1)):=by
     rw [x51,jR];rfl
    rw [e];refine BF.store (y:=0) ?_ k (x45 n k) _;rw [show 8 - (k+1)=8 - k - 1 from by omega,<- x20 (by omega)];exact B.out
   case measure=>simp [intOf];omega
  ·obtain rfl:k=8:=by omega
   obtain ⟨C,K,E⟩:=B.res;have J:=yH K;have G:=yH E;clear K E;have A:wr.heap[w.heap.size+1]? =some (.cells (u8s (Sm.bigs n)) 361 (0,0)):=B.row;have N:=yH A;clear A;go_wp2_with (first | (refine kL (by rfl) 361 _ (by rfl) (w.heap.size+1) (by rfl) 361 _ (0,0) _ N A59 (by rfl) (by exact S59) ?_) | (refine jL (by rfl) 361 _ _ (by rfl) w.heap.size (u8s (Sm.bigs n)) (by rfl) (by rfl) _ _ J (by exact S59) (by exact G.out) (x0f _) ?_))
   refine x0n 2 (by kernel_rfl) w.heap.size _ _ A59 S59 rfl (jT _ _ _ _ _ _ J) rfl ⟨rfl,?_⟩;exact Below.setRow B.below (jB _) _
theorem U31:Tryz.prog.underlying 282=some (.int .u32):=by kernel_rfl
theorem S31:(Tryz.prog.info? 282).map (·.size)=some 1:=by kernel_rfl
def x2n (l:List Nat):Nat->List Nat
 | 0=>[]
 | k+1=>x2n l k++Sm.bytes4 (l.getD k 0)
theorem x3a (l:List Nat) (k:Nat):(x2n l k).length=4*k:=by
 induction k with
 | zero=>rfl
 | succ k ih=>simp [x2n,ih,Sm.bytes4];omega
def y5b (w:World) (r g:Nat) (l:List Nat) (i:Value) (wr:World):Prop:=
 ∃k:Nat,k<=8/\i= .int .i64 k/\BF 30 32 w wr r g (x2n l k++zeros (32 - 4*k))
theorem x9K (v:Sm.V8) (hv:v.ok) (w:World):
  Calls Tryz.prog 329 #[.agg (u32s v.list)] w fun e w'=>e= .returned (.agg (u8s (Sm.bytesOf v)))/\Below w.heap.size w w':=by
 have W:=(zero_of_info Z25).1;have c:=yH hv;clear hv
 go_enter Tryz.func329,Tryz.ntmps329
 go_wp2_with (refine kL (by rfl) 356 _ (by rfl) w.heap.size (by rfl) 356 _ (0,0) _ ((Below.heap_alloc _ _ _ (by simp;omega)).trans (heap_alloc2_old w _ _)) A32 (by rfl) (by exact S32) ?_)
 generalize hWB:((w.alloc (.cells (u32s v.list) 356)).alloc (.cells (u8s (zeros 32)) 30)).alloc (.cells (u8s (zeros 32)) 30)=WB;have O:BF 30 32 w WB (w.heap.size+1) (w.heap.size+2) (zeros 32):=by
  subst hWB;refine ⟨((jA _ _).alloc (by simp) _).alloc (by simp;omega) _,⟨_,(Below.heap_alloc _ _ _ (by simp)).trans (heap_alloc2_new w _ _),by simp [u8s,zeros]⟩,?_,by omega,by omega,by omega⟩;have:=jE ((w.alloc (.cells (u32s v.list) 356)).alloc (.cells (u8s (zeros 32)) 30)) (.cells (u8s (zeros 32)) 30);rw [show ((w.alloc (.cells (u32s v.list) 356)).alloc (.cells (u8s (zeros 32)) 30)).heap.size=w.heap.size+2 from by simp] at this;exact this
 have FF:=yH O;clear O hWB W;go_simp;go_loopw [7] (fun i wr=>y5b w (w.heap.size+1) (w.heap.size+2) v.list i wr) (fun i _=>8 - (intOf i).toNat)
 case atStart=>exact ⟨0,by omega,rfl,FF.out⟩
 case round=>
  obtain ⟨k,d,rfl,P⟩:=hrel;have E:=yH P;clear P FF;by_cases hlt:k<8
  ·have M:=fun w'=>x5S A32 U31 rfl S31 (u32s v.list) k hlt _ (x7i v.list k (by simpa [Sm.V8.list] using hlt)) w';obtain ⟨x,L⟩:∃x,x=v.list.getD k 0:=⟨_,rfl⟩
   rw [<- L] at M;have U:=yH L;clear L;have J:∀i,i<32->wr.cell? ⟨w.heap.size+2,i,none⟩=some (.int .u8 ((x2n v.list k++zeros (32 - 4*k)).getD i 0:Nat)):=fun i hi=>x2B E.row i (by simp [x3a,zeros];omega);have H:∀i,wr.frozen? ⟨w.heap.size+2,i,none⟩=false:=fun i=>jS wr _ i _ _ E.row;have f:=J (4*k) (by omega);have l:=J (4*k+1) (by omega);have j:=J (4*k+2) (by omega);have h:=J (4*k+3) (by omega);have g:=H (4*k);have n:=H (4*k+1);have o:=H (4*k+2);have m:=H (4*k+3);clear J H;go_wp2_with fail
   go_roundw
   case rel=>
    show y5b _ _ _ _ _ _
    have a:(x:Int)/16777216%256=((x/16777216%256:Nat):Int):=by omega
    have b:(x:Int)/65536%256=((x/65536%256:Nat):Int):=by omega
    have Z:(x:Int)/256%256=((x/256%256:Nat):Int):=by omega
    have Y:(x:Int)%256=((x%256:Nat):Int):=by omega
    rw [a,b,Z,Y];refine ⟨k+1,by omega,by go_num,?_⟩;have e:x2n v.list (k+1)++zeros (32 - 4*(k+1))=(((x2n v.list k++[x/16777216%256])++[x/65536%256])++[x/256%256])++x%256::zeros (32 - 4*(k+1)):=by
     rw [x2n,<- U.out];simp [Sm.bytes4]
    have K:=x3a v.list k;rw [e];refine BF.store (y:=0) ?_ (4*k+3) (by simp [K]) _;rw [jR];refine BF.store (y:=0) ?_ (4*k+2) (by simp [K]) _;rw [jR];refine BF.store (y:=0) ?_ (4*k+1) (by simp [K]) _;rw [jR];refine BF.store (y:=0) ?_ (4*k) K _;have I:(0::([0]++(0::([0]++zeros (32 - 4*(k+1))))))=zeros (32 - 4*k):=by
     rw [show 32 - 4*k=(32 - 4*(k+1))+4 from by omega];rfl
    first
     | (rw [show ∀A:List Nat,A++0::([0]++0::([0]++zeros (32 - 4*(k+1))))=A++zeros (32 - 4*k) from fun A=>by rw [<- I]];exact E.out)
     | (have:=E.out;rw [<- I] at this;simpa using this)
   case measure=>simp [intOf];omega
  ·obtain rfl:k=8:=by omega
   obtain ⟨C,Q,G⟩:=E.res;have R:=yH Q;have N:=yH G;clear Q G;have B:wr.heap[w.heap.size+2]? =some (.cells (u8s (Sm.bytesOf v)) 30 (0,0)):=E.row;have X:=yH B;clear B;go_wp2_with (first | (refine kL (by rfl) 30 _ (by rfl) (w.heap.size+2) (by rfl) 30 _ (0,0) _ X A25 (by rfl) (by exact S25) ?_) | (refine jL (by rfl) 30 _ _ (by rfl) (w.heap.size+1) (u8s (Sm.bytesOf v)) (by rfl) (by rfl) _ _ R (by exact S25) (by exact N.out) (x0f _) ?_))
   refine x0n 2 (by kernel_rfl) (w.heap.size+1) _ _ A25 S25 rfl (jT _ _ _ _ _ _ R) rfl ⟨rfl,?_⟩;exact Below.setRow E.below (by omega) _
theorem y18 (Z:Nat) (h:Z<64) (w:World):(Instr.makeSlice 45 (.int .u64 (1+(Z:Nat))) (.int .u64 (1+(Z:Nat)+8))).run Tryz.prog w= .ok (.slice (some ⟨w.heap.size,0,none⟩) (1+Z) (1+Z+8)) (w.alloc (.cells (u8s (zeros (1+Z+8))) 5)):=by
 obtain ⟨E,G,B,A,C⟩:=info_parts I5;have:=run_make (P:=Tryz.prog) w 45 5 E _ A22 G B .u64 .u64 (1+(Z:Nat)) (1+(Z:Nat)+8) (by omega) (by omega) (by rw [C];omega) (by omega);rw [this,A,y0o];have H:(1+(Z:Int)).toNat=1+Z:=by omega
 have I:(1+(Z:Int)+8).toNat=1+Z+8:=by omega
 rw [H,I,Nat.mul_one]
theorem y6J (n:Nat):Sm.allB (Sm.fill n):=by
 intro x hx;simp only [Sm.fill,Sm.bigs,jW,jP,List.mem_replicate,jV,or_false] at hx;rcases hx with rfl | ⟨_,rfl⟩ | rfl | rfl | rfl | rfl | rfl | rfl | rfl | rfl<;>first | omega | exact Sm.big_lt _ _
theorem x9L (L:Nat) (hL:L<1152921504606846976) (w:World):
  Calls Tryz.prog 328 #[.int .u64 L] w fun e w'=>∃len cap,e= .returned (.slice (some ⟨w.heap.size,0,none⟩) len cap)/\Bytes w' (some ⟨w.heap.size,0,none⟩) len cap (Sm.fill L)/\Below w.heap.size w w':=by
 obtain ⟨Z,b⟩:∃Z,Z=(119 - L%64)%64:=⟨_,rfl⟩
 have R:Z<64:=by omega
 have Q:(119 - (L:Int)%64)%64=(Z:Int):=by omega
 have X:(119 - (L:Int))%64=(Z:Int):=by omega
 have f:=yH b;clear b;obtain ⟨h,a,J,I,K⟩:=info_parts I5;have N:=y18 Z R;have i:=yH a;have g:=yH J;have Y:=yH I;have j:=yH K;clear a J I K;have U:=jA w (.cells (u8s (zeros (1+Z+8))) 5);have O:(w.alloc (.cells (u8s (zeros (1+Z+8))) 5)).cell? ⟨w.heap.size,0,none⟩=some (.int .u8 ((zeros (1+Z+8)).getD 0 0:Nat)):=x2B (jE _ _) 0 (by simp [zeros]);have P:(w.alloc (.cells (u8s (zeros (1+Z+8))) 5)).frozen? ⟨w.heap.size,0,none⟩=false:=jS _ _ _ _ _ (jE _ _)
 go_enter Tryz.func328,Tryz.ntmps328
 go_wp2_with fail
 rw [show (8*(L:Int))=((8*L:Nat):Int) from by omega];have c:(u8s (zeros (1+Z+8))).setIfInBounds 0 (.int .u8 128)=u8s (128::zeros (Z+8)):=by
  have:=x7H [] (zeros (Z+8)) 0 128 0 rfl;rw [show 1+Z+8=(Z+8)+1 from by omega];exact this
 rw [c];clear c O P U N Q X;refine (x6y (8*L) (by omega) _).mono ?_;rintro _ E ⟨rfl,G⟩;have A:E.heap[w.heap.size]? =some (.cells (u8s (128::zeros (Z+8))) 5 (0,0)):=(G.block _ (by simp)).trans (jE _ _);have M:Below w.heap.size w E:=(jA _ _).trans (G.mono (by simp));have W:w.heap.size<E.heap.size:=(yL A)
 have B:(E.alloc (.cells (u8s (Sm.bigs (8*L))) 361)).ownsRow w.heap.size 5 1 (.slice (some ⟨w.heap.size,0,none⟩) (1+Z) (1+Z+8)) (1+Z) (vals ((128::zeros (Z+8)).take (1+Z))):=
  x23 ((Below.heap_alloc _ _ _ W).trans A) (by simp [zeros];omega) (by omega) (by unfold maxLen;omega) (jB _)
 have H:=yH B;have C:=yH M;have d:=yH (jE E (.cells (u8s (Sm.bigs (8*L))) 361));clear B M G A;have l:=(zero_of_info Z59).1;go_wp2_with (first | (refine jL (by rfl) 361 _ _ (by rfl) E.heap.size (u8s (Sm.bigs (8*L))) (by rfl) (by rfl) _ _ (jE _ _) (by exact S59) (by simp [u8s,zeros];rfl) (x0f _) ?_;rw [x03]) | (at_builtin;refine wpList_append_fits _ (by rfl) (.tmp 21) (.tmp 22) 45 (by rfl) w.heap.size 5 h 1 A22 i Y w.heap.size (1+Z) (1+Z+8) _ (by rfl) H ⟨E.heap.size,0,none⟩ 8 8 (vals (Sm.bigs (8*L))) (by rfl) (by rfl) (x0v d) (x0L _) (by omega) ?_;intro w5 hown5 hgrow5))
 have e:vals ((128::zeros (Z+8)).take (1+Z))++vals (Sm.bigs (8*L))=vals (Sm.fill L):=by
  rw [Sm.fill,<- f.out];have:(128::zeros (Z+8)).take (1+Z)=128::zeros Z:=by
   rw [show 1+Z=Z+1 from by omega,List.take_succ_cons];simp [zeros]
  rw [this];simp [vals,zeros]
 rw [e] at hown5;go_ret;exact ⟨_,_,rfl,Bytes.of_owns hown5 (y6J L),(C.alloc C.size _).grown hgrow5 (by have:=C.size;simp;omega) (fun k hk=>by simp at hk;omega)⟩
def w32 (l:List Nat):List Value:=l.map fun x=>Value.int .u32 (x:Nat)
theorem x5w (l:List Nat):(w32 l).toArray=u32s l:=rfl
def stL (v:Sm.V8) (bl:List Nat) (L:Nat):List Value:=w32 v.list++vals bl++[.int .u64 (L:Nat)]
structure Held (T:List Nat) (v:Sm.V8) (bl:List Nat):Prop where
 ok:Sm.allB T
 vok:v.ok
 lt:T.length<1152921504606846976
 words:T≠[]->v=Sm.blocks T Sm.first (T.length/64)
 size:bl.length=64
 bok:Sm.allB bl
 block:bl.take (T.length%64)=T.drop (64*(T.length/64))
def StateAt (w:World) (g:Nat) (T:List Nat):Prop:=
 ∃v bl,Held T v bl/\w.heap[g]? =some (.cells (stL v bl T.length).toArray 359 (0,0))
end
namespace Sm
theorem y19 {X Y:List Nat} (h:∀i,i<64->X.getD i 0=Y.getD i 0) (i:Nat) (hi:i<16):word X i=word Y i:=by
 unfold word;rw [h _ (by omega),h _ (by omega),h _ (by omega),h _ (by omega)]
theorem x9M {X Y:List Nat} (h:∀i,i<64->X.getD i 0=Y.getD i 0) (n:Nat) (hn:n<=16):words X n=words Y n:=by
 induction n with
 | zero=>rfl
 | succ n ih=>rw [words,words,ih (by omega),y19 h n (by omega)]
theorem x9N {X Y:List Nat} (h:∀i,i<64->X.getD i 0=Y.getD i 0):sched X=sched Y:=by
 unfold sched;rw [x9M h 16 (by omega)]
theorem x52 {X Y:List Nat} (v:V8) (n:Nat) (h:∀i,i<64*n->X.getD i 0=Y.getD i 0):blocks X v n=blocks Y v n:=by
 induction n with
 | zero=>rfl
 | succ n ih=>
  rw [blocks,blocks,ih (fun i hi=>h i (by omega))];rw [x9N (X:=X.drop (64*n)) (Y:=Y.drop (64*n)) (fun i hi=>by rw [x84,x84];exact h _ (by omega))]
theorem blocks_take (B:List Nat) (v:V8) (n F:Nat) (h:64*n<=F):blocks (B.take F) v n=blocks B v n:=
 x52 v n fun i hi=>y1m B F i (by omega)
theorem blocks_app (T B:List Nat) (v:V8) (n:Nat) (h:64*n<=T.length):blocks (T++B) v n=blocks T v n:=
 x52 v n fun i hi=>x7G T B i (by omega)
theorem blocks_add (T B:List Nat) (v:V8) (q n:Nat) (h:T.length=64*q):blocks (T++B) v (q+n)=blocks B (blocks T v q) n:=by
 induction n with
 | zero=>exact blocks_app T B v q (by omega)
 | succ n ih=>
  rw [show q+(n+1)=(q+n)+1 from rfl,blocks,ih,blocks];rw [show (T++B).drop (64*(q+n))=B.drop (64*n) from by
   rw [show 64*(q+n)=T.length+64*n from by omega,List.drop_append,List.drop_eq_nil_of_le (by omega)];simp]
end Sm
end Go.Proofs.YtenenciaggbjnaaGreat
