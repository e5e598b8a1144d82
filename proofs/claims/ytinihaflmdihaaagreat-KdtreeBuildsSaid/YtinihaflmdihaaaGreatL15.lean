/- ShaWriteA, ShaWriteC, ShaWriteD, ShaDone, ShaHash, PgHashS, PgBEq. -/
import Derived.Test.YtinihaflmdihaaaGreatL14
set_option maxRecDepth 100000
set_option maxHeartbeats 8000000
set_option linter.all false
namespace Go.Proofs.YtinihaflmdihaaaGreat
open Go.RowKit
theorem y4Y (T B:List Nat) (g:Nat) (p:Option Addr) (len cap:Nat) (w:World) (hT:T=[]) (v:Sm.V8) (bl:List Nat) (hh:Held T v bl)
  (hg:w.heap[g]? =some (.cells (stL v bl T.length).toArray 303 (0,0)))
  (hB:Bytes w p len cap B) (hn:B≠[]→∀a,p=some a→a.block≠g) (hl:(T++B).length<1152921504606846976):
  Calls Tryz.prog 246 #[.pointer (some ⟨g,0,none⟩),.slice p len cap] w fun e w'=>e= .returned (.tuple #[])∧StateAt w' g (T++B)∧w.grownBy w' (some g):=by
 subst hT
 have AK:w.cell? ⟨g,72,none⟩=some (.int .u64 0):=x5w hg hh.size
 have AL:w.frozen? ⟨g,72,none⟩=false:=frozen_of_row w g _ _ _ hg
 have A2:=hB.size
 have AX:len<1152921504606846976:=by simp at hl;omega
 have i:=yH (show (([]:List Nat)++B).length=len from by simp;omega)
 have HG:=yH hg
 have Z:=yH hh.ok
 have j:=yH hh.bok
 have X:=yH hh.size
 have HB:=yH hB
 clear hg hh hB A2
 go_enter Tryz.func246,Tryz.ntmps246
 go_wp2_with fail
 refine (x5U w).mono ?_
 rintro _ y ⟨rfl,s⟩
 have q:y.heap[g]? =_:=(s.block g (yL HG.out)).trans HG.out
 have AJ:=x1D q X.out Sm.first
 have R:=x4I q Sm.first
 have AC:(y.setCells g 0 (w32 Sm.first.list)).cell? ⟨g,72,none⟩=some (.int .u64 0):=x5w R X.out
 have A3:(y.setCells g 0 (w32 Sm.first.list)).frozen? ⟨g,72,none⟩=false:=frozen_of_row _ g _ _ _ R
 have I:=size8 Sm.first
 have K:=yH s
 have o:=yH R
 clear s q R AK AL
 go_wp2_with fail
 obtain ⟨v,hv⟩:∃v,v=Sm.first:=⟨_,rfl⟩
 have HS:=yH (show Start [] v from ⟨by rw [hv];exact Sm.first_ok,rfl,hv⟩)
 have n:=yH HS.out.1
 rw [← hv] at o ⊢
 generalize hW1:(y.setCells g 0 (w32 v.list)).setCell ⟨g,72,none⟩ (.int .u64 (len:Int))=W1
 have hM:Mid w W1 g v bl len p len cap B:=by
  subst hW1
  have h1:w.grownBy (y.setCells g 0 (w32 v.list)) (some g):=x0J ⟨K.out.os,K.out.tape,K.out.output,K.out.size,fun k hk _=>K.out.block k hk⟩ 0 _
  have h2:w.grownBy ((y.setCells g 0 (w32 v.list)).setCell ⟨g,72,none⟩ (.int .u64 (len:Int))) (some g):=x0J h1 72 [.int .u64 (len:Int)]
  exact ⟨x2b o.out X.out _,X.out,HB.out.grown h2 hn,hn,h2⟩
 have C:=yH hM
 clear hW1 hM HG HB AJ AC A3 I o K hv
 obtain ⟨F,hF⟩:∃F,F=len - len%64:=⟨_,rfl⟩
 rw [show (len:Int) - (len:Int)%64=(F:Int) from by omega]
 have Y:F≤len:=by omega
 have m:F%64=0:=by omega
 have HF:=yH hF
 have A8:=yH m
 clear hF m
 rcases C.out.bytes.at' with hc | ⟨gb,ob,hp,hx⟩
 ·subst hc
  cases p with
  | none=>
   obtain rfl:len=0:=by have:=C.out.bytes.le;omega
   obtain rfl:F=0:=by omega
   obtain ⟨U,N⟩:∃U,U=Sm.blocks (B.take 0) v ((B.take 0).length/64):=⟨_,rfl⟩
   have Q:=x1s v n.out (B.take 0) none 0 0 W1.drew ((C.out.bytes.take 0 Y).heap rfl) (by simp)
   rw [show ((0:Nat):Int)=0 from rfl]
   rw [← N] at Q
   have L:=yH Q
   have u:=yH N
   clear Q N
   obtain ⟨a,b,c,d,e,f,h,k⟩:=v
   have c0:W1.cell? ⟨g,0,none⟩=some (.int .u32 a):=x03 C.out.row 0 (by omega)
   have c1:W1.cell? ⟨g,1,none⟩=some (.int .u32 b):=x03 C.out.row 1 (by omega)
   have c2:W1.cell? ⟨g,2,none⟩=some (.int .u32 c):=x03 C.out.row 2 (by omega)
   have c3:W1.cell? ⟨g,3,none⟩=some (.int .u32 d):=x03 C.out.row 3 (by omega)
   have c4:W1.cell? ⟨g,4,none⟩=some (.int .u32 e):=x03 C.out.row 4 (by omega)
   have c5:W1.cell? ⟨g,5,none⟩=some (.int .u32 f):=x03 C.out.row 5 (by omega)
   have c6:W1.cell? ⟨g,6,none⟩=some (.int .u32 h):=x03 C.out.row 6 (by omega)
   have c7:W1.cell? ⟨g,7,none⟩=some (.int .u32 k):=x03 C.out.row 7 (by omega)
   go_region_law ((go_simp;go_at_call 277;refine L.out.mono ?_;rintro _ w4 ⟨rfl,H⟩;have J:=yH (C.out.later (x1K H rfl rfl rfl rfl));clear H;have G:=x1D J.out.row J.out.size U;have I:=size8 U))
   generalize hW5:w4.setCells g 0 (w32 U.list)=W5
   have M:=J.out.words U
   rw [hW5] at M
   have A:=yH M
   clear hW5 M G I J c0 c1 c2 c3 c4 c5 c6 c7
   go_wp2_with fail
   have r:=run_copy_none (P:=Tryz.prog) W5.drew 45 45 3 5 (some ⟨g,8,none⟩) none 64 64 0 0 A22 E5 (by rfl)
   go_still_tail 7,(by kernel_rfl)
   go_wp2_with fail
   go_end0
   have E:=Held.next HS.out Z.out A.out.bytes.ok hl A.out.bytes.size (show 0=0 - 0%64 from rfl) u.out A.out.size j.out
   have e1:B.drop 0=[]:=List.drop_eq_nil_of_le (by have:=A.out.bytes.size;omega)
   rw [e1,Nat.sub_self,List.drop_zero,List.nil_append] at E
   refine ⟨rfl,⟨U,bl,E,?_⟩,?_⟩
   ·have O:=i.out;(try simp only [List.nil_append] at O);rw [O];exact A.out.row
   ·exact ⟨A.out.grown.os,A.out.grown.tape,A.out.grown.output,A.out.grown.size,A.out.grown.block⟩
  | some x=>
   obtain rfl:len=0:=by have:=C.out.bytes.le;omega
   obtain rfl:F=0:=by omega
   obtain ⟨U,N⟩:∃U,U=Sm.blocks (B.take 0) v ((B.take 0).length/64):=⟨_,rfl⟩
   have Q:=x1s v n.out (B.take 0) (some x) 0 0 W1.drew ((C.out.bytes.take 0 Y).heap rfl) (by simp)
   rw [show ((0:Nat):Int)=0 from rfl]
   rw [← N] at Q
   have L:=yH Q
   have u:=yH N
   clear Q N
   obtain ⟨a,b,c,d,e,f,h,k⟩:=v
   have c0:W1.cell? ⟨g,0,none⟩=some (.int .u32 a):=x03 C.out.row 0 (by omega)
   have c1:W1.cell? ⟨g,1,none⟩=some (.int .u32 b):=x03 C.out.row 1 (by omega)
   have c2:W1.cell? ⟨g,2,none⟩=some (.int .u32 c):=x03 C.out.row 2 (by omega)
   have c3:W1.cell? ⟨g,3,none⟩=some (.int .u32 d):=x03 C.out.row 3 (by omega)
   have c4:W1.cell? ⟨g,4,none⟩=some (.int .u32 e):=x03 C.out.row 4 (by omega)
   have c5:W1.cell? ⟨g,5,none⟩=some (.int .u32 f):=x03 C.out.row 5 (by omega)
   have c6:W1.cell? ⟨g,6,none⟩=some (.int .u32 h):=x03 C.out.row 6 (by omega)
   have c7:W1.cell? ⟨g,7,none⟩=some (.int .u32 k):=x03 C.out.row 7 (by omega)
   go_region_law ((go_simp;go_at_call 277;refine L.out.mono ?_;rintro _ w4 ⟨rfl,H⟩;have J:=yH (C.out.later (x1K H rfl rfl rfl rfl));clear H;have G:=x1D J.out.row J.out.size U;have I:=size8 U))
   generalize hW5:w4.setCells g 0 (w32 U.list)=W5
   have M:=J.out.words U
   rw [hW5] at M
   have A:=yH M
   clear hW5 M G I J c0 c1 c2 c3 c4 c5 c6 c7
   go_wp2_with fail
   have r:=run_copy_none (P:=Tryz.prog) W5.drew 45 45 3 5 (some ⟨g,8,none⟩) (some x) 64 64 0 0 A22 E5 (by rfl)
   go_still_tail 7,(by kernel_rfl)
   go_wp2_with fail
   go_end0
   have E:=Held.next HS.out Z.out A.out.bytes.ok hl A.out.bytes.size (show 0=0 - 0%64 from rfl) u.out A.out.size j.out
   have e1:B.drop 0=[]:=List.drop_eq_nil_of_le (by have:=A.out.bytes.size;omega)
   rw [e1,Nat.sub_self,List.drop_zero,List.nil_append] at E
   refine ⟨rfl,⟨U,bl,E,?_⟩,?_⟩
   ·have O:=i.out;(try simp only [List.nil_append] at O);rw [O];exact A.out.row
   ·exact ⟨A.out.grown.os,A.out.grown.tape,A.out.grown.output,A.out.grown.size,A.out.grown.block⟩
 ·subst hp
  clear hx
  have z:=C.out.bytes.le
  have a1:(0:Int)≤F∧(F:Int)≤cap:=by omega
  obtain ⟨U,N⟩:∃U,U=Sm.blocks (B.take F) v ((B.take F).length/64):=⟨_,rfl⟩
  have Q:=x1s v n.out (B.take F) (some ⟨gb,ob,none⟩) F cap W1.drew ((C.out.bytes.take F Y).heap rfl) (by have:=A8.out;have:=C.out.bytes.size;simp;omega)
  rw [← N] at Q
  have L:=yH Q
  have u:=yH N
  clear Q N
  obtain ⟨a,b,c,d,e,f,h,k⟩:=v
  have c0:W1.cell? ⟨g,0,none⟩=some (.int .u32 a):=x03 C.out.row 0 (by omega)
  have c1:W1.cell? ⟨g,1,none⟩=some (.int .u32 b):=x03 C.out.row 1 (by omega)
  have c2:W1.cell? ⟨g,2,none⟩=some (.int .u32 c):=x03 C.out.row 2 (by omega)
  have c3:W1.cell? ⟨g,3,none⟩=some (.int .u32 d):=x03 C.out.row 3 (by omega)
  have c4:W1.cell? ⟨g,4,none⟩=some (.int .u32 e):=x03 C.out.row 4 (by omega)
  have c5:W1.cell? ⟨g,5,none⟩=some (.int .u32 f):=x03 C.out.row 5 (by omega)
  have c6:W1.cell? ⟨g,6,none⟩=some (.int .u32 h):=x03 C.out.row 6 (by omega)
  have c7:W1.cell? ⟨g,7,none⟩=some (.int .u32 k):=x03 C.out.row 7 (by omega)
  go_region_law ((go_simp;go_at_call 277;refine L.out.mono ?_;rintro _ w4 ⟨rfl,H⟩;have J:=yH (C.out.later (x1K H rfl rfl rfl rfl));clear H;have G:=x1D J.out.row J.out.size U;have I:=size8 U))
  generalize hW5:w4.setCells g 0 (w32 U.list)=W5
  have M:=J.out.words U
  rw [hW5] at M
  have A:=yH M
  clear hW5 M G I J c0 c1 c2 c3 c4 c5 c6 c7
  go_wp2_with fail
  rcases Nat.lt_or_eq_of_le (Nat.le_trans Y z) with t | t
  ·have r:=x84 A.out F (by have:=HF.out;omega) t
   go_still_tail 7,(by kernel_rfl)
   go_wp2_with fail
   go_end0
   have AM:(B.drop F).length=len - F:=by have:=A.out.bytes.size;simp;omega
   have l:=x18 (W:=W5.drew) A.out.row A.out.size 0 (B.drop F) (by have:=HF.out;omega)
   have E:=Held.next HS.out Z.out A.out.bytes.ok hl A.out.bytes.size HF.out u.out A.out.size j.out
   refine ⟨rfl,⟨U,_,E,?_⟩,?_⟩
   ·rw [AM] at l
    have O:=i.out
    (try simp only [List.nil_append] at O)
    rw [O]
    simpa using l
   ·exact x0J (w1:=W5.drew) ⟨A.out.grown.os,A.out.grown.tape,A.out.grown.output,A.out.grown.size,A.out.grown.block⟩ 8 _
  ·subst t
   obtain rfl:len=F:=by omega
   have r:=run_copy_none (P:=Tryz.prog) W5.drew 45 45 3 5 (some ⟨g,8,none⟩) (some ⟨gb,ob,none⟩) 64 64 0 0 A22 E5 (by rfl)
   go_still_tail 7,(by kernel_rfl)
   go_wp2_with fail
   go_end0
   have E:=Held.next HS.out Z.out A.out.bytes.ok hl A.out.bytes.size HF.out u.out A.out.size j.out
   have e1:B.drop len=[]:=List.drop_eq_nil_of_le (by have:=A.out.bytes.size;omega)
   rw [e1,Nat.sub_self,List.drop_zero,List.nil_append] at E
   refine ⟨rfl,⟨U,bl,E,?_⟩,?_⟩
   ·have O:=i.out;(try simp only [List.nil_append] at O);rw [O];exact A.out.row
   ·exact ⟨A.out.grown.os,A.out.grown.tape,A.out.grown.output,A.out.grown.size,A.out.grown.block⟩
theorem y4Z (T B:List Nat) (g:Nat) (p:Option Addr) (len cap:Nat) (w:World) (r:Nat) (hr:T.length%64=r) (hr0:0<r) (hs:r+len<64) (v:Sm.V8) (bl:List Nat) (hh:Held T v bl)
  (hg:w.heap[g]? =some (.cells (stL v bl T.length).toArray 303 (0,0)))
  (hB:Bytes w p len cap B) (hn:B≠[]→∀a,p=some a→a.block≠g) (hl:(T++B).length<1152921504606846976):
  Calls Tryz.prog 246 #[.pointer (some ⟨g,0,none⟩),.slice p len cap] w fun e w'=>e= .returned (.tuple #[])∧StateAt w' g (T++B)∧w.grownBy w' (some g):=by
 have W:((T.length:Int)==0)=false:=by
  have:T≠[]:=by rintro rfl;simp at hr;omega
  have:=List.length_pos_iff.2 this
  simp;omega
 have Z:T≠[]:=by rintro rfl;simp at hr;omega
 have R:(T.length:Int)%64=(r:Int):=by omega
 have X:w.cell? ⟨g,72,none⟩=some (.int .u64 (T.length:Nat)):=x5w hg hh.size
 have f:w.frozen? ⟨g,72,none⟩=false:=frozen_of_row w g _ _ _ hg
 have L:=x2b hg hh.size (T.length+len)
 obtain ⟨N,U⟩:∃N,N=T.length:=⟨_,rfl⟩
 rw [← U] at X W R L
 have I:=hB.size
 have h:N+len<1152921504606846976:=by simp at hl;omega
 have Q:=yH (show (T++B).length=N+len from by simp;omega)
 have l:(0:Int)<r∧(r:Int)<64:=by omega
 have E:=yH (hB.grown (x0D w g 72 (.int .u64 ((N+len:Nat):Int))) hn)
 have M:=yH hh
 have H:=yH L
 have i:=yH hr
 have n:=yH Z
 have Y:=yH U
 have A:=yH I
 clear hg hh hB U I L hr Z
 have b:(r:Int)+len<64:=by omega
 have d:=x57 g r (by omega)
 rcases E.out.at' with k | ⟨o,m,j,c⟩
 ·subst k
  cases p with
  | none=>
   obtain rfl:len=0:=by have:=E.out.le;omega
   have C:B=[]:=List.length_eq_zero_iff.1 A.out.symm
   have G:=run_copy_none (P:=Tryz.prog) (w.setCell ⟨g,72,none⟩ (.int .u64 (N:Int))) 45 45 3 5 (some ⟨g,8+r,none⟩) none (64 - r) (64 - r) 0 0 A22 E5 (Nat.zero_min _)
   have K:=yH C
   clear C
   go_enter Tryz.func246,Tryz.ntmps246
   go_wp2_with fail
   (try simp only [Exit.inBlock,Exit.then])
   refine bodyPost_ret (results_none rfl _ _ _) rfl ?_
   have J:T++B=T:=by rw [K.out,List.append_nil]
   refine ⟨rfl,?_,x0D _ _ _ _⟩
   rw [J]
   refine ⟨v,bl,M.out,?_⟩
   rw [← Y.out]
   exact H.out
  | some x=>
   obtain rfl:len=0:=by have:=E.out.le;omega
   have C:B=[]:=List.length_eq_zero_iff.1 A.out.symm
   have G:=run_copy_none (P:=Tryz.prog) (w.setCell ⟨g,72,none⟩ (.int .u64 (N:Int))) 45 45 3 5 (some ⟨g,8+r,none⟩) (some x) (64 - r) (64 - r) 0 0 A22 E5 (Nat.zero_min _)
   have K:=yH C
   clear C
   go_enter Tryz.func246,Tryz.ntmps246
   go_wp2_with fail
   (try simp only [Exit.inBlock,Exit.then])
   refine bodyPost_ret (results_none rfl _ _ _) rfl ?_
   have J:T++B=T:=by rw [K.out,List.append_nil]
   refine ⟨rfl,?_,x0D _ _ _ _⟩
   rw [J]
   refine ⟨v,bl,M.out,?_⟩
   rw [← Y.out]
   exact H.out
 ·subst j
  clear c
  have G:=x5x H.out M.out.size E.out r len (by omega) (Nat.min_eq_left (by omega)).symm
  rw [show B.take len=B from List.take_of_length_le (by have:=A.out;omega)] at G
  rw [show ((N+len:Nat):Int)=(N:Int)+(len:Int) from by omega] at G
  go_enter Tryz.func246,Tryz.ntmps246
  go_wp2_with fail
  (try simp only [Exit.inBlock,Exit.then])
  refine bodyPost_ret (results_none rfl _ _ _) rfl ?_
  rw [show (N:Int)+(len:Int)=((N+len:Nat):Int) from by omega]
  have O:=x18 H.out M.out.size r B (by have:=A.out;omega)
  refine ⟨rfl,⟨v,_,M.out.small i.out hr0 (by have:=A.out;omega) E.out.ok hl,?_⟩,x0J (x0D _ _ _ _) _ _⟩
  rw [Q.out]
  exact O
theorem y4a (T B:List Nat) (g:Nat) (p:Option Addr) (len cap:Nat) (w:World) (r m:Nat) (hr:T.length%64=r) (hr0:0<r) (hs:r+m=64) (hml:m≤len) (v:Sm.V8) (bl:List Nat) (hh:Held T v bl)
  (hg:w.heap[g]? =some (.cells (stL v bl T.length).toArray 303 (0,0)))
  (hB:Bytes w p len cap B) (hn:B≠[]→∀a,p=some a→a.block≠g) (hl:(T++B).length<1152921504606846976):
  Calls Tryz.prog 246 #[.pointer (some ⟨g,0,none⟩),.slice p len cap] w fun e w'=>e= .returned (.tuple #[])∧StateAt w' g (T++B)∧w.grownBy w' (some g):=by
 have Ai:((T.length:Int)==0)=false:=by
  have:T≠[]:=by rintro rfl;simp at hr;omega
  have:=List.length_pos_iff.2 this
  simp;omega
 have hT:T≠[]:=by rintro rfl;simp at hr;omega
 have Ad:(T.length:Int)%64=(r:Int):=by omega
 have Aa:w.cell? ⟨g,72,none⟩=some (.int .u64 (T.length:Nat)):=x5w hg hh.size
 have Ar:w.frozen? ⟨g,72,none⟩=false:=frozen_of_row w g _ _ _ hg
 have Al:=x2b hg hh.size (T.length+len)
 obtain ⟨N,hN⟩:∃N,N=T.length:=⟨_,rfl⟩
 rw [← hN] at Aa Ai Ad Al
 have AQ:=hB.size
 have B9:N+len<1152921504606846976:=by simp at hl;omega
 have AR:=yH (show (T++B).length=N+len from by simp;omega)
 have q:(0:Int)<r∧(r:Int)<64:=by omega
 have Y:=yH (hB.grown (x0D w g 72 (.int .u64 ((N+len:Nat):Int))) hn)
 have HH:=yH hh
 have AE:=yH Al
 have HR:=yH hr
 have HT:=yH hT
 have HN:=yH hN
 have L:=yH AQ
 clear hg hh hB hN AQ Al hr hT
 have Am:=x57 g r (by omega)
 obtain ⟨gb,ob,hp,I⟩:=Y.out.ne (by intro e;have:=L.out;rw [e] at this;simp at this;omega)
 subst hp
 clear I
 have AA:=x5x AE.out HH.out.size Y.out r m (by omega) (by rw [show 64 - r=m from by omega];exact (Nat.min_eq_right hml).symm)
 have s:=yH (show ((N+len:Nat):Int)=(N:Int)+(len:Int) from by omega)
 rw [s.out] at AA
 have Ap:(r:Int)+m=64:=by omega
 have An:(0:Int)≤m∧(m:Int)≤len:=by omega
 have A2:=Y.out.le
 rcases Nat.lt_or_eq_of_le (Nat.le_trans hml A2) with Af | Af
 ·go_enter Tryz.func246,Tryz.ntmps246
  go_wp2_with fail
  rw [← s.out]
  generalize hW2:(w.setCell ⟨g,72,none⟩ (.int .u64 ((N+len:Nat):Int))).setCells g (8+r) (vals (B.take m))=W2
  obtain ⟨J,G⟩:∃x,x=bl.take r++B.take m:=⟨_,rfl⟩
  have AF:(B.take m).length=m:=by have:=L.out;simp;omega
  have A0:=HH.out.size
  have K:Mid w W2 g v J (N+len) (some ⟨gb,ob,none⟩) len cap B:=by
   have Z:=x18 AE.out A0 r (B.take m) (by omega)
   rw [hW2,AF,List.drop_eq_nil_of_le (by omega),List.append_nil,← G] at Z
   have Ab:w.grownBy W2 (some g):=by rw [← hW2];exact x0J (x0D _ _ _ _) _ _
   have AI:(w.setCell ⟨g,72,none⟩ (.int .u64 ((N+len:Nat):Int))).grownBy W2 (some g):=by rw [← hW2];exact x0J (World.grownBy.refl _ _) _ _
   exact ⟨Z,by have:=L.out;rw [G];simp [A0];omega,Y.out.grown AI hn,hn,Ab⟩
  have O:Sm.allB J:=by
   rw [G]
   intro x I
   rcases List.mem_append.1 I with I | I
   ·exact HH.out.bok x (List.mem_of_mem_take I)
   ·exact Y.out.ok x (List.mem_of_mem_take I)
  have E:=Start.block (B:=B) HH.out HR.out hr0 hs (by have:=L.out;omega)
  rw [← G] at E
  obtain ⟨l,A3⟩:∃l,l=Sm.blocks J v 1:=⟨_,rfl⟩
  have A4:=x1s v HH.out.vok J (some ⟨g,8,none⟩) 64 64 W2.drew ((Bytes.block K.row K.size O).heap rfl) (by rw [K.size])
  rw [K.size,show 64/64=1 from rfl,← A3] at A4
  rw [← A3] at E
  have AG:=yH A4
  have C:=yH K
  have A8:=yH E
  have AD:=yH E.1
  have A5:=yH O
  clear A4 K E O A3 G hW2 A0 AF AA Aa Ar Ai Ad AE
  obtain ⟨a,b,c,d,e,f,h,k⟩:=v
  have c0:W2.cell? ⟨g,0,none⟩=some (.int .u32 a):=x03 C.out.row 0 (by omega)
  have c1:W2.cell? ⟨g,1,none⟩=some (.int .u32 b):=x03 C.out.row 1 (by omega)
  have c2:W2.cell? ⟨g,2,none⟩=some (.int .u32 c):=x03 C.out.row 2 (by omega)
  have c3:W2.cell? ⟨g,3,none⟩=some (.int .u32 d):=x03 C.out.row 3 (by omega)
  have c4:W2.cell? ⟨g,4,none⟩=some (.int .u32 e):=x03 C.out.row 4 (by omega)
  have c5:W2.cell? ⟨g,5,none⟩=some (.int .u32 f):=x03 C.out.row 5 (by omega)
  have c6:W2.cell? ⟨g,6,none⟩=some (.int .u32 h):=x03 C.out.row 6 (by omega)
  have c7:W2.cell? ⟨g,7,none⟩=some (.int .u32 k):=x03 C.out.row 7 (by omega)
  go_region_law ((go_simp;go_at_call 277;refine AG.out.mono ?_;rintro _ w3 ⟨rfl,X⟩;have n:=yH (C.out.later (x1K X rfl rfl rfl rfl));clear X;have Q:=x1D n.out.row n.out.size l;have u:=size8 l))
  generalize hW5:w3.setCells g 0 (w32 l.list)=W3
  have y:=n.out.words l
  rw [hW5] at y
  have AC:=yH y
  clear hW5 y Q u n c0 c1 c2 c3 c4 c5 c6 c7
  go_wp2_with fail
  obtain ⟨T2,o⟩:∃x,x=T++B.take m:=⟨_,rfl⟩
  obtain ⟨B2,t⟩:∃x,x=B.drop m:=⟨_,rfl⟩
  have j:=yH (show T2++B2=T++B from by rw [o,t,List.append_assoc,List.take_append_drop])
  have AN:(T2++B2).length<1152921504606846976:=by rw [j.out];exact hl
  have A7:=yH (show (T2++B2).length=N+len from by rw [j.out];exact AR.out)
  have A6:=yH (show Sm.allB T2 from by
   rw [o]
   intro x I
   rcases List.mem_append.1 I with I | I
   ·exact HH.out.ok x I
   ·exact Y.out.ok x (List.mem_of_mem_take I))
  rw [← o] at A8
  have AH:Mid w W3 g l J (N+len) (some ⟨gb,ob+m,none⟩) (len - m) (cap - m) B2:=by
   have q:=AC.out
   exact ⟨q.row,q.size,by rw [t];exact q.bytes.drop m hml,(fun hb a ha=>by cases ha;exact hn (by intro e0;rw [t,e0] at hb;simp at hb) ⟨gb,ob,none⟩ rfl),q.grown⟩
  have A:=yH AH
  clear AH AC o t
  obtain ⟨M,A1⟩:∃x,x=len - m:=⟨_,rfl⟩
  obtain ⟨AT,z⟩:∃x,x=cap - m:=⟨_,rfl⟩
  obtain ⟨At,AJ⟩:∃x,x=ob+m:=⟨_,rfl⟩
  rw [← A1,← z,← AJ] at A
  rw [← A1,← z,← AJ]
  clear A1 z AJ Ap An A2 Af Am s Y HR HT
  obtain ⟨F,hF⟩:∃F,F=M - M%64:=⟨_,rfl⟩
  rw [show (M:Int) - (M:Int)%64=(F:Int) from by omega]
  have AM:F≤M:=by omega
  have AS:F%64=0:=by omega
  have HF:=yH hF
  have Aq:=yH AS
  clear hF AS
  have Ao:=A.out.bytes.le
  have a1:(0:Int)≤F∧(F:Int)≤AT:=by omega
  obtain ⟨U,hU⟩:∃U,U=Sm.blocks (B2.take F) l ((B2.take F).length/64):=⟨_,rfl⟩
  have HA:=x1s l AD.out (B2.take F) (some ⟨gb,At,none⟩) F AT W3.drew ((A.out.bytes.take F AM).heap rfl) (by have:=Aq.out;have:=A.out.bytes.size;simp;omega)
  rw [← hU] at HA
  have AU:=yH HA
  have HU:=yH hU
  clear HA hU
  obtain ⟨a,b,c,d,e,f,h,k⟩:=l
  have c0:W3.cell? ⟨g,0,none⟩=some (.int .u32 a):=x03 A.out.row 0 (by omega)
  have c1:W3.cell? ⟨g,1,none⟩=some (.int .u32 b):=x03 A.out.row 1 (by omega)
  have c2:W3.cell? ⟨g,2,none⟩=some (.int .u32 c):=x03 A.out.row 2 (by omega)
  have c3:W3.cell? ⟨g,3,none⟩=some (.int .u32 d):=x03 A.out.row 3 (by omega)
  have c4:W3.cell? ⟨g,4,none⟩=some (.int .u32 e):=x03 A.out.row 4 (by omega)
  have c5:W3.cell? ⟨g,5,none⟩=some (.int .u32 f):=x03 A.out.row 5 (by omega)
  have c6:W3.cell? ⟨g,6,none⟩=some (.int .u32 h):=x03 A.out.row 6 (by omega)
  have c7:W3.cell? ⟨g,7,none⟩=some (.int .u32 k):=x03 A.out.row 7 (by omega)
  go_region_law ((go_simp;go_at_call 277;refine AU.out.mono ?_;rintro _ w5 ⟨rfl,X⟩;have n:=yH (A.out.later (x1K X rfl rfl rfl rfl));clear X;have Q:=x1D n.out.row n.out.size U;have u:=size8 U))
  generalize hW5:w5.setCells g 0 (w32 U.list)=W5
  have y:=n.out.words U
  rw [hW5] at y
  have H:=yH y
  clear hW5 y Q u n c0 c1 c2 c3 c4 c5 c6 c7
  go_wp2_with fail
  rcases Nat.lt_or_eq_of_le (Nat.le_trans AM Ao) with Aj | Aj
  ·have AA:=x84 H.out F (by have:=HF.out;omega) Aj
   go_still_tail 7,(by kernel_rfl)
   go_wp2_with fail
   go_end0
   have B4:(B2.drop F).length=M - F:=by have:=H.out.bytes.size;simp;omega
   have AP:=x18 (W:=W5.drew) H.out.row H.out.size 0 (B2.drop F) (by have:=HF.out;omega)
   have R:=Held.next A8.out A6.out H.out.bytes.ok AN H.out.bytes.size HF.out HU.out H.out.size A5.out
   refine ⟨rfl,⟨U,_,(by rw [← j.out];exact R),?_⟩,?_⟩
   ·rw [B4] at AP
    rw [← j.out]
    have q:=A7.out
    (try simp only [List.nil_append] at q)
    rw [q]
    simpa using AP
   ·exact x0J (w1:=W5.drew) ⟨H.out.grown.os,H.out.grown.tape,H.out.grown.output,H.out.grown.size,H.out.grown.block⟩ 8 _
  ·subst Aj
   obtain rfl:M=F:=by omega
   have AA:=run_copy_none (P:=Tryz.prog) W5.drew 45 45 3 5 (some ⟨g,8,none⟩) (some ⟨gb,At,none⟩) 64 64 0 0 A22 E5 (by rfl)
   go_still_tail 7,(by kernel_rfl)
   go_wp2_with fail
   go_end0
   have R:=Held.next A8.out A6.out H.out.bytes.ok AN H.out.bytes.size HF.out HU.out H.out.size A5.out
   have e1:B2.drop M=[]:=List.drop_eq_nil_of_le (by have:=H.out.bytes.size;omega)
   rw [e1,Nat.sub_self,List.drop_zero,List.nil_append] at R
   refine ⟨rfl,⟨U,J,(by rw [← j.out];exact R),?_⟩,?_⟩
   ·rw [← j.out];have q:=A7.out;(try simp only [List.nil_append] at q);rw [q];exact H.out.row
   ·exact ⟨H.out.grown.os,H.out.grown.tape,H.out.grown.output,H.out.grown.size,H.out.grown.block⟩
 ·subst Af
  obtain rfl:m=len:=by omega
  go_enter Tryz.func246,Tryz.ntmps246
  go_wp2_with fail
  rw [← s.out]
  generalize hW2:(w.setCell ⟨g,72,none⟩ (.int .u64 ((N+m:Nat):Int))).setCells g (8+r) (vals (B.take m))=W2
  obtain ⟨J,G⟩:∃x,x=bl.take r++B.take m:=⟨_,rfl⟩
  have AF:(B.take m).length=m:=by have:=L.out;simp;omega
  have A0:=HH.out.size
  have K:Mid w W2 g v J (N+m) (some ⟨gb,ob,none⟩) m m B:=by
   have Z:=x18 AE.out A0 r (B.take m) (by omega)
   rw [hW2,AF,List.drop_eq_nil_of_le (by omega),List.append_nil,← G] at Z
   have Ab:w.grownBy W2 (some g):=by rw [← hW2];exact x0J (x0D _ _ _ _) _ _
   have AI:(w.setCell ⟨g,72,none⟩ (.int .u64 ((N+m:Nat):Int))).grownBy W2 (some g):=by rw [← hW2];exact x0J (World.grownBy.refl _ _) _ _
   exact ⟨Z,by have:=L.out;rw [G];simp [A0];omega,Y.out.grown AI hn,hn,Ab⟩
  have O:Sm.allB J:=by
   rw [G]
   intro x I
   rcases List.mem_append.1 I with I | I
   ·exact HH.out.bok x (List.mem_of_mem_take I)
   ·exact Y.out.ok x (List.mem_of_mem_take I)
  have E:=Start.block (B:=B) HH.out HR.out hr0 hs (by have:=L.out;omega)
  rw [← G] at E
  obtain ⟨l,A3⟩:∃l,l=Sm.blocks J v 1:=⟨_,rfl⟩
  have A4:=x1s v HH.out.vok J (some ⟨g,8,none⟩) 64 64 W2.drew ((Bytes.block K.row K.size O).heap rfl) (by rw [K.size])
  rw [K.size,show 64/64=1 from rfl,← A3] at A4
  rw [← A3] at E
  have AG:=yH A4
  have C:=yH K
  have A8:=yH E
  have AD:=yH E.1
  have A5:=yH O
  clear A4 K E O A3 G hW2 A0 AF AA Aa Ar Ai Ad AE
  obtain ⟨a,b,c,d,e,f,h,k⟩:=v
  have c0:W2.cell? ⟨g,0,none⟩=some (.int .u32 a):=x03 C.out.row 0 (by omega)
  have c1:W2.cell? ⟨g,1,none⟩=some (.int .u32 b):=x03 C.out.row 1 (by omega)
  have c2:W2.cell? ⟨g,2,none⟩=some (.int .u32 c):=x03 C.out.row 2 (by omega)
  have c3:W2.cell? ⟨g,3,none⟩=some (.int .u32 d):=x03 C.out.row 3 (by omega)
  have c4:W2.cell? ⟨g,4,none⟩=some (.int .u32 e):=x03 C.out.row 4 (by omega)
  have c5:W2.cell? ⟨g,5,none⟩=some (.int .u32 f):=x03 C.out.row 5 (by omega)
  have c6:W2.cell? ⟨g,6,none⟩=some (.int .u32 h):=x03 C.out.row 6 (by omega)
  have c7:W2.cell? ⟨g,7,none⟩=some (.int .u32 k):=x03 C.out.row 7 (by omega)
  go_region_law ((go_simp;go_at_call 277;refine AG.out.mono ?_;rintro _ w3 ⟨rfl,X⟩;have n:=yH (C.out.later (x1K X rfl rfl rfl rfl));clear X;have Q:=x1D n.out.row n.out.size l;have u:=size8 l))
  generalize hW5:w3.setCells g 0 (w32 l.list)=W3
  have y:=n.out.words l
  rw [hW5] at y
  have AC:=yH y
  clear hW5 y Q u n c0 c1 c2 c3 c4 c5 c6 c7
  go_wp2_with fail
  obtain ⟨T2,o⟩:∃x,x=T++B.take m:=⟨_,rfl⟩
  obtain ⟨B2,t⟩:∃x,x=B.drop m:=⟨_,rfl⟩
  have j:=yH (show T2++B2=T++B from by rw [o,t,List.append_assoc,List.take_append_drop])
  have AN:(T2++B2).length<1152921504606846976:=by rw [j.out];exact hl
  have A7:=yH (show (T2++B2).length=N+m from by rw [j.out];exact AR.out)
  have A6:=yH (show Sm.allB T2 from by
   rw [o]
   intro x I
   rcases List.mem_append.1 I with I | I
   ·exact HH.out.ok x I
   ·exact Y.out.ok x (List.mem_of_mem_take I))
  rw [← o] at A8
  have AH:Mid w W3 g l J (N+m) (some ⟨gb,ob,none⟩) 0 0 B2:=by
   have q:=AC.out
   have As:B2=[]:=by rw [t];exact List.drop_eq_nil_of_le (by have:=L.out;omega)
   exact ⟨q.row,q.size,by rw [As];exact ⟨rfl,Nat.le_refl _,fun x I=>by simp at I,Or.inr ⟨gb,ob,rfl,fun i hi=>by simp at hi⟩⟩,fun hb=>absurd As hb,q.grown⟩
  have A:=yH AH
  have AM:0≤0:=Nat.le_refl _
  clear AH AC o t Ap An A2 Am s Y HR HT
  obtain ⟨U,hU⟩:∃U,U=Sm.blocks (B2.take 0) l ((B2.take 0).length/64):=⟨_,rfl⟩
  have HA:=x1s l AD.out (B2.take 0) (some ⟨gb,ob,none⟩) 0 0 W3.drew ((A.out.bytes.take 0 AM).heap rfl) (by simp)
  rw [← hU] at HA
  have AU:=yH HA
  have HU:=yH hU
  clear HA hU
  obtain ⟨a,b,c,d,e,f,h,k⟩:=l
  have c0:W3.cell? ⟨g,0,none⟩=some (.int .u32 a):=x03 A.out.row 0 (by omega)
  have c1:W3.cell? ⟨g,1,none⟩=some (.int .u32 b):=x03 A.out.row 1 (by omega)
  have c2:W3.cell? ⟨g,2,none⟩=some (.int .u32 c):=x03 A.out.row 2 (by omega)
  have c3:W3.cell? ⟨g,3,none⟩=some (.int .u32 d):=x03 A.out.row 3 (by omega)
  have c4:W3.cell? ⟨g,4,none⟩=some (.int .u32 e):=x03 A.out.row 4 (by omega)
  have c5:W3.cell? ⟨g,5,none⟩=some (.int .u32 f):=x03 A.out.row 5 (by omega)
  have c6:W3.cell? ⟨g,6,none⟩=some (.int .u32 h):=x03 A.out.row 6 (by omega)
  have c7:W3.cell? ⟨g,7,none⟩=some (.int .u32 k):=x03 A.out.row 7 (by omega)
  go_region_law ((go_simp;go_at_call 277;refine AU.out.mono ?_;rintro _ w5 ⟨rfl,X⟩;have n:=yH (A.out.later (x1K X rfl rfl rfl rfl));clear X;have Q:=x1D n.out.row n.out.size U;have u:=size8 U))
  generalize hW5:w5.setCells g 0 (w32 U.list)=W5
  have y:=n.out.words U
  rw [hW5] at y
  have H:=yH y
  clear hW5 y Q u n c0 c1 c2 c3 c4 c5 c6 c7
  go_wp2_with fail
  have AA:=run_copy_none (P:=Tryz.prog) W5.drew 45 45 3 5 (some ⟨g,8,none⟩) (some ⟨gb,ob,none⟩) 64 64 0 0 A22 E5 (by rfl)
  go_still_tail 7,(by kernel_rfl)
  go_wp2_with fail
  go_end0
  have R:=Held.next A8.out A6.out H.out.bytes.ok AN H.out.bytes.size (show 0=0 - 0%64 from rfl) HU.out H.out.size A5.out
  have e1:B2.drop 0=[]:=List.drop_eq_nil_of_le (by have:=H.out.bytes.size;omega)
  rw [e1,Nat.sub_self,List.drop_zero,List.nil_append] at R
  refine ⟨rfl,⟨U,J,(by rw [← j.out];exact R),?_⟩,?_⟩
  ·rw [← j.out];have q:=A7.out;(try simp only [List.nil_append] at q);rw [q];exact H.out.row
  ·exact ⟨H.out.grown.os,H.out.grown.tape,H.out.grown.output,H.out.grown.size,H.out.grown.block⟩
theorem x3U (T B:List Nat) (g:Nat) (p:Option Addr) (len cap:Nat) (w:World) (hs:StateAt w g T)
  (hB:Bytes w p len cap B) (hn:B≠[]→∀a,p=some a→a.block≠g) (hl:(T++B).length<1152921504606846976):
  Calls Tryz.prog 246 #[.pointer (some ⟨g,0,none⟩),.slice p len cap] w fun e w'=>e= .returned (.tuple #[])∧StateAt w' g (T++B)∧w.grownBy w' (some g):=by
 obtain ⟨v,C,E,A⟩:=hs
 by_cases h0:T=[]
 ·exact y4Y T B g p len cap w h0 v C E A hB hn hl
 ·by_cases h1:T.length%64=0
  ·exact y4X T B g p len cap w h0 h1 v C E A hB hn hl
  ·by_cases h2:T.length%64+len<64
   ·exact y4Z T B g p len cap w _ rfl (by omega) h2 v C E A hB hn hl
   ·exact y4a T B g p len cap w _ (64 - T.length%64) rfl (by omega) (by omega) (by omega) v C E A hB hn hl
theorem U36':(match Tryz.prog.underlying 303 with | some (.struct _)=>true | _=>false)=true:=by kernel_rfl
theorem U36:∃fs,Tryz.prog.underlying 303=some (.struct fs):=by
 have h:=U36'
 split at h
 ·rename_i fs hfs;exact ⟨fs,hfs⟩
 ·cases h
def zero8:Sm.V8:=⟨0,0,0,0,0,0,0,0⟩
theorem Z36:(Tryz.prog.info? 303).map (fun i=>(i.zero,i.size))=some (some (.agg (stL zero8 (zeros 64) 0).toArray),73):=by kernel_rfl
theorem y14:Held [] zero8 (zeros 64):=
 ⟨fun x hx=>by simp at hx,⟨by decide,by decide,by decide,by decide,by decide,by decide,by decide,by decide⟩,by decide,fun h=>absurd rfl h,by simp [zeros],x1l 64,by simp⟩
theorem x9W {w:World} {g:Nat} (h:w.heap[g]? =some (.cells (stL zero8 (zeros 64) 0).toArray 303 (0,0))):StateAt w g []:=⟨_,_,y14,h⟩
theorem y4b (v:Sm.V8) (bl:List Nat) (L:Nat):((stL v bl L).toArray).all (·.oneCell')=true:=
 all_oneCell_toArray fun u hu=>by
  simp only [stL,List.mem_append,List.mem_singleton] at hu
  rcases hu with (hu | hu) | rfl
  ·exact x3w _ u hu
  ·exact x0I _ u hu
  ·rfl
theorem x4Z (v:Sm.V8) (bl:List Nat) (L:Nat) (h:bl.length=64):((stL v bl L).toArray).size=73:=by simp [x9V v bl L h]
theorem StateAt.later {w w':World} {g:Nat} {T:List Nat} (h:StateAt w g T) (hb:Below w.heap.size w w'):StateAt w' g T:=by
 obtain ⟨v,B,C,A⟩:=h
 exact ⟨v,B,C,(hb.block _ (yL A)).trans A⟩
theorem StateAt.lt {w:World} {g:Nat} {T:List Nat} (h:StateAt w g T):g<w.heap.size:=by
 obtain ⟨v,B,C,A⟩:=h
 exact (yL A)
theorem x6d (B:List Nat):(u8s (Sm.sum B)).size=32:=rfl
theorem x3x (v:Sm.V8):(u8s (Sm.bytesOf v)).size=32:=rfl
theorem y2h (T:List Nat) (g:Nat) (w:World) (hs:StateAt w g T) (hl:T.length<576460752303423488):
  Calls Tryz.prog 248 #[.pointer (some ⟨g,0,none⟩)] w fun e w'=>e= .returned (.agg (u8s (Sm.sum T)))∧Below w.heap.size w w':=by
 have o:=hs.lt
 obtain ⟨v,L,j,hg⟩:=hs
 obtain ⟨fs,hu⟩:=U36
 have hz:=(zero_of_info Z25).1
 have A5:=(zero_of_info Z36).1
 have H:(w.alloc (.cells (u8s (zeros 32)) 30)).heap[g]? =_:=(Below.heap_alloc w _ _ o).trans hg
 have d:((w.alloc (.cells (u8s (zeros 32)) 30)).alloc (.cells (stL v L T.length).toArray 303)).heap[g]? =_:=(Below.heap_alloc _ _ _ (by simp;omega)).trans H
 have x:((w.alloc (.cells (u8s (zeros 32)) 30)).alloc (.cells (stL v L T.length).toArray 303)).cell? ⟨g,72,none⟩=some (.int .u64 (T.length:Nat)):=x5w d j.size
 have i:StateAt ((w.alloc (.cells (u8s (zeros 32)) 30)).alloc (.cells (stL v L T.length).toArray 303)) (w.heap.size+1) T:=⟨v,L,j,heap_alloc2_new _ _ _⟩
 have h:Below w.heap.size w ((w.alloc (.cells (u8s (zeros 32)) 30)).alloc (.cells (stL v L T.length).toArray 303)):=((Below.refl _ _).alloc (Nat.le_refl _) _).alloc (by simp) _
 have R:((w.alloc (.cells (u8s (zeros 32)) 30)).alloc (.cells (stL v L T.length).toArray 303)).heap[w.heap.size]? =some (.cells (u8s (zeros 32)) 30 (0,0)):=heap_alloc2_old _ _ _
 have q:=yH H
 have A2:=yH i
 have X:=yH h
 have M:=yH R
 have HU:=yH hu
 have J:=yH j.size
 clear hu H d j hg i h R
 go_enter Tryz.func248,Tryz.ntmps248
 go_wp2_with (first | (refine wpList_load_row (by rfl) 303 _ (by rfl) g (by rfl) 303 _ (0,0) _ q.out HU.out (by rfl) (by rw [x4Z _ _ _ J.out];exact A36) ?_) | (refine wpList_store_row (by rfl) 303 _ _ (by rfl) (w.heap.size+1) _ (by rfl) (by rfl) _ _ (by exact heap_alloc2_new _ _ _) (by rw [x4Z _ _ _ J.out];exact A36) (by rw [x4Z _ _ _ J.out,x4Z _ _ _ (by simp [zeros])]) (y4b _ _ _) ?_;rw [x6D]))
 refine (x81 T.length (by omega) _).mono ?_
 rintro _ w3 ⟨y,r,rfl,I,C⟩
 rw [show ((w.alloc (.cells (u8s (zeros 32)) 30)).alloc (.cells (stL v L T.length).toArray 303)).heap.size=w.heap.size+2 from by simp] at I ⊢
 have p:(T++Sm.fill T.length).length<1152921504606846976:=by simp [Sm.fill,Sm.bigs];omega
 have W:=A2.out.later C
 have U:=X.out.trans (C.mono X.out.size)
 have O:=(C.block _ (yL M.out)).trans M.out
 have n:=yH W
 have B:=yH U
 have E:=yH O
 have A0:=yH I
 clear W U O C I x
 go_wp2_with fail
 refine (x3U T (Sm.fill T.length) (w.heap.size+1) (some ⟨w.heap.size+2,0,none⟩) y r w3 n.out A0.out (fun _ a ha=>by cases ha;show w.heap.size+2≠w.heap.size+1;omega) p).mono ?_
 rintro _ m ⟨rfl,⟨l,A8,G,Q⟩,A⟩
 have b:T++Sm.fill T.length≠[]:=by simp [Sm.fill]
 have f:w.heap.size<m.heap.size:=Nat.lt_of_lt_of_le (yL E.out) A.size
 have N:m.heap[w.heap.size]? =_:=(A.block _ (yL E.out) (by simp)).trans E.out
 have Y:Below w.heap.size w m:=⟨A.os.trans B.out.os,A.tape.trans B.out.tape,A.output.trans B.out.output,Nat.le_trans B.out.size A.size,fun k hk=>(A.block k (Nat.lt_of_lt_of_le hk B.out.size) (by simp;omega)).trans (B.out.block k hk)⟩
 have t:=yH G.vok
 have A1:=yH (G.words b)
 have s:=yH Q
 have u:=yH N
 have P:=yH Y
 clear G Q N Y A b
 go_wp2_with (refine wpList_load_mid (by rfl) 300 _ (by rfl) (w.heap.size+1) 0 (by rfl) (w32 l.list) _ (x8q s.out) A32 (by rfl) (by exact S32) ?_)
 refine (x80 l t.out m).mono ?_
 rintro _ w5 ⟨rfl,K⟩
 have Z:=(K.block _ f).trans u.out
 have c:=yH Z
 have z:=yH (P.out.trans (K.mono P.out.size))
 clear Z K
 go_wp2_with (refine wpList_store_row (by rfl) 30 _ _ (by rfl) w.heap.size (u8s (Sm.bytesOf l)) (by rfl) (by rfl) _ _ c.out (by rw [x3x];exact S25) (by rw [x3x];simp [u8s,zeros]) (x0b _) ?_)
 refine x0h 2 (by kernel_rfl) w.heap.size _ _ A25 S25 rfl (setRow_heap _ _ _ _ _ _ c.out) (x3x l) ⟨?_,Below.setRow z.out (Nat.le_refl _) _⟩
 rw [A1.out]
 rfl
def y4c (w:World) (tag len:Nat) (L:List (List Nat)) (i:Value) (wr:World):Prop:=
 ∃k:Nat,k≤len∧i= .int .i64 k∧StateAt wr (w.heap.size+1) (pre tag (L.take k))∧wr.heap[w.heap.size]? =some (.cells (u8s (zeros 32)) 30 (0,0))∧Below w.heap.size w wr
theorem y2i (tag:Nat) (htag:tag<256) (L:List (List Nat)) (p:Option Addr) (len cap:Nat) (w:World) (hL:Texts w p len cap L) (hl:tot L<1099511627776):
  Calls Tryz.prog 207 #[.int .u8 tag,.slice p len cap] w fun e w'=>e= .returned (.agg (u8s (Sm.sum (pre tag L))))∧Below w.heap.size w w':=by
 have r:=hL.size
 have AP:=hL.le
 have AE:len<1099511627776:=by have:=x5k L;omega
 have hz:=(zero_of_info Z25).1
 have AJ:=(zero_of_info Z36).1
 have AR:=(zero_of_info Z59).1
 have HL:=yH hL
 have E:=yH r
 clear hL r
 have f:Below w.heap.size w ((w.alloc (.cells (u8s (zeros 32)) 30)).alloc (.cells (stL zero8 (zeros 64) 0).toArray 303)):=((Below.refl _ _).alloc (Nat.le_refl _) _).alloc (by simp) _
 have h:StateAt ((w.alloc (.cells (u8s (zeros 32)) 30)).alloc (.cells (stL zero8 (zeros 64) 0).toArray 303)) (w.heap.size+1) []:=x9W (heap_alloc2_new _ _ _)
 have l:((w.alloc (.cells (u8s (zeros 32)) 30)).alloc (.cells (stL zero8 (zeros 64) 0).toArray 303)).heap[w.heap.size]? =some (.cells (u8s (zeros 32)) 30 (0,0)):=heap_alloc2_old _ _ _
 have I:=yH f
 have O:=yH h
 have P:=yH l
 clear f h l
 go_enter Tryz.func207,Tryz.ntmps207
 go_wp2_with fail
 generalize hWW:(w.alloc (.cells (u8s (zeros 32)) 30)).alloc (.cells (stL zero8 (zeros 64) 0).toArray 303)=WW
 have K:WW.heap.size=w.heap.size+1+1:=by subst hWW;simp
 rw [hWW] at I O P
 have G:StateAt (WW.alloc (.cells #[.int .u8 tag] 5)) (w.heap.size+1) []:=O.out.later ((Below.refl _ _).alloc (Nat.le_refl _) _)
 have A:Bytes (WW.alloc (.cells #[.int .u8 tag] 5)) (some ⟨w.heap.size+1+1,0,none⟩) 1 1 [tag]:=by
  rw [← K]
  exact Bytes.row (L:=[tag]) (heap_alloc_new WW _) (by intro x t;simp at t;omega)
 have C:Below w.heap.size w (WW.alloc (.cells #[.int .u8 tag] 5)):=I.out.alloc I.out.size _
 have B:(WW.alloc (.cells #[.int .u8 tag] 5)).heap[w.heap.size]? =some (.cells (u8s (zeros 32)) 30 (0,0)):=(Below.heap_alloc _ _ _ (by omega)).trans P.out
 refine (x3U [] [tag] (w.heap.size+1) _ 1 1 _ G A (fun _ a ha=>by cases ha;show w.heap.size+1+1≠w.heap.size+1;omega) (by simp)).mono ?_
 rintro _ w4 ⟨rfl,Y,Q⟩
 have HB4:=yH (x2t C Q (by omega))
 have HR4:=yH ((Q.block _ (yL B) (by simp)).trans B)
 have HS4:=yH Y
 clear G A C B Y Q hWW K I O P
 go_wp2_with fail
 go_loopw [14] (fun i wr=>y4c w tag len L i wr) (fun i _=>len - (intOf i).toNat)
 case atStart=>exact ⟨0,by omega,rfl,HS4.out,HR4.out,HB4.out⟩
 case round=>
  obtain ⟨k,hk,rfl,hs,hr,hb⟩:=hrel
  have v:=yH hs
  have HR:=yH hr
  have X:=yH hb
  clear hs hr hb HB4 HR4 HS4
  by_cases hlt:k<len
  ·obtain ⟨g,o,hp,t⟩:=HL.out.at' (by intro e;have:=E.out;rw [e] at this;simp at this;omega)
   obtain ⟨q,n,c,h1,u⟩:=t k (by have:=E.out;omega)
   subst hp
   have e1:=x8W L k (by have:=E.out;omega)
   have e2:=x4u L (k+1)
   have e3:n=(L.getD k []).length:=u.size
   have Z:∀a,q=some a→L.getD k []≠[]→a.block<w.heap.size:=fun a ha hn=>by
    subst ha
    have:=u.cells 0 _ (x1S _ 0 (List.length_pos_iff.2 hn))
    exact block_lt_of_cell this
   have z:wr.cell? ⟨g,o+k,none⟩=some (.slice q n c):=(X.out.cell (p:=⟨g,o+k,none⟩) (block_lt_of_cell h1)).trans h1
   have HT:=yH u
   have A0:=yH Z
   have HE:=yH (show tot (L.take k)+(8+n)<1099511627776 from by omega)
   have b:=yH e3
   have hn:n<1099511627776:=by omega
   clear t h1 u Z e1 e2 e3
   go_wp2_with fail
   refine (x5v n (by omega) _).mono ?_
   rintro _ N ⟨rfl,A⟩
   have G:StateAt (N.alloc (.cells (u8s (Sm.bigs n)) 305)) (w.heap.size+1) (pre tag (L.take k)):=(v.out.later A).later ((Below.refl _ _).alloc (Nat.le_refl _) _)
   have C:Below w.heap.size w (N.alloc (.cells (u8s (Sm.bigs n)) 305)):=(X.out.trans (A.mono X.out.size)).alloc (Nat.le_trans X.out.size A.size) _
   have M:=(A.block _ (yL HR.out)).trans HR.out
   have B:(N.alloc (.cells (u8s (Sm.bigs n)) 305)).heap[w.heap.size]? =some (.cells (u8s (zeros 32)) 30 (0,0)):=(Below.heap_alloc _ _ _ (yL M)).trans M
   have d:w.heap.size+1<N.heap.size:=Nat.lt_of_lt_of_le v.out.lt A.size
   have y:=yH G
   have AA:=yH C
   have j:=yH B
   have A5:=yH d
   have A3:=yH (Bytes.row (L:=Sm.bigs n) (heap_alloc_new N (.cells (u8s (Sm.bigs n)) 305)) (x8X n))
   clear G C B M d A
   go_wp2_with (refine wpList_store_row (by rfl) 305 _ _ (by rfl) N.heap.size (u8s (Sm.bigs n)) (by rfl) (by rfl) _ _ (heap_alloc_new _ _) (by exact S59) (by simp [u8s,zeros];rfl) (x0b _) ?_;rw [x04])
   refine (x3U (pre tag (L.take k)) (Sm.bigs n) (w.heap.size+1) _ 8 8 _ y.out A3.out (fun _ a ha=>by cases ha;have:=A5.out;show N.heap.size≠w.heap.size+1;omega) (by have:=HE.out;simp only [List.length_append,x3r,Sm.bigs,List.length_cons,List.length_nil];omega)).mono ?_
   rintro _ w5 ⟨rfl,s,R⟩
   have J:=yH (x2t AA.out R (by omega))
   have H:=yH ((R.block _ (yL j.out) (by simp)).trans j.out)
   have A8:=yH s
   clear s R
   go_wp2_with fail
   refine (x3U (pre tag (L.take k)++Sm.bigs n) (L.getD k []) (w.heap.size+1) q n c _ A8.out (HT.out.later J.out).bytes (fun hne a ha=>by have:=A0.out a ha hne;omega) (by have:=HE.out;have:=b.out;simp only [List.length_append,x3r,Sm.bigs,List.length_cons,List.length_nil];omega)).mono ?_
   rintro _ w6 ⟨rfl,m,W⟩
   have A4:=yH (x2t J.out W (by omega))
   have A2:=yH ((W.block _ (yL H.out) (by simp)).trans H.out)
   have A1:=yH m
   clear m W
   go_wp2_with fail
   go_roundw
   case rel=>
    refine ⟨k+1,by omega,by go_num,?_,A2.out,A4.out⟩
    have e:=A1.out
    rw [x4V tag L k (by have:=E.out;omega),tpart,← b.out,← List.append_assoc]
    exact e
   case measure=>simp [intOf];omega
  ·obtain rfl:k=len:=by omega
   have hT:pre tag (L.take k)=pre tag L:=by rw [List.take_of_length_le (by have:=E.out;omega)]
   rw [hT] at v
   clear hT
   go_wp2_with fail
   refine (y2h (pre tag L) _ _ v.out (by rw [x3r];omega)).mono ?_
   rintro _ w5 ⟨rfl,U⟩
   have H:=yH (yK U HR.out)
   have J:=yH (X.out.trans (U.mono X.out.size))
   clear U
   go_wp2_with (refine wpList_store_row (by rfl) 30 _ _ (by rfl) w.heap.size (u8s (Sm.sum (pre tag L))) (by rfl) (by rfl) _ _ H.out (by rw [x6d];exact S25) (by rw [x6d];simp [u8s,zeros]) (x0b _) ?_)
   exact x0h 4 (by kernel_rfl) w.heap.size _ _ A25 S25 rfl (setRow_heap _ _ _ _ _ _ H.out) (x6d _) ⟨rfl,Below.setRow J.out (Nat.le_refl _) _⟩
end Go.Proofs.YtinihaflmdihaaaGreat
namespace Go.Proofs.YtinihaflmdihaaaGreat.Pg
open Go.RowKit
theorem x8r (b:List Nat) (p:Option Addr) (n c:Nat) (w:World) (hT:Tx w p n c b) (hn:n≤100000):
  Calls Tryz.prog 151 #[.slice p n c] w fun e w'=>e= .returned (.agg (u8s (sumOf b)))∧Below w.heap.size w w':=by
 have O:=(zero_of_info Z25).1
 have B:=(Below.refl w.heap.size w).alloc (Nat.le_refl _) (.cells (u8s (zeros 32)) 30)
 have H:=(Below.refl (w.alloc (.cells (u8s (zeros 32)) 30)).heap.size (w.alloc (.cells (u8s (zeros 32)) 30))).alloc (Nat.le_refl _) (.cells #[.slice p n c] 45)
 have J:=yH (x8o (heap_alloc_new (w.alloc (.cells (u8s (zeros 32)) 30)) (.cells #[.slice p n c] 45)) ((hT.later B).later H))
 have B1:=yH (B.trans (H.mono B.size))
 have K:=yH ((heap_alloc_old (w.alloc (.cells (u8s (zeros 32)) 30)) (.cells #[.slice p n c] 45) (Array.getElem?_eq_some_iff.1 (heap_alloc_new w (.cells (u8s (zeros 32)) 30))).1).trans (heap_alloc_new w (.cells (u8s (zeros 32)) 30)))
 have M:=yH hT.size
 clear hT H B
 go_enter Tryz.func151,Tryz.ntmps151
 go_wp2_with fail
 rw [show (w.alloc (.cells (u8s (zeros 32)) 30)).heap.size=w.heap.size+1 from by simp] at J
 generalize (w.alloc (.cells (u8s (zeros 32)) 30)).alloc (.cells #[.slice p n c] 45)=w1 at *
 refine (y2i 80 (by omega) [b] _ 1 1 w1 J.out (by have:=M.out;rw [y11];omega)).mono ?_
 rintro e N ⟨rfl,E⟩
 have L:=yH (B1.out.trans (E.mono B1.out.size))
 have I:=yH (yK E K.out)
 obtain ⟨D,C⟩:∃D,D=sumOf b:=⟨_,rfl⟩
 rw [show Sm.sum (pre 80 [b])=D from C.symm]
 have A:=yH (show D.length=32 from by rw [C];rfl)
 have G:=yH C
 clear E C
 go_wp2_with (refine wpList_store_row (by rfl) 30 _ _ (by rfl) w.heap.size (u8s D) (by rfl) (by rfl) _ _ I.out (by rw [x08,A.out];exact S25) (by rw [x08,x08,A.out];rfl) (x0b _) ?_)
 exact x0h 2 (by kernel_rfl) w.heap.size _ _ A25 S25 rfl (setRow_heap _ _ _ _ _ _ I.out) (by rw [x08];exact A.out) ⟨by rw [G.out],Below.setRow L.out (Nat.le_refl _) _⟩
theorem x5y {a b:List Nat} {p q:Option Addr} {n c m d:Nat} {w:World} (ha:Tx w p n c a) (hb:Tx w q m d b):
  Calls Tryz.prog 250 #[.slice p n c,.slice q m d] w fun e w'=>e= .returned (.bool (decide (a=b)))∧w=w':=by
 have C:=x5b ha
 have B:=x5b hb
 have A:=yH (y59 ha.ok hb.ok)
 rw [← A.out]
 clear ha hb
 go_enter Tryz.func250,Tryz.ntmps250
 go_wp2_with fail
 go_ret
 exact ⟨rfl,rfl⟩
end Go.Proofs.YtinihaflmdihaaaGreat.Pg
