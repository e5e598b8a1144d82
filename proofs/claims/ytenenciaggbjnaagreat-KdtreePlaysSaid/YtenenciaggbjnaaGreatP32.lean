/- CodRefN, CodRefRow, NdBytes, ShaRefPre. -/
import Derived.Laws.AppendOwn
import Derived.Test.YtenenciaggbjnaaGreatP31
set_option maxRecDepth 100000
set_option maxHeartbeats 8000000
set_option linter.all false
namespace Go.Proofs.YtenenciaggbjnaaGreat
section
open Go.RowKit
def x6Q (w:World) (B:List Nat) (e:Ending) (w':World):Prop:=∃q c,e= .returned (.slice q B.length c)/\w'.ownsRow w.heap.size 5 1 (.slice q B.length c) B.length (vals B)/\Below w.heap.size w w'
theorem x58 (n:Nat) (hn:n<9223372036854775808) (w:World):
  Calls Tryz.prog 200 #[.int .i64 n] w (x6Q w (Cm.be n 3)):=by
 have E:(0:Int)<=n:=by omega
 go_enter Tryz.func200,Tryz.ntmps200
 go_wp2_with fail
 go_ret;rw [be3];have A:(n:Int)/65536%256=((n/65536%256:Nat):Int):=by omega
 have B:(n:Int)/256%256=((n/256%256:Nat):Int):=by omega
 have C:(n:Int)%256=((n%256:Nat):Int):=by omega
 rw [A,B,C];exact ⟨some ⟨w.heap.size,0,none⟩,3,rfl,x23 (L:=[n/65536%256,n/256%256,n%256]) (jE w _) rfl (jB _) (by unfold maxLen;decide) (jB _),jA _ _⟩
theorem make8 (w:World):(Instr.makeSlice 45 (.int .i64 8) (.int .i64 8)).run Tryz.prog w= .ok (.slice (some ⟨w.heap.size,0,none⟩) 8 8) (w.alloc (.cells (u8s (zeros 8)) 5)):=by kernel_rfl
def y5f (w:World) (g z:Nat) (u i:Value) (wr:World):Prop:=
 ∃j:Nat,j<=8/\i= .int .i64 ((j:Int) - 1)/\u= .int .u64 (z/256^(8 - j):Nat)/\wr.heap[g]? =some (.cells (u8s (zeros j++(Cm.be z 8).drop j)) 5 (0,0))/\Below w.heap.size w wr
theorem y1g (n:Int) (h1: -9223372036854775808<=n) (h2:n<=9223372036854775807) (w:World):
  Calls Tryz.prog 260 #[.int .i64 n] w (x6Q w (Cm.num n)):=by
 have L:=y5s h1 h2;have H:=(Cm.z64_lt h1 h2).1;have M:=yH L;have X:=fun w=>make8 w;clear L
 go_enter Tryz.func260,Tryz.ntmps260
 go_wp2_with fail
 rw [M.out];have B:y5f w w.heap.size (Cm.z64 n) (.int .u64 (Cm.z64 n:Nat)) (.int .i64 7) (w.alloc (.cells (u8s (zeros 8)) 5)):=
  ⟨8,by omega,rfl,by simp,by rw [List.drop_eq_nil_of_le (by rw [Cm.be_length];exact jB _),kW];exact jE w _,jA _ _⟩
 have A:Cm.num n=Cm.be (Cm.z64 n) 8:=rfl;have C:=yH A;clear A;generalize Cm.z64 n=z at *;have HST:=yH B;clear B X M;go_loopw [3,5] (fun u i wr=>y5f w w.heap.size z u i wr) (fun _ i _=>(intOf i+1).toNat)
 case atStart=>exact HST.out
 case round=>
  obtain ⟨j,a,rfl,rfl,E,J⟩:=hrel;have G:=yH E;have N:=yH J;clear E J HST;by_cases h0:j=0
  ·subst h0;go_wp2_with fail
   go_ret;have E:=G.out;rw [show zeros 0++(Cm.be z 8).drop 0=Cm.be z 8 from rfl] at E;have P:=x23 (base:=w.heap.size) (n:=8) E (Cm.be_length z 8) (jB _) (by unfold maxLen;decide) (jB _);rw [kQ (by rw [Cm.be_length];exact jB _)] at P;rw [C.out];refine ⟨some ⟨w.heap.size,0,none⟩,8,by rw [Cm.be_length];rfl,?_,N.out⟩;rw [Cm.be_length];exact P
  ·obtain ⟨m,rfl⟩:∃m,j=m+1:=⟨j - 1,by omega⟩
   rw [show ((m+1:Nat):Int) - 1=(m:Int) from by omega];have R:z/256^(8 - (m+1))<18446744073709551616:=Nat.lt_of_le_of_lt (Nat.div_le_self _ _) H;have I:(Cm.be z 8).getD m 0=z/256^(8 - (m+1))%256:=by
    rw [Cm.be_get z 8 m (by omega),Cm.pow8];rw [show 8 - 1 - m=8 - (m+1) from by omega]
   have O:(Cm.be z 8).drop m=z/256^(8 - (m+1))%256::(Cm.be z 8).drop (m+1):=by
    rw [<- I,List.drop_eq_getElem_cons (by rw [Cm.be_length];omega),jG,jM (by rw [Cm.be_length];omega)];rfl
   have K:z/256^(8 - m)=z/256^(8 - (m+1))/256:=by
    rw [Nat.div_div_eq_div_mul,<- Nat.pow_succ]
    congr 2
    omega
   generalize z/256^(8 - (m+1))=U at *;have Y:=yH O;have Q:=yH K;clear I O K h0;have Z:(m:Int)<8:=by omega
   have B:wr.cell? ⟨w.heap.size,m,none⟩=some (.int .u8 ((zeros (m+1)++(Cm.be z 8).drop (m+1)).getD m 0:Nat)):=x2B G.out m (by simp [zeros];omega);have W:wr.frozen? ⟨w.heap.size,m,none⟩=false:=jS wr _ m _ _ G;go_wp2_with fail
   go_roundw
   case rel=>
    refine ⟨m,by omega,rfl,?_,?_,N.setCell (jB _) _⟩
    ·rw [Q.out];exact congrArg (Value.int .u64) (by omega)
    ·rw [show (U:Int)%256=((U%256:Nat):Int) from by omega,jU _ _ _ _ _ _ G,Y.out];have e:zeros (m+1)++(Cm.be z 8).drop (m+1)=zeros m++0::(Cm.be z 8).drop (m+1):=by
      have:zeros (m+1)=zeros m++[0]:=by simp [zeros,List.replicate_succ']
      rw [this,jR];rfl
     rw [e,x7H (zeros m) _ 0 _ m (by simp [zeros])]
   case measure=>simp [intOf]
def y5g (w:World) (R:List Int) (v i:Value) (wr:World):Prop:=
 ∃k:Nat,k<=R.length/\i= .int .i64 k/\wr.ownsRow w.heap.size 5 1 v (1+8*k) (vals (R.length%256::nums (R.take k)))/\Below w.heap.size w wr
theorem x3V (R:List Int) (p:Option Addr) (n c:Nat) (w:World) (hR:Ints w p n c R) (hn:n<1000000):
  Calls Tryz.prog 199 #[.slice p n c] w (x6Q w (R.length%256::nums R)):=by
 have HR:=yH hR;have K:=yH hR.size;have a:=yH hR.le;obtain ⟨i5,W,P,O,Q⟩:=info_parts I5;have HI:=yH W;have g:=yH P;have j:=yH O;have h:=yH Q;have hw:IntKind.u8.wrap (n:Int)=((n%256:Nat):Int):=by rw [IntKind.wrap_u8];omega
 clear W P O Q hR
 go_enter Tryz.func199,Tryz.ntmps199
 go_wp2_with fail
 have M:y5g w R (.slice (some ⟨w.heap.size,0,none⟩) 1 1) (.int .i64 0) (w.alloc (.cells #[.int .u8 ((n:Int)%256)] 5)):=by
  rw [show (n:Int)%256=((n%256:Nat):Int) from by omega];exact ⟨0,by omega,rfl,by rw [<- K.out];exact x23 (L:=[n%256]) (jE w _) rfl (jB _) (by unfold maxLen;omega) (jB _),jA _ _⟩
 have HST:=yH M;clear M hw;go_loopw [3,4] (fun v i wr=>y5g w R v i wr) (fun _ i _=>n - (intOf i).toNat)
 case atStart=>exact HST.out
 case round=>
  obtain ⟨k,hk,rfl,A,s⟩:=hrel;rw [<- K.out] at hk;have y:=yH A;have U:=yH s;clear A s HST;by_cases hlt:k<n
  ·have B:k<R.length:=by rw [<- K.out];exact hlt
   have X:=HR.get k hlt;rcases HR.at' with h0 | ⟨z,o,b,hc⟩
   ·rw [h0] at B;exact absurd B (by simp)
   ·subst b;have E:=hc k B;have G:wr.cell? ⟨z,o+k,none⟩=some (.int .i64 (R.getD k 0)):=(U.cell (p:=⟨z,o+k,none⟩) (jI E)).trans E;obtain ⟨x,H⟩:∃x,x=R.getD k 0:=⟨_,rfl⟩
    rw [<- H] at G X;have Y:=yH H;have r:=yH X;clear hc E H X;have A7:=a.out;go_wp2_with fail
    refine (y1g x r.1 r.2 wr).mono ?_;rintro e w3 b;obtain ⟨q3,u,rfl,I,l⟩:=b;rw [Cm.num_length] at I ⊢;obtain ⟨t,N⟩:=y3y I (by omega);rw [N] at I ⊢;have H3:=yH I;have T3:=yH (show Tx w3 (some t) 8 u (Cm.num x) from x0K I (Cm.num_ok x));have J:=yH (x4J y l);have C:=yH (U.trans (l.mono U.size));clear I l N;go_wp2_with (at_builtin;refine wpList_append_own _ (by rfl) (.tmp 15) (.tmp 20) 45 (by rfl) w.heap.size 5 i5 (.int .u8 0) 1 1 A22 HI g j h (by rfl) (by decide) _ (1+8*k) _ (by rfl) J t 8 u (vals (Cm.num x)) (by rfl) (by rw [x00,Nat.mul_one,Cm.num_length]) (T3.cells) (x0L _) (by unfold maxLen;omega) (by omega) C.size ?_;intro v4 w4 hown4 hgrow4 _;have Z:=yH hown4;have f:=yH (C.grown hgrow4 C.size (fun i W=>(J.lt i W).1));clear hown4 hgrow4)
    go_wp2_with fail
    go_roundw
    case rel=>
     refine ⟨k+1,by omega,by go_num,?_,f.out⟩;have A:=Z.out;rw [<- x0w,Y.out,List.cons_append,<- x8J R k B,show 1+8*k+8=1+8*(k+1) from by omega] at A;exact A
    case measure=>simp [intOf];omega
  ·obtain rfl:k=n:=by omega
   go_wp2_with fail
   go_ret;have A:=y.out;rw [kQ (by have:=K.out;omega)] at A;obtain ⟨q,d,rfl⟩:=x1v A;have e:1+8*k=(R.length%256::nums R).length:=by rw [kI,x3g,K.out];omega
   rw [e] at A;exact ⟨q,d,congrArg (fun m=>Ending.returned (.slice q m d)) e,A,U.out⟩
theorem x8y (x:Bool) (w:World):
  Calls Tryz.prog 198 #[.bool x] w (x6Q w [if x then 1 else 0]):=by
 cases x
 ·go_enter Tryz.func198,Tryz.ntmps198
  go_wp2_with fail
  go_ret;exact ⟨_,1,rfl,x23 (L:=[0]) (jE w _) rfl (jB _) (by unfold maxLen;omega) (jB _),jA _ _⟩
 ·go_enter Tryz.func198,Tryz.ntmps198
  go_wp2_with fail
  go_ret;exact ⟨_,1,rfl,x23 (L:=[1]) (jE w _) rfl (jB _) (by unfold maxLen;omega) (jB _),jA _ _⟩
end
namespace Nd
open Go.RowKit Wl
def By2 (w1:World) (K:List Kd) (H:List Nat) (v i:Value) (wr:World):Prop:=∃k N:Nat,k<=K.length/\i= .int .i64 k/\N<=20103+1241*k/\Out w1 wr v N (H++(K.take k).flatMap fun e=>e.pk.bytes)
def By1 (w1:World) (E:List En) (H:List Nat) (v i:Value) (wr:World):Prop:=∃k N:Nat,k<=E.length/\i= .int .i64 k/\N<=2+402*k/\Out w1 wr v N (H++(E.take k).flatMap fun e=>e.pe.bytes)
theorem y1h (kind:Nat) (hkd:kind<256) (p:Option Addr) (n c:Nat) (q:Option Addr) (m f:Nat) (E:List En) (K:List Kd) (w:World) (hE:EntsIn w p n c E) (hK:KidsIn w q m f K) (hF:Few E K) (hL:∀k∈K,0<=k.live/\0<=k.size):
  Calls Tryz.prog 139 #[.agg #[.int .u8 kind,.slice p n c,.slice q m f]] w (x6Q w (pnOf kind E K).bytes):=by
 obtain ⟨i5,hi,As,Af,At⟩:=info_parts I5;have HI:=yH hi;have Y:=yH As;have a:=yH Af;have Z:=yH At;clear hi As Af At;have AC:=jA w (.cells #[.int .u8 kind,.slice p n c,.slice q m f] 97);have hn:=NodeAt.start w kind p n c q m f;have Bm:n<=50:=by rw [hE.size];exact hF.rows
 have Bf:m<=50:=by rw [hK.size];exact hF.kids
 have A3:=yH hE.size;have HE:=yH (hE.later AC);have HK:=yH (hK.later AC);have HB:=yH AC;have HN:=yH hn;have HF:=yH hF;have HL:=yH hL;clear hE hK AC hn hF hL;have A5:=yH HK.out.size;obtain ⟨du,Ap,Ad⟩:=UKd;have HD:=yH Ap;have BB:=yH Ad;have HZ:=yH (zero_of_info kz);clear Ap Ad;have e8:IntKind.u8.wrap (n:Int)=(n:Nat):=by rw [IntKind.wrap_u8];omega
 have e9:IntKind.u8.wrap (m:Int)=(m:Nat):=by rw [IntKind.wrap_u8];omega
 go_enter Tryz.func139,Tryz.ntmps139
 go_upto_region 1 with fail
 generalize w.alloc (.cells #[.int .u8 kind,.slice p n c,.slice q m f] 97)=w1 at *;obtain ⟨t0,t1,t2⟩:=HN.out.cells;have HO0:=yH (show Out w1 (w1.alloc (.cells #[.int .u8 kind,.int .u8 n] 5)) (.slice (some ⟨w1.heap.size,0,Option.none⟩) 2 2) 2 [kind,n] from ⟨rfl,x23 (L:=[kind,n]) (jE w1 _) rfl (jB _) (by unfold maxLen;omega) (jB _),(fun x hx=>by simp at hx;omega),jA _ _⟩);go_upto_region 3 with fail
 generalize w1.alloc (.cells #[.int .u8 kind,.int .u8 n] 5)=w2 at *;clear t0 t1 t2;go_loopw [3,4] (fun v i wr=>By1 w1 E [kind,n] v i wr) (fun _ i _=>n - (intOf i).toNat)
 case atStart=>exact ⟨0,2,by omega,rfl,by omega,by simpa using HO0.out⟩
 case round=>
  obtain ⟨k,N,hk,rfl,hN,y⟩:=hrel;have HO:=yH y;clear y HO0;obtain ⟨t0,t1,t2⟩:=(HN.out.later HO.out.low).cells;obtain ⟨qv,cv,rfl⟩:=HO.out.form;by_cases hlt:k<n
  ·obtain ⟨g,o,rfl,c1,c2,J⟩:=HE.out.get k hlt;have i1:(0:Int)<=k/\(k:Int)<n:=by omega
   have r:k<E.length:=by rw [<- A3.out];exact hlt
   have HS:=yH (x3t (fun e:En=>e.pe.bytes) E k r);have BG:=HF.out.row _ (getD_mem E k r);have Ae:(E.getD k default).row.R.length<=50:=by rw [<- J.ints.size];exact BG
   have A1:=yH J;clear J;generalize E.getD k default=e at *;simp only [Rw.val] at c1;have e2:=(HO.out.low.cell (jI c2)).trans c2;go_upto_region 6 with (first
    | (go_at_call 198;refine (x8y e.live wr).mono ?_;rintro _ w4 ⟨q4,d4,rfl,o4,b4⟩;rw [show ([if e.live then 1 else 0]:List Nat).length=1 from rfl] at o4;rw [show ([if e.live then 1 else 0]:List Nat).length=1 from rfl];have A4:Sm.allB [if e.live then 1 else 0]:=(by intro x hx;simp at hx;subst hx;split<;>omega);have T4:=yH (x0K o4 A4);obtain ⟨a4,rfl⟩:=x3h T4.out (by simp);have AE:=yH (HO.out.later b4);have Ak:=yH A4;clear o4 b4 A4)
    | (at_builtin;refine wpList_append_own _ (by rfl) (.tmp 21) (.tmp 28) 45 (by rfl) w1.heap.size 5 i5 (.int .u8 0) 1 1 A22 HI.out Y.out a.out Z.out (by rfl) (by decide) _ N _ (by rfl) AE.out.own a4 1 d4 (vals [if e.live then 1 else 0]) (by rfl) (by rfl) T4.out.cells (x0L _) (by unfold maxLen;omega) (by omega) AE.out.low.size ?_;intro v5 w5 hown5 hgrow5 _;have HO5:=yH (AE.out.put Ak.out rfl hown5 hgrow5);clear hown5 hgrow5))
   clear t0 t1 t2 c2 e2 AE T4;obtain ⟨t0,t1,t2⟩:=(HN.out.later HO5.out.low).cells;have e1:=(HO5.out.low.cell (jI c1)).trans c1;have B5:=yH (A1.out.later HO5.out.low);obtain ⟨P,hP⟩:∃P,e.row.R.length%256::Go.Proofs.YtenenciaggbjnaaGreat.nums e.row.R=P:=⟨_,rfl⟩
   obtain ⟨ln,AR⟩:∃ln,P.length=ln:=⟨_,rfl⟩
   have Bz:ln<=401:=by rw [<- AR,<- hP];have:=x0Z e.row.R;have:=Ae;unfold rowBs at *;omega
   have HP:=yH hP;have AA:=yH AR;have Ac:=yH (show Sm.allB P from by rw [<- hP];exact x1F e.row.R);clear hP AR;go_wp2_with (first
    | (go_at_call 199;refine (x3V e.row.R _ _ _ w5 B5.out.ints (by omega)).mono ?_;rintro _ w6 ⟨q6,d6,rfl,Q,d⟩;rw [HP.out,AA.out] at Q;rw [HP.out,AA.out];have W:=yH (x0K Q Ac.out);obtain ⟨a6,rfl⟩:=x3h W.out (by rw [<- HP.out];simp);have AS:=yH (HO5.out.later d);clear Q d)
    | (at_builtin;refine wpList_append_own _ (by rfl) (.tmp 30) (.tmp 37) 45 (by rfl) w1.heap.size 5 i5 (.int .u8 0) 1 1 A22 HI.out Y.out a.out Z.out (by rfl) (by decide) _ (N+1) _ (by rfl) AS.out.own a6 ln d6 (vals P) (by rfl) (by rw [x00,AA.out,Nat.mul_one]) W.out.cells (x0L _) (by unfold maxLen;omega) (by omega) AS.out.low.size ?_;intro v7 w7 hown7 hgrow7 _;have BK:=yH (AS.out.put Ac.out AA.out hown7 hgrow7);clear hown7 hgrow7))
   go_roundw
   case rel=>
    refine ⟨k+1,N+1+ln,by rw [<- A3.out];omega,by go_num,by omega,?_⟩;have h:=BK.out;rw [<- HP.out] at h;have e0:(([kind,n]++(E.take k).flatMap fun e=>e.pe.bytes)++[if e.live then 1 else 0])++(e.row.R.length%256::Go.Proofs.YtenenciaggbjnaaGreat.nums e.row.R)=[kind,n]++(E.take (k+1)).flatMap fun e=>e.pe.bytes:=by
     rw [HS.out];cases AG:e.live<;>simp [PE.bytes,En.pe,rowBs,AG]
    rw [e0] at h;exact h
   case measure=>simp [intOf];omega
  ·obtain rfl:n=k:=by have:=A3.out;omega
   have e0:E.take n=E:=kQ (by rw [<- A3.out];exact jB _);rw [e0] at HO;obtain ⟨HH,AU⟩:∃HH,([kind,n]++E.flatMap fun e=>e.pe.bytes)=HH:=⟨_,rfl⟩
   rw [AU] at HO;have BA:=yH AU;have Br:N<=20102:=by omega
   clear hN hk AU hlt;have N8:=yH (show ∀j u,(vals [m])[j]? =some u->(wr.alloc (.cells #[.int .u8 m] 5)).cell? ((⟨wr.heap.size,0,none⟩:Addr).add j)=some u from x0v (L:=[m]) (jE wr _));have AD:=yH (HO.out.later (show Below wr.heap.size wr (wr.alloc (.cells #[.int .u8 m] 5)) from jA _ _));go_upto_region 8 with (at_builtin;refine wpList_append_own _ (by rfl) (.tmp 39) (.tmp 44) 45 (by rfl) w1.heap.size 5 i5 (.int .u8 0) 1 1 A22 HI.out Y.out a.out Z.out (by rfl) (by decide) _ N _ (by rfl) AD.out.own ⟨wr.heap.size,0,none⟩ 1 1 (vals [m]) (by rfl) (by rfl) N8.out (x0L _) (by unfold maxLen;omega) (by omega) AD.out.low.size ?_;intro v5 w5 hown5 hgrow5 _;have HO5:=yH (AD.out.put (P:=[m]) (by intro x hx;simp at hx;omega) rfl hown5 hgrow5);clear hown5 hgrow5)
   clear t0 t1 t2 N8 AD;obtain ⟨t0,t1,t2⟩:=(HN.out.later HO5.out.low).cells;go_wp2_with fail
   go_loopw [3,5] (fun v i wr=>By2 w1 K (HH++[m]) v i wr) (fun _ i _=>m - (intOf i).toNat)
   case atStart=>exact ⟨0,N+1,by omega,rfl,by omega,by simpa using HO5.out⟩
   case round=>
    obtain ⟨z,N,hz,rfl,hN,y⟩:=hrel;have HO:=yH y;clear y HO5;obtain ⟨t0,t1,t2⟩:=(HN.out.later HO.out.low).cells;obtain ⟨qv,cv,rfl⟩:=HO.out.form;by_cases hlt:z<m
    ·obtain ⟨g,o,rfl,Al,J⟩:=HK.out.get z hlt;have i1:(0:Int)<=z/\(z:Int)<m:=by omega
     have r:z<K.length:=by rw [<- A5.out];exact hlt
     have HS:=yH (x3t (fun e:Kd=>e.pk.bytes) K z r);have l:=getD_mem K z r;have AN:=HF.out.lo _ l;have AM:=HF.out.hi _ l;have AL:=HF.out.key _ l;obtain ⟨B4,B3⟩:=HL.out _ l;clear l;generalize K.getD z default=kd at *;have BU:=J.lo.ints.size;have BD:=J.hi.ints.size;have Ba:=J.key.ints.size;have BZ:=yH (show kd.lo.R.length<=50 from by omega);have BP:=yH (show kd.hi.R.length<=50 from by omega);have BL:=yH (show kd.key.R.length<=50 from by omega);have Ai:=yH AN;have Ag:=yH AM;have Ab:=yH AL;have AW:=yH (Kd.cells_length J.len);have b:=yH J.len;have BN:=yH J.ok;have HR:=yH (x01 Al HO.out.low);have A1:=yH J;obtain ⟨lv,AG⟩:∃lv:Nat,kd.live=lv:=⟨kd.live.toNat,by omega⟩
     obtain ⟨sv,Av⟩:∃sv:Nat,kd.size=sv:=⟨kd.size.toNat,by omega⟩
     have Aj:=yH AG;have Ah:=yH Av;have B6:=yH (show lv<9223372036854775808 from by have:=J.live.2;omega);have BS:=yH (show sv<9223372036854775808 from by have:=J.size.2;omega);clear BU BD Ba AN AM AL Al J AG Av B4 B3;have B9:=HZ.out.1;go_upto_region 12 with (first
      | (refine jK (by rfl) 34 _ (by rfl) g (o+z*37) (by rfl) kd.cells du HR.out HD.out BB.out (by rw [AW.out];exact SKd) ?_)
      | (refine jL (by rfl) 34 (.tmp 6) (.tmp 57) (by rfl) wr.heap.size kd.cells.toArray (by rfl) (by rfl) _ _ (jE wr _) (by rw [jF,AW.out];exact SKd) (by simp only [jF,AW.out,x02]) (jN Kd.one) ?_;rw [x03]))
     have AQ:=BySt.start (kd:=kd) HO.out;obtain ⟨gx,Ax⟩:∃gx,gx=wr.heap.size:=⟨_,rfl⟩
     rw [<- Ax] at AQ ⊢;generalize wr.alloc (.cells kd.cells.toArray 34)=wk at *;have A6:=yH AQ;clear t0 t1 t2 AQ B9 Ax;obtain ⟨X,hX⟩:∃X,(HH++[m])++(K.take z).flatMap (fun e=>e.pk.bytes)=X:=⟨_,rfl⟩
     rw [hX] at A6;have HX:=yH hX;clear hX;have K0:=yH (x0N A6.out.row b.out);have BM:=fun w'=>x5h gx w';go_upto_region 13 with (at_builtin;refine wpList_append_own_at _ (by rfl) (.tmp 58) (.tmp 60) 45 (by rfl) w1.heap.size 5 i5 (.int .u8 0) 1 1 A22 HI.out Y.out a.out Z.out (by rfl) (by decide) _ N _ (by rfl) A6.out.out.own ⟨gx,0,none⟩ 32 32 (vals kd.sum) (by rfl) (by rw [x00,b.out]) (fun j u hu=>by have h9:=K0.out.sum j u hu;rw [Nat.zero_add] at h9;rw [Addr.add_mid,Nat.zero_add];exact h9) (x0L _) (by unfold maxLen;omega) (by omega) A6.out.out.low.size ?_;intro v11 w11 hown5 hgrow5 _ hat5;have Au:=yH (A6.out.put BN.out b.out hown5 hgrow5 hat5);clear hown5 hgrow5 hat5)
     clear BM K0;have s:=(x0N Au.out.row b.out).live;rw [Nat.zero_add,Aj.out] at s;have C:=Cm.be_length lv 3;obtain ⟨M,A⟩:∃M,Cm.be lv 3=M:=⟨_,rfl⟩
     have I:=yH (x58 lv B6.out w11);have H:=yH (Cm.be_ok lv 3);rw [A] at I H C;have AH:=yH A;have B:=yH C;clear A C;go_upto_region 14 with (first
      | (go_at_call 200;refine I.out.mono ?_;rintro _ w6 ⟨q6,d6,rfl,Q,d⟩;rw [B.out] at Q;rw [B.out];have W:=yH (x0K Q H.out);obtain ⟨a6,rfl⟩:=x3h W.out (fun e=>by have h8:=B.out;rw [e] at h8;simp at h8);have G:=yH (Au.out.later d);clear Q d)
      | (at_builtin;refine wpList_append_own_at _ (by rfl) (.tmp 62) (.tmp 65) 45 (by rfl) w1.heap.size 5 i5 (.int .u8 0) 1 1 A22 HI.out Y.out a.out Z.out (by rfl) (by decide) _ (N+32) _ (by rfl) G.out.out.own a6 3 d6 (vals M) (by rfl) (by rw [x00,B.out]) W.out.cells (x0L _) (by unfold maxLen;omega) (by omega) G.out.out.low.size ?_;intro v12 w12 hown5 hgrow5 _ hat5;have AY:=yH (G.out.put H.out B.out hown5 hgrow5 hat5);clear hown5 hgrow5 hat5))
     clear s W G I H B;rw [<- AH.out] at AY;clear AH;have s:=(x0N AY.out.row b.out).size;rw [Nat.zero_add,Ah.out] at s;have C:=Cm.be_length sv 3;obtain ⟨M,A⟩:∃M,Cm.be sv 3=M:=⟨_,rfl⟩
     have I:=yH (x58 sv BS.out w12);have H:=yH (Cm.be_ok sv 3);rw [A] at I H C;have AJ:=yH A;have B:=yH C;clear A C;go_upto_region 15 with (first
      | (go_at_call 200;refine I.out.mono ?_;rintro _ w6 ⟨q6,d6,rfl,Q,d⟩;rw [B.out] at Q;rw [B.out];have W:=yH (x0K Q H.out);obtain ⟨a6,rfl⟩:=x3h W.out (fun e=>by have h8:=B.out;rw [e] at h8;simp at h8);have G:=yH (AY.out.later d);clear Q d)
      | (at_builtin;refine wpList_append_own_at _ (by rfl) (.tmp 67) (.tmp 70) 45 (by rfl) w1.heap.size 5 i5 (.int .u8 0) 1 1 A22 HI.out Y.out a.out Z.out (by rfl) (by decide) _ (N+32+3) _ (by rfl) G.out.out.own a6 3 d6 (vals M) (by rfl) (by rw [x00,B.out]) W.out.cells (x0L _) (by unfold maxLen;omega) (by omega) G.out.out.low.size ?_;intro v13 w13 hown5 hgrow5 _ hat5;have A8:=yH (G.out.put H.out B.out hown5 hgrow5 hat5);clear hown5 hgrow5 hat5))
     clear s W G I H B;rw [<- AJ.out] at A8;clear AJ;have s:=(x0N A8.out.row b.out).lo;rw [Nat.zero_add] at s;simp only [Rw.val] at s;have t:=yH (A1.out.later A8.out.out.low);obtain ⟨M,A⟩:∃M,rowBs kd.lo.R=M:=⟨_,rfl⟩
     obtain ⟨la,U⟩:∃la,M.length=la:=⟨_,rfl⟩
     have Bi:la<=401:=by rw [<- U,<- A,x0Z];have:=BZ.out;omega
     have I:=yH (x3V kd.lo.R _ _ _ w13 t.out.lo.ints (by have:=Ai.out;omega));have H:=yH (x1F kd.lo.R);have C:M≠[]:=by rw [<- A];simp [rowBs]
     rw [show kd.lo.R.length%256::Go.Proofs.YtenenciaggbjnaaGreat.nums kd.lo.R=M from A] at I;rw [A] at H;have BV:=yH A;have B:=yH U;have O:=yH C;clear A U C;go_upto_region 16 with (first
      | (go_at_call 199;refine I.out.mono ?_;rintro _ w6 ⟨q6,d6,rfl,Q,d⟩;rw [B.out] at Q;rw [B.out];have W:=yH (x0K Q H.out);obtain ⟨a6,rfl⟩:=x3h W.out O.out;have G:=yH (A8.out.later d);clear Q d)
      | (at_builtin;refine wpList_append_own_at _ (by rfl) (.tmp 72) (.tmp 76) 45 (by rfl) w1.heap.size 5 i5 (.int .u8 0) 1 1 A22 HI.out Y.out a.out Z.out (by rfl) (by decide) _ (N+32+3+3) _ (by rfl) G.out.out.own a6 la d6 (vals M) (by rfl) (by rw [x00,B.out,Nat.mul_one]) W.out.cells (x0L _) (by unfold maxLen;omega) (by omega) G.out.out.low.size ?_;intro v14 w14 hown5 hgrow5 _ hat5;have AX:=yH (G.out.put H.out B.out hown5 hgrow5 hat5);clear hown5 hgrow5 hat5))
     clear s W G I H O t;have s:=(x0N AX.out.row b.out).hi;rw [Nat.zero_add] at s;simp only [Rw.val] at s;have t:=yH (A1.out.later AX.out.out.low);obtain ⟨M,A⟩:∃M,rowBs kd.hi.R=M:=⟨_,rfl⟩
     obtain ⟨lb,U⟩:∃lb,M.length=lb:=⟨_,rfl⟩
     have Bk:lb<=401:=by rw [<- U,<- A,x0Z];have:=BP.out;omega
     have I:=yH (x3V kd.hi.R _ _ _ w14 t.out.hi.ints (by have:=Ag.out;omega));have H:=yH (x1F kd.hi.R);have C:M≠[]:=by rw [<- A];simp [rowBs]
     rw [show kd.hi.R.length%256::Go.Proofs.YtenenciaggbjnaaGreat.nums kd.hi.R=M from A] at I;rw [A] at H;have BJ:=yH A;have B:=yH U;have O:=yH C;clear A U C;go_upto_region 17 with (first
      | (go_at_call 199;refine I.out.mono ?_;rintro _ w6 ⟨q6,d6,rfl,Q,d⟩;rw [B.out] at Q;rw [B.out];have W:=yH (x0K Q H.out);obtain ⟨a6,rfl⟩:=x3h W.out O.out;have G:=yH (AX.out.later d);clear Q d)
      | (at_builtin;refine wpList_append_own_at _ (by rfl) (.tmp 78) (.tmp 82) 45 (by rfl) w1.heap.size 5 i5 (.int .u8 0) 1 1 A22 HI.out Y.out a.out Z.out (by rfl) (by decide) _ (N+32+3+3+la) _ (by rfl) G.out.out.own a6 lb d6 (vals M) (by rfl) (by rw [x00,B.out,Nat.mul_one]) W.out.cells (x0L _) (by unfold maxLen;omega) (by omega) G.out.out.low.size ?_;intro v15 w15 hown5 hgrow5 _ hat5;have AT:=yH (G.out.put H.out B.out hown5 hgrow5 hat5);clear hown5 hgrow5 hat5))
     clear s W G I H O t;have s:=(x0N AT.out.row b.out).key;rw [Nat.zero_add] at s;simp only [Rw.val] at s;have t:=yH (A1.out.later AT.out.out.low);obtain ⟨M,A⟩:∃M,rowBs kd.key.R=M:=⟨_,rfl⟩
     obtain ⟨lc,U⟩:∃lc,M.length=lc:=⟨_,rfl⟩
     have Bh:lc<=401:=by rw [<- U,<- A,x0Z];have:=BL.out;omega
     have I:=yH (x3V kd.key.R _ _ _ w15 t.out.key.ints (by have:=Ab.out;omega));have H:=yH (x1F kd.key.R);have C:M≠[]:=by rw [<- A];simp [rowBs]
     rw [show kd.key.R.length%256::Go.Proofs.YtenenciaggbjnaaGreat.nums kd.key.R=M from A] at I;rw [A] at H;have BE:=yH A;have B:=yH U;have O:=yH C;clear A U C;go_wp2_with (first
      | (go_at_call 199;refine I.out.mono ?_;rintro _ w6 ⟨q6,d6,rfl,Q,d⟩;rw [B.out] at Q;rw [B.out];have W:=yH (x0K Q H.out);obtain ⟨a6,rfl⟩:=x3h W.out O.out;have G:=yH (AT.out.later d);clear Q d)
      | (at_builtin;refine wpList_append_own_at _ (by rfl) (.tmp 84) (.tmp 87) 45 (by rfl) w1.heap.size 5 i5 (.int .u8 0) 1 1 A22 HI.out Y.out a.out Z.out (by rfl) (by decide) _ (N+32+3+3+la+lb) _ (by rfl) G.out.out.own a6 lc d6 (vals M) (by rfl) (by rw [x00,B.out,Nat.mul_one]) W.out.cells (x0L _) (by unfold maxLen;omega) (by omega) G.out.out.low.size ?_;intro v16 w16 hown5 hgrow5 _ hat5;have BY:=yH (G.out.put H.out B.out hown5 hgrow5 hat5);clear hown5 hgrow5 hat5))
     clear s W G I H O t;go_roundw
     case rel=>
      refine ⟨z+1,N+32+3+3+la+lb+lc,by rw [<- A5.out];omega,by go_num,by omega,?_⟩;have h:=BY.out.out;rw [<- BV.out,<- BJ.out,<- BE.out,<- HX.out] at h;rw [HS.out];have e0:kd.pk.bytes=kd.sum++(Cm.be lv 3++(Cm.be sv 3++(rowBs kd.lo.R++(rowBs kd.hi.R++rowBs kd.key.R)))):=by
       show kd.sum++(Cm.be kd.live.toNat 3++(Cm.be kd.size.toNat 3++_))=_
       rw [Aj.out,Ah.out];rfl
      rw [e0];simp only [jR] at h ⊢;exact h
     case measure=>simp [intOf];omega
    ·obtain rfl:z=m:=by have:=A5.out;omega
     have e0:K.take z=K:=kQ (by rw [<- A5.out];exact jB _);rw [e0] at HO;go_wp2_with fail
     go_ret;have h:=HO.out;rw [<- BA.out] at h;have e1:([kind,n]++E.flatMap fun e=>e.pe.bytes)++[z]++K.flatMap (fun e=>e.pk.bytes)=(pnOf kind E K).bytes:=by
      have BT:=A3.out;have BI:=A5.out;unfold PN.bytes pnOf;simp only [kH,List.flatMap_map];rw [<- BT,<- BI,Nat.mod_eq_of_lt (show n<256 by omega),Nat.mod_eq_of_lt (show z<256 by omega)];simp
     rw [e1] at h;obtain ⟨q9,c9,e9⟩:=h.form;refine ⟨q9,c9,?_,?_,HB.out.trans (h.low.mono HB.out.size)⟩
     ·rw [<- h.len];exact congrArg Ending.returned e9
     ·have h8:=x8G h.own HB.out.size;rw [<- h.len,<- e9];exact h8
end Nd
section
open Go.RowKit
theorem y5h (n j:Nat) (hj:j<8):Sm.big n j=n/2^(56 - 8*j)%256:=by
 unfold Sm.big;rw [show 8*(7 - j)=56 - 8*j from by omega]
theorem x8z (n j:Nat) (hj:j<8):(Sm.bigs n).take (j+1)=(Sm.bigs n).take j++[Sm.big n j]:=by
 match j,hj with
 | 0,_=>rfl
 | 1,_=>rfl
 | 2,_=>rfl
 | 3,_=>rfl
 | 4,_=>rfl
 | 5,_=>rfl
 | 6,_=>rfl
 | 7,_=>rfl
def y3c (w:World) (s:Nat) (P:List Nat) (n:Nat) (v i:Value) (wr:World):Prop:=
 ∃j:Nat,j<=8/\i= .int .i64 j/\wr.ownsRow w.heap.size 5 1 v (s+j) (vals (P++(Sm.bigs n).take j))/\Below w.heap.size w wr
theorem y1i (tag:Nat) (_htag:tag<256) (L:List (List Nat)) (p:Option Addr) (len cap:Nat) (w:World) (hL:Texts w p len cap L) (hl:tot L<1099511627776):
  Calls Tryz.prog 197 #[.int .u8 tag,.slice p len cap] w fun e w'=>∃q n c,e= .returned (.slice q n c)/\w'.ownsRow w.heap.size 5 1 (.slice q n c) n (vals (pre tag L))/\Below w.heap.size w w':=by
 have P:=hL.size;have AJ:=hL.le;have AA:len<1099511627776:=by have:=x6m L;omega
 obtain ⟨i5,O,b,a,d⟩:=info_parts I5;have HI:=yH O;have W:=yH b;have l:=yH a;have h:=yH d;clear O b a d;have HL:=yH hL;have B:=yH P;clear hL P
 go_enter Tryz.func197,Tryz.ntmps197
 go_wp2_with fail
 have G:(w.alloc (.cells #[.int .u8 tag] 5)).ownsRow w.heap.size 5 1 (.slice (some ⟨w.heap.size,0,none⟩) 1 1) 1 (vals ([tag].take 1)):=x23 (L:=[tag]) (jE w _) rfl (jB _) (by unfold maxLen;omega) (jB _);have HO0:=yH G;have HB0:=yH (show Below w.heap.size w (w.alloc (.cells #[.int .u8 tag] 5)) from jA _ _);clear G;go_loopw [5,6] (fun v i wr=>y7D w tag len L v i wr) (fun _ i _=>len - (intOf i).toNat)
 case atStart=>exact ⟨0,by omega,rfl,HO0.out,HB0.out⟩
 case round=>
  obtain ⟨k,hk,rfl,ho,hb⟩:=hrel;have HO:=yH ho;have HB:=yH hb;clear ho hb HO0 HB0;by_cases hlt:k<len
  ·obtain ⟨g,o,hp,hx⟩:=HL.at' (by intro e;have:=B.out;rw [e] at this;simp at this;omega);obtain ⟨q,n,c,N,h2⟩:=hx k (by have:=B.out;omega);subst hp;have e1:=y05 L k (by have:=B.out;omega);have e2:=x5l L (k+1);have e3:n=(L.getD k []).length:=h2.size;have I:wr.cell? ⟨g,o+k,none⟩=some (.slice q n c):=(HB.cell (p:=⟨g,o+k,none⟩) (jI N)).trans N;have f:=yH N;have Y:=yH h2;obtain ⟨s,hs⟩:∃s,s=tot (L.take k):=⟨_,rfl⟩
   rw [<- hs] at HO e1;have AE:s+8+n<1099511627776:=by omega
   have E:=yH e3;have J:=yH e1;clear hx N h2 e1 e2 e3;go_wp2_with fail
   go_loopw [5,8] (fun v i wr'=>y3c w s (pre tag (L.take k)) n v i wr') (fun _ i _=>8 - (intOf i).toNat)
   case atStart=>exact ⟨0,by omega,rfl,by rw [List.take_zero,kW];exact HO.out,HB.out⟩
   case round=>
    obtain ⟨j,hj,rfl,Q,R⟩:=hrel;have M:=yH Q;have A:=yH R;clear Q R;by_cases hj8:j<8
    ·obtain ⟨y,x⟩:∃y,y=n/2^(56 - 8*j):=⟨_,rfl⟩
     have AI:(n:Int)/2^(56 - 8*j)=(y:Int):=by rw [x,Int.natCast_ediv,Int.natCast_pow];rfl
     have z:=yH x;clear x;go_wp2_with (at_builtin;refine wpList_append_own _ (by rfl) (.tmp 27) (.tmp 36) 45 (by rfl) w.heap.size 5 i5 (.int .u8 0) 1 1 A22 HI W l h (by rfl) (by decide) _ (s+j) _ (by rfl) (M.alloc _) ⟨wr.heap.size,0,none⟩ 1 1 (vals [y%256]) (by rfl) (by rfl) (x0v (L:=[y%256]) (jE wr _)) (x0L _) (by unfold maxLen;omega) (by omega) (by have:=A.size;simp;omega) ?_;intro v4 w4 hown4 hgrow4 _)
     have Z:Below w.heap.size w w4:=(A.alloc A.size _).grown hgrow4 (by have:=A.size;simp;omega) (fun i O=>((M.alloc (.cells (u8s [y%256]) 5)).lt i O).1);have e:w4.ownsRow w.heap.size 5 1 v4 (s+(j+1)) (vals (pre tag (L.take k)++(Sm.bigs n).take (j+1))):=by
      rw [x8z n j hj8,<- jR,x0w _ [Sm.big n j],y5h n j hj8,<- z.out];exact hown4
     have HE:=yH e;have HB4:=yH Z;clear hown4 hgrow4 e Z;go_wp2_with fail
     go_roundw
     case rel=>exact ⟨j+1,by omega,by go_num,HE.out,HB4.out⟩
     case measure=>simp [intOf];omega
    ·obtain rfl:j=8:=by omega
     have m:wr.cell? ⟨g,o+k,none⟩=some (.slice q n c):=(A.cell (p:=⟨g,o+k,none⟩) (jI f)).trans f.out;have K:=M.out;rw [show (Sm.bigs n).take 8=Sm.bigs n from rfl] at K;have C:=yH K;clear K I;obtain ⟨r,H⟩:∃r,r=L.getD k []:=⟨_,rfl⟩
     rw [<- H] at Y E J;have U:=yH H;clear H;rcases Y.at' with ⟨t,hc⟩ | ⟨xt,t,A3⟩
     ·subst t;subst hc;obtain rfl:n=0:=by have:=Y.le;omega
      go_wp2_with (at_builtin;refine wpList_append_own_none (by rfl) (.tmp 38) (.tmp 42) 45 (by rfl) w.heap.size 5 i5 1 A22 HI _ (s+8) _ (by rfl) C (by rfl) ?_)
      go_roundw
      case rel=>
       refine ⟨k+1,by omega,by go_num,?_,A.out⟩;have e:=C.out;have A1:r=[]:=jZ.1 E.symm;rw [J.out,x5F tag L k (by have:=B.out;omega),<- U.out,tpart,<- E.out,A1,kW];exact e
      case measure=>simp [intOf];omega
     ·subst t;clear A3;go_wp2_with (at_builtin;refine wpList_append_own _ (by rfl) (.tmp 38) (.tmp 42) 45 (by rfl) w.heap.size 5 i5 (.int .u8 0) 1 1 A22 HI W l h (by rfl) (by decide) _ (s+8) _ (by rfl) C xt n c (vals r) (by rfl) (by rw [x00,Nat.mul_one];exact Y.size.symm) ((Y.later A).cells) (x0L _) (by unfold maxLen;omega) (by omega) A.size ?_;intro v5 w5 hown5 hgrow5 _)
      have X:Below w.heap.size w w5:=A.grown hgrow5 A.size (fun i O=>(C.lt i O).1);rw [<- x0w] at hown5;have u:=yH hown5;have A5:=yH X;clear hown5 hgrow5 X;go_wp2_with fail
      go_roundw
      case rel=>
       refine ⟨k+1,by omega,by go_num,?_,A5.out⟩;have e:=u.out;rw [J.out,x5F tag L k (by have:=B.out;omega),<- U.out,tpart,<- E.out,<- jR];rw [show s+(8+n)=s+8+n from by omega];exact e
      case measure=>simp [intOf];omega
  ·obtain rfl:len=k:=by omega
   go_wp2_with fail
   go_ret;have e:=HO.out;have N:0<tot (L.take len):=by simp only [tot,pre,kI];omega
   obtain ⟨g,cp,rfl,_,_⟩:=e.form N;rw [kQ (by have:=B.out;omega)] at e ⊢;exact ⟨_,_,_,rfl,e,HB.out⟩
end
end Go.Proofs.YtenenciaggbjnaaGreat
