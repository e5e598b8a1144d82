/- KdTakes, KdFork, BoxPairFn, BoxBuild, BoxOf, BoxHullR. -/
import Derived.Deep.MidRow
import Derived.BigRegion
import Derived.Lib.MinMax
import Derived.Test.YtenenciaggbjnaaGreatP9
set_option maxRecDepth 100000
set_option maxHeartbeats 8000000
set_option linter.all false
namespace Go.Proofs.YtenenciaggbjnaaGreat
namespace Kt
open Go.RowKit Nd
def AskR (w:World) (L:List Rw) (f:Rw->Bool) (F:Nat) (cap:Array Value):Prop:=∀r∈L,∀w',Below w.heap.size w w'->Calls Tryz.prog F (#[r.val]++cap) w' fun e w''=>e= .returned (.bool (f r))/\Below w'.heap.size w' w''
def IxRel (w:World) (L:List Rw) (f:Rw->Bool) (n:Nat) (i:Value) (wr:World):Prop:=∃k:Nat,k<=n/\i= .int .i64 k/\(∀j,j<k->f (L.getD j default)=false)/\Below w.heap.size w wr
def y7I (w:World) (L:List Rw) (f:Rw->Bool) (e:Ending) (w':World):Prop:=∃i:Int,e= .returned (.int .i64 i)/\((0<=i/\∃r∈L,f r=true)\/(i= -1/\∀r∈L,f r=false))/\Below w.heap.size w w'
theorem y2W (p:Option Addr) (n c:Nat) (L:List Rw) (f:Rw->Bool) (F:Nat) (cap:Array Value) (hF:∀args w,(callFunc F args).run Tryz.prog w= .ok (.enter F args) w) (w:World) (hL:RowsIn w p n c L) (hn:n<=1000000000) (hs:AskR w L f F cap):
  Calls Tryz.prog 136 #[.slice p n c,.func (.func F) #[] cap] w (y7I w L f):=by
 have W:=yH hs;have Y:=yH hL;have O:=yH hL.size;clear hs hL
 go_enter Tryz.func136,Tryz.ntmps136
 go_wp2_with fail
 go_loopw [5,8] (fun _ i wr=>IxRel w L f n i wr) (fun _ i _=>n - (intOf i).toNat)
 case atStart=>exact ⟨0,by omega,rfl,(fun j hj=>by omega),jC _ _⟩
 case round=>
  obtain ⟨k,a,rfl,G,P⟩:=hrel;have Q:=yH G;have C:=yH P;clear G P;by_cases hlt:k<n
  ·obtain ⟨g,o,rfl,R,J⟩:=(Y.later C).cell k hlt;have b:(0:Int)<=k/\(k:Int)<n:=by omega
   have A:k<L.length:=by rw [<- O.out];exact hlt
   have B:L.getD k default∈L:=by
    rw [jG,jM A];exact kM A
   have E:=W.out _ B wr C;have I:=yH (show f (L.getD k default)=false->∀j,j<k+1->f (L.getD j default)=false from fun h j hj=>by
    rcases Nat.lt_or_ge j k with N | N
    ·exact Q.out j N
    ·obtain rfl:j=k:=by omega
     exact h)
   have U:=yH B;clear J B A;generalize L.getD k default=r at *;simp only [Rw.val] at R;unfold Rw.val at E;cases hfk:f r with
   | true=>
    rw [hfk] at E;have K:=yH E;have Z:=yH (show ∃r∈L,f r=true from ⟨r,U.out,hfk⟩);clear E hfk I;go_wp2_with (refine K.mono ?_;rintro e M ⟨rfl,H⟩;have HB2:=yH (C.trans (H.mono C.size));clear H)
    go_ret;exact ⟨k,rfl,Or.inl ⟨by omega,Z.out⟩,HB2.out⟩
   | false=>
    rw [hfk] at E;have K:=yH E;have HX2:=yH (I.out hfk);clear E hfk I;go_wp2_with (refine K.mono ?_;rintro e M ⟨rfl,H⟩;have HB2:=yH (C.trans (H.mono C.size));clear H)
    go_roundw
    case rel=>exact ⟨k+1,by omega,by go_num,HX2.out,HB2.out⟩
    case measure=>simp [intOf];omega
  ·obtain rfl:n=k:=by omega
   have X:=yH (show ∀r∈L,f r=false from fun r hr=>by
    obtain ⟨j,hj,rfl⟩:=List.getElem_of_mem hr;have:=Q.out j (by rw [O.out];exact hj)
    rwa [jG,jM hj] at this)
   go_wp2_with fail
   go_ret;exact ⟨-1,rfl,Or.inr ⟨rfl,X.out⟩,C.out⟩
theorem x8Y (p:Option Addr) (n c:Nat) (L:List Rw) (f:Rw->Bool) (F:Nat) (cap:Array Value) (hF:∀args w,(callFunc F args).run Tryz.prog w= .ok (.enter F args) w) (w:World) (hL:RowsIn w p n c L) (hn:n<=1000000000) (hs:AskR w L f F cap):
  Calls Tryz.prog 142 #[.slice p n c,.func (.func F) #[] cap] w fun e w'=>e= .returned (.bool (L.any f))/\Below w.heap.size w w':=by
 have M:=yH (y2W p n c L f F cap hF w hL hn hs);clear hL hs hF;obtain ⟨b,H⟩:∃b,L.any f=b:=⟨_,rfl⟩
 rw [H];have B:=yH H;clear H;cases b with
 | true=>
  have I:=yH (show ∀i:Int,((0<=i/\∃r∈L,f r=true)\/(i= -1/\∀r∈L,f r=false))->0<=i from fun i h=>by
   rcases h with h | h
   ·exact h.1
   ·obtain ⟨r,J,G⟩:=List.any_eq_true.1 B.out;rw [h.2 r J] at G;cases G)
  go_enter Tryz.func142,Tryz.ntmps142
  go_wp2_with (go_at_call 136;refine M.mono ?_;rintro _ N ⟨i,rfl,C,E⟩;have K:=I.out i C;have A:=yH E;clear C E)
  go_ret;exact ⟨(by first | rfl | exact ret_b (kF K)),A.out⟩
 | false=>
  have I:=yH (show ∀i:Int,((0<=i/\∃r∈L,f r=true)\/(i= -1/\∀r∈L,f r=false))->¬0<=i from fun i h=>by
   rcases h with h | h
   ·obtain ⟨r,J,G⟩:=h.2;have:=List.any_eq_true.2 ⟨r,J,G⟩;rw [B.out] at this;cases this
   ·omega)
  go_enter Tryz.func142,Tryz.ntmps142
  go_wp2_with (go_at_call 136;refine M.mono ?_;rintro _ N ⟨i,rfl,C,E⟩;have K:=I.out i C;have A:=yH E;clear C E)
  go_ret;exact ⟨(by first | rfl | exact ret_b (kE (by omega))),A.out⟩
theorem y16 (r:Rw) (gb:Nat) (d:Int) (w:World) (hb:w.cell? ⟨gb,1,none⟩=some (.int .i64 d)):
  Calls Tryz.prog 141 #[r.val,.pointer (some ⟨gb,0,none⟩)] w fun e w'=>e= .returned (.bool (decide ((r.n:Int)≠d)))/\w'=w:=by
 obtain ⟨p,n,c,R⟩:=r;unfold Rw.val;simp only;have A:=yH (show ((n:Int) !=d)=decide ((n:Int)≠d) from by rw [Bool.eq_iff_iff];simp)
 go_enter Tryz.func141,Tryz.ntmps141
 go_wp2_with fail
 go_ret;exact ⟨ret_b A,rfl⟩
def x2k (d:Int) (L:List Rw):Bool:=decide (1<=d/\d<=8)&& !(L.any fun r=>decide ((r.n:Int)≠d))
theorem x43 (sp:Option Addr) (d:Int) (p:Option Addr) (n c:Nat) (L:List Rw) (w:World) (hL:RowsIn w p n c L) (hn:n<=1000000000):
  Calls Tryz.prog 87 #[.agg #[.pointer sp,.int .i64 d],.slice p n c] w fun e w'=>e= .returned (.bool (x2k d L))/\Below w.heap.size w w':=by
 have C:=jA w (.cells #[.pointer sp,.int .i64 d] 107);have G:=jE w (.cells #[.pointer sp,.int .i64 d] 107);have J:=yH (x8Y p n c L (fun r=>decide ((r.n:Int)≠d)) 141 #[.pointer (some ⟨w.heap.size,0,none⟩)] (fun args w=>by as_aux_lemma=>kernel_rfl) (w.alloc (.cells #[.pointer sp,.int .i64 d] 107)) (hL.later C) hn (fun r _ w' hb=>(y16 r w.heap.size d w' ((hb.cell (jI (jH _ _ 1 _ _ _ G))).trans (jH _ _ 1 _ _ _ G))).mono fun e w'' ⟨he,hw⟩=>⟨he,by rw [hw];exact jC _ _⟩));have E:=yH (show x2k d L=(decide (1<=d/\d<=8)&& !(L.any fun r=>decide ((r.n:Int)≠d))) from rfl);generalize x2k d L=T at *;generalize (L.any fun r=>decide ((r.n:Int)≠d))=b at *;have B:=yH C;clear hL C;by_cases h1:1<=d
 focus
  by_cases h8:d<=8
  ·
   have A:=yH (show T= !b from by rw [E.out,kF ⟨h1,h8⟩];rfl);clear E
   go_enter Tryz.func87,Tryz.ntmps87
   go_upto_region 1 with fail
   generalize w.alloc (.cells #[.pointer sp,.int .i64 d] 107)=w1 at *;have K:=jH w1 w.heap.size 1 _ _ _ G;go_wp2_with (go_at_call 142;refine J.mono ?_;rintro _ M ⟨rfl,I⟩;have H:=yH (B.trans (I.mono B.size));clear I)
   go_ret;exact ⟨ret_b A.symm,H.out⟩
  focus
   have A:=yH (show T=false from by rw [E.out,kE (fun h=>h8 h.2)];rfl)
  rotate_left
 rotate_left
 focus
  have A:=yH (show T=false from by rw [E.out,kE (fun h=>h1 h.1)];rfl)
 rotate_left;all_goals
  clear E J
  go_enter Tryz.func87,Tryz.ntmps87
  go_upto_region 1 with fail
  generalize w.alloc (.cells #[.pointer sp,.int .i64 d] 107)=w1 at *;have K:=jH w1 w.heap.size 1 _ _ _ G;go_wp2_with fail
  go_ret;exact ⟨ret_b A.symm,B.out⟩
theorem x5r {w:World} {ops:Array Oper} {rest:List Oper} {o:Oper} {a:Act} {Q:Exit->Act->World->Prop} (hg:o.guard=none) (x:Operand) (ho:o.op= .buildSlice 94 1 #[(0,x)]) {q:Option Addr} {m c:Nat} {b:Bool} (hx:a.eval x= .agg #[.slice q m c,.bool b])
  (h:wpList Tryz.prog ops Q rest (a.put o.dst (.slice (some ⟨w.heap.size,0,none⟩) 1 1)) (w.alloc (.cells #[.slice q m c,.bool b] 101))):wpList Tryz.prog ops Q (o::rest) a w:=
 wpList_plain hg fun _ hK=>x1Q x ho hx (hK _ _ h)
theorem UEnt0:(Tryz.prog.underlying 101).map (·.isRow)=some true:=by kernel_rfl
theorem UEnt:∃d,Tryz.prog.underlying 101=some d/\d.isRow=true:=by
 have h:=UEnt0
 revert h
 cases Tryz.prog.underlying 101 with
 | none=>intro h;cases h
 | some d=>intro h;exact ⟨d,rfl,by simpa using h⟩
theorem SEnt:(Tryz.prog.info? 101).map (·.size)=some 2:=by kernel_rfl
theorem x6u (w:World) (A B C D:Obj):∃W,(((w.alloc A).alloc B).alloc C).alloc D=W/\W.heap[w.heap.size]? =some A/\W.heap[w.heap.size+1]? =some B/\W.heap[w.heap.size+2]? =some C/\W.heap[w.heap.size+3]? =some D/\Below w.heap.size w W:=by
 have Q:=jE w A;have J:=jE (w.alloc A) B;have L:=jE ((w.alloc A).alloc B) C;have N:=jE (((w.alloc A).alloc B).alloc C) D;have H:(w.alloc A).heap.size=w.heap.size+1:=by simp
 have P:((w.alloc A).alloc B).heap.size=w.heap.size+2:=by simp
 have K:(((w.alloc A).alloc B).alloc C).heap.size=w.heap.size+3:=by simp
 have b1:=jA w A;have I:Below (w.alloc A).heap.size (w.alloc A) ((w.alloc A).alloc B):=jA _ _;have O:Below ((w.alloc A).alloc B).heap.size ((w.alloc A).alloc B) (((w.alloc A).alloc B).alloc C):=jA _ _;have M:Below (((w.alloc A).alloc B).alloc C).heap.size (((w.alloc A).alloc B).alloc C) ((((w.alloc A).alloc B).alloc C).alloc D):=jA _ _;have G:=O.trans (M.mono O.size);have E:=I.trans (G.mono I.size);rw [H] at J;rw [P] at L;rw [K] at N;refine ⟨_,rfl,?_,?_,?_,N,b1.trans (E.mono b1.size)⟩
 ·exact (E.block _ (by rw [H];omega)).trans Q
 ·exact (G.block _ (by rw [P];omega)).trans J
 ·exact (M.block _ (by rw [K];omega)).trans L
def y4J (w:World) (r:Rw) (v:Bool) (a b:Kd) (e:Ending) (w':World):Prop:=∃ge gk:Nat,e= .returned (.agg #[.int .u8 1,.slice (some ⟨ge,0,none⟩) 1 1,.slice (some ⟨gk,0,none⟩) 2 2])/\EntsIn w' (some ⟨ge,0,none⟩) 1 1 [⟨r,v⟩]/\KidsIn w' (some ⟨gk,0,none⟩) 2 2 [a,b]/\Below w.heap.size w w'/\w'.heap[ge]? =some (.cells #[r.val,.bool v] 101 (0,0))/\w'.heap[gk]? =some (.cells (a.cells++b.cells).toArray 34 (0,0))/\w.heap.size<=ge/\ge<gk
theorem x7e (r:Rw) (v:Bool) (a b:Kd) (w:World) (hr:r.Ok w) (ha:a.Ok w) (hb:b.Ok w):
  Calls Tryz.prog 135 #[.agg #[r.val,.bool v],.agg a.cells.toArray,.agg b.cells.toArray] w (y4J w r v a b):=by
 have HR:=yH hr;have n:=yH ha;have j:=yH hb;clear hr ha hb;obtain ⟨X,N,Z,rR⟩:=r;unfold Rw.val;simp only;obtain ⟨de,U,G⟩:=UEnt;obtain ⟨dk,O,H⟩:=UKd;obtain ⟨dn,M,C⟩:=UNode;have g:=yH U;have P:=yH G;have Y:=yH O;have E:=yH H;have o:=yH M;have Q:=yH C;have s:=yH (Kd.cells_length n.len);have t:=yH (Kd.cells_length j.len);clear U G O H M C;obtain ⟨W,hW,r0,z,i,d,b1⟩:=x6u w (.cells #[.slice X N Z,.bool v] 101) (.cells a.cells.toArray 34) (.cells b.cells.toArray 34) (.cells #[.int .u8 0,.slice none 0 0,.slice none 0 0] 97);have s1:w.heap.size+4<=W.heap.size:=(yL d)
 go_enter Tryz.func135,Tryz.ntmps135
 go_upto_region 1 with fail
 clear hW;have R0:=yH (x09 r0);have R1:=yH (x0E z);have R2:=yH (x0E i);obtain ⟨A,J⟩:∃A,W.alloc (.cells #[.slice X N Z,.bool v] 101)=A:=⟨_,rfl⟩
 have be:Below W.heap.size W A:=by rw [<- J];exact jA _ _
 have R:=jE W (.cells #[.slice X N Z,.bool v] 101);rw [J] at R;obtain ⟨K,L⟩:∃K,A.alloc (.cells (a.cells++b.cells).toArray 34)=K:=⟨_,rfl⟩
 have e:Below A.heap.size A K:=by rw [<- L];exact jA _ _
 have u:=jE A (.cells (a.cells++b.cells).toArray 34);rw [L] at u;have be3:=(e.block _ (yL R)).trans R;have b3:=b1.trans ((be.trans (e.mono be.size)).mono b1.size);have z2:=(be.trans (e.mono be.size)).block _ (yL d);have R3:=yH (z2.trans d);have x:=yH (x0E (yK be z));have A0:=yH (x0E (yK be i));have f:=yH be3;have NK:=yH u;have B3:=yH b3;have SZ:=yH (show w.heap.size+4<=A.heap.size from jJ s1 be.size);have p:=yH (show W.heap.size<A.heap.size from (yL R));clear r0 z i d b1 be R e u be3 b3 z2;go_wp2_with (first
  | (refine jK (by rfl) 101 (.tmp 3) (by rfl) w.heap.size 0 (by rfl) [.slice X N Z,.bool v] de R0 g P SEnt ?_)
  | (refine x5r (by rfl) (.tmp 7) (by rfl) (q:=X) (m:=N) (c:=Z) (b:=v) (by rfl) ?_;rw [J])
  | (refine jK (by rfl) 34 (.tmp 4) (by rfl) (w.heap.size+1) 0 (by rfl) a.cells dk x Y E (by rw [s.out];exact SKd) ?_)
  | (refine jK (by rfl) 34 (.tmp 5) (by rfl) (w.heap.size+2) 0 (by rfl) b.cells dk A0 Y E (by rw [t.out];exact SKd) ?_)
  | (refine x5m (by rfl) (.tmp 9) (.tmp 10) (by rfl) (k:=a) (l:=b) n.len j.len (by rfl) (by rfl) ?_;rw [L])
  | (refine x05 (cells:= #[.int .u8 1,.slice (some ⟨W.heap.size,0,none⟩) 1 1,.slice (some ⟨A.heap.size,0,none⟩) 2 2]) (by rfl) (by rfl) (by simp only [kA,kB,kC];exact x40 _ _ _ _ _ _) ?_)
  | (refine jL (by rfl) 97 (.tmp 6) (.tmp 12) (by rfl) (w.heap.size+3) #[.int .u8 1,.slice (some ⟨W.heap.size,0,none⟩) 1 1,.slice (some ⟨A.heap.size,0,none⟩) 2 2] (by rfl) (by rfl) _ _ R3 SNode rfl (x8U _ _ _ _ _ _) ?_))
 refine x1U 6 (by kernel_rfl) (w.heap.size+3) _ #[.int .u8 1,.slice (some ⟨W.heap.size,0,none⟩) 1 1,.slice (some ⟨A.heap.size,0,none⟩) 2 2] o.out Q SNode (by rfl) (jT _ _ _ _ _ _ R3) ?_;have B:∀r:Rw,r.Ok w->r.Ok (K.setRow (w.heap.size+3) #[.int .u8 1,.slice (some ⟨W.heap.size,0,none⟩) 1 1,.slice (some ⟨A.heap.size,0,none⟩) 2 2]):=fun r hr=>Nd.rw_keep (hr.later B3) fun y hy hR=>setRow_other _ _ _ _ (y2N hr (by omega) y hy hR);have I:∀kd:Kd,kd.Ok w->kd.Ok (K.setRow (w.heap.size+3) #[.int .u8 1,.slice (some ⟨W.heap.size,0,none⟩) 1 1,.slice (some ⟨A.heap.size,0,none⟩) 2 2]):=fun kd h=>⟨h.len,h.ok,B _ h.lo,B _ h.hi,B _ h.key,h.live,h.size⟩
 have he:=(setRow_other K (w.heap.size+3) W.heap.size #[.int .u8 1,.slice (some ⟨W.heap.size,0,none⟩) 1 1,.slice (some ⟨A.heap.size,0,none⟩) 2 2] (by omega)).trans f.out;have hk:=(setRow_other K (w.heap.size+3) A.heap.size #[.int .u8 1,.slice (some ⟨W.heap.size,0,none⟩) 1 1,.slice (some ⟨A.heap.size,0,none⟩) 2 2] (by have:=SZ.out;omega)).trans NK.out;exact ⟨W.heap.size,A.heap.size,rfl,y0D he (B _ HR),y0B hk (I _ n) (I _ j),B3.trans (Below.setRow (jC _ _) (by omega) _),he,hk,by omega,by have:=p.out;omega⟩
end Kt
section
open Go.RowKit
def pairB (R S T U:List Int) (n m k l:Nat):Bool:=x0g R S n m n&&x0g T U k l n
theorem y6B (w:World) (v u v2 u2:Value):∀w2,w2=(w.alloc (.cells #[v,u] 32)).alloc (.cells #[v2,u2] 32)->
  (w2.cell? ⟨w.heap.size,0,none⟩=some v/\w2.cell? ⟨w.heap.size,1,none⟩=some u/\w2.cell? ⟨w.heap.size+1,0,none⟩=some v2/\w2.cell? ⟨w.heap.size+1,1,none⟩=some u2)/\Below w.heap.size w w2/\w2.heap.size=w.heap.size+2:=by
 rintro w2 rfl;obtain ⟨G,E⟩:=x0a w v u 32;have C:(w.alloc (.cells #[v,u] 32)).heap.size=w.heap.size+1:=by simp
 have B:=jA w (.cells #[v,u] 32);generalize w.alloc (.cells #[v,u] 32)=w1 at *;obtain ⟨b0,b1⟩:=x0a w1 v2 u2 32;have A:=jA w1 (.cells #[v2,u2] 32);rw [C] at b0 b1;exact ⟨⟨(A.cell (p:=⟨w.heap.size,0,none⟩) (by show w.heap.size<_;omega)).trans G,(A.cell (p:=⟨w.heap.size,1,none⟩) (by show w.heap.size<_;omega)).trans E,b0,b1⟩,B.trans (A.mono (by omega)),by simp;omega⟩
structure Four (w0 w:World) (a b:Nat) (p q r s:Option Addr) (n c m e k f l g:Nat) (R S T U:List Int):Prop where
 ba:BoxAt w a p n c q m e
 bb:BoxAt w b r k f s l g
 la:a<w.heap.size
 lb:b<w.heap.size
 i1:Ints w p n c R
 i2:Ints w q m e S
 i3:Ints w r k f T
 i4:Ints w s l g U
 below:Below w0.heap.size w0 w
theorem Four.later {w0 w w':World} {a b:Nat} {p q r s:Option Addr} {n c m e k f l g:Nat} {R S T U:List Int} (h:Four w0 w a b p q r s n c m e k f l g R S T U) (hb:Below w.heap.size w w'):Four w0 w' a b p q r s n c m e k f l g R S T U:=
 ⟨⟨(hb.cell (p:=⟨a,0,none⟩) h.la).trans h.ba.1,(hb.cell (p:=⟨a,1,none⟩) h.la).trans h.ba.2⟩,⟨(hb.cell (p:=⟨b,0,none⟩) h.lb).trans h.bb.1,(hb.cell (p:=⟨b,1,none⟩) h.lb).trans h.bb.2⟩,jO h.la hb.size,jO h.lb hb.size,
  h.i1.later hb,h.i2.later hb,h.i3.later hb,h.i4.later hb,h.below.trans (hb.mono h.below.size)⟩
theorem y6C {w w2:World} {p q r s:Option Addr} {n c m e k f l g:Nat} {R S T U:List Int} (h1:Ints w p n c R) (h2:Ints w q m e S) (h3:Ints w r k f T) (h4:Ints w s l g U)
  (h:w2=(w.alloc (.cells #[.slice p n c,.slice q m e] 32)).alloc (.cells #[.slice r k f,.slice s l g] 32)):Four w w2 w.heap.size (w.heap.size+1) p q r s n c m e k f l g R S T U:=by
 obtain ⟨⟨E,G,C,B⟩,A,H⟩:=y6B w _ _ _ _ w2 h;exact ⟨⟨E,G⟩,⟨C,B⟩,by omega,by omega,h1.later A,h2.later A,h3.later A,h4.later A,A⟩
theorem x7f (p q r s:Option Addr) (n c m e k f l g:Nat) (R S T U:List Int) (w:World) (h1:Ints w p n c R) (h2:Ints w q m e S) (h3:Ints w r k f T) (h4:Ints w s l g U):
  Calls Tryz.prog 322 #[.agg #[.slice p n c,.slice q m e],.agg #[.slice r k f,.slice s l g]] w fun e w'=>e= .returned (.bool (pairB R S T U n m k l))/\Below w.heap.size w w':=by
 go_enter Tryz.func322,Tryz.ntmps322
 go_upto_region 1 with fail
 obtain ⟨H,B⟩:∃H,H=(w.alloc (.cells #[.slice p n c,.slice q m e] 32)).alloc (.cells #[.slice r k f,.slice s l g] 32):=⟨_,rfl⟩
 have C:=yH (y6C h1 h2 h3 h4 B);rw [<- B];clear B h1 h2 h3 h4;have b:=C.ba;obtain ⟨b0,b1⟩:=b;have b:=C.bb;obtain ⟨J,K⟩:=b;go_wp2_with fail
 refine (x2f p q n c m e R S n H C.i1 C.i2).mono ?_;rintro _ L ⟨rfl,G⟩;have A:=yH (C.later G);clear G C b0 b1 J K;have b:=A.ba;obtain ⟨b0,b1⟩:=b;have b:=A.bb;obtain ⟨J,K⟩:=b;cases hr:x0g R S n m n with
 | false=>
  have I:=yH (show pairB R S T U n m k l=false by unfold pairB;rw [hr];rfl);clear hr;go_wp2_with fail
  go_ret;exact ⟨congrArg (fun b=>Ending.returned (.bool b)) I.symm,A.below⟩
 | true=>
  have I:=yH (show pairB R S T U n m k l=x0g T U k l n by unfold pairB;rw [hr];rfl);clear hr;go_wp2_with fail
  refine (x2f r s k f l g T U n L A.i3 A.i4).mono ?_;rintro _ N ⟨rfl,E⟩;have M:=yH (A.below.trans (E.mono A.below.size));clear E;go_wp2_with fail
  go_ret;exact ⟨congrArg (fun b=>Ending.returned (.bool b)) I.symm,M.out⟩
def i64s (l:List Int):Array Value:=(l.map fun x=>Value.int .i64 x).toArray
def part (f:Nat->Int) (n k:Nat):List Int:=(List.range n).map fun i=>if i<k then f i else 0
theorem x3k (f:Nat->Int) (n k:Nat):(part f n k).length=n:=by simp [part]
theorem i64s_get (l:List Int) (i:Nat) (h:i<l.length):(i64s l)[i]? =some (.int .i64 (l.getD i 0)):=by
 simp [i64s,jG,jM h]
theorem y0I (f:Nat->Int) (n k:Nat):(i64s (part f n k)).setIfInBounds k (.int .i64 (f k))=i64s (part f n (k+1)):=by
 apply Array.ext';simp only [i64s,part,Array.toList_setIfInBounds,List.map_map];apply List.ext_getElem (by simp);intro i h1 h2;rw [List.getElem_set];simp only [kH,List.length_range] at h2;by_cases hk:k=i
 ·subst hk;simp
 ·simp only [hk,if_false,List.getElem_map,List.getElem_range,Function.comp];by_cases h3:i<k
  ·rw [if_pos h3,if_pos (by omega)]
  ·rw [if_neg h3,if_neg (by omega)]
def RowAt (w:World) (g:Nat) (L:List Int):Prop:=w.heap[g]? =some (.cells (i64s L) 2 (0,0))
theorem RowAt.cell {w:World} {g:Nat} {L:List Int} (h:RowAt w g L) (i:Nat) (hi:i<L.length):w.cell? ⟨g,i,none⟩=some (.int .i64 (L.getD i 0)):=by
 rw [jH w g i _ _ _ h,i64s_get L i hi]
theorem RowAt.free {w:World} {g:Nat} {L:List Int} (h:RowAt w g L) (i:Nat):w.frozen? ⟨g,i,none⟩=false:=jS w g i _ _ h
theorem RowAt.lt {w:World} {g:Nat} {L:List Int} (h:RowAt w g L):g<w.heap.size:=(yL h)
theorem RowAt.later {w w':World} {g:Nat} {L:List Int} (h:RowAt w g L) {n:Nat} (hb:Below n w w') (hn:g<n):RowAt w' g L:=(hb.block _ hn).trans h
theorem RowAt.ints {w:World} {g:Nat} {L:List Int} (h:RowAt w g L) (hL:∀x∈L,-9223372036854775808<=x/\x<=9223372036854775807):Ints w (some ⟨g,0,none⟩) L.length L.length L:=
 ⟨rfl,jB _,hL,Or.inr ⟨g,0,rfl,fun i hi=>by rw [Nat.zero_add];exact h.cell i hi⟩⟩
theorem y2X (f:Nat->Int) (n:Nat):madeCells (Value.cells (.int .i64 0)) n=i64s (part f n 0):=by
 apply Array.ext
 ·simp [size_madeCells,i64s,part,Value.cells]
 ·intro i h1 h2;simp [madeCells,i64s,part,Value.cells,Nat.mod_one]
theorem A23:Tryz.prog.underlying 24=some (.slice 2):=by kernel_rfl
theorem I2i:(Tryz.prog.info? 2).map (fun i=>(i.zero,i.size,i.bytes))=some (some (.int .i64 0),1,8):=by kernel_rfl
theorem make_row (n:Nat) (h8:n<=8) (f:Nat->Int) (w:World):(Instr.makeSlice 24 (.int .i64 n) (.int .i64 n)).run Tryz.prog w= .ok (.slice (some ⟨w.heap.size,0,none⟩) n n) (w.alloc (.cells (i64s (part f n 0)) 2)):=by
 obtain ⟨G,E,B,A,C⟩:=info_parts I2i;have:=run_make (P:=Tryz.prog) w 24 2 G _ A23 E B .i64 .i64 n n (by omega) (by omega) (by rw [C];omega) (by omega);rw [this,A];simp only [Int.toNat_natCast,Nat.mul_one,y2X f]
theorem y2Y (f g:Nat->Int) (n:Nat):part f n 0=part g n 0:=by simp [part]
structure Made (w:World) (g1 g2 gb n:Nat) (L M:List Int) (wx:World):Prop where
 r1:RowAt wx g1 L
 r2:RowAt wx g2 M
 bx:wx.heap[gb]? =some (.cells #[.slice (some ⟨g1,0,none⟩) n n,.slice (some ⟨g2,0,none⟩) n n] 32 (0,0))
 res:wx.heap[w.heap.size]? =some (.cells #[.slice none 0 0,.slice none 0 0] 32 (0,0))
 ne:(g1≠g2/\g1≠gb/\g2≠gb)/\w.heap.size<g1/\w.heap.size<g2/\w.heap.size<gb
 below:Below w.heap.size w wx
def Sides (w:World) (n:Nat) (f g:Nat->Int) (F:Nat) (cap:Array Value):Prop:=
 ∀(k:Nat) (w':World),k<n->Below w.heap.size w w'->Calls Tryz.prog F (#[.int .i64 k]++cap) w' fun e w''=>e= .returned (.tuple #[.int .i64 (f k),.int .i64 (g k)])/\∃j,w''=w'.drewN j
theorem heap3 (w:World) (a b c:Array Value) (ta tb tc:TypeId):
  (((w.alloc (.cells a ta)).alloc (.cells b tb)).alloc (.cells c tc)).drew.heap[w.heap.size]? =some (.cells a ta (0,0))/\(((w.alloc (.cells a ta)).alloc (.cells b tb)).alloc (.cells c tc)).drew.heap[w.heap.size+1]? =some (.cells b tb (0,0))/\
  (((w.alloc (.cells a ta)).alloc (.cells b tb)).alloc (.cells c tc)).drew.heap[w.heap.size+1+1]? =some (.cells c tc (0,0))/\Below w.heap.size w (((w.alloc (.cells a ta)).alloc (.cells b tb)).alloc (.cells c tc)).drew:=by
 have s1:(w.alloc (.cells a ta)).heap.size=w.heap.size+1:=by simp
 have H:((w.alloc (.cells a ta)).alloc (.cells b tb)).heap.size=w.heap.size+1+1:=by simp
 have G:=jE w (.cells a ta);have b1:=jA w (.cells a ta);generalize w.alloc (.cells a ta)=w1 at *;have B:=jE w1 (.cells b tb);have E:=jA w1 (.cells b tb);generalize w1.alloc (.cells b tb)=w2 at *;have C:=jE w2 (.cells c tc);have A:=jA w2 (.cells c tc);generalize w2.alloc (.cells c tc)=w3 at *;rw [s1] at B;rw [H] at C;exact ⟨(A.block _ (by omega)).trans ((E.block _ (by omega)).trans G),(A.block _ (by omega)).trans B,C,(b1.trans ((E.trans (A.mono (by omega))).mono (by omega))).drew⟩
theorem y6D {w w1 W:World} {g1 g2 gb n:Nat} {L M:List Int} (hr:w1.heap[w.heap.size]? =some (.cells #[.slice none 0 0,.slice none 0 0] 32 (0,0))) (hb:Below w.heap.size w w1) (hsz:w1.heap.size=w.heap.size+1) (hW:Below w1.heap.size w1 W)
  (r1:RowAt W g1 L) (r2:RowAt W g2 M) (bx:W.heap[gb]? =some (.cells #[.slice (some ⟨g1,0,none⟩) n n,.slice (some ⟨g2,0,none⟩) n n] 32 (0,0))) (ne:(g1≠g2/\g1≠gb/\g2≠gb)/\w1.heap.size<=g1/\w1.heap.size<=g2/\w1.heap.size<=gb):Made w g1 g2 gb n L M W:=
 ⟨r1,r2,bx,(hW.block _ (by omega)).trans hr,⟨ne.1,by omega,by omega,by omega⟩,hb.trans (hW.mono (by omega))⟩
def At3 (sz:Nat) (a b c:Array Value×TypeId) (g:Nat) (x:Array Value×TypeId):Prop:=(g=sz/\x=a)\/(g=sz+1/\x=b)\/(g=sz+1+1/\x=c)
theorem x6v {w w1:World} {a b c:Array Value} {ta tb tc:TypeId} {g1 g2 gb n:Nat} {L M:List Int} (hr:w1.heap[w.heap.size]? =some (.cells #[.slice none 0 0,.slice none 0 0] 32 (0,0))) (hb:Below w.heap.size w w1) (hsz:w1.heap.size=w.heap.size+1)
  (h3:At3 w1.heap.size (a,ta) (b,tb) (c,tc) gb (#[.slice (some ⟨g1,0,none⟩) n n,.slice (some ⟨g2,0,none⟩) n n],32)) (h1:At3 w1.heap.size (a,ta) (b,tb) (c,tc) g1 (i64s L,2)) (h2:At3 w1.heap.size (a,ta) (b,tb) (c,tc) g2 (i64s M,2)) (ne:g1≠g2/\g1≠gb/\g2≠gb):
  Made w g1 g2 gb n L M (((w1.alloc (.cells a ta)).alloc (.cells b tb)).alloc (.cells c tc)).drew:=by
 obtain ⟨G,C,B,E⟩:=heap3 w1 a b c ta tb tc;have A:∀g x,At3 w1.heap.size (a,ta) (b,tb) (c,tc) g x->(((w1.alloc (.cells a ta)).alloc (.cells b tb)).alloc (.cells c tc)).drew.heap[g]? =some (.cells x.1 x.2 (0,0))/\w1.heap.size<=g:=by
  rintro g x (⟨rfl,rfl⟩ | ⟨rfl,rfl⟩ | ⟨rfl,rfl⟩)
  ·exact ⟨G,jB _⟩
  ·exact ⟨C,by omega⟩
  ·exact ⟨B,by omega⟩
 exact y6D hr hb hsz E (A _ _ h1).1 (A _ _ h2).1 (A _ _ h3).1 ⟨ne,(A _ _ h1).2,(A _ _ h2).2,(A _ _ h3).2⟩
theorem Made.later {w w' wx:World} {g1 g2 gb n:Nat} {L M:List Int} (h:Made w g1 g2 gb n L M wx) (hb:Below wx.heap.size wx w'):Made w g1 g2 gb n L M w':=
 ⟨h.r1.later hb h.r1.lt,h.r2.later hb h.r2.lt,(hb.block _ (yL h.bx)).trans h.bx,(hb.block _ (yL h.res)).trans h.res,h.ne,h.below.trans (hb.mono h.below.size)⟩
theorem Made.set {w wx:World} {g1 g2 gb n k:Nat} {f g:Nat->Int} (h:Made w g1 g2 gb n (part f n k) (part g n k) wx):
  Made w g1 g2 gb n (part f n (k+1)) (part g n (k+1)) ((wx.setCell ⟨g1,k,none⟩ (.int .i64 (f k))).setCell ⟨g2,k,none⟩ (.int .i64 (g k))):=by
 have A:=jU wx g1 k _ _ (.int .i64 (f k)) h.r1;rw [y0I] at A;have C:RowAt (wx.setCell ⟨g1,k,none⟩ (.int .i64 (f k))) g2 (part g n k):=(kG _ _ _ _ (Ne.symm h.ne.1.1)).trans h.r2;have B:=jU _ g2 k _ _ (.int .i64 (g k)) C;rw [y0I] at B;have o:∀b,b≠g1->b≠g2->((wx.setCell ⟨g1,k,none⟩ (.int .i64 (f k))).setCell ⟨g2,k,none⟩ (.int .i64 (g k))).heap[b]? =wx.heap[b]? :=fun b n1 n2=>(kG _ _ _ _ n2).trans (kG _ _ _ _ n1);exact ⟨(kG _ _ _ _ h.ne.1.1).trans A,B,(o _ (Ne.symm h.ne.1.2.1) (Ne.symm h.ne.1.2.2)).trans h.bx,(o _ (Nat.ne_of_lt h.ne.2.1) (Nat.ne_of_lt h.ne.2.2.1)).trans h.res,h.ne,
  (h.below.setCell (p:=⟨g1,k,none⟩) (Nat.le_of_lt h.ne.2.1) _).setCell (p:=⟨g2,k,none⟩) (Nat.le_of_lt h.ne.2.2.1) _⟩
structure x8Z (g1 g2 gb n k:Nat) (x y u:Value) (wx:World):Prop where
 b0:wx.cell? ⟨gb,0,none⟩=some (.slice (some ⟨g1,0,none⟩) n n)
 b1:wx.cell? ⟨gb,1,none⟩=some (.slice (some ⟨g2,0,none⟩) n n)
 c1:wx.cell? ⟨g1,k,none⟩=some x
 c2:wx.cell? ⟨g2,k,none⟩=some y
 f1:wx.frozen? ⟨g1,k,none⟩=false
 f2:wx.frozen? ⟨g2,k,none⟩=false
 d1:(wx.setCell ⟨g1,k,none⟩ u).cell? ⟨gb,1,none⟩=some (.slice (some ⟨g2,0,none⟩) n n)
 e2:(wx.setCell ⟨g1,k,none⟩ u).cell? ⟨g2,k,none⟩=some y
 g2:(wx.setCell ⟨g1,k,none⟩ u).frozen? ⟨g2,k,none⟩=false
theorem Made.cells {w wx:World} {g1 g2 gb n k:Nat} {L M:List Int} (h:Made w g1 g2 gb n L M wx) (hL:k<L.length) (hM:k<M.length) (u:Value):x8Z g1 g2 gb n k (.int .i64 (L.getD k 0)) (.int .i64 (M.getD k 0)) u wx:=by
 have B:(wx.setCell ⟨g1,k,none⟩ u).heap[gb]? =_:=(kG _ _ _ _ (Ne.symm h.ne.1.2.1)).trans h.bx;have A:RowAt (wx.setCell ⟨g1,k,none⟩ u) g2 M:=(kG _ _ _ _ (Ne.symm h.ne.1.1)).trans h.r2;exact ⟨jH wx gb 0 _ _ _ h.bx,jH wx gb 1 _ _ _ h.bx,h.r1.cell k hL,h.r2.cell k hM,h.r1.free k,h.r2.free k,jH _ gb 1 _ _ _ B,A.cell k hM,A.free k⟩
theorem Made.done {w wx:World} {g1 g2 gb n:Nat} {L M:List Int} (h:Made w g1 g2 gb n L M wx):
  (wx.cell? ⟨gb,0,none⟩=some (.slice (some ⟨g1,0,none⟩) n n)/\wx.cell? ⟨gb,1,none⟩=some (.slice (some ⟨g2,0,none⟩) n n)/\wx.cell? ⟨w.heap.size,0,none⟩=some (.slice none 0 0)/\wx.cell? ⟨w.heap.size,1,none⟩=some (.slice none 0 0)/\wx.frozen? ⟨w.heap.size,0,none⟩=false/\wx.frozen? ⟨w.heap.size,1,none⟩=false)/\
  ((wx.setCell ⟨w.heap.size,0,none⟩ (.slice (some ⟨g1,0,none⟩) n n)).setCell ⟨w.heap.size,1,none⟩ (.slice (some ⟨g2,0,none⟩) n n)).heap[w.heap.size]? =some (.cells #[.slice (some ⟨g1,0,none⟩) n n,.slice (some ⟨g2,0,none⟩) n n] 32 (0,0))/\
  (RowAt ((wx.setCell ⟨w.heap.size,0,none⟩ (.slice (some ⟨g1,0,none⟩) n n)).setCell ⟨w.heap.size,1,none⟩ (.slice (some ⟨g2,0,none⟩) n n)) g1 L/\RowAt ((wx.setCell ⟨w.heap.size,0,none⟩ (.slice (some ⟨g1,0,none⟩) n n)).setCell ⟨w.heap.size,1,none⟩ (.slice (some ⟨g2,0,none⟩) n n)) g2 M/\w.heap.size<g1/\w.heap.size<g2/\g1≠g2/\
   Below w.heap.size w ((wx.setCell ⟨w.heap.size,0,none⟩ (.slice (some ⟨g1,0,none⟩) n n)).setCell ⟨w.heap.size,1,none⟩ (.slice (some ⟨g2,0,none⟩) n n))):=by
 have B:=jU wx w.heap.size 0 _ _ (.slice (some ⟨g1,0,none⟩) n n) h.res;have A:=jU _ w.heap.size 1 _ _ (.slice (some ⟨g2,0,none⟩) n n) B;have o:∀b,b≠w.heap.size->((wx.setCell ⟨w.heap.size,0,none⟩ (.slice (some ⟨g1,0,none⟩) n n)).setCell ⟨w.heap.size,1,none⟩ (.slice (some ⟨g2,0,none⟩) n n)).heap[b]? =wx.heap[b]? :=fun b nb=>(kG _ _ _ _ nb).trans (kG _ _ _ _ nb);exact ⟨⟨jH wx gb 0 _ _ _ h.bx,jH wx gb 1 _ _ _ h.bx,jH wx _ 0 _ _ _ h.res,jH wx _ 1 _ _ _ h.res,jS wx _ 0 _ _ h.res,jS wx _ 1 _ _ h.res⟩,A,
  (o _ (Nat.ne_of_gt h.ne.2.1)).trans h.r1,(o _ (Nat.ne_of_gt h.ne.2.2.1)).trans h.r2,h.ne.2.1,h.ne.2.2.1,h.ne.1.1,(h.below.setCell (p:=⟨w.heap.size,0,none⟩) (jB _) _).setCell (p:=⟨w.heap.size,1,none⟩) (jB _) _⟩
theorem x3l {fn:Func} {P:Ending->World->Prop} (p:Tmp) (hr:fn.results= #[.cell p 32]) {tmps:Array Value} {w:World} (g:Nat) (a b:Value)
  (hp:tmps.getD p undef= .pointer (some ⟨g,0,none⟩)) (hg:w.heap[g]? =some (.cells #[a,b] 32 (0,0))) (h:P (.returned (.agg #[a,b])) w):bodyPost Tryz.prog fn P .ret ⟨tmps,[]⟩ w:=by
 have C:=jH w g 0 _ _ _ hg;have B:=jH w g 1 _ _ _ hg;refine bodyPost_ret (a:=⟨tmps,[]⟩) (v:=.agg #[a,b]) ?_ rfl h;have A:tmps[p]?.getD undef= .pointer (some ⟨g,0,none⟩):=by simpa using hp
 simp [results,hr,A,go_sem,C,B]
def y4K (w:World) (g1 g2 gb n:Nat) (f g:Nat->Int) (i:Value) (wr:World):Prop:=∃k,k<=n/\i= .int .i64 k/\Made w g1 g2 gb n (part f n k) (part g n k) wr
theorem x8a (n:Nat) (h1:1<=n) (h8:n<=8) (f g:Nat->Int) (F:Nat) (cap:Array Value) (hF:∀args w,(callFunc F args).run Tryz.prog w= .ok (.enter F args) w) (w:World) (hs:Sides w n f g F cap):
  Calls Tryz.prog 323 #[.int .i64 n,.func (.func F) #[] cap] w fun e w'=>∃g1 g2:Nat,e= .returned (.agg #[.slice (some ⟨g1,0,none⟩) n n,.slice (some ⟨g2,0,none⟩) n n])/\RowAt w' g1 (part f n n)/\RowAt w' g2 (part g n n)/\w.heap.size<g1/\w.heap.size<g2/\g1≠g2/\Below w.heap.size w w':=by
 have b:=yH hs;clear hs;have a:=make_row n h8 f
 go_enter Tryz.func323,Tryz.ntmps323
 go_upto_region 1 with fail
 have W:(w.alloc (.cells #[.slice none 0 0,.slice none 0 0] 32)).heap[w.heap.size]? =some (.cells #[.slice none 0 0,.slice none 0 0] 32 (0,0)):=jE w _;have U:=jA w (.cells #[.slice none 0 0,.slice none 0 0] 32);have I:(w.alloc (.cells #[.slice none 0 0,.slice none 0 0] 32)).heap.size=w.heap.size+1:=by simp
 generalize w.alloc (.cells #[.slice none 0 0,.slice none 0 0] 32)=w1 at *;have G:=yH W;have C:=yH U;have A:=yH I;clear W U I;go_cut [5] (fun s5 wx=>∃g1 g2 B,s5= .pointer (some ⟨B,0,none⟩)/\Made w g1 g2 B n (part f n 0) (part f n 0) wx)
 case first=>
  go_region
  all_goals
   go_wp2_with fail
   go_meet;first
    | exact ⟨w1.heap.size,w1.heap.size+1,w1.heap.size+1+1,rfl,x6v G C A (Or.inr (Or.inr ⟨rfl,rfl⟩)) (Or.inl ⟨rfl,rfl⟩) (Or.inr (Or.inl ⟨rfl,rfl⟩)) (by omega)⟩
    | exact ⟨w1.heap.size,w1.heap.size+1+1,w1.heap.size+1,rfl,x6v G C A (Or.inr (Or.inl ⟨rfl,rfl⟩)) (Or.inl ⟨rfl,rfl⟩) (Or.inr (Or.inr ⟨rfl,rfl⟩)) (by omega)⟩
    | exact ⟨w1.heap.size+1,w1.heap.size,w1.heap.size+1+1,rfl,x6v G C A (Or.inr (Or.inr ⟨rfl,rfl⟩)) (Or.inr (Or.inl ⟨rfl,rfl⟩)) (Or.inl ⟨rfl,rfl⟩) (by omega)⟩
    | exact ⟨w1.heap.size+1,w1.heap.size+1+1,w1.heap.size,rfl,x6v G C A (Or.inl ⟨rfl,rfl⟩) (Or.inr (Or.inl ⟨rfl,rfl⟩)) (Or.inr (Or.inr ⟨rfl,rfl⟩)) (by omega)⟩
    | exact ⟨w1.heap.size+1+1,w1.heap.size,w1.heap.size+1,rfl,x6v G C A (Or.inr (Or.inl ⟨rfl,rfl⟩)) (Or.inr (Or.inr ⟨rfl,rfl⟩)) (Or.inl ⟨rfl,rfl⟩) (by omega)⟩
    | exact ⟨w1.heap.size+1+1,w1.heap.size+1,w1.heap.size,rfl,x6v G C A (Or.inl ⟨rfl,rfl⟩) (Or.inr (Or.inr ⟨rfl,rfl⟩)) (Or.inr (Or.inl ⟨rfl,rfl⟩)) (by omega)⟩
 case rest=>
  obtain ⟨g1,g2,B,rfl,J⟩:=hcut;have HM:=yH (show Made w g1 g2 B n (part f n 0) (part g n 0) _ from by rw [<- y2Y f g n];exact J);clear J G C A a;clear w1;go_wp2_with fail
  go_loopw [13] (fun i wr=>y4K w g1 g2 B n f g i wr) (fun i _=>n - (intOf i).toNat)
  case atStart=>exact ⟨0,by omega,rfl,HM.out⟩
  case round=>
   obtain ⟨k,hk,rfl,J⟩:=hrel;clear HM;have HM:=yH J;clear J;by_cases hlt:k<n
   ·have z:=yH (show ∀w',Made w g1 g2 B n (part f n k) (part g n k) w'->Calls Tryz.prog F (#[.int .i64 k]++cap) w' fun e K=>e= .returned (.tuple #[.int .i64 (f k),.int .i64 (g k)])/\Made w g1 g2 B n (part f n k) (part g n k) K from fun w' hw'=>
     (b.out k w' hlt hw'.below).mono (by rintro e K ⟨h1,j,rfl⟩;exact ⟨h1,hw'.later (Below.drewN (jC _ _) j)⟩))
    have R:=yH (show ∀w',Made w g1 g2 B n (part f n k) (part g n k) w'->x8Z g1 g2 B n k _ _ (.int .i64 (f k)) w' from fun w' hw'=>hw'.cells (by rw [x3k];exact hlt) (by rw [x3k];exact hlt) _);have m:=yH (show ∀w',Made w g1 g2 B n (part f n k) (part g n k) w'->_ from fun w' hw'=>hw'.set);have HD:=yH (HM.later (jC _ _).drew);obtain ⟨Y,h,p,q,d,a5,t,v,s⟩:=R.out _ HM;generalize (part f n k).getD k 0=x at *;generalize (part g n k).getD k 0=y at *;have i1:(0:Int)<=k/\(k:Int)<n:=by omega
    go_wp2_with fail
    go_region_law (go_simp;refine (z.out _ (by first | exact HM.out | exact HD.out)).mono ?_;rintro e u ⟨rfl,E⟩;have N:=yH E;obtain ⟨y0,y1,o,Z,r,y5,l,X,c⟩:=R.out _ E;clear E)
    all_goals
     have H:=m.out _ N;generalize (u.setCell ⟨g1,k,none⟩ (.int .i64 (f k))).setCell ⟨g2,k,none⟩ (.int .i64 (g k))=w6 at *;have HM6:=yH H;clear H y0 y1 o Z r y5 l X c Y h p q d a5 t v s;go_wp2_with fail
     go_roundw
     case rel=>exact ⟨k+1,by omega,by go_num,HM6.out⟩
     case measure=>simp [intOf];omega
   ·obtain rfl:k=n:=by omega
    obtain ⟨Q,L,M⟩:=HM.done;have P:=yH L;have O:=yH M;obtain ⟨c0,c1,c2,c3,c4,c5⟩:=Q;clear L M;go_wp2_with fail
    generalize (wr.setCell ⟨w.heap.size,0,none⟩ (.slice (some ⟨g1,0,none⟩) k k)).setCell ⟨w.heap.size,1,none⟩ (.slice (some ⟨g2,0,none⟩) k k)=w9 at *;exact x3l 4 rfl w.heap.size _ _ rfl P ⟨g1,g2,rfl,O.out⟩
theorem y7J (B:Nat) (p:Option Addr) (n c:Nat) (R:List Int) (k:Nat) (hk:k<n) (w:World) (hB:w.cell? ⟨B,0,none⟩=some (.slice p n c)) (h:Ints w p n c R):
  Calls Tryz.prog 325 #[.int .i64 k,.pointer (some ⟨B,0,none⟩)] w fun e w'=>e= .returned (.tuple #[.int .i64 (R.getD k 0),.int .i64 (R.getD k 0)])/\∃j,w'=w.drewN j:=by
 obtain ⟨E,C,rfl,A⟩:=h.cell k hk;clear h;generalize R.getD k 0=xR at *;have b1:(0:Int)<=k/\(k:Int)<n:=by omega
 go_enter Tryz.func325,Tryz.ntmps325
 go_wp2_with fail
 go_quiet (fail)
 go_wp2_with fail
 go_ret2;exact ⟨rfl,_,rfl⟩
def Bx (w:World) (g:Nat) (a b:Value):Prop:=w.heap[g]? =some (.cells #[a,b] 32 (0,0))
theorem Bx.facts {w:World} {g:Nat} {a b:Value} (h:Bx w g a b):w.cell? ⟨g,0,none⟩=some a/\w.cell? ⟨g,1,none⟩=some b/\w.frozen? ⟨g,0,none⟩=false/\w.frozen? ⟨g,1,none⟩=false:=
 ⟨jH w g 0 _ _ _ h,jH w g 1 _ _ _ h,jS w g 0 _ _ h,jS w g 1 _ _ h⟩
theorem Bx.set {w:World} {g:Nat} {a b:Value} (h:Bx w g a b) (x y:Value):Bx ((w.setCell ⟨g,0,none⟩ x).setCell ⟨g,1,none⟩ y) g x y:=
 jU _ g 1 _ _ y (jU w g 0 _ _ x h)
theorem Bx.lt {w:World} {g:Nat} {a b:Value} (h:Bx w g a b):g<w.heap.size:=(yL h)
theorem Bx.later {w w':World} {g:Nat} {a b:Value} (h:Bx w g a b) (hb:Below w.heap.size w w'):Bx w' g a b:=(hb.block _ h.lt).trans h
theorem Bx.fresh (w:World) (a b:Value):Bx (w.alloc (.cells #[a,b] 32)) w.heap.size a b:=jE w _
theorem RowAt.kept {w:World} {g k:Nat} {L:List Int} (h:RowAt w g L) (hk:g≠k) (x y:Value):RowAt ((w.setCell ⟨k,0,none⟩ x).setCell ⟨k,1,none⟩ y) g L:=
 (kG _ _ _ _ hk).trans ((kG _ _ _ _ hk).trans h)
theorem part_ok {f:Nat->Int} {n k:Nat} (h:∀i,i<n-> -9223372036854775808<=f i/\f i<=9223372036854775807):∀x∈part f n k,-9223372036854775808<=x/\x<=9223372036854775807:=by
 intro x hx;simp only [part,kJ,List.mem_range] at hx;obtain ⟨i,A,rfl⟩:=hx;split
 ·exact h i A
 ·omega
def x9J (w:World) (f g:Nat->Int) (n:Nat) (v:Value) (w':World):Prop:=
 ∃g1 g2:Nat,v= .agg #[.slice (some ⟨g1,0,none⟩) n n,.slice (some ⟨g2,0,none⟩) n n]/\Ints w' (some ⟨g1,0,none⟩) n n (part f n n)/\Ints w' (some ⟨g2,0,none⟩) n n (part g n n)/\Below w.heap.size w w'
theorem RowAt.part {w:World} {g n:Nat} {f:Nat->Int} (h:RowAt w g (part f n n)) (hf:∀i,i<n-> -9223372036854775808<=f i/\f i<=9223372036854775807):Ints w (some ⟨g,0,none⟩) n n (part f n n):=by
 have:=h.ints (part_ok hf);rw [x3k] at this;exact this
theorem x5H {w0 w w':World} {R g1 g2 n:Nat} {a b:Value} {f g:Nat->Int} (hx:Bx w R a b) (hR:w0.heap.size<=R) (hw:Below w0.heap.size w0 w) (hb:Below w.heap.size w w')
  (h1:RowAt w' g1 (part f n n)) (h2:RowAt w' g2 (part g n n)) (l1:w.heap.size<g1) (l2:w.heap.size<g2) (hf:∀i,i<n-> -9223372036854775808<=f i/\f i<=9223372036854775807) (hg:∀i,i<n-> -9223372036854775808<=g i/\g i<=9223372036854775807):
  Bx ((w'.setCell ⟨R,0,none⟩ (.slice (some ⟨g1,0,none⟩) n n)).setCell ⟨R,1,none⟩ (.slice (some ⟨g2,0,none⟩) n n)) R (.slice (some ⟨g1,0,none⟩) n n) (.slice (some ⟨g2,0,none⟩) n n)/\
  x9J w0 f g n (.agg #[.slice (some ⟨g1,0,none⟩) n n,.slice (some ⟨g2,0,none⟩) n n]) ((w'.setCell ⟨R,0,none⟩ (.slice (some ⟨g1,0,none⟩) n n)).setCell ⟨R,1,none⟩ (.slice (some ⟨g2,0,none⟩) n n)):=by
 have A:=hx.lt;refine ⟨(hx.later hb).set _ _,g1,g2,rfl,(h1.kept (by omega) _ _).part hf,(h2.kept (by omega) _ _).part hg,?_⟩;exact ((hw.trans (hb.mono hw.size)).setCell (p:=⟨R,0,none⟩) hR _).setCell (p:=⟨R,1,none⟩) hR _
theorem y5X (p:Option Addr) (n c:Nat) (R:List Int) (h:1<=n/\n<=8) (w:World) (hR:Ints w p n c R):
  Calls Tryz.prog 300 #[.slice p n c] w fun e w'=>∃v,e= .returned v/\x9J w (fun k=>R.getD k 0) (fun k=>R.getD k 0) n v w':=by
 have G:=x3W (n:Int);rw [kF (show 1<=(n:Int)/\(n:Int)<=8 by omega)] at G;have U:=yH G;have L:=yH hR;clear G
 go_enter Tryz.func300,Tryz.ntmps300
 go_upto_region 1 with fail
 have I:=boxed w (.slice p n c) 24;have s0:(w.alloc (.cells #[.slice p n c] 24)).heap.size=w.heap.size+1:=by simp
 have b0:=jA w (.cells #[.slice p n c] 24);generalize w.alloc (.cells #[.slice p n c] 24)=w0 at *;have C:=Bx.fresh w0 (.slice none 0 0) (.slice none 0 0);have b1:=jA w0 (.cells #[.slice none 0 0,.slice none 0 0] 32);rw [s0] at C;generalize w0.alloc (.cells #[.slice none 0 0,.slice none 0 0] 32)=w1 at *;have X:=yH C;have B:=(b1.cell (p:=⟨w.heap.size,0,none⟩) (by show w.heap.size<_;omega)).trans I;have E:=yH (b0.trans (b1.mono (by omega)));clear I s0 b0 C b1;clear w0;have Y:=yH (x8a n h.1 h.2 (fun k=>R.getD k 0) (fun k=>R.getD k 0) 325 #[.pointer (some ⟨w.heap.size,0,none⟩)] (x4Q Tryz.func325 (by kernel_rfl) rfl) w1 (fun k w'' hk A=>y7J w.heap.size p n c R k hk w'' ((A.cell (p:=⟨w.heap.size,0,none⟩) (by have:=X.lt;show w.heap.size<_;omega)).trans B) ((hR.later E).later A)));clear h hR;go_wp2_with ((go_at_call 174;refine (U.out _).mono ?_;rintro _ w' ⟨rfl,rfl⟩))
 refine Y.mono ?_;rintro _ W ⟨P,Q,rfl,K,M,H,J,O,A⟩;obtain ⟨b,a,Z,d⟩:=(X.later A).facts;have N:=yH (x5H X (Nat.le_succ _) E A K M H J (fun _ hk=>L.get _ hk) (fun _ hk=>L.get _ hk));clear K M H J O A X E B;go_wp2_with fail
 generalize (W.setCell ⟨w.heap.size+1,0,none⟩ (.slice (some ⟨P,0,none⟩) n n)).setCell ⟨w.heap.size+1,1,none⟩ (.slice (some ⟨Q,0,none⟩) n n)=w9 at *;exact x3l 2 rfl (w.heap.size+1) _ _ rfl N.1 ⟨_,rfl,N.2⟩
theorem y4L (B C:Nat) (p q r s:Option Addr) (n c e f g:Nat) (R S T U:List Int) (k:Nat) (hk:k<n) (w:World) (hB:BoxAt w B p n c q n e) (hC:BoxAt w C r n f s n g) (h1:Ints w p n c R) (h2:Ints w q n e S) (h3:Ints w r n f T) (h4:Ints w s n g U):
  Calls Tryz.prog 324 #[.int .i64 k,.pointer (some ⟨B,0,none⟩),.pointer (some ⟨C,0,none⟩)] w fun e w'=>e= .returned (.tuple #[.int .i64 (min (R.getD k 0) (T.getD k 0)),.int .i64 (max (S.getD k 0) (U.getD k 0))])/\∃j,w'=w.drewN j:=by
 obtain ⟨I,J⟩:=hB;obtain ⟨E,K⟩:=hC;obtain ⟨P,O,rfl,H⟩:=h1.cell k hk;obtain ⟨Q,N,rfl,L⟩:=h2.cell k hk;obtain ⟨M,W,rfl,A⟩:=h3.cell k hk;obtain ⟨X,Y,rfl,G⟩:=h4.cell k hk;clear h1 h2 h3 h4;generalize R.getD k 0=xR at *;generalize S.getD k 0=xS at *;generalize T.getD k 0=xT at *;generalize U.getD k 0=xU at *;have b1:(0:Int)<=k/\(k:Int)<n:=by omega
 go_enter Tryz.func324,Tryz.ntmps324
 go_wp2_with fail
 go_quiet (fail)
 go_wp2_with fail
 go_ret2;exact ⟨rfl,_,rfl⟩
theorem y2Z {x y:Int} (hx: -9223372036854775808<=x/\x<=9223372036854775807) (hy: -9223372036854775808<=y/\y<=9223372036854775807): -9223372036854775808<=max x y/\max x y<=9223372036854775807:=by omega
theorem y2a {x y:Int} (hx: -9223372036854775808<=x/\x<=9223372036854775807) (hy: -9223372036854775808<=y/\y<=9223372036854775807): -9223372036854775808<=min x y/\min x y<=9223372036854775807:=by omega
end
end Go.Proofs.YtenenciaggbjnaaGreat
