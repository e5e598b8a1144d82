/- KdPut, KtSizes, KtPages, KdPuts, KlAliveMath, NdRead, NdBack, NdForth, NdNums, WpRound, PgRound, GenOps. -/
import Derived.RangeFuncCalls
import Derived.RangeFuncNested
import Derived.OrdersIn
import Derived.OrdersHeld
import Derived.Deep.RegionHeld3
import Derived.TacticsIn
import Derived.Sort.MapsRangeIn
import Derived.RangeFuncBox
import Derived.OwnWalkIn
import Derived.Sort.CutIn
import Derived.Deep.MidRow
import Derived.Test.YtenenciaggbjnaaGreatP15
set_option maxRecDepth 100000
set_option maxHeartbeats 8000000
set_option linter.all false
namespace Go.Proofs.YtenenciaggbjnaaGreat
namespace Kt
open Go.RowKit Nd Dk Pg
theorem x27 (w:World) (A B C:Obj):∃W,((w.alloc A).alloc B).alloc C=W/\W.heap[w.heap.size]? =some A/\W.heap[w.heap.size+1]? =some B/\W.heap[w.heap.size+2]? =some C/\Below w.heap.size w W:=by
 have M:=jE w A;have I:=jE (w.alloc A) B;have J:=jE ((w.alloc A).alloc B) C;have G:(w.alloc A).heap.size=w.heap.size+1:=by simp
 have L:((w.alloc A).alloc B).heap.size=w.heap.size+2:=by simp
 have b1:=jA w A;have H:Below (w.alloc A).heap.size (w.alloc A) ((w.alloc A).alloc B):=jA _ _;have K:Below ((w.alloc A).alloc B).heap.size ((w.alloc A).alloc B) (((w.alloc A).alloc B).alloc C):=jA _ _;have E:=H.trans (K.mono H.size);rw [G] at I;rw [L] at J;refine ⟨_,rfl,?_,?_,J,b1.trans (E.mono b1.size)⟩
 ·exact (E.block _ (by rw [G];omega)).trans M
 ·exact (K.block _ (by rw [L];omega)).trans I
theorem x47 {w:World} {g:Nat} {x y z:Value} {t:TypeId} (h:w.heap[g]? =some (.cells #[x,y,z] t (0,0))):w.rangeAt g 0 [x,y,z]:=fun j v hv=>by
 rw [Nat.zero_add,jH w g j _ _ _ h]
 simpa using hv
def y4Q (w:World) (g:Nat) (Q:Nat->Prop) (s:Pg.S) (N:PN) (e:Ending) (w':World):Prop:=
 ∃kd:Kd,e= .returned (.agg kd.cells.toArray)/\kd.pk=N.says/\kd.Ok w'/\Fsh w kd/\(∃Q',PL w' g Q' (s.put N.bytes)/\(∀k,Q' k->Q k\/w.heap.size<=k)/\Aw Q' kd)/\Only Q w w'/\Mst g w w'
theorem x7l (kind:Nat) (hkd:kind<256) (p:Option Addr) (n c:Nat) (q:Option Addr) (m f:Nat) (E:List En) (K:List Kd) (d:Int) (w:World) (hE:EntsIn w p n c E) (hK:KidsIn w q m f K) {g:Nat} {Q:Nat->Prop} {s:Pg.S} (hp:PL w g Q s) (hsl:s.W.length<100000) (hgood:(pnOf kind E K).right d=true/\(pnOf kind E K).size<=1048576):
  Calls Tryz.prog 133 #[.agg #[.pointer (some ⟨g,0,none⟩),.int .i64 d],.agg #[.int .u8 kind,.slice p n c,.slice q m f]] w (y4Q w g Q s (pnOf kind E K)):=by
 obtain ⟨W,hW,r0,r1,r2,b1⟩:=x27 w (.cells #[.pointer (some ⟨g,0,none⟩),.int .i64 d] 107) (.cells #[.int .u8 kind,.slice p n c,.slice q m f] 97) (.cells kd0.cells.toArray 34);have b:=yH (show ∀k,Q k->k<w.heap.size from hp.lt);have A0:g<w.heap.size:=hp.lt g (PL.mine hp);have O:=yH A0;clear A0;have z:=yH (y6R kind hkd p n c q m f E K d W (hE.later b1) (hK.later b1) (hp.keep (fun _=>False) (Only.of_below _ b1) (fun _ _ e=>e)) hsl);generalize pnOf kind E K=N at *;have HG:=yH hgood;have S2:=yH (show w.heap.size+3<=W.heap.size from (yL r2));have U:=yH b1;obtain ⟨dk,j,X⟩:=UKd;obtain ⟨dn,i,P⟩:=UNode;have A1:=yH j;have R:=yH X;have A5:=yH i;have t:=yH P;have HZ:=yH (zero_of_info kz);have AN:=HZ.1;clear hp hsl hgood hE hK j X i P b1
 go_enter Tryz.func133,Tryz.ntmps133
 go_upto_region 1 with fail
 clear hW;have c0:=jH W w.heap.size 0 _ _ _ r0;have c1:=jH W w.heap.size 1 _ _ _ r0;have R1:=yH (x47 r1);have R2:=yH r2;clear r0 r1 r2;go_upto_region 2 with (first
  | (refine jK (by rfl) 97 _ (by rfl) (w.heap.size+1) 0 (by rfl) [.int .u8 kind,.slice p n c,.slice q m f] dn R1 A5 t SNode ?_)
  | (go_at_call 195;refine z.mono ?_;rintro e H h3;obtain ⟨-,M,rfl,o,Z,A2,J,y,Y⟩:=(h3.resolve_right (fun h=>absurd HG.out h.1));have AA:=yH o;have I:=yH Z;have l:=yH A2;have u:=yH Y;clear Y;have A4:=yH J;have G:=yH y;have C:=yH (Kd.cells_length Z.len);clear h3 o Z A2 J y)
  | (refine jL (by rfl) 34 (.tmp 5) _ (by rfl) H.heap.size M.cells.toArray (by rfl) (by rfl) _ _ (jE H _) (by rw [jF,C.out];exact SKd) (by simp only [jF,C.out,x02]) (jN Kd.one) ?_))
 have a:Below H.heap.size H ((H.alloc (.cells kd0.cells.toArray 34)).setRow H.heap.size M.cells.toArray):=Below.setRow (jA _ _) (jB _) _;have v:=jT _ H.heap.size _ M.cells.toArray _ _ (jE H (.cells kd0.cells.toArray 34));generalize (H.alloc (.cells kd0.cells.toArray 34)).setRow H.heap.size M.cells.toArray=w4 at *;have AC:=yH (x0E v);have R3:=yH ((G.block _ (yL R2) (fun h=>by have:=b.out _ h;omega)).trans R2.out);have R4:=yH (yK a R3);have B4:=yH a;clear a v c0 c1;go_wp2_with (first
  | (refine jK (by rfl) 34 _ (by rfl) H.heap.size 0 (by rfl) M.cells dk AC A1 R (by rw [C.out];exact SKd) ?_)
  | (refine jL (by rfl) 34 _ _ (by rfl) (w.heap.size+2) M.cells.toArray (by rfl) (by rfl) _ _ R4 (by rw [jF,C.out];exact SKd) (by simp only [jF,C.out,x02]) (jN Kd.one) ?_))
 refine x1U 4 (by kernel_rfl) (w.heap.size+2) _ M.cells.toArray A1 R (by rw [jF,C.out];exact SKd) (by rfl) (jT _ _ _ _ _ _ R4) ?_;have s3:=G.size;have s2:=S2.out;have L:∀r∈M.rows,r.Ok (w4.setRow (w.heap.size+2) M.cells.toArray):=fun r hr=>Nd.rw_keep ((x06 I r hr).later B4.out) (fun x hx hR=>setRow_other _ _ _ _ (by have:=l.out r hr x hx hR;omega));have B:=x08 w4 (w.heap.size+2) M.cells.toArray;have A:Only (fun _=>False) H w4:=Only.of_below _ B4;obtain ⟨Q6,A7,J,A8⟩:=A4.out;refine ⟨M,rfl,AA.out,⟨I.len,I.ok,L _ (by simp [Kd.rows]),L _ (by simp [Kd.rows]),L _ (by simp [Kd.rows]),I.live,I.size⟩,fun r hr x hx hR=>by have:=l.out r hr x hx hR;omega,⟨Q6,(A7.keep _ A (fun _ _ e=>e)).keep _ B (fun k hk e=>?_),fun k hk=>(J k hk).imp id (fun h=>by omega),A8⟩,?_,u.keep (U.block g O) ((B.block g (jO O (jJ U.size (jJ s3 A.size))) (by have:=O.out;omega)).trans (A.block g (jO O (jJ U.size s3)) (fun h=>h)))⟩
 ·rcases J k hk with h | h
  ·have:=b.out k h;omega
  ·omega
 ·refine ⟨B.os.trans (A.os.trans (G.os.trans U.os)),B.tape.trans (A.tape.trans (G.tape.trans U.tape)),B.output.trans (A.output.trans (G.output.trans U.output)),jJ U.size (jJ s3 (jJ A.size B.size)),fun k hk hn=>?_⟩;rw [B.block k (by have:=A.size;omega) (by omega),A.block k (by omega) (fun h=>h),G.block k (by omega) hn];exact U.block k hk
end Kt
namespace Kt
open Go.RowKit
theorem x2o:∀(n:Nat) (L:List (List Int)) (t:Nat),L.length<=n->(layP n L t).size=L.length
 | 0,L,t,h=>by
  obtain rfl:L=[]:=jZ.1 (by omega)
  rfl
 | n+1,L,t,h=>by
  rw [layP]
  by_cases hL:L=[]
  ·rw [if_pos hL,hL]
   rfl
  ·rw [if_neg hL]
   have hp:=kP.2 hL
   have l1:((sortP (t%(L.headD []).length) L).take (L.length/2)).length=L.length/2:=by rw [kX,x0I];omega
   have A:((sortP (t%(L.headD []).length) L).drop (L.length/2+1)).length=L.length - (L.length/2+1):=by rw [kY,x0I]
   show 1+(layP n _ (t+1)).size+(layP n _ (t+1)).size=_
   rw [x2o n _ (t+1) (by omega),x2o n _ (t+1) (by omega),l1,A]
   omega
theorem x1X (L:List (List Int)) (t:Nat):(lay L t).size=L.length:=x2o _ L t (jB _)
theorem x1c:∀u:T,u.all.length<=u.size
 | .nil=>jB _
 | .fork p v l r=>by
  have h1:=x1c l
  have h2:=x1c r
  unfold T.all T.size
  cases v<;>simp<;>omega
theorem x4e (u:T) (t:Nat):(light u t).size<=u.size:=by
 cases u with
 | nil=>exact jB _
 | fork p v l r=>
  unfold light;simp only;split
  ·rw [x1X];exact x1c _
  ·exact jB _
theorem x28:∀(u:T) (p:List Int) (t:Nat),(x0A u p t).1.size<=u.size+1
 | .nil,p,t=>by
  unfold x0A
  simp [T.size]
 | .fork q v l r,p,t=>by
  have h1:=x28 l p (t+1)
  have h2:=x28 r p (t+1)
  unfold x0A
  split
  ·have h:=x4e (.fork q true l r) t
   simp only [T.size] at h ⊢
   omega
  ·split
   ·have h:=x4e (.fork q v (x0A l p (t+1)).1 r) t
    simp only [T.size] at h ⊢
    omega
   ·have h:=x4e (.fork q v l (x0A r p (t+1)).1) t
    simp only [T.size] at h ⊢
    omega
theorem x12:∀(u:T) (p:List Int) (t:Nat),(x0B u p t).1.size=u.size
 | .nil,p,t=>rfl
 | .fork q v l r,p,t=>by
  have h1:=x12 l p (t+1)
  have h2:=x12 r p (t+1)
  unfold x0B
  split
  ·rfl
  ·split
   ·simp only [T.size]
    omega
   ·simp only [T.size]
    omega
end Kt
namespace Kt
open Go.RowKit Nd Pg
def T.pages:T->List (List Nat)
 | .nil=>[]
 | .fork p v l r=>l.pages++r.pages++[(forkN p v l.kid r.kid).bytes]
theorem x0P:∀u:T,u.pages.length=u.size
 | .nil=>rfl
 | .fork p v l r=>by
  have h1:=x0P l
  have h2:=x0P r
  unfold T.pages T.size
  simp only [jQ,kI,List.length_nil]
  omega
theorem x0U (p:List Int) (v:Bool) (a b:PK):(forkN p v a b).size=1+(a.size+b.size):=by
 show ((1:Nat):Int)+(a.size+(b.size+0))=_
 omega
theorem x0W:∀u:T,u.size<=1048576->u.kid.size=u.size
 | .nil,_=>rfl
 | .fork p v l r,h=>by
  have hz:(T.fork p v l r).size=1+l.size+r.size:=rfl
  have h1:=x0W l (by omega)
  have h2:=x0W r (by omega)
  have hf:=x0U p v l.kid r.kid
  unfold T.kid
  rw [if_pos (by omega)]
  show (forkN p v l.kid r.kid).size=_
  omega
def T.lives:T->Nat
 | .nil=>0
 | .fork _ v l r=>(if v then 1 else 0)+l.lives+r.lives
theorem x3H:∀u:T,u.size<=1048576->u.kid.live=u.lives
 | .nil,_=>rfl
 | .fork p v l r,h=>by
  have hz:(T.fork p v l r).size=1+l.size+r.size:=rfl
  have h1:=x3H l (by omega)
  have h2:=x3H r (by omega)
  have h3:=x0W l (by omega)
  have h4:=x0W r (by omega)
  have hf:=x0U p v l.kid r.kid
  unfold T.kid
  rw [if_pos (by omega)]
  show ((if v then (1:Int) else 0)+0)+(l.kid.live+(r.kid.live+0))=_
  unfold T.lives
  cases v<;>simp<;>omega
theorem x2p:∀u:T,u.lives=u.all.length
 | .nil=>rfl
 | .fork p v l r=>by
  have h1:=x2p l
  have h2:=x2p r
  unfold T.lives T.all
  cases v<;>simp<;>omega
theorem y2m {d:Nat} (hd:1<=d/\d<=8) {p:List Int} {v:Bool} {l r:T} (h:(T.fork p v l r).dims d) (hs:(T.fork p v l r).size<=1048576):(forkN p v l.kid r.kid).right d=true/\(forkN p v l.kid r.kid).size<=1048576:=by
 have E:(T.fork p v l r).size=1+l.size+r.size:=rfl;have H:=x0U p v l.kid r.kid;have C:=x0W l (by omega);have G:=x0W r (by omega);have A:=x1V hd l h.2.1;have B:=x1V hd r h.2.2;exact ⟨x1b hd h.1 A.1 B.1 A.2 B.2,by omega⟩
theorem y0Q {p:List Int} {v:Bool} {l r:T} (hs:(T.fork p v l r).size<=1048576):(T.fork p v l r).kid=(forkN p v l.kid r.kid).says:=by
 have B:(T.fork p v l r).size=1+l.size+r.size:=rfl;have E:=x0U p v l.kid r.kid;have A:=x0W l (by omega);have C:=x0W r (by omega);show (if (forkN p v l.kid r.kid).size<=1048576 then (forkN p v l.kid r.kid).says else PK.none)=_
 rw [if_pos (by omega)]
end Kt
namespace Kt
open Go.RowKit Nd Dk Pg
def puts (s:Pg.S) (L:List (List Nat)):Pg.S:=L.foldl Pg.S.put s
theorem x13 (s:Pg.S) (L M:List (List Nat)):puts s (L++M)=puts (puts s L) M:=List.foldl_append ..
theorem y4R (s:Pg.S) (b:List Nat):(s.put b).W.length<=s.W.length+1:=by
 unfold Pg.S.put putW;simp only;split<;>simp
theorem x1l:∀(L:List (List Nat)) (s:Pg.S),(puts s L).W.length<=s.W.length+L.length
 |[],s=>jB _
 | b::L,s=>by
  have h1:=y4R s b
  have h2:=x1l L (s.put b)
  unfold puts at h2 ⊢
  rw [List.foldl_cons,kI]
  omega
theorem y1C (p:List Int) (v:Bool) (l r:T) (s:Pg.S):puts s (T.fork p v l r).pages=(puts (puts s l.pages) r.pages).put (forkN p v l.kid r.kid).bytes:=by
 show puts s (l.pages++r.pages++[(forkN p v l.kid r.kid).bytes])=_
 rw [x13,x13];rfl
structure LayR (w w':World) (gs:Nat) (Q Q':Nat->Prop) (s':Pg.S) (g o n:Nat):Prop where
 only:Only (fun k=>Q k\/k=g) w w'
 cell:∀i,i<o\/o+n<=i->w'.cell? ⟨g,i,none⟩=w.cell? ⟨g,i,none⟩
 frozen:∀i,w'.frozen? ⟨g,i,none⟩=w.frozen? ⟨g,i,none⟩
 st:PL w' gs Q' s'
 new:∀k,Q' k->Q k\/w.heap.size<=k
theorem LayR.trans {w a b:World} {gs g o n o1 n1 o2 n2:Nat} {Q Q1 Q2:Nat->Prop} {s1 s2:Pg.S} (h1:LayR w a gs Q Q1 s1 g o1 n1) (h2:LayR a b gs Q1 Q2 s2 g o2 n2) (i1:o<=o1/\o1+n1<=o+n) (i2:o<=o2/\o2+n2<=o+n):LayR w b gs Q Q2 s2 g o n where
 only:=⟨h2.only.os.trans h1.only.os,h2.only.tape.trans h1.only.tape,h2.only.output.trans h1.only.output,jJ h1.only.size h2.only.size,fun k hk hn=>by
  refine (h2.only.block k (jO hk h1.only.size) (fun h=>?_)).trans (h1.only.block k hk hn)
  rcases h with h | h
  ·rcases h1.new k h with h | h
   ·exact hn (Or.inl h)
   ·omega
  ·exact hn (Or.inr h)⟩
 cell i hi:=(h2.cell i (by omega)).trans (h1.cell i (by omega))
 frozen i:=(h2.frozen i).trans (h1.frozen i)
 st:=h2.st
 new k hk:=by
  rcases h2.new k hk with h | h
  ·exact h1.new k h
  ·exact Or.inr (jJ h1.only.size h)
theorem LayR.of_below {w a:World} {gs g o n:Nat} {Q:Nat->Prop} {s:Pg.S} (hp:PL w gs Q s) (hb:Below w.heap.size w a) (hg:g<w.heap.size):LayR w a gs Q Q s g o n where
 only:=Only.of_below _ hb
 cell i _:=jX (hb.block g hg)
 frozen i:=by unfold World.frozen?;rw [hb.block g hg]
 st:=hp.keep (fun _=>False) (Only.of_below _ hb) (fun _ _ e=>e)
 new _ hk:=Or.inl hk
theorem LayR.of_turned {w a:World} {gs g o n:Nat} {Q:Nat->Prop} {s:Pg.S} (hp:PL w gs Q s) (ht:Turned g o n w a) (hg:g<w.heap.size) (hq:¬Q g):LayR w a gs Q Q s g o n where
 only:=ht.only.mono fun k hk=>Or.inr hk
 cell i hi:=ht.cell ⟨g,i,none⟩ (Or.inr hi) hg
 frozen i:=ht.frozen ⟨g,i,none⟩ hg
 st:=hp.keep _ ht.only (fun k hk e=>hq (e▸hk))
 new _ hk:=Or.inl hk
theorem LayR.of_put {w a:World} {gs g o n:Nat} {Q Q':Nat->Prop} {s':Pg.S} (hst:PL a gs Q' s') (hn:∀k,Q' k->Q k\/w.heap.size<=k) (ho:Only Q w a) (hg:g<w.heap.size) (hq:¬Q g):LayR w a gs Q Q' s' g o n where
 only:=ho.mono fun k hk=>Or.inl hk
 cell i _:=jX (ho.block g hg hq)
 frozen i:=by unfold World.frozen?;rw [ho.block g hg hq]
 st:=hst
 new:=hn
theorem LayR.set {w a:World} {gs g o n b:Nat} {Q Q':Nat->Prop} {s':Pg.S} (h:LayR w a gs Q Q' s' g o n) (hb:w.heap.size<=b) (hg:g<w.heap.size) (hq:¬Q' b) (cs:Array Value):LayR w (a.setRow b cs) gs Q Q' s' g o n where
 only:=⟨(x08 a b cs).os.trans h.only.os,(x08 a b cs).tape.trans h.only.tape,(x08 a b cs).output.trans h.only.output,jJ h.only.size (x08 a b cs).size,fun k hk hn=>((x08 a b cs).block k (jO hk h.only.size) (by omega)).trans (h.only.block k hk hn)⟩
 cell i hi:=(jX ((x08 a b cs).block g (jO hg h.only.size) (by omega))).trans (h.cell i hi)
 frozen i:=(show (a.setRow b cs).frozen? ⟨g,i,none⟩=a.frozen? ⟨g,i,none⟩ by unfold World.frozen?;rw [(x08 a b cs).block g (jO hg h.only.size) (by omega)]).trans (h.frozen i)
 st:=h.st.keep _ (x08 a b cs) (fun k hk e=>hq (e▸hk))
 new:=h.new
structure LyS (w x:World) (gs:Nat) (Q Qx:Nat->Prop) (s:Pg.S) (g o n m:Nat) (bs:List Nat) (ks:List Kd):Prop where
 r:LayR w x gs Q Qx s g o n
 mid:x.cell? ⟨g,o+m,none⟩=w.cell? ⟨g,o+m,none⟩
 box:∀b∈bs,w.heap.size<=b/\b<x.heap.size/\¬Qx b
 kid:∀k∈ks,k.Ok x/\Aw Qx k/\∀r∈k.rows,∀y,r.p=some y->r.R≠[]->w.heap.size<=y.block/\y.block∉bs
section
variable {w x x':World} {gs g o n m:Nat} {Q Qx Q':Nat->Prop} {s s':Pg.S} {bs:List Nat} {ks:List Kd}
theorem LyS.start (hp:PL w gs Q s) (hg:g<w.heap.size):LyS w w.drew gs Q Q s g o n m [] []:=
 ⟨LayR.of_below hp (jC _ _).drew hg,rfl,(fun b hb=>by cases hb),(fun k hk=>by cases hk)⟩
theorem LyS.glt (h:LyS w x gs Q Qx s g o n m bs ks) (hg:g<w.heap.size):g<x.heap.size:=jO hg h.r.only.size
theorem LyS.alloc (h:LyS w x gs Q Qx s g o n m bs ks) (hg:g<w.heap.size) (O:Obj):LyS w (x.alloc O) gs Q Qx s g o n m (x.heap.size::bs) ks:=by
 have E:=jA x O;have H:(x.alloc O).heap.size=x.heap.size+1:=by simp
 refine ⟨h.r.trans (o2:=o) (n2:=n) (LayR.of_below h.r.st E (h.glt hg)) ⟨jB _,jB _⟩ ⟨jB _,jB _⟩,(jX (E.block g (h.glt hg))).trans h.mid,fun b A=>?_,fun k hk=>?_⟩
 ·rcases jW.1 A with rfl | A
  ·exact ⟨h.r.only.size,by omega,fun e=>by have:=h.r.st.lt _ e;omega⟩
  ·obtain ⟨C,G,B⟩:=h.box b A;exact ⟨C,by omega,B⟩
 ·obtain ⟨C,G,B⟩:=h.kid k hk;refine ⟨C.later E,G,fun r hr y hy hR=>⟨(B r hr y hy hR).1,fun e=>?_⟩⟩;rcases jW.1 e with e | e
  ·have:=rw_lt (x06 C r hr) y hy hR;omega
  ·exact (B r hr y hy hR).2 e
theorem LyS.call {kd:Kd} {o1 n1:Nat} (h:LyS w x gs Q Qx s g o n m bs ks) (hg:g<w.heap.size) (hc:LayR x x' gs Qx Q' s' g o1 n1) (i1:o<=o1/\o1+n1<=o+n) (im:o+m<o1\/o1+n1<=o+m) (hk:kd.Ok x') (hf:Fsh x kd) (ha:Aw Q' kd) (hgk:∀k∈ks,∀r∈k.rows,∀y,r.p=some y->r.R≠[]->y.block≠g):
  LyS w x' gs Q Q' s' g o n m bs (kd::ks)/\∀b∈bs,x'.heap[b]? =x.heap[b]? :=by
 have H:=hc.only.size;refine ⟨⟨h.r.trans hc ⟨jB _,jB _⟩ i1,(hc.cell (o+m) im).trans h.mid,fun b hb=>?_,fun k B=>?_⟩,fun b hb=>?_⟩
 ·obtain ⟨A,E,G⟩:=h.box b hb;exact ⟨A,by omega,fun e=>(hc.new b e).elim G (fun e=>by omega)⟩
 ·rcases jW.1 B with rfl | B
  ·refine ⟨hk,ha,fun r hr y hy hR=>⟨jJ h.r.only.size (hf r hr y hy hR),fun e=>?_⟩⟩;have E:=(h.box _ e).2.1;have A:=hf r hr y hy hR;omega
  ·obtain ⟨A,E,G⟩:=h.kid k B;have C:∀r∈k.rows,r.Ok x':=fun r hr=>Nd.rw_keep (x06 A r hr) fun y hy hR=>hc.only.block _ (rw_lt (x06 A r hr) y hy hR) (fun e=>e.elim (E r hr y hy hR) (hgk k B r hr y hy hR));refine ⟨⟨A.len,A.ok,C _ (by simp [Kd.rows]),C _ (by simp [Kd.rows]),C _ (by simp [Kd.rows]),A.live,A.size⟩,fun r hr y hy hR e=>?_,G⟩;rcases hc.new _ e with e | e
   ·exact E r hr y hy hR e
   ·have:=rw_lt (x06 A r hr) y hy hR;omega
 ·obtain ⟨A,E,G⟩:=h.box b hb;exact hc.only.block b E (fun e=>e.elim G (fun e=>by omega))
theorem LyS.set (h:LyS w x gs Q Qx s g o n m bs ks) (hg:g<w.heap.size) {b:Nat} (hb:b∈bs) (cs:Array Value):LyS w (x.setRow b cs) gs Q Qx s g o n m bs ks:=by
 obtain ⟨I,J,H⟩:=h.box b hb;have G:=x08 x b cs;refine ⟨h.r.set I hg H cs,(jX (G.block g (h.glt hg) (by omega))).trans h.mid,fun c hc=>?_,fun k hk=>?_⟩
 ·obtain ⟨A,E,C⟩:=h.box c hc;exact ⟨A,jO E G.size,C⟩
 ·obtain ⟨A,E,C⟩:=h.kid k hk;have B:∀r∈k.rows,r.Ok (x.setRow b cs):=fun r hr=>Nd.rw_keep (x06 A r hr) fun y hy hR=>G.block _ (rw_lt (x06 A r hr) y hy hR) (fun e=>(C r hr y hy hR).2 (by rw [e];exact hb));exact ⟨⟨A.len,A.ok,B _ (by simp [Kd.rows]),B _ (by simp [Kd.rows]),B _ (by simp [Kd.rows]),A.live,A.size⟩,E,C⟩
theorem LyS.less {bs':List Nat} {ks':List Kd} (h:LyS w x gs Q Qx s g o n m bs ks) (hb:∀b∈bs',b∈bs) (hk:∀k∈ks',k∈ks):LyS w x gs Q Qx s g o n m bs' ks':=
 ⟨h.r,h.mid,fun b hb'=>h.box b (hb b hb'),fun k hk'=>⟨(h.kid k (hk k hk')).1,(h.kid k (hk k hk')).2.1,fun r hr y hy hR=>⟨((h.kid k (hk k hk')).2.2 r hr y hy hR).1,fun e=>((h.kid k (hk k hk')).2.2 r hr y hy hR).2 (hb _ e)⟩⟩⟩
end
def exT:T:=.fork [2] true (.fork [1] true .nil .nil) (.fork [3] true .nil .nil)
def ex4:T:=.fork [4] true .nil .nil
def ex5:T:=.fork [4] true .nil (.fork [5] true .nil .nil)
def ex6:T:=.fork [4] true .nil (.fork [5] true .nil (.fork [6] true .nil .nil))
theorem y7O:lay [[3],[1],[2]] 0=exT:=by
 unfold exT;rfl
def y2n:List (List Nat):=exT.pages++(ex4.pages++ex5.pages++ex6.pages)
theorem y4S:(puts ⟨[],none⟩ y2n).cl=none:=by decide+kernel
end Kt
namespace Nd
open Go.RowKit
def readE (m:Int):Nat->Rd->List PE->List PE×Rd
 | 0,s,L=>(L,s)
 | n+1,s,L=>readE m n (s.entN m) (L++[s.entV m])
def readK (m:Int):Nat->Rd->List PK->List PK×Rd
 | 0,s,L=>(L,s)
 | n+1,s,L=>readK m n (s.kidN m) (L++[s.kidV m])
theorem y4T {m:Int} {n:Nat} {s:Rd} {L:List PE} (hn:0<n):readE m n s L=readE m (n - 1) (s.entN m) (L++[s.entV m]):=by
 obtain ⟨k,rfl⟩:∃k,n=k+1:=⟨n - 1,by omega⟩
 rfl
theorem y4U {m:Int} {n:Nat} {s:Rd} {L:List PK} (hn:0<n):readK m n s L=readK m (n - 1) (s.kidN m) (L++[s.kidV m]):=by
 obtain ⟨k,rfl⟩:∃k,n=k+1:=⟨n - 1,by omega⟩
 rfl
theorem x7m {m:Int}:∀(n:Nat) (s:Rd) (L:List PE),Sm.allB s.R->Sm.allB (readE m n s L).2.R/\(readE m n s L).2.R.length<=s.R.length
 | 0,s,L,h=>⟨h,jB _⟩
 | n+1,s,L,h=>by
  have h1:=ent_R (m:=m) h
  have h2:=x7m (m:=m) n (s.entN m) (L++[s.entV m]) h1.1
  exact ⟨h2.1,jJ h2.2 h1.2⟩
structure RdN where
 kind:Nat
 n1:Nat
 s2:Rd
 T1:List PE×Rd
 n2:Nat
 s4:Rd
 T2:List PK×Rd
def rdN (m:Int) (B:List Nat):RdN:=
 let s0:Rd:=⟨B,0⟩
 let s1:=s0.past 1
 let s2:=s1.past 1
 let T1:=readE m (Cm.val (s1.part 1)) s2 []
 let s4:=T1.2.past 1
 ⟨Cm.val (s0.part 1),Cm.val (s1.part 1),s2,T1,Cm.val (T1.2.part 1),s4,readK m (Cm.val (T1.2.part 1)) s4 []⟩
def RdN.node (x:RdN):PN:=⟨x.kind,x.T1.1,x.T2.1⟩
def RdN.good (x:RdN) (d:Int):Prop:=x.T2.2.e=0/\x.T2.2.R=[]/\x.node.right d=true
theorem y1D {m:Int} {B:List Nat} (h:Sm.allB B):(rdN m B).kind<256/\(rdN m B).n1<256/\(rdN m B).n2<256/\Sm.allB (rdN m B).s2.R/\(rdN m B).s2.R.length<=B.length/\Sm.allB (rdN m B).T1.2.R/\(rdN m B).T1.2.R.length<=B.length/\Sm.allB (rdN m B).s4.R/\(rdN m B).s4.R.length<=B.length/\((Rd.mk B 0).past 1).R.length<=B.length:=by
 have b0:Sm.allB (Rd.mk B 0).R:=h;have G:=x0Y (n:=1) b0;have C:((Rd.mk B 0).past 1).R.length<=B.length:=Rd.past_len ⟨B,0⟩ 1;have A:=x0Y (n:=1) G;have E:=jJ (Rd.past_len ((Rd.mk B 0).past 1) 1) C;have e:=x7m (m:=m) (Cm.val (((Rd.mk B 0).past 1).part 1)) (((Rd.mk B 0).past 1).past 1) [] A;have H:=jJ e.2 E;have I:=x0Y (n:=1) e.1;have J:=jJ (Rd.past_len _ 1) H;exact ⟨val1 b0,val1 G,val1 e.1,A,E,e.1,H,I,J,C⟩
theorem x3I {s:Rd} {n:Nat} (h:(s.past n).e=0):s.e=0/\s.R=s.part n++(s.past n).R/\(s.part n).length=n:=by
 by_cases hf:s.fits n
 ·unfold Rd.past Rd.part;rw [if_pos hf,if_pos hf];exact ⟨hf.1,(List.take_append_drop n s.R).symm,by rw [kX];have:=hf.2;omega⟩
 ·exfalso;unfold Rd.past at h;rw [if_neg hf] at h;unfold Rd.refuse at h;split at h
  ·simp at h
  ·rename_i k
   exact k h
theorem x2q {s:Rd} (h:(s.past 1).e=0):s.e=0/\s.R=Cm.val (s.part 1)::(s.past 1).R:=by
 obtain ⟨E,C,B⟩:=x3I h;rcases part1 s with A | ⟨b,A⟩
 ·rw [A] at B;simp at B
 ·rw [A] at C;rw [A,x4V];exact ⟨E,C⟩
theorem y1E {s:Rd} (h:s.truth.e=0):s.e=0/\s.R=(if s.truthV then 1 else 0)::s.truth.R:=by
 unfold Rd.truth at h ⊢;by_cases hc:(s.past 1).e=0/\1<Cm.val (s.part 1)
 ·rw [if_pos hc] at h;simp at h
 ·rw [if_neg hc] at h ⊢;obtain ⟨C,B⟩:=x2q h;have A:Cm.val (s.part 1)=if s.truthV then 1 else 0:=by
   unfold Rd.truthV;by_cases h2:Cm.val (s.part 1)=1
   ·rw [kF (show (s.past 1).e=0/\Cm.val (s.part 1)=1 from ⟨h,h2⟩),if_pos rfl];exact h2
   ·rw [kE (fun k=>h2 k.2)];have:¬1<Cm.val (s.part 1):=fun k=>hc ⟨h,k⟩;simp only [Bool.false_eq_true,if_false];omega
  rw [<- A];exact ⟨C,B⟩
theorem y4V {s:Rd} (hR:Sm.allB s.R) (h:(s.past 8).e=0):s.e=0/\s.R=Cm.num s.numV++(s.past 8).R:=by
 obtain ⟨H,E,A⟩:=x3I h;have G:=Rd.part_ok hR 8;have B:s.part 8≠[]:=by
  intro e;rw [e] at A;simp at A
 have C:Cm.num s.numV=s.part 8:=by
  unfold Cm.num Rd.numV;rw [if_neg B];have e:Cm.z64 (((Cm.val (s.part 8):Nat):Int) - 9223372036854775808)=Cm.val (s.part 8):=by
   unfold Cm.z64;omega
  rw [e];have:=Cm.be_val G;rw [A] at this;exact this
 rw [C];exact ⟨H,E⟩
theorem x72:∀(n:Nat) (s:Rd) (L:List Int),Sm.allB s.R->(readN n s L).2.e=0->s.e=0/\∃M,(readN n s L).1=L++M/\M.length=n/\s.R=Go.Proofs.YtenenciaggbjnaaGreat.nums M++(readN n s L).2.R
 | 0,s,L,_,h=>⟨h,[],by simp [readN],rfl,rfl⟩
 | n+1,s,L,hR,h=>by
  by_cases he:s.e=0
  ·rw [x7T he (Nat.succ_pos n),Nat.succ_sub_one] at h ⊢
   obtain ⟨h1,M,h2,h3,h4⟩:=x72 n _ _ (x0Y hR) h
   obtain ⟨-,h5⟩:=y4V hR h1
   refine ⟨he,s.numV::M,by rw [h2,jR];rfl,by rw [kI,h3],?_⟩
   rw [h5,h4]
   show _=(Cm.num s.numV++Go.Proofs.YtenenciaggbjnaaGreat.nums M)++_
   rw [jR]
  ·rw [x5C he] at h
   exact absurd h he
theorem x5M {s:Rd} {m:Int} (hR:Sm.allB s.R) (h:(s.row m).2.e=0):s.e=0/\s.R=rowBs (s.rowV m)++(s.row m).2.R/\∀m':Int,((s.rowV m).length:Int)<=m'->s.row m'=s.row m:=by
 have J:(readN (Cm.val (s.part 1)) (s.rowN m) []).2.e=0:=h;obtain ⟨A,M,K,G,H⟩:=x72 _ _ _ (x7U hR) J;have C:¬((s.past 1).e=0/\m<(Cm.val (s.part 1):Nat)):=by
  intro C;unfold Rd.rowN at A;rw [if_pos C] at A;simp at A
 have E:s.rowN m=s.past 1:=by
  unfold Rd.rowN;rw [if_neg C]
 have I:s.rowV m=M:=by
  unfold Rd.rowV;rw [if_pos h];exact K
 rw [E] at A H;obtain ⟨L,O⟩:=x2q A;have N:=val1 hR;refine ⟨L,?_,fun m' hm'=>?_⟩
 ·rw [O,H,I];unfold rowBs;rw [G,Nat.mod_eq_of_lt N];show _=_::(Go.Proofs.YtenenciaggbjnaaGreat.nums M++(readN (Cm.val (s.part 1)) (s.rowN m) []).2.R)
  rw [E]
 ·rw [I,G] at hm';have B:s.rowN m'=s.past 1:=by
   unfold Rd.rowN;rw [if_neg (fun k=>by have:=k.2;omega)]
  unfold Rd.row;rw [E,B]
theorem x7n {s:Rd} {m m':Int} (h:s.row m'=s.row m):s.rowV m'=s.rowV m:=by
 unfold Rd.rowV;rw [h]
theorem x73 {s:Rd} (hR:Sm.allB s.R) (h:(s.count 1048576).e=0):s.e=0/\s.R=Cm.be (s.countV 1048576).toNat 3++(s.count 1048576).R:=by
 unfold Rd.count at h ⊢;unfold Rd.countV;by_cases hc:min (1048576:Int) 1048576<(Cm.val (s.part 3):Nat)
 ·rw [if_pos hc] at h;exfalso;unfold Rd.refuse at h;split at h
  ·simp at h
  ·rename_i k
   exact k h
 ·rw [if_neg hc] at h ⊢;rw [if_neg hc];obtain ⟨C,B,A⟩:=x3I h;have:=Cm.be_val (Rd.part_ok hR 3);rw [A] at this;rw [Int.toNat_natCast,this];exact ⟨C,B⟩
theorem y4W {s:Rd} (h:(s.past 32).e=0):s.e=0/\s.R=s.digV++(s.past 32).R:=by
 obtain ⟨C,A,B⟩:=x3I h;have e:s.digV=s.part 32:=by
  unfold Rd.digV;rw [B];simp [zeros]
 rw [e];exact ⟨C,A⟩
theorem y4X {s:Rd} {m:Int} (hR:Sm.allB s.R) (h:(s.entN m).e=0):s.e=0/\s.R=(s.entV m).bytes++(s.entN m).R/\∀m':Int,((s.entV m).row.length:Int)<=m'->s.entN m'=s.entN m/\s.entV m'=s.entV m:=by
 obtain ⟨H,B,E⟩:=x5M (x7V hR).1 h;obtain ⟨G,C⟩:=y1E H;refine ⟨G,?_,fun m' hm'=>?_⟩
 ·rw [C,B];rfl
 ·have A:=E m' hm';unfold Rd.entN Rd.entV;rw [x7n A,A];exact ⟨rfl,rfl⟩
theorem y4Y {s:Rd} {m:Int} (hR:Sm.allB s.R) (h:(s.kidN m).e=0):s.e=0/\s.R=(s.kidV m).bytes++(s.kidN m).R/\∀m':Int,((s.kidV m).lo.length:Int)<=m'->((s.kidV m).hi.length:Int)<=m'->((s.kidV m).key.length:Int)<=m'->s.kidN m'=s.kidN m/\s.kidV m'=s.kidV m:=by
 have P:s.past 32=s.k1:=rfl;have Q:s.k1.count 1048576=s.k2:=rfl;have O:s.k2.count 1048576=s.k3:=rfl;have I:(s.k3.row m).2=s.k4 m:=rfl;have J:((s.k4 m).row m).2=s.k5 m:=rfl;have M:((s.k5 m).row m).2=s.kidN m:=rfl;rw [<- M] at h;obtain ⟨H,d,X⟩:=x5M (k5_R hR).1 h;rw [<- J] at H;obtain ⟨N,W,b⟩:=x5M (k4_R hR).1 H;rw [<- I] at N;obtain ⟨C,Z,f⟩:=x5M (k3_R hR).1 N;rw [<- O] at C;obtain ⟨K,a⟩:=x73 (k2_R hR).1 C;rw [<- Q] at K;obtain ⟨G,Y⟩:=x73 (k1_R hR).1 K;rw [<- P] at G;obtain ⟨g,c⟩:=y4W G;refine ⟨g,?_,fun m' l1 l2 l3=>?_⟩
 ·rw [c,P,Y,Q,a,O,Z,I,W,J,d,M];unfold Rd.kidV PK.bytes;simp only [jR]
 ·unfold Rd.kidV at l1 l2 l3;simp only at l1 l2 l3;have E:=f m' l1;have A:s.k4 m'=s.k4 m:=by
   unfold Rd.k4;rw [E]
  have L:=b m' l2;have B:s.k5 m'=s.k5 m:=by
   unfold Rd.k5;rw [A,L]
  have U:=X m' l3;unfold Rd.kidN Rd.kidV;rw [B,A,U,x7n U,x7n L,x7n E];exact ⟨rfl,rfl⟩
theorem x74 {m:Int}:∀(n:Nat) (s:Rd) (L:List PE),Sm.allB s.R->(readE m n s L).2.e=0->s.e=0/\∃M,(readE m n s L).1=L++M/\M.length=n/\s.R=M.flatMap PE.bytes++(readE m n s L).2.R/\∀m':Int,(∀e∈M,(e.row.length:Int)<=m')->readE m' n s L=readE m n s L
 | 0,s,L,_,h=>⟨h,[],by simp [readE],rfl,rfl,fun _ _=>rfl⟩
 | n+1,s,L,hR,h=>by
  have h':(readE m n (s.entN m) (L++[s.entV m])).2.e=0:=h
  obtain ⟨h1,M,h2,h3,h4,h5⟩:=x74 n _ _ (ent_R (m:=m) hR).1 h'
  obtain ⟨h6,h7,h8⟩:=y4X hR h1
  refine ⟨h6,s.entV m::M,?_,by rw [kI,h3],?_,fun m' hm'=>?_⟩
  ·show (readE m n (s.entN m) (L++[s.entV m])).1=_
   rw [h2,jR]
   rfl
  ·show _=_++(readE m n (s.entN m) (L++[s.entV m])).2.R
   rw [h7,h4,List.flatMap_cons]
   simp only [jR]
  ·show readE m' n (s.entN m') (L++[s.entV m'])=readE m n (s.entN m) (L++[s.entV m])
   obtain ⟨g1,g2⟩:=h8 m' (hm' _ (by simp))
   rw [g1,g2]
   exact h5 m' (fun e he=>hm' e (by simp [he]))
theorem x75 {m:Int}:∀(n:Nat) (s:Rd) (L:List PK),Sm.allB s.R->(readK m n s L).2.e=0->s.e=0/\∃M,(readK m n s L).1=L++M/\M.length=n/\s.R=M.flatMap PK.bytes++(readK m n s L).2.R/\∀m':Int,(∀k∈M,(k.lo.length:Int)<=m'/\(k.hi.length:Int)<=m'/\(k.key.length:Int)<=m')->readK m' n s L=readK m n s L
 | 0,s,L,_,h=>⟨h,[],by simp [readK],rfl,rfl,fun _ _=>rfl⟩
 | n+1,s,L,hR,h=>by
  have h':(readK m n (s.kidN m) (L++[s.kidV m])).2.e=0:=h
  obtain ⟨h1,M,h2,h3,h4,h5⟩:=x75 n _ _ (kid_R (m:=m) hR).1 h'
  obtain ⟨h6,h7,h8⟩:=y4Y hR h1
  refine ⟨h6,s.kidV m::M,?_,by rw [kI,h3],?_,fun m' hm'=>?_⟩
  ·show (readK m n (s.kidN m) (L++[s.kidV m])).1=_
   rw [h2,jR]
   rfl
  ·show _=_++(readK m n (s.kidN m) (L++[s.kidV m])).2.R
   rw [h7,h4,List.flatMap_cons]
   simp only [jR]
  ·show readK m' n (s.kidN m') (L++[s.kidV m'])=readK m n (s.kidN m) (L++[s.kidV m])
   obtain ⟨k1,k2,k3⟩:=hm' (s.kidV m) (by simp)
   obtain ⟨g1,g2⟩:=h8 m' k1 k2 k3
   rw [g1,g2]
   exact h5 m' (fun e he=>hm' e (by simp [he]))
theorem y4Z {m:Int} {B:List Nat} (hB:Sm.allB B) (h:(rdN m B).T2.2.e=0) (hR:(rdN m B).T2.2.R=[]):
  (rdN m B).node.bytes=B/\∀m':Int,(∀e∈(rdN m B).node.rows,(e.row.length:Int)<=m')->(∀k∈(rdN m B).node.kids,(k.lo.length:Int)<=m'/\(k.hi.length:Int)<=m'/\(k.key.length:Int)<=m')->rdN m' B=rdN m B:=by
 have b0:Sm.allB (Rd.mk B 0).R:=hB;have L:=x0Y (n:=1) b0;have I:=x0Y (n:=1) L;have J:=x7m (m:=m) (Cm.val (((Rd.mk B 0).past 1).part 1)) (((Rd.mk B 0).past 1).past 1) [] I;have Y:=x0Y (n:=1) J.1;have U:=val1 L;have W:=val1 J.1;unfold RdN.node;unfold rdN at h hR ⊢;simp only at h hR ⊢;obtain ⟨d,K,A,f,H,a⟩:=x75 (m:=m) _ _ _ Y h;obtain ⟨O,N⟩:=x2q d;obtain ⟨b,E,G,P,X,c⟩:=x74 (m:=m) _ _ _ I O;obtain ⟨Q,M⟩:=x2q b;obtain ⟨g,C⟩:=x2q Q;have C:B=Cm.val ((Rd.mk B 0).part 1)::((Rd.mk B 0).past 1).R:=C;rw [kV] at A G;rw [hR,kW] at H;constructor
 ·unfold PN.bytes;simp only;rw [G,A,P,f,Nat.mod_eq_of_lt U,Nat.mod_eq_of_lt W,<- H,<- N,<- X,<- M,<- C]
 ·intro m' hE hK;rw [G] at hE;rw [A] at hK;have Z:=c m' hE;rw [Z,a m' hK]
theorem y1F {m d:Int} {B:List Nat} (hB:Sm.allB B) (h:(rdN m B).good d):(rdN m B).node.bytes=B:=(y4Z hB h.1 h.2.1).1
end Nd
namespace Nd
open Go.RowKit Pg
theorem x2r (b:Nat) (R:List Nat):(Rd.mk (b::R) 0).part 1=[b]/\(Rd.mk (b::R) 0).past 1=⟨R,0⟩:=x3s [b] R 1 rfl
theorem y2o {x:Int} (h:In64 x) (R:List Nat):(Rd.mk (Cm.num x++R) 0).numV=x/\(Rd.mk (Cm.num x++R) 0).past 8=⟨R,0⟩:=by
 obtain ⟨C,B⟩:=x3s (Cm.num x) R 8 (Cm.num_length x);refine ⟨?_,B⟩;unfold Rd.numV;rw [C,if_neg (fun e=>by have:=Cm.num_length x;rw [e] at this;simp at this)];unfold Cm.num;rw [Cm.val_be];obtain ⟨A,E⟩:=Cm.z64_lt h.1 h.2;rw [Nat.mod_eq_of_lt (jO A (by decide))];omega
theorem x5y:∀(L:List Int) (R:List Nat) (A:List Int),(∀x∈L,In64 x)->readN L.length ⟨Go.Proofs.YtenenciaggbjnaaGreat.nums L++R,0⟩ A=(A++L,⟨R,0⟩)
 |[],R,A,_=>by simp [readN,Go.Proofs.YtenenciaggbjnaaGreat.nums]
 | x::L,R,A,h=>by
  obtain ⟨h1,h2⟩:=y2o (h x (by simp)) (Go.Proofs.YtenenciaggbjnaaGreat.nums L++R)
  have e:Go.Proofs.YtenenciaggbjnaaGreat.nums (x::L)++R=Cm.num x++(Go.Proofs.YtenenciaggbjnaaGreat.nums L++R):=by
   rw [<- jR];rfl
  rw [e,kI,x7T rfl (Nat.succ_pos _),Nat.succ_sub_one,h1,h2,x5y L R _ fun y hy=>h y (by simp [hy]),jR];rfl
theorem x48 {L:List Int} {m:Int} (h:∀x∈L,In64 x) (hl:L.length<=8) (hm:(L.length:Int)<=m) (R:List Nat):(Rd.mk (rowBs L++R) 0).row m=(L,⟨R,0⟩)/\(Rd.mk (rowBs L++R) 0).rowV m=L:=by
 obtain ⟨C,B⟩:=x2r (L.length%256) (Go.Proofs.YtenenciaggbjnaaGreat.nums L++R);have A:(Rd.mk (rowBs L++R) 0).row m=(L,⟨R,0⟩):=by
  unfold Rd.row Rd.rowN;rw [show rowBs L++R=L.length%256::(Go.Proofs.YtenenciaggbjnaaGreat.nums L++R) from rfl,C,B,x4V,Nat.mod_eq_of_lt (by omega),if_neg (fun k=>by have:=k.2;omega),x5y L R [] h];rfl
 refine ⟨A,?_⟩;unfold Rd.rowV;rw [A];rfl
theorem x9P (v:Bool) (R:List Nat):(Rd.mk ((if v then 1 else 0)::R) 0).truth=⟨R,0⟩/\(Rd.mk ((if v then 1 else 0)::R) 0).truthV=v:=by
 obtain ⟨B,A⟩:=x2r (if v then 1 else 0) R;unfold Rd.truth Rd.truthV;rw [B,A,x4V];cases v
 ·simp
 ·simp
theorem x5z {n:Int} (h0:0<=n) (h1:n<=1048576) (R:List Nat):(Rd.mk (Cm.be n.toNat 3++R) 0).count 1048576=⟨R,0⟩/\(Rd.mk (Cm.be n.toNat 3++R) 0).countV 1048576=n:=by
 obtain ⟨E,C⟩:=x3s (Cm.be n.toNat 3) R 3 (Cm.be_length _ _);have B:((Cm.val (Cm.be n.toNat 3):Nat):Int)=n:=by
  rw [Cm.val_be,Nat.mod_eq_of_lt (jO (show n.toNat<1048577 by omega) (by decide))];omega
 have A:¬min (1048576:Int) 1048576<(Cm.val (Cm.be n.toNat 3):Nat):=by
  rw [B];omega
 unfold Rd.count Rd.countV;rw [E,C,if_neg A,if_neg A,B];exact ⟨rfl,rfl⟩
theorem y2p {D:List Nat} (h:D.length=32) (R:List Nat):(Rd.mk (D++R) 0).past 32=⟨R,0⟩/\(Rd.mk (D++R) 0).digV=D:=by
 obtain ⟨B,A⟩:=x3s D R 32 h;refine ⟨A,?_⟩;unfold Rd.digV;rw [B,h];simp [zeros]
def PE.Nums (e:PE):Prop:=∀x∈e.row,In64 x
def PK.Nums (k:PK):Prop:=k.sum.length=32/\Sm.allB k.sum/\(∀x∈k.lo,In64 x)/\(∀x∈k.hi,In64 x)/\∀x∈k.key,In64 x
structure PN.Nums (n:PN):Prop where
 rows:∀e∈n.rows,e.Nums
 kids:∀k∈n.kids,k.Nums
theorem y2q {e:PE} (h:e.Nums) (hl:e.row.length<=8) (R:List Nat):(Rd.mk (e.bytes++R) 0).entN 8=⟨R,0⟩/\(Rd.mk (e.bytes++R) 0).entV 8=e:=by
 have E:e.bytes++R=(if e.live then 1 else 0)::(rowBs e.row++R):=rfl;obtain ⟨G,A⟩:=x9P e.live (rowBs e.row++R);obtain ⟨C,B⟩:=x48 (m:=8) h hl (by omega) R;unfold Rd.entN Rd.entV;rw [E,G,A,C,B];exact ⟨rfl,rfl⟩
theorem y2r {k:PK} (h:k.Nums) (hf:k.Fit) (R:List Nat):(Rd.mk (k.bytes++R) 0).kidN 8=⟨R,0⟩/\(Rd.mk (k.bytes++R) 0).kidV 8=k:=by
 have Q:k.bytes++R=k.sum++(Cm.be k.live.toNat 3++(Cm.be k.size.toNat 3++(rowBs k.lo++(rowBs k.hi++(rowBs k.key++R))))):=by
  unfold PK.bytes;simp only [jR]
 obtain ⟨J,W,C,P,O⟩:=h;obtain ⟨L,E⟩:=y2p J (Cm.be k.live.toNat 3++(Cm.be k.size.toNat 3++(rowBs k.lo++(rowBs k.hi++(rowBs k.key++R)))));obtain ⟨b1,G⟩:=x5z (n:=k.live) (by have:=hf.live;omega) (by have:=hf.live;omega) (Cm.be k.size.toNat 3++(rowBs k.lo++(rowBs k.hi++(rowBs k.key++R))));obtain ⟨M,I⟩:=x5z (n:=k.size) (by have:=hf.size;omega) (by have:=hf.size;omega) (rowBs k.lo++(rowBs k.hi++(rowBs k.key++R)));obtain ⟨A,H⟩:=x48 (m:=8) C (by have:=hf.lo;omega) (by have:=hf.lo;omega) (rowBs k.hi++(rowBs k.key++R));obtain ⟨K,N⟩:=x48 (m:=8) P (by have:=hf.hi;omega) (by have:=hf.hi;omega) (rowBs k.key++R);obtain ⟨U,B⟩:=x48 (m:=8) O (by have:=hf.key;omega) (by have:=hf.key;omega) R;unfold Rd.kidN Rd.kidV Rd.k5 Rd.k4 Rd.k3 Rd.k2 Rd.k1;rw [Q,L,E,b1,G,M,I,A,H,K,N,U,B];exact ⟨rfl,rfl⟩
theorem x60:∀(E:List PE) (R:List Nat) (A:List PE),(∀e∈E,e.Nums/\e.row.length<=8)->readE 8 E.length ⟨E.flatMap PE.bytes++R,0⟩ A=(A++E,⟨R,0⟩)
 |[],R,A,_=>by simp [readE]
 | e::E,R,A,h=>by
  obtain ⟨h1,h2⟩:=y2q (h e (by simp)).1 (h e (by simp)).2 (E.flatMap PE.bytes++R)
  rw [List.flatMap_cons,jR]
  show readE 8 E.length ((Rd.mk (e.bytes++(E.flatMap PE.bytes++R)) 0).entN 8) (A++[(Rd.mk (e.bytes++(E.flatMap PE.bytes++R)) 0).entV 8])=_
  rw [h1,h2,x60 E R _ fun x hx=>h x (by simp [hx]),jR]
  rfl
theorem x61:∀(K:List PK) (R:List Nat) (A:List PK),(∀k∈K,k.Nums/\k.Fit)->readK 8 K.length ⟨K.flatMap PK.bytes++R,0⟩ A=(A++K,⟨R,0⟩)
 |[],R,A,_=>by simp [readK]
 | k::K,R,A,h=>by
  obtain ⟨h1,h2⟩:=y2r (h k (by simp)).1 (h k (by simp)).2 (K.flatMap PK.bytes++R)
  rw [List.flatMap_cons,jR]
  show readK 8 K.length ((Rd.mk (k.bytes++(K.flatMap PK.bytes++R)) 0).kidN 8) (A++[(Rd.mk (k.bytes++(K.flatMap PK.bytes++R)) 0).kidV 8])=_
  rw [h1,h2,x61 K R _ fun x hx=>h x (by simp [hx]),jR]
  rfl
theorem y2s {n:PN} (h:n.Nums) (hf:n.Fit) (hk:n.kind<256):(rdN 8 n.bytes).node=n/\(rdN 8 n.bytes).T2.2.e=0/\(rdN 8 n.bytes).T2.2.R=[]:=by
 have J:=hf.rows;have H:=hf.kids;have I:n.bytes=n.kind::(n.rows.length::(n.rows.flatMap PE.bytes++(n.kids.length::(n.kids.flatMap PK.bytes++[])))):=by
  unfold PN.bytes;rw [Nat.mod_eq_of_lt (by omega),Nat.mod_eq_of_lt (by omega),kW]
 obtain ⟨G,B⟩:=x2r n.kind (n.rows.length::(n.rows.flatMap PE.bytes++(n.kids.length::(n.kids.flatMap PK.bytes++[]))));obtain ⟨b1,C⟩:=x2r n.rows.length (n.rows.flatMap PE.bytes++(n.kids.length::(n.kids.flatMap PK.bytes++[])));have c:=x60 n.rows (n.kids.length::(n.kids.flatMap PK.bytes++[])) [] fun e he=>⟨h.rows e he,hf.row e he⟩
 obtain ⟨A,E⟩:=x2r n.kids.length (n.kids.flatMap PK.bytes++[]);have f:=x61 n.kids [] [] fun k hk=>⟨h.kids k hk,hf.kid k hk⟩
 unfold RdN.node rdN;simp only;rw [I,G,B,b1,C,x4V,x4V,c];simp only;rw [A,E,x4V,f];exact ⟨rfl,rfl,rfl⟩
theorem y4a {n:PN} (h:n.Nums) (hk:n.kind<256):Sm.allB n.bytes:=by
 intro x A;unfold PN.bytes at A;simp only [jW,jP,List.mem_flatMap] at A;rcases A with rfl | rfl | ⟨e,C,A⟩ | rfl | ⟨k,B,A⟩
 ·exact hk
 ·exact Nat.mod_lt _ (by omega)
 ·unfold PE.bytes at A;rcases jW.1 A with rfl | A
  ·split<;>omega
  ·exact x1F _ x A
 ·exact Nat.mod_lt _ (by omega)
 ·unfold PK.bytes at A;simp only [jP] at A;rcases A with A | A | A | A | A | A
  ·exact (h.kids k B).2.1 x A
  ·exact Cm.be_ok _ _ x A
  ·exact Cm.be_ok _ _ x A
  ·exact x1F _ x A
  ·exact x1F _ x A
  ·exact x1F _ x A
structure Txt (d:Int) (t:List Nat) (n:PN):Prop where
 ok:Sm.allB t
 len:t.length<=100000
 good:(rdN 8 t).good d
 node:(rdN 8 t).node=n
 size:n.size<=1048576
theorem Txt.right {d:Int} {t:List Nat} {n:PN} (h:Txt d t n):n.right d=true:=by
 rw [<- h.node];exact h.good.2.2
theorem Txt.bytes {d:Int} {t:List Nat} {n:PN} (h:Txt d t n):n.bytes=t:=by
 rw [<- h.node];exact y1F h.ok h.good
theorem x76 {n:PN} {d:Int} (h:n.right d=true):n.kind<256:=by
 unfold PN.right at h
 repeat' split at h
 all_goals first | omega | cases h
theorem y7P {n:PN} {d:Int} (h:n.Nums) (hr:n.right d=true) (hz:n.size<=1048576):Txt d n.bytes n:=by
 obtain ⟨A,B,C⟩:=y2s h (PN.fit hr) (x76 hr);refine ⟨y4a h (x76 hr),x1j (PN.fit hr) (fun k hk=>(h.kids k hk).1),⟨B,C,by rw [A];exact hr⟩,A,hz⟩
theorem y6S {s:Rd} {m:Int} (h:Sm.allB s.R):(s.entV m).Nums:=x2h (x7V h).1
theorem y6T {s:Rd} {m:Int} (h:Sm.allB s.R):(s.kidV m).Nums:=by
 have A:=(k3_R h).1;have E:=(k4_R (m:=m) h).1;have B:=(k5_R (m:=m) h).1;have G:=x2h (m:=m) A;have C:=x2h (m:=m) E;have H:=x2h (m:=m) B;unfold Rd.kidV PK.Nums;simp only;exact ⟨x3i s,y2B h,G,C,H⟩
theorem y0R {m:Int}:∀(n:Nat) (s:Rd) (L:List PE),Sm.allB s.R->(∀e∈L,e.Nums)->∀e∈(readE m n s L).1,e.Nums
 | 0,_,_,_,hL=>hL
 | n+1,s,L,hR,hL=>by
  show ∀e∈(readE m n (s.entN m) (L++[s.entV m])).1,e.Nums
  refine y0R n _ _ (ent_R hR).1 fun x hx=>?_
  rcases jP.1 hx with hx | hx
  ·exact hL x hx
  ·rw [kZ.1 hx]
   exact y6S hR
theorem y0S {m:Int}:∀(n:Nat) (s:Rd) (L:List PK),Sm.allB s.R->(∀k∈L,k.Nums)->∀k∈(readK m n s L).1,k.Nums
 | 0,_,_,_,hL=>hL
 | n+1,s,L,hR,hL=>by
  show ∀k∈(readK m n (s.kidN m) (L++[s.kidV m])).1,k.Nums
  refine y0S n _ _ (kid_R hR).1 fun x hx=>?_
  rcases jP.1 hx with hx | hx
  ·exact hL x hx
  ·rw [kZ.1 hx]
   exact y6T hR
theorem y4b {m:Int} {B:List Nat} (hB:Sm.allB B):(rdN m B).node.Nums:=by
 have b0:Sm.allB (Rd.mk B 0).R:=hB;have E:=x0Y (n:=1) b0;have A:=x0Y (n:=1) E;have G:=x7m (m:=m) (Cm.val (((Rd.mk B 0).past 1).part 1)) (((Rd.mk B 0).past 1).past 1) [] A;have C:=x0Y (n:=1) G.1;exact ⟨y0R _ _ _ A (fun e he=>by cases he),y0S _ _ _ C (fun k hk=>by cases hk)⟩
theorem Txt.nums {d:Int} {t:List Nat} {n:PN} (h:Txt d t n):n.Nums:=by
 rw [<- h.node];exact y4b h.ok
end Nd
namespace Wl
open Go Go.RowKit
section
variable {P:Program} {ops:Array Oper} {Q:Exit->Act->World->Prop} {md:Region.Mode} {l n:Nat}
theorem y1G {i:Nat} {K K':Act->World->Prop} {a:Act} {w:World} (hd:∀(i:Nat) (o:Oper),ops[i]? =some o->∀c,o.op≠ .defer c) (hQ:¬LetsOut Q) (hK:∀a w,K a w->K' a w) (h:wpOp P ops Q i K a w):wpOpIn (Fence.wide.inRound l) n P ops Q i K' a w:=by
 unfold wpOp at h;unfold wpOpIn;cases ho:ops[i]? with
 | none=>rw [ho] at h;exact hK _ _ h
 | some o=>
  rw [ho] at h;simp only at h ⊢;split
  ·next hw=>
   rw [if_pos hw] at h;rcases h with h | ⟨_,h⟩
   ·refine ⟨fun _ _=>trivial,?_⟩;show Oper.uponIn _ n P o a K' Q ((Oper.semAt (some l) a.eval o).run P w)
    rw [Oper.semAt_some l a.eval o (hd i o ho)];unfold Oper.wp at h;generalize (execOp a.eval o).run P w=r at *;cases r with
    | ok x w'=>
     cases x with
     | value v=>exact hK _ _ h
     | skip=>exact hK _ _ h
     | defer d=>exact hK _ _ h
     | enter f args=>
      refine ⟨fun h=>(by cases h),CallsIn.inRound l (callsIn_wide.2 (Calls.mono h fun e A he=>?_))⟩;cases e with
      | returned v=>exact hK _ _ he
      | panicked c=>exact he
      | outgrown=>exact he
     | row row args=>exact ⟨fun h=>(by cases h),fun c cs _=>by
       obtain ⟨v,A,r,s⟩:=h c cs;exact ⟨v,A,hK _ _ r,stepsIn_wide.2 s⟩⟩
     | _=>exact False.elim h
    | halt x w'=>cases x<;>exact h
   ·exact absurd h hQ
  ·next hw=>
   rw [if_neg hw] at h;exact ⟨fun _ _=>trivial,hK _ _ h⟩
theorem x62 (hd:∀(i:Nat) (o:Oper),ops[i]? =some o->∀c,o.op≠ .defer c) (hQ:¬LetsOut Q):∀(fuel:Nat) (listed:Array Bool) (a:Act) (w:World),wpAny P md ops Q fuel listed a w->wpAnyIn (Fence.wide.inRound l) n P md ops Q fuel listed a w
 | 0,_,_,_,h=>h
 | fuel+1,_,_,_,h=>⟨h.1,fun i hi=>y1G hd hQ (fun a w k=>x62 hd hQ fuel _ a w k) (h.2 i hi)⟩
def Nrm (K:Act->World->Prop):Exit->Act->World->Prop
 | .normal,a,w=>K a w
 | _,_,_=>False
theorem x18 {K:Act->World->Prop} {a:Act} {w:World} (h:K a w):Nrm K .normal a w:=h
theorem y2t {Q:Exit->Act->World->Prop}:∀e a w,Nrm (Q .normal) e a w->Q e a w:=fun e a w h=>by
 cases e<;>first | exact h | exact False.elim h
theorem y1H {S:World->Prop} {id:Nat} {a:Act} {w:World} (hm:P.follows .mixedOrders=true) (hS:S w.drew) (h:S w.drew->wpAnyH P .any ops (Nrm (Q .normal)) S ops.size (Array.replicate ops.size false) a w.drew):(Code.region id ops true).wp P Q a w:=
 wp_mono (kD hm hS h) y2t
theorem x2s {S:World->Prop} {id:Nat} {a:Act} {w:World} (hm:P.follows .mixedOrders=true) (hd:(ops.toList.all fun o=>match o.op with | .defer _=>false | _=>true)=true) (hS:S w.drew) (h:S w.drew->wpAnyH P .any ops (Nrm (Q .normal)) S ops.size (Array.replicate ops.size false) a w.drew):(Code.region id ops true).wpIn (Fence.wide.inRound l) n P Q a w:=
 wpIn_mono (wpIn_region_any hm (x62 (fun i o ho c hc=>by
  have h1:=List.all_eq_true.1 hd o (Array.mem_toList_iff.2 (Array.mem_of_getElem? ho))
  rw [hc] at h1
  cases h1) (fun ⟨_,_,h⟩=>h) _ _ _ _ (wpAny_of_held _ _ _ _ (h hS)))) y2t
end
end Wl
namespace Pg
open Go.RowKit Wl
section
variable {P:Program} {ops:Array Oper} {Q:Exit->Act->World->Prop} {l n:Nat}
theorem y2u {o:Oper} {K K':Act->World->Prop} {a:Act} {w:World} (hd:∀c,o.op≠ .defer c) (hQ:¬LetsOut Q) (hK:∀a w,K a w->K' a w) (h:o.wp P a w K Q\/(o.asks P a w/\LetsOut Q)):o.wpIn (Fence.wide.inRound l) n P a w K' Q:=by
 rcases h with h | ⟨_,h⟩
 ·refine ⟨fun _ _=>trivial,?_⟩;show Oper.uponIn _ n P o a K' Q ((Oper.semAt (some l) a.eval o).run P w)
  rw [Oper.semAt_some l a.eval o hd];unfold Oper.wp at h;generalize (execOp a.eval o).run P w=r at *;cases r with
  | ok x w'=>
   cases x with
   | value v=>exact hK _ _ h
   | skip=>exact hK _ _ h
   | defer d=>exact hK _ _ h
   | enter f args=>
    refine ⟨fun h=>(by cases h),CallsIn.inRound l (callsIn_wide.2 (Calls.mono h fun e A he=>?_))⟩;cases e with
    | returned v=>exact hK _ _ he
    | panicked c=>exact he
    | outgrown=>exact he
   | row row args=>exact ⟨fun h=>(by cases h),fun c cs _=>by
     obtain ⟨v,A,r,s⟩:=h c cs;exact ⟨v,A,hK _ _ r,stepsIn_wide.2 s⟩⟩
   | _=>exact False.elim h
  | halt x w'=>cases x<;>exact h
 ·exact absurd h hQ
theorem x2t (hQ:¬LetsOut Q):∀(L:List Oper),(∀o∈L,∀c,o.op≠ .defer c)->∀(a:Act) (w:World),wpList P ops Q L a w->wpListIn (Fence.wide.inRound l) n P ops Q L a w
 |[],_,_,_,h=>h
 | o::L,hd,a,w,h=>by
  unfold wpList at h
  unfold wpListIn
  split
  ·next hw=>
   rw [if_pos hw] at h
   exact y2u (hd o List.mem_cons_self) hQ (x2t hQ L (fun x hx=>hd x (List.mem_cons_of_mem _ hx))) h
  ·next hw=>
   rw [if_neg hw] at h
   exact ⟨fun _ _=>trivial,x2t hQ L (fun x hx=>hd x (List.mem_cons_of_mem _ hx)) _ _ h⟩
theorem x0j {id:Nat} {L:List Oper} {a:Act} {w:World} (hd:(L.all fun o=>match o.op with | .defer _=>false | _=>true)=true) (h:wpList P L.toArray (Nrm (Q .normal)) L a w):(Code.region id L.toArray false).wpIn (Fence.wide.inRound l) n P Q a w:=
 wpIn_mono (wpIn_region_list (by
  refine x2t (fun ⟨_,_,h⟩=>h) _ (fun o ho c hc=>?_) _ _ (by simpa using h)
  have h1:=List.all_eq_true.1 hd o (by simpa using ho)
  rw [hc] at h1
  cases h1)) y2t
end
abbrev DG:={d:List Nat//d.length=32/\Sm.allB d}
instance:Inhabited DG:=⟨⟨zeros 32,by simp [zeros],x2C 32⟩⟩
structure Col (L:List Pe) (left:Lit->Bool) (ds:List DG):Prop where
 one:(ds.map (·.1)).Nodup
 mem:∀d,d∈ds.map (·.1)↔d∈L.map (·.d)/\left (klit d)=false
theorem Col.start {D:DataW Value} {L:List Pe} (hr:Reads D L):Col L (Go.Maps.has D) []:=
 ⟨List.nodup_nil,fun d=>by
  constructor
  ·intro h;cases h
  ·rintro ⟨h1,h2⟩
   obtain ⟨e,he,rfl⟩:=kJ.1 h1
   rw [Go.Maps.has_true_of_atKey (hr.at' e he)] at h2
   cases h2⟩
theorem Col.step {L:List Pe} {left:Lit->Bool} {ds:List DG} (h:Col L left ds) (hl:∀e∈L,e.d.length=32/\Sm.allB e.d) {e:Pe} (he:e∈L) (hk:left (klit e.d)=true):Col L (fun z=>left z&& !z.sameKey (klit e.d)) (ds++[⟨e.d,hl e he⟩]):=by
 refine ⟨?_,fun d=>?_⟩
 ·rw [List.map_append,List.nodup_append];refine ⟨h.one,by simp,fun a ha c hc hac=>?_⟩;simp only [kB,kC,kZ] at hc;have:=((h.mem a).1 ha).2;rw [hac,hc,hk] at this;cases this
 ·rw [List.map_append,jP,h.mem];simp only [kB,kC,kZ];constructor
  ·rintro (⟨B,A⟩ | rfl)
   ·exact ⟨B,by rw [A];rfl⟩
   ·exact ⟨List.mem_map_of_mem he,by rw [WideAt.sameKey_self (x5K _)];simp⟩
  ·rintro ⟨B,A⟩;by_cases hd:d=e.d
   ·exact Or.inr hd
   ·obtain ⟨x,C,rfl⟩:=kJ.1 B;rw [x8f (hl x C).1 (hl x C).2 (hl e he).1 (hl e he).2,kE hd] at A;exact Or.inl ⟨B,by simpa using A⟩
theorem Col.done {L:List Pe} {left:Lit->Bool} {ds:List DG} (h:Col L left ds) (ho:(L.map (·.d)).Nodup) (hl:∀kl,left kl=false):(ds.map (·.1)).Perm (L.map (·.d)):=
 (List.perm_ext_iff_of_nodup h.one ho).2 (fun d=>by rw [h.mem];simp [hl])
end Pg
section
open Go.RowKit
theorem x0F {P:Program} {ρ:Operand->Value} {o:Oper} {w:World} (ty:TypeId) (x:Operand) (ho:o.op= .load ty x)
  (b i:Nat) (hx:ρ x= .pointer (some ⟨b,i,none⟩)) (cs:List Value) (d:TypeDesc) (hc:w.rangeAt b i cs)
  (hu:P.underlying ty=some d) (hd:d.isRow=true) (hi:(P.info? ty).map (·.size)=some cs.length):
  (execOp ρ o).run P w= .ok (.value (.agg cs.toArray)) w:=by
 unfold execOp;simp only [ho,hx,Instr.loadAt,Instr.sureAddr,Sem.run_bind,Sem.run_pure,Result.andThen_ok,run_loadVar_mid w b i ty cs d hc hu hd hi]
theorem y6U {P:Program} {ρ:Operand->Value} {o:Oper} {w:World} {ty:TypeId} {x lo:Operand} (ho:o.op= .slice ty x (some lo) none none)
  (ht:P.underlying ty=some (.slice (P.elem ty))) (sz:Nat) (hs:(P.info? (P.elem ty)).map (·.size)=some sz) {p:Option Addr} {n c k:Nat} (hx:ρ x= .slice p n c) (hl:ρ lo= .int .i64 (k:Int)) (hk:k<=n):
  (execOp ρ o).run P w= .ok (.value (.slice (if c=k then p else p.map (·.add (k*sz))) (n - k) (c - k))) w:=by
 have A:(sizeOf (P.elem ty)).run P w= .ok sz w:=by
  generalize he:P.elem ty=el at hs;cases hj:P.info? el with
  | none=>rw [hj] at hs;cases hs
  | some i=>
   rw [hj] at hs;have hs:i.size=sz:=by simpa using hs
   simp [sizeOf,run_typeInfo w hj,hs]
 unfold execOp;simp only [ho,hx,hl,Option.map_some,Option.map_none,Sem.run_bind];rw [run_sliceAt_slice _ _ _ _ _ _ ht,run_slice_l _ _ _ _ _ ht .i64 (k:Int) (by omega) (by omega),A];simp [Result.andThen,sliced]
theorem y2v {P:Program} {ρ:Operand->Value} {o:Oper} {w:World} {ty:TypeId} {x hi:Operand} (ho:o.op= .slice ty x none (some hi) none)
  (ht:P.underlying ty=some (.slice (P.elem ty))) (sz:Nat) (hs:(P.info? (P.elem ty)).map (·.size)=some sz) {p:Option Addr} {n c k:Nat} (hx:ρ x= .slice p n c) (hl:ρ hi= .int .i64 (k:Int)) (hk:k<=c):
  (execOp ρ o).run P w= .ok (.value (.slice (if c=0 then p else p.map (·.add 0)) k c)) w:=by
 have A:(sizeOf (P.elem ty)).run P w= .ok sz w:=by
  generalize he:P.elem ty=el at hs;cases hj:P.info? el with
  | none=>rw [hj] at hs;cases hs
  | some i=>
   rw [hj] at hs;have hs:i.size=sz:=by simpa using hs
   simp [sizeOf,run_typeInfo w hj,hs]
 unfold execOp;simp only [ho,hx,hl,Option.map_some,Option.map_none,Sem.run_bind];rw [run_sliceAt_slice _ _ _ _ _ _ ht,run_slice_h _ _ _ _ _ ht .i64 (k:Int) (by omega) (by omega),A];simp [Result.andThen,sliced]
end
end Go.Proofs.YtenenciaggbjnaaGreat
