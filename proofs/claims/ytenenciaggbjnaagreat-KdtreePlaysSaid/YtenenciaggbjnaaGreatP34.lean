/- NdRefSay, KrKid, KdHasV. -/
import Derived.BigRegion
import Derived.StillTailTactics
import Derived.Deep.MidRow
import Derived.Test.YtenenciaggbjnaaGreatP33
set_option maxRecDepth 100000
set_option maxHeartbeats 8000000
set_option linter.all false
namespace Go.Proofs.YtenenciaggbjnaaGreat
namespace Nd
open Go.RowKit Dk Pg Zr
open List renaming setIfInBounds_toArray -> yA, set_cons_zero -> yB, set_cons_succ -> yC
theorem x1s {w:World} {r:Rw} (h:r.Ok w) {X:Nat} (hX:w.heap.size<=X):Away X r:=fun _ hx hR e=>by have:=x2W h.ints hx hR;omega
theorem y3h (f:Int->Int->Int) (R T:List Int) (n:Nat):(two f R T n).length=n:=by simp [two]
theorem y5J (A B:List Int×List Int) (M:Nat) (_h8:8<=M) (h1:A.1.length<=M) (h2:A.2.length<=M) (h3:B.1.length<=M) (h4:B.2.length<=M):(hull A B).1.length<=M/\(hull A B).2.length<=M:=by
 unfold hull;split
 ·exact ⟨h1,h2⟩
 ·split
  ·exact ⟨h3,h4⟩
  ·split
   ·exact ⟨by simp,by simp⟩
   ·exact ⟨by rw [y3h];exact h1,by rw [y3h];exact h1⟩
theorem x90 {w w':World} {a1 a2 a3 a4:Rw} {v:Value} (hb:x7M w (hull (a1.R,a2.R) (a3.R,a4.R)).1 (hull (a1.R,a2.R) (a3.R,a4.R)).2 v w') (ha:y0l w a1.p a2.p a3.p a4.p a1.R a2.R a3.R a4.R (hull (a1.R,a2.R) (a3.R,a4.R)).1 (hull (a1.R,a2.R) (a3.R,a4.R)).2 v)
  (h1:a1.Ok w) (h2:a2.Ok w) (h3:a3.Ok w) (h4:a4.Ok w):
  ∃r1 r2:Rw,v= .agg #[r1.val,r2.val]/\r1.R=(hull (a1.R,a2.R) (a3.R,a4.R)).1/\r2.R=(hull (a1.R,a2.R) (a3.R,a4.R)).2/\r1.Ok w'/\r2.Ok w'/\(∀X,X<w.heap.size->Away X a1->Away X a2->Away X a3->Away X a4->Away X r1/\Away X r2)/\Below w.heap.size w w':=by
 have E:=y5J (a1.R,a2.R) (a3.R,a4.R) 9223372036854775807 (by omega) (by have:=h1.top;rw [h1.ints.size] at this;exact this) (by have:=h2.top;rw [h2.ints.size] at this;exact this) (by have:=h3.top;rw [h3.ints.size] at this;exact this) (by have:=h4.top;rw [h4.ints.size] at this;exact this);generalize (hull (a1.R,a2.R) (a3.R,a4.R)).1=A at *;generalize (hull (a1.R,a2.R) (a3.R,a4.R)).2=B at *;obtain ⟨p,c,q,e,rfl,I,J,C⟩:=hb;obtain ⟨a,n,K,b,m,L,G,H⟩:=ha;simp only [Value.agg.injEq,Array.mk.injEq,List.cons.injEq,Value.slice.injEq,and_true] at G;obtain ⟨⟨rfl,rfl,rfl⟩,rfl,rfl,rfl⟩:=G;exact ⟨⟨p,A.length,c,A⟩,⟨q,B.length,e,B⟩,rfl,rfl,rfl,⟨I,E.1⟩,⟨J,E.2⟩,H,C⟩
theorem x91:∀(D:List Nat),D.length=32->Tryz.prog.built 34 [(0,.agg (u8s D))]=some (⟨D,⟨none,0,0,[]⟩,⟨none,0,0,[]⟩,0,0,⟨none,0,0,[]⟩⟩:Kd).cells.toArray
 |[a0,a1,a2,a3,a4,a5,a6,a7,a8,a9,a10,a11,a12,a13,a14,a15,a16,a17,a18,a19,a20,a21,a22,a23,a24,a25,a26,a27,a28,a29,a30,a31],_=>by kernel_rfl
theorem y3i (p q:Option Addr) (n c m e:Nat):Tryz.prog.built 32 [(0,.slice p n c),(1,.slice q m e)]=some #[.slice p n c,.slice q m e]:=by kernel_rfl
section
variable {w0 w w':World} {gn kind:Nat} {p:Option Addr} {n c:Nat} {q:Option Addr} {m f gr gx:Nat} {kd:Kd}
theorem y5K {O:Array Value} (hn:NodeAt w gn kind p n c q m f) (hr:w.heap[gr]? =some (.cells kd0.cells.toArray 34 (0,0))) (hx:w.heap[gx]? =some (.cells O 34 (0,0))) (hk:kd.sum.length=32) (hkb:Sm.allB kd.sum) (hro:∀r∈kd.rows,r.Ok w/\Away gx r/\Away gr r) (hl:Below w0.heap.size w0 w) (ge:w0.heap.size<=gn/\w0.heap.size<=gr/\w0.heap.size<=gx) (ne:gn≠gx/\gr≠gx/\gn≠gr) (h1:In64 kd.live) (h2:In64 kd.size):
  TaSt w0 (w.setRow gx kd.cells.toArray) gn kind p n c q m f gr gx kd:=by
 have B:Below gx w (w.setRow gx kd.cells.toArray):=Below.setRow (jC _ _) (jB _) _;have A:∀r:Rw,r.Ok w/\Away gx r/\Away gr r->r.Ok (w.setRow gx kd.cells.toArray):=fun r hr=>rw_keep hr.1 (fun y hy hR=>setRow_other _ _ _ _ (hr.2.1 y hy hR));exact ⟨⟨(setRow_other _ _ _ _ ne.1).trans hn.row⟩,(setRow_other _ _ _ _ ne.2.1).trans hr,jT _ _ _ _ _ _ hx,⟨hk,hkb,A _ (hro _ (by simp [Kd.rows])),A _ (hro _ (by simp [Kd.rows])),A _ (hro _ (by simp [Kd.rows])),h1,h2⟩,fun r hr=>(hro r hr).2,hl.trans (B.mono ge.2.2),ge,ne⟩
theorem TaSt.setKey (h:TaSt w0 w gn kind p n c q m f gr gx kd) {r:Rw} (hr:r.Ok w/\Away gx r/\Away gr r):TaSt w0 (w.setCell ⟨gx,36,none⟩ r.val) gn kind p n c q m f gr gx {kd with key:=r}:=by
 have A:=jU w gx 36 _ _ r.val h.row;rw [x6k h.ok.len] at A;refine h.turn A (Only.setCell (P:=fun j=>j=gx) _ (a:=⟨gx,36,none⟩) rfl _) rfl (fun r' hr'=>?_) h.ok.live h.ok.size;simp only [Kd.rows,jW,jV,or_false] at hr';rcases hr' with rfl | rfl | rfl
 ·exact h.rows _ (by simp [Kd.rows])
 ·exact h.rows _ (by simp [Kd.rows])
 ·exact hr
end
def Far (w0:World) (E:List En) (K:List Kd) (L:List Rw):Prop:=∀X,X<w0.heap.size->(∀e∈E,Away X e.row)->(∀k∈K,∀r∈k.rows,Away X r)->∀r∈L,Away X r
theorem y0n {w0 w1:World} {E:List En} {K:List Kd} {kd:Kd} {a3 a4 r1 r2:Rw} (h:Far w0 E K kd.rows) (hz:w0.heap.size<=w1.heap.size) (haw:∀X,X<w1.heap.size->Away X kd.lo->Away X kd.hi->Away X a3->Away X a4->Away X r1/\Away X r2) (h3:(∃e∈E,a3=e.row/\a4=e.row)\/∃k∈K,a3=k.lo/\a4=k.hi):Far w0 E K [r1,r2,kd.key]:=by
 intro X hX hE hK r hr;have A:=h X hX hE hK;have B:Away X a3/\Away X a4:=by
  rcases h3 with ⟨e,G,rfl,rfl⟩ | ⟨k,A,rfl,rfl⟩
  ·exact ⟨hE e G,hE e G⟩
  ·exact ⟨hK k A _ (by simp [Kd.rows]),hK k A _ (by simp [Kd.rows])⟩
 have C:=haw X (jO hX hz) (A _ (by simp [Kd.rows])) (A _ (by simp [Kd.rows])) B.1 B.2;simp only [jW,jV,or_false] at hr;rcases hr with rfl | rfl | rfl
 ·exact C.1
 ·exact C.2
 ·exact A _ (by simp [Kd.rows])
theorem y3j {w0:World} {E:List En} {K:List Kd} {kd:Kd} {r0:Rw} (h:Far w0 E K kd.rows) (h3:(∃e∈E,r0=e.row)\/∃k∈K,r0=k.key):Far w0 E K ({kd with key:=r0}:Kd).rows:=by
 intro X hX hE hK r hr;have A:=h X hX hE hK;simp only [Kd.rows,jW,jV,or_false] at hr;rcases hr with rfl | rfl | rfl
 ·exact A _ (by simp [Kd.rows])
 ·exact A _ (by simp [Kd.rows])
 ·rcases h3 with ⟨e,B,rfl⟩ | ⟨k,A,rfl⟩
  ·exact hE e B
  ·exact hK k A _ (by simp [Kd.rows])
def Ry1 (w:World) (gn kind:Nat) (p:Option Addr) (n c:Nat) (q:Option Addr) (m f gr gx:Nat) (SM:List Nat) (L:List PE) (E:List En) (K:List Kd) (i:Value) (wr:World):Prop:=
 ∃(k:Nat) (kd:Kd),k<=n/\i= .int .i64 k/\TaSt w wr gn kind p n c q m f gr gx kd/\kd.pk=⟨SM,(boxR (L.take k)).1,(boxR (L.take k)).2,liveR (L.take k),k,[]⟩/\Far w E K kd.rows
def Ry2 (w:World) (gn kind:Nat) (p:Option Addr) (n c:Nat) (q:Option Addr) (m f gr gx:Nat) (SM:List Nat) (b:List Int×List Int) (lv:Int) (L:List PK) (E:List En) (K:List Kd) (i:Value) (wr:World):Prop:=
 ∃(k:Nat) (kd:Kd),k<=m/\i= .int .i64 k/\TaSt w wr gn kind p n c q m f gr gx kd/\kd.pk=⟨SM,((L.take k).foldl boxK b).1,((L.take k).foldl boxK b).2,lv+((L.take k).map PK.live).sum,n+((L.take k).map PK.size).sum,[]⟩/\Far w E K kd.rows
def RSayF (w:World) (E:List En) (K:List Kd) (N:PN) (e:Ending) (w':World):Prop:=
 Below w.heap.size w w'/\
 ((N.size<=1048576/\∃kd:Kd,e= .returned (.tuple #[.agg kd.cells.toArray,.bool true])/\kd.pk=N.says/\kd.Ok w'/\Far w E K kd.rows)\/
  (¬N.size<=1048576/\e= .returned (.tuple #[.agg kd0.cells.toArray,.bool false])))
theorem y5L (kind:Nat) (hkd:kind<256) (p:Option Addr) (n c:Nat) (q:Option Addr) (m f:Nat) (E:List En) (K:List Kd) (d:Int) (w:World) (hE:EntsIn w p n c E) (hK:KidsIn w q m f K) (hr:(pnOf kind E K).right d=true) (hF:Few E K):
  Calls Tryz.prog 85 #[.agg #[.int .u8 kind,.slice p n c,.slice q m f]] w (RSayF w E K (pnOf kind E K)):=by
 have BE:=jA w (.cells #[.int .u8 kind,.slice p n c,.slice q m f] 97);have BD:=NodeAt.start w kind p n c q m f;have z1:(w.alloc (.cells #[.int .u8 kind,.slice p n c,.slice q m f] 97)).heap.size=w.heap.size+1:=by simp
 have Ae:=PN.fit hr;obtain ⟨hd,BR,An,AA⟩:=PN.kinds hr;have Ad:n<=4:=by have:=Ae.rows;simp only [pnOf,kH] at this;rw [hE.size];exact this
 have Av:m<=4:=by have:=Ae.kids;simp only [pnOf,kH] at this;rw [hK.size];exact this
 have A8:=yH (show ∀k∈K,(0<=k.live/\k.live<=1048576)/\(0<=k.size/\k.size<=1048576) from fun k hk=>by
  have h:=x5i (An _ (kJ.2 ⟨k,hk,rfl⟩));exact ⟨h.1,h.2.1⟩)
 have B8:=yH (fun w1 (h:Below w.heap.size w w1)=>y1h kind hkd p n c q m f E K w1 (hE.later h) (hK.later h) hF (fun k hk=>⟨(A8.out k hk).1.1,(A8.out k hk).2.1⟩));have Br:=yH (x1j Ae (fun k hk=>by obtain ⟨y,hy,rfl⟩:=kJ.1 hk;exact (hK.each y hy).len));have Bf:=yH (show Sm.allB (pnOf kind E K).bytes from x7S hkd (fun k hk=>by obtain ⟨y,hy,rfl⟩:=kJ.1 hk;exact (hK.each y hy).ok));have B1:(pnOf kind E K).says=⟨sumOf (pnOf kind E K).bytes,((K.map Kd.pk).foldl boxK (boxR (E.map En.pe))).1,((K.map Kd.pk).foldl boxK (boxR (E.map En.pe))).2,liveR (E.map En.pe)+((K.map Kd.pk).map PK.live).sum,n+((K.map Kd.pk).map PK.size).sum,(pnOf kind E K).keyOf⟩:=by
  unfold PN.says PN.tally PN.box PN.live PN.size pnOf;simp only [kH];rw [<- hE.size]
 have BK:(pnOf kind E K).size=n+((K.map Kd.pk).map PK.size).sum:=by
  unfold PN.size pnOf;simp only [kH];rw [<- hE.size]
 have BQ:=yH (show (kind=1/\(pnOf kind E K).keyOf=[])\/(kind=2/\1<=n/\(pnOf kind E K).keyOf=(E.getD 0 default).row.R)\/(kind=3/\2<=m/\(pnOf kind E K).keyOf=(K.getD 0 default).key.R) from by
  rcases AA with ⟨h1,-⟩ | ⟨h1,h2,-⟩ | ⟨h1,-,h2,-⟩
  ·have h1:kind=1:=h1;subst h1;exact Or.inl ⟨rfl,rfl⟩
  ·have h1:kind=2:=h1;subst h1;simp only [pnOf,kH] at h2;refine Or.inr (Or.inl ⟨rfl,by rw [hE.size];exact h2,?_⟩);cases E with
   | nil=>simp at h2
   | cons e E'=>rfl
  ·have h1:kind=3:=h1;subst h1;simp only [pnOf,kH] at h2;refine Or.inr (Or.inr ⟨rfl,by rw [hK.size];exact h2,?_⟩);cases K with
   | nil=>simp at h2
   | cons e E'=>rfl)
 generalize hN:pnOf kind E K=N at *;clear hN;obtain ⟨T,hT⟩:∃T,N.says=T:=⟨_,rfl⟩
 obtain ⟨D,hD⟩:∃D,sumOf N.bytes=D:=⟨_,rfl⟩
 rw [hT,hD] at B1;have Ap:=yH (show D.length=32 from by rw [<- hD];rfl);have Bv:=yH (show Sm.allB D from by rw [<- hD];exact x3z _);have AB:=yH B1;have HT:=yH hT;have Bh:=yH hD;have B0:=yH BK;have BM:=yH Ad;have By:=yH Av;have HE:=yH hE;have HK:=yH hK;have Ac:=yH hE.size;have B5:=yH hK.size;obtain ⟨du,BU,BA⟩:=UKd;have A1:=yH BU;have A4:=yH BA;have HZ:=yH (zero_of_info kz);clear hE hK hr Ae BR An AA B1 hT hD BK hd Ad Av BU BA hF hkd;have CE:=HZ.1
 go_enter Tryz.func85,Tryz.ntmps85
 go_upto_region 1 with fail
 have B2:Below (w.heap.size+1) (w.alloc (.cells #[.int .u8 kind,.slice p n c,.slice q m f] 97)) ((w.alloc (.cells #[.int .u8 kind,.slice p n c,.slice q m f] 97)).alloc (.cells kd0.cells.toArray 34)):=(jC _ _).alloc (by omega) _;have r2:=jE (w.alloc (.cells #[.int .u8 kind,.slice p n c,.slice q m f] 97)) (.cells kd0.cells.toArray 34);rw [z1] at r2;have z2:((w.alloc (.cells #[.int .u8 kind,.slice p n c,.slice q m f] 97)).alloc (.cells kd0.cells.toArray 34)).heap.size=w.heap.size+2:=by simp
 have As:=yH (BD.later (by rw [z1];exact B2));have AU:=yH (BE.trans (B2.mono (by omega)));have BP:=yH r2;have Af:=yH z2;clear BE BD z1 B2 r2 z2;generalize (w.alloc (.cells #[.int .u8 kind,.slice p n c,.slice q m f] 97)).alloc (.cells kd0.cells.toArray 34)=w2 at *;obtain ⟨t0,t1,t2⟩:=As.cells;have Am:=yH (B8.out w2 AU);have Al:=yH (show (⟨D,⟨none,0,0,[]⟩,⟨none,0,0,[]⟩,0,0,⟨none,0,0,[]⟩⟩:Kd).cells.length=37 from Kd.cells_length Ap);clear B8;go_upto_region 2 with (first
  | (go_at_call 139;refine Am.mono ?_;rintro e w3 ⟨q9,c9,rfl,o9,b3⟩;have BZ:=yH (x0K o9 Bf);have Ao:=yH b3;clear o9 b3)
  | (go_at_call 138;refine (y5I N.bytes q9 N.bytes.length c9 w3 BZ Br).mono ?_;rintro e w4 ⟨rfl,b4⟩;have A6:=yH (Ao.trans (b4.mono Ao.size));clear b4;rw [Bh.out])
  | (refine x05 (cells:=(⟨D,⟨none,0,0,[]⟩,⟨none,0,0,[]⟩,0,0,⟨none,0,0,[]⟩⟩:Kd).cells.toArray) (by rfl) (by rfl) (by simp only [kA,kB,kC];exact x91 D Ap) ?_)
  | (refine jL (by rfl) 34 (.tmp 4) (.tmp 10) (by rfl) w4.heap.size (⟨D,⟨none,0,0,[]⟩,⟨none,0,0,[]⟩,0,0,⟨none,0,0,[]⟩⟩:Kd).cells.toArray (by rfl) (by rfl) _ _ (jE w4 _) (by rw [jF,Al.out];exact SKd) (by simp only [jF,Al.out,x02]) (jN Kd.one) ?_))
 have BT:=jA w4 (.cells kd0.cells.toArray 34);have Ag:=A6.trans (BT.mono A6.size);have j:=y5K (w0:=w) (gr:=w.heap.size+1) (kd:=⟨D,⟨none,0,0,[]⟩,⟨none,0,0,[]⟩,0,0,⟨none,0,0,[]⟩⟩) (As.later Ag) (yK Ag BP) (jE w4 (.cells kd0.cells.toArray 34)) Ap Bv (fun r hr=>by
  simp only [Kd.rows,jW,jV,or_false] at hr;rcases hr with rfl | rfl | rfl<;>exact ⟨x5c _,x1w _ rfl,x1w _ rfl⟩) (AU.trans (Ag.mono AU.size)) ⟨jB _,by omega,by have:=AU.size;have:=A6.size;omega⟩ ⟨by have:=Af.out;have:=A6.size;omega,by have:=Af.out;have:=A6.size;omega,by omega⟩ ⟨by show -9223372036854775808<=(0:Int);omega,by show (0:Int)<=9223372036854775807;omega⟩ ⟨by show -9223372036854775808<=(0:Int);omega,by show (0:Int)<=9223372036854775807;omega⟩
 have HST:=yH j;have CL:=yH (show w.heap.size+1<w4.heap.size from by have:=Af.out;have:=A6.size;omega);generalize (w4.alloc (.cells kd0.cells.toArray 34)).setRow w4.heap.size (⟨D,⟨none,0,0,[]⟩,⟨none,0,0,[]⟩,0,0,⟨none,0,0,[]⟩⟩:Kd).cells.toArray=wx at *;generalize w4.heap.size=gx at *;have HPK0:=yH (show (⟨D,⟨none,0,0,[]⟩,⟨none,0,0,[]⟩,0,0,⟨none,0,0,[]⟩⟩:Kd).pk=⟨D,(boxR ((E.map En.pe).take 0)).1,(boxR ((E.map En.pe).take 0)).2,liveR ((E.map En.pe).take 0),(0:Nat),[]⟩ from rfl);clear BT Ag j Am Ao A6 BZ As BP AU Af t0 t1 t2;obtain ⟨t0,t1,t2⟩:=HST.node.cells;go_wp2_with fail
 go_loopw [5] (fun i wr=>Ry1 w w.heap.size kind p n c q m f (w.heap.size+1) gx D (E.map En.pe) E K i wr) (fun i _=>n - (intOf i).toNat)
 case atStart=>exact ⟨0,_,by omega,rfl,HST.out,HPK0.out,fun X _ _ _ r hr=>by
  simp only [Kd.rows,jW,jV,or_false] at hr;rcases hr with rfl | rfl | rfl<;>exact x1w _ rfl⟩
 case round=>
  obtain ⟨k,kd,hk,rfl,j,AN,v⟩:=hrel;have HFAR:=yH v;have ST:=yH j;have B:=yH AN;have Ad:=BM.out;clear j AN v HST HPK0 t0 t1 t2;obtain ⟨t0,t1,t2⟩:=ST.node.cells;by_cases hlt:k<n
  ·obtain ⟨g,o,rfl,c1,c2,J⟩:=HE.get k hlt;have i1:(0:Int)<=k/\(k:Int)<n:=by omega
   have C:k<E.length:=by rw [<- Ac.out];exact hlt
   have I:k<(E.map En.pe).length:=by rw [kH];exact C
   have A2:=yH (show boxR ((E.map En.pe).take (k+1))=boxE (boxR ((E.map En.pe).take k)) (E.getD k default).pe from by
    unfold boxR;rw [x3x boxE _ _ _ I,x1i En.pe E k C])
   have AY:=yH (show liveR ((E.map En.pe).take (k+1))=liveR ((E.map En.pe).take k)+(if (E.getD k default).pe.live then (1:Int) else 0) from by
    unfold liveR;rw [x3E _ _ _ I,x1i En.pe E k C])
   have BI:=x4X ((E.map En.pe).take k);have Ai:((E.map En.pe).take k).length<=4:=by rw [kX];omega
   have Bk:=yH (getD_mem E k C);generalize E.getD k default=e at *;have P:=yH J;have C1:=yH c1;have C2:=yH c2;have BX:kd.size=(k:Nat):=congrArg PK.size B;have BB:=ST.cell.size;rw [Nat.zero_add,BX] at BB;have AP:=jS wr gx 35 _ _ ST.row;clear J c1 c2 BX C I;go_upto_region 6 with fail
   have SB:=yH (ST.setSize ((k:Int)+1) ⟨by omega,by omega⟩);generalize wr.setCell ⟨gx,35,none⟩ (.int .i64 ((k:Int)+1))=wb at *;clear BB AP t0 t1 t2;obtain ⟨t0,t1,t2⟩:=SB.node.cells;have c2:=(SB.low.cell (jI C2)).trans C2.out;cases hlv:e.live with
   | false=>
    rw [hlv] at c2;have HP1:=yH (show ({kd with size:=(k:Int)+1}:Kd).pk=⟨D,(boxR ((E.map En.pe).take (k+1))).1,(boxR ((E.map En.pe).take (k+1))).2,liveR ((E.map En.pe).take (k+1)),(k+1:Nat),[]⟩ from by
     have M:=B.out;rw [A2.out,AY.out];simp only [Kd.pk,PK.mk.injEq] at M ⊢;simp [boxE,En.pe,hlv,M])
    clear hlv ST B BI Ai A2 AY;go_wp2_with fail
    go_roundw
    case rel=>exact ⟨k+1,_,by omega,by go_num,SB.out,HP1.out,HFAR.out⟩
    case measure=>simp [intOf];omega
   | true=>
    rw [hlv] at c2;have B9:kd.live=liveR ((E.map En.pe).take k):=congrArg PK.live B;obtain ⟨lv,AL⟩:∃lv:Nat,kd.live=lv:=⟨kd.live.toNat,by omega⟩
    have C9:lv<=4:=by omega
    have AS:kd.lo.R=(boxR ((E.map En.pe).take k)).1:=congrArg PK.lo B;have AO:kd.hi.R=(boxR ((E.map En.pe).take k)).2:=congrArg PK.hi B;have HP1:=yH (show ∀r1 r2:Rw,r1.R=(hull (kd.lo.R,kd.hi.R) (e.row.R,e.row.R)).1->r2.R=(hull (kd.lo.R,kd.hi.R) (e.row.R,e.row.R)).2->({kd with size:=(k:Int)+1,live:=(lv:Int)+1,lo:=r1,hi:=r2}:Kd).pk=⟨D,(boxR ((E.map En.pe).take (k+1))).1,(boxR ((E.map En.pe).take (k+1))).2,liveR ((E.map En.pe).take (k+1)),(k+1:Nat),[]⟩ from fun r1 r2 e1 e2=>by
     rw [A2.out,AY.out,<- B9,AL];have e3:boxE (boxR ((E.map En.pe).take k)) e.pe=hull (kd.lo.R,kd.hi.R) (e.row.R,e.row.R):=by
      unfold boxE;rw [show e.pe.live=true from hlv,if_pos rfl,AS,AO];rfl
     rw [e3,<- e1,<- e2];have M:=B.out;simp only [Kd.pk,PK.mk.injEq] at M ⊢;simp only [show e.pe.live=true from hlv,if_true,true_and];exact ⟨M.1,by omega,M.2.2.2.2.2⟩)
    have Bb:=SB.cell.live;rw [Nat.zero_add,show ({kd with size:=(k:Int)+1}:Kd).live=(lv:Int) from AL] at Bb;have AV:=jS wb gx 34 _ _ SB.row;clear hlv B9 AL AS AO BI Ai ST B A2 AY;go_upto_region 8 with fail
    have SC:=yH (SB.setLive ((lv:Int)+1) ⟨by omega,by omega⟩);generalize wb.setCell ⟨gx,34,none⟩ (.int .i64 ((lv:Int)+1))=wq at *;clear Bb AV c2 SB t0 t1 t2;refine kD (S:=fun w'=>Below w.heap.size w w'/\NodeAt w' w.heap.size kind (some ⟨g,o,none⟩) n c q m f) (by kernel_rfl) ⟨(SC.later (jC _ _).drew).low,(SC.later (jC _ _).drew).node⟩ (fun hH=>?_);refine tK 0 ?_;refine tK 2 ?_;refine tQ 3 ?_ ?_ ?_;rotate_left
    ·intro w' hSw;obtain ⟨t0,t1,t2⟩:=hSw.2.cells;go_simp;try with_reducible rfl
    refine tK 4 ?_;refine tK 5 ?_;refine tK 6 ?_;refine tQ 7 ?_ ?_ ?_;rotate_left
    ·intro w' hSw;have c9:=(hSw.1.cell (jI C1)).trans C1.out;unfold Rw.val at c9;go_simp;try with_reducible rfl
    refine tK 8 ?_;refine tQ 9 ?_ ?_ ?_;rotate_left
    ·intro w' hSw;obtain ⟨t0,t1,t2⟩:=hSw.2.cells;go_simp;try with_reducible rfl
    refine tK 10 ?_;refine tK 11 ?_;refine tK 12 ?_;refine tQ 13 ?_ ?_ ?_;rotate_left
    ·intro w' hSw;have c9:=(hSw.1.cell (jI C1)).trans C1.out;unfold Rw.val at c9;go_simp;try with_reducible rfl
    refine tQ 14 ?_ ?_ ?_;rotate_left
    ·intro w' hSw;refine Eq.trans (b:=Result.ok (Next.value (.agg #[.slice e.row.p e.row.n e.row.c,.slice e.row.p e.row.n e.row.c])) w') ?_ ?_
     ·apply x1A (t:=32) (parts:= #[(0,.tmp 39),(1,.tmp 45)])
      ·rfl
      ·simp only [kA,kB,kC];exact y3i _ _ _ _ _ _
     ·with_reducible rfl
    refine rO 1 fun K hK=>?_;have b0:wq.drew.cell? ⟨gx,32,none⟩=some (.slice kd.lo.p kd.lo.n kd.lo.c):=by have h9:=SC.cell.lo;rw [Nat.zero_add] at h9;exact h9
    have b1:wq.drew.cell? ⟨gx,33,none⟩=some (.slice kd.hi.p kd.hi.n kd.hi.c):=by have h9:=SC.cell.hi;rw [Nat.zero_add] at h9;exact h9
    go_simp;refine hK.out _ _ hH (fun hH=>?_);clear hK K;try simp only [Act.put,yA,yB,yC]
    refine rO 15 fun K hK=>?_;go_simp;have G:=yH (SC.later (jC _ _).drew);have Z:=yH (P.later G.low);refine (y0m kd.lo.p kd.hi.p e.row.p e.row.p kd.lo.n kd.lo.c kd.hi.n kd.hi.c e.row.n e.row.c e.row.n e.row.c kd.lo.R kd.hi.R e.row.R e.row.R wq.drew G.ok.lo.ints G.ok.hi.ints Z.ints Z.ints).mono ?_;rintro _ w8 ⟨v8,rfl,AG,L⟩;obtain ⟨r1,r2,rfl,e1,e2,AH,AI,L,b8⟩:=x90 (a1:=kd.lo) (a2:=kd.hi) (a3:=e.row) (a4:=e.row) AG L G.ok.lo G.ok.hi Z Z;have HFR:=yH (y0n HFAR G.low.size L (Or.inl ⟨_,Bk.out,rfl,rfl⟩));have B3:=yH e1;have Au:=yH e2;have S8:=yH (G.later b8);have O:=yH (L gx (show gx<wq.drew.heap.size from (yL G.row)) (G.away _ (by simp [Kd.rows])).1 (G.away _ (by simp [Kd.rows])).1 (x1s P G.ge.2.2) (x1s P G.ge.2.2));have Q:=yH (L (w.heap.size+1) (show w.heap.size+1<wq.drew.heap.size from (yL G.res)) (G.away _ (by simp [Kd.rows])).2 (G.away _ (by simp [Kd.rows])).2 (x1s P G.ge.2.1) (x1s P G.ge.2.1));have z:=yH AH;have l:=yH AI;clear AG e1 e2 L b8 AH AI;try go_wp2_with fail
    refine hK.out _ _ ⟨S8.low,S8.node⟩ (fun hH=>?_);clear hK K;try simp only [Act.put,yA,yB,yC]
    refine tK 16 ?_;refine rO 17 fun K hK=>?_;refine wp_store_mid 32 (.tmp 48) (.tmp 47) (by rfl) gx 32 #[r1.val,r2.val] (by rfl) (by rfl) (x3y S8.row S8.ok.len r1 r2) IBx (x7Z r1 r2) ?_;have S9:=yH (S8.setBox (r1:=r1) (r2:=r2) ⟨z.out,O.1,Q.1⟩ ⟨l.out,O.2,Q.2⟩);refine hK.out _ _ ⟨S9.low,S9.node⟩ (fun hH=>?_);clear hK K;try simp only [Act.put]
    refine jD ?_;have HP2:=yH (HP1.out r1 r2 B3 Au);have AT:=S9.out;clear S9 hH S8 G O Q z l;have S9:=yH AT;clear AT;generalize w8.setCells gx 32 [r1.val,r2.val]=w9 at *;go_wp2_with fail
    go_roundw
    case rel=>exact ⟨k+1,_,by omega,by go_num,S9.out,HP2.out,HFR.out⟩
    case measure=>simp [intOf];omega
  ·obtain rfl:n=k:=by omega
   have e0:(E.map En.pe).take n=E.map En.pe:=kQ (by rw [kH,Ac.out];exact jB _);rw [e0] at B;have AJ:=x4X (E.map En.pe);rw [kH,<- Ac.out] at AJ;generalize boxR (E.map En.pe)=b0 at *;generalize liveR (E.map En.pe)=lv0 at *;have Bl:=yH AJ;have HPK0:=yH (show kd.pk=⟨D,(((K.map Kd.pk).take 0).foldl boxK b0).1,(((K.map Kd.pk).take 0).foldl boxK b0).2,lv0+(((K.map Kd.pk).take 0).map PK.live).sum,n+(((K.map Kd.pk).take 0).map PK.size).sum,[]⟩ from by
    rw [B.out];simp)
   clear e0 hlt hk AJ B;go_wp2_with fail
   go_loopw [6] (fun i wr=>Ry2 w w.heap.size kind p n c q m f (w.heap.size+1) gx D b0 lv0 (K.map Kd.pk) E K i wr) (fun i _=>m - (intOf i).toNat)
   case atStart=>exact ⟨0,kd,by omega,rfl,ST.out,HPK0.out,HFAR.out⟩
   case round=>
    obtain ⟨k,A,hk,rfl,j,AN,v⟩:=hrel;have Y:=yH v;have H:=yH j;have B:=yH AN;have Av:=By.out;clear j AN v ST HPK0 HFAR t0 t1 t2;obtain ⟨t0,t1,t2⟩:=H.node.cells;by_cases hlt:k<m
    ·
     obtain ⟨g,o,rfl,AD,J⟩:=HK.get k hlt;have i1:(0:Int)<=k/\(k:Int)<m:=by omega
     have C:k<K.length:=by rw [<- B5.out];exact hlt
     have I:k<(K.map Kd.pk).length:=by rw [kH];exact C
     have A2:=yH (show ((K.map Kd.pk).take (k+1)).foldl boxK b0=boxK (((K.map Kd.pk).take k).foldl boxK b0) (K.getD k default).pk from by
      rw [x3x boxK _ _ _ I,x1i Kd.pk K k C])
     have BN:=yH (show (((K.map Kd.pk).take (k+1)).map PK.live).sum=(((K.map Kd.pk).take k).map PK.live).sum+(K.getD k default).live from by
      rw [x3E PK.live _ _ I,x1i Kd.pk K k C];rfl)
     have BW:=yH (show (((K.map Kd.pk).take (k+1)).map PK.size).sum=(((K.map Kd.pk).take k).map PK.size).sum+(K.getD k default).size from by
      rw [x3E PK.size _ _ I,x1i Kd.pk K k C];rfl)
     have Bt:=A8.out _ (getD_mem K k C);have AK:∀x∈(K.map Kd.pk).take k,(0<=x.live/\x.live<=1048576)/\(0<=x.size/\x.size<=1048576):=fun x hx=>by
      obtain ⟨y,hy,rfl⟩:=kJ.1 (List.mem_of_mem_take hx);exact A8.out y hy
     have Bq:=x6l PK.live 1048576 _ (fun x hx=>(AK x hx).1);have Bj:=x6l PK.size 1048576 _ (fun x hx=>(AK x hx).2);have Ai:((K.map Kd.pk).take k).length<=4:=by rw [kX];omega
     have BG:=Bl.out;have Ad:=BM.out;have Bw:A.live=lv0+(((K.map Kd.pk).take k).map PK.live).sum:=congrArg PK.live B;have Bg:A.size=n+(((K.map Kd.pk).take k).map PK.size).sum:=congrArg PK.size B;have AS:A.lo.R=(((K.map Kd.pk).take k).foldl boxK b0).1:=congrArg PK.lo B;have AO:A.hi.R=(((K.map Kd.pk).take k).foldl boxK b0).2:=congrArg PK.hi B;have Bn:=yH (getD_mem K k C);generalize K.getD k default=e at *;obtain ⟨a1,Ar⟩:∃a1:Nat,A.live=a1:=⟨A.live.toNat,by omega⟩
     obtain ⟨a2,Aq⟩:∃a2:Nat,e.live=a2:=⟨e.live.toNat,by omega⟩
     obtain ⟨a3,At⟩:∃a3:Nat,A.size=a3:=⟨A.size.toNat,by omega⟩
     obtain ⟨a4,B6⟩:∃a4:Nat,e.size=a4:=⟨e.size.toNat,by omega⟩
     have CH:a1+a2<=100000000:=by omega
     have CK:a3+a4<=100000000:=by omega
     have HP1:=yH (show ∀r1 r2:Rw,r1.R=(hull (A.lo.R,A.hi.R) (e.lo.R,e.hi.R)).1->r2.R=(hull (A.lo.R,A.hi.R) (e.lo.R,e.hi.R)).2->({A with live:=(a1:Int)+a2,size:=(a3:Int)+a4,lo:=r1,hi:=r2}:Kd).pk=⟨D,(((K.map Kd.pk).take (k+1)).foldl boxK b0).1,(((K.map Kd.pk).take (k+1)).foldl boxK b0).2,lv0+(((K.map Kd.pk).take (k+1)).map PK.live).sum,n+(((K.map Kd.pk).take (k+1)).map PK.size).sum,[]⟩ from fun r1 r2 e1 e2=>by
      rw [A2.out,BN.out,BW.out];have e3:boxK (((K.map Kd.pk).take k).foldl boxK b0) e.pk=hull (A.lo.R,A.hi.R) (e.lo.R,e.hi.R):=by
       unfold boxK;rw [AS,AO];rfl
      rw [e3,<- e1,<- e2];have M:=B.out;simp only [Kd.pk,PK.mk.injEq] at M ⊢;refine ⟨M.1,trivial,trivial,?_,?_,M.2.2.2.2.2⟩
      ·rw [<- Ar,<- Aq];omega
      ·rw [<- At,<- B6];omega)
     have P:=yH J;have u:=yH (x9o AD J.len);have BV:=yH Ar;have BY:=yH Aq;have Bc:=yH At;have Ba:=yH B6;have Bu:IntKind.i64.wrap ((a3:Int)+(a4:Int))=(a3:Int)+(a4:Int):=IntWalk.i64_in _ (by omega);have Bo:IntKind.i64.wrap ((a1:Int)+(a2:Int))=(a1:Int)+(a2:Int):=IntWalk.i64_in _ (by omega);clear AD J Ar Aq At B6 Bw Bg AS AO Bq Bj Ai BG Bt AK B C I A2 BN BW;have x1:=H.cell.size;rw [Nat.zero_add,Bc.out] at x1;have x2:=(H.low.cell (jI u.size)).trans u.size;rw [Ba.out] at x2;have AP:=jS wr gx 35 _ _ H.row;go_upto_region 12 with fail
     go_still_tail 10,(by kernel_rfl)
     have x1:wr.drew.cell? ⟨gx,35,none⟩=some (.int .i64 a3):=x1;have AP:wr.drew.frozen? ⟨gx,35,none⟩=false:=AP;go_upto_region 13 with fail
     have SB:=yH (show TaSt w (wr.setCell ⟨gx,35,none⟩ (.int .i64 ((a3:Int)+a4))).drew w.heap.size kind p n c (some ⟨g,o,none⟩) m f (w.heap.size+1) gx {A with size:=(a3:Int)+a4} from (H.setSize ((a3:Int)+a4) ⟨by omega,by omega⟩).later (jC _ _).drew);generalize (wr.setCell ⟨gx,35,none⟩ (.int .i64 ((a3:Int)+a4))).drew=wb at *;clear x1 x2 AP H t0 t1 t2 Bc Ba;obtain ⟨t0,t1,t2⟩:=SB.node.cells;have x1:=SB.cell.live;rw [Nat.zero_add,show ({A with size:=(a3:Int)+a4}:Kd).live=(a1:Int) from BV.out] at x1;have x2:=(SB.low.cell (jI u.live)).trans u.live;rw [BY.out] at x2;have AV:=jS wb gx 34 _ _ SB.row
     go_still_tail 10,(by kernel_rfl)
     have x1:wb.drew.cell? ⟨gx,34,none⟩=some (.int .i64 a1):=x1;have AV:wb.drew.frozen? ⟨gx,34,none⟩=false:=AV;go_upto_region 14 with fail
     have SC:=yH (show TaSt w ((wb.setCell ⟨gx,34,none⟩ (.int .i64 ((a1:Int)+a2))).drew) w.heap.size kind p n c (some ⟨g,o,none⟩) m f (w.heap.size+1) gx {A with live:=(a1:Int)+a2,size:=(a3:Int)+a4} from (SB.setLive ((a1:Int)+a2) ⟨by omega,by omega⟩).later (jC _ _).drew);generalize (wb.setCell ⟨gx,34,none⟩ (.int .i64 ((a1:Int)+a2))).drew=wq at *;clear x1 x2 AV SB t0 t1 t2 BV BY Bu Bo;refine kD (S:=fun w'=>Below w.heap.size w w'/\NodeAt w' w.heap.size kind p n c (some ⟨g,o,none⟩) m f) (by kernel_rfl) ⟨(SC.later (jC _ _).drew).low,(SC.later (jC _ _).drew).node⟩ (fun hH=>?_);refine tK 0 ?_;refine tK 2 ?_;refine tQ 3 ?_ ?_ ?_;rotate_left
     ·intro w' hSw;obtain ⟨t0,t1,t2⟩:=hSw.2.cells;go_simp;try with_reducible rfl
     refine tK 4 ?_;refine tK 5 ?_;refine tK 6 ?_;refine tQ 7 ?_ ?_ ?_;rotate_left
     ·intro w' hSw;have c8:=(hSw.1.cell (jI u.lo)).trans u.lo;have c9:=(hSw.1.cell (jI u.hi)).trans u.hi;unfold Rw.val at c8 c9;go_simp;try with_reducible rfl
     refine rO 1 fun K hK=>?_;have b0:wq.drew.cell? ⟨gx,32,none⟩=some (.slice A.lo.p A.lo.n A.lo.c):=by have h9:=SC.cell.lo;rw [Nat.zero_add] at h9;exact h9
     have b1:wq.drew.cell? ⟨gx,33,none⟩=some (.slice A.hi.p A.hi.n A.hi.c):=by have h9:=SC.cell.hi;rw [Nat.zero_add] at h9;exact h9
     go_simp;refine hK.out _ _ hH (fun hH=>?_);clear hK K;try simp only [Act.put,yA,yB,yC]
     refine rO 8 fun K hK=>?_;go_simp;have G:=yH (SC.later (jC _ _).drew);have Z:=yH (P.later G.low);refine (y0m A.lo.p A.hi.p e.lo.p e.hi.p A.lo.n A.lo.c A.hi.n A.hi.c e.lo.n e.lo.c e.hi.n e.hi.c A.lo.R A.hi.R e.lo.R e.hi.R wq.drew G.ok.lo.ints G.ok.hi.ints Z.lo.ints Z.hi.ints).mono ?_;rintro _ w8 ⟨v8,rfl,AG,L⟩;obtain ⟨r1,r2,rfl,e1,e2,AH,AI,L,b8⟩:=x90 (a1:=A.lo) (a2:=A.hi) (a3:=e.lo) (a4:=e.hi) AG L G.ok.lo G.ok.hi Z.lo Z.hi;have HFR:=yH (y0n Y G.low.size L (Or.inr ⟨_,Bn.out,rfl,rfl⟩));have B3:=yH e1;have Au:=yH e2;have S8:=yH (G.later b8);have O:=yH (L gx (show gx<wq.drew.heap.size from (yL G.row)) (G.away _ (by simp [Kd.rows])).1 (G.away _ (by simp [Kd.rows])).1 (x1s P.lo G.ge.2.2) (x1s P.hi G.ge.2.2));have Q:=yH (L (w.heap.size+1) (show w.heap.size+1<wq.drew.heap.size from (yL G.res)) (G.away _ (by simp [Kd.rows])).2 (G.away _ (by simp [Kd.rows])).2 (x1s P.lo G.ge.2.1) (x1s P.hi G.ge.2.1));have z:=yH AH;have l:=yH AI;clear AG e1 e2 L b8 AH AI;try go_wp2_with fail
     refine hK.out _ _ ⟨S8.low,S8.node⟩ (fun hH=>?_);clear hK K;try simp only [Act.put,yA,yB,yC]
     refine tK 9 ?_;refine rO 10 fun K hK=>?_;refine wp_store_mid 32 (.tmp 85) (.tmp 84) (by rfl) gx 32 #[r1.val,r2.val] (by rfl) (by rfl) (x3y S8.row S8.ok.len r1 r2) IBx (x7Z r1 r2) ?_;have S9:=yH (S8.setBox (r1:=r1) (r2:=r2) ⟨z.out,O.1,Q.1⟩ ⟨l.out,O.2,Q.2⟩);refine hK.out _ _ ⟨S9.low,S9.node⟩ (fun hH=>?_);clear hK K;try simp only [Act.put]
     refine jD ?_;have HP2:=yH (HP1.out r1 r2 B3 Au);have AT:=S9.out;clear S9 hH S8 G O Q z l;have S9:=yH AT;clear AT;generalize w8.setCells gx 32 [r1.val,r2.val]=w9 at *;go_wp2_with fail
     go_roundw
     case rel=>exact ⟨k+1,_,by omega,by go_num,S9.out,HP2.out,HFR.out⟩
     case measure=>simp [intOf];omega
    focus
     obtain rfl:m=k:=by omega
     have e0:(K.map Kd.pk).take m=K.map Kd.pk:=kQ (by rw [kH,B5.out];exact jB _);rw [e0] at B;clear e0 hlt hk;have Bz:=BQ.out;clear BQ;rcases Bz with ⟨rfl,s⟩ | ⟨rfl,h1,s⟩ | ⟨rfl,h2,s⟩
     ·
      have PE:=yH (show A.pk=T from by rw [AB.out,B.out,s]);clear B s;go_upto_region 19 with fail
      have hz:A.size=N.size:=by rw [B0.out];have:=congrArg PK.size PE.out;rw [AB.out] at this;exact this
      have AQ:=H.cell.size;rw [Nat.zero_add] at AQ;by_cases hbig:1048576<A.size
      ·
       go_wp2_with (first
        | (refine x05 (by rfl) (by rfl) x0T ?_)
        | (refine jL (by rfl) 34 _ _ (by rfl) (w.heap.size+1) kd0.cells.toArray (by rfl) (by rfl) _ _ H.res (by rw [jF,x02];exact SKd) rfl (jN Kd.one) ?_))
       have r9:=jT _ (w.heap.size+1) _ kd0.cells.toArray _ _ H.res;have a:Below (w.heap.size+1) wr (wr.setRow (w.heap.size+1) kd0.cells.toArray):=Below.setRow (jC _ _) (jB _) _;refine x0G 2 3 (by kernel_rfl) (w.heap.size+1) _ kd0.cells.toArray _ A1 A4 (by rw [jF,x02];exact SKd) (by rfl) (by rfl) r9 ?_;exact ⟨H.low.trans (a.mono (by omega)),Or.inr ⟨by omega,rfl⟩⟩
      ·
       have W:=yH (Kd.cells_length H.ok.len);have Ax:=yH (x0E H.row);go_wp2_with (first
        | (refine jK (by rfl) 34 _ (by rfl) gx 0 (by rfl) A.cells du Ax A1 A4 (by rw [W.out];exact SKd) ?_)
        | (refine jL (by rfl) 34 _ _ (by rfl) (w.heap.size+1) A.cells.toArray (by rfl) (by rfl) _ _ H.res (by rw [jF,W.out];exact SKd) (by simp only [jF,W.out,x02]) (jN Kd.one) ?_))
       have r9:=jT _ (w.heap.size+1) _ A.cells.toArray _ _ H.res;have a:Below (w.heap.size+1) wr (wr.setRow (w.heap.size+1) A.cells.toArray):=Below.setRow (jC _ _) (jB _) _;have A5:∀r∈A.rows,r.Ok (wr.setRow (w.heap.size+1) A.cells.toArray):=fun r hr=>rw_keep (H.rows r hr).1 (fun x hx hR=>setRow_other _ _ _ _ ((H.rows r hr).2.2 x hx hR));refine x0G 2 3 (by kernel_rfl) (w.heap.size+1) _ A.cells.toArray _ A1 A4 (by rw [jF,W.out];exact SKd) (by rfl) (by rfl) r9 ?_;exact ⟨H.low.trans (a.mono (by omega)),Or.inl ⟨by omega,A,rfl,PE.trans HT.symm,⟨H.ok.len,H.ok.ok,A5 _ (by simp [Kd.rows]),A5 _ (by simp [Kd.rows]),A5 _ (by simp [Kd.rows]),H.ok.live,H.ok.size⟩,Y.out⟩⟩
     focus
      obtain ⟨g,o,rfl,c1,c2,J⟩:=HE.get 0 (by omega);simp only [Nat.zero_mul,Nat.add_zero] at c1;have Ay:=yH (getD_mem E 0 (by rw [<- Ac.out];omega));generalize E.getD 0 default=e at *;have Ak:=yH (y3j Y (Or.inl ⟨e,Ay.out,rfl⟩));have PE:=yH (show ({A with key:=e.row}:Kd).pk=T from by
       have M:=B.out;rw [AB.out,s];simp only [Kd.pk,PK.mk.injEq] at M ⊢;exact ⟨M.1,M.2.1,M.2.2.1,M.2.2.2.1,M.2.2.2.2.1,trivial⟩)
      have U:=yH (H.setKey (r:=e.row) ⟨J.later H.low,x1s J H.ge.2.2,x1s J H.ge.2.1⟩);have c1:=(H.low.cell (jI c1)).trans c1;have i1:(0:Int)<n:=by omega
      have B4:=jS wr gx 36 _ _ H.row;have A3:=H.cell.key;rw [Nat.zero_add] at A3;unfold Rw.val at c1 A3;unfold Rw.val at U;clear B s c2 J h1;go_upto_region 19 with fail
      generalize wr.setCell ⟨gx,36,none⟩ (.slice e.row.p e.row.n e.row.c)=wk at *;generalize ({A with key:=e.row}:Kd)=kd3 at *;clear H c1 B4 A3 t0 t1 t2;have hz:kd3.size=N.size:=by rw [B0.out];have:=congrArg PK.size PE.out;rw [AB.out] at this;exact this
      have AQ:=U.cell.size;rw [Nat.zero_add] at AQ;by_cases hbig:1048576<kd3.size
      ·
       go_wp2_with (first
        | (refine x05 (by rfl) (by rfl) x0T ?_)
        | (refine jL (by rfl) 34 _ _ (by rfl) (w.heap.size+1) kd0.cells.toArray (by rfl) (by rfl) _ _ U.res (by rw [jF,x02];exact SKd) rfl (jN Kd.one) ?_))
       have r9:=jT _ (w.heap.size+1) _ kd0.cells.toArray _ _ U.res;have a:Below (w.heap.size+1) wk (wk.setRow (w.heap.size+1) kd0.cells.toArray):=Below.setRow (jC _ _) (jB _) _;refine x0G 2 3 (by kernel_rfl) (w.heap.size+1) _ kd0.cells.toArray _ A1 A4 (by rw [jF,x02];exact SKd) (by rfl) (by rfl) r9 ?_;exact ⟨U.low.trans (a.mono (by omega)),Or.inr ⟨by omega,rfl⟩⟩
      focus
       have W:=yH (Kd.cells_length U.ok.len)
      rotate_left
     rotate_left
     focus
      obtain ⟨g,o,rfl,AD,J⟩:=HK.get 0 (by omega);simp only [Nat.zero_mul,Nat.add_zero] at AD;have Ay:=yH (getD_mem K 0 (by rw [<- B5.out];omega));generalize K.getD 0 default=e at *;have Ak:=yH (y3j Y (Or.inr ⟨e,Ay.out,rfl⟩));have c1:=(x9o AD J.len).key;have PE:=yH (show ({A with key:=e.key}:Kd).pk=T from by
       have M:=B.out;rw [AB.out,s];simp only [Kd.pk,PK.mk.injEq] at M ⊢;exact ⟨M.1,M.2.1,M.2.2.1,M.2.2.2.1,M.2.2.2.2.1,trivial⟩)
      have U:=yH (H.setKey (r:=e.key) ⟨J.key.later H.low,x1s J.key H.ge.2.2,x1s J.key H.ge.2.1⟩);have c1:=(H.low.cell (jI c1)).trans c1;have i1:(0:Int)<m:=by omega
      have B4:=jS wr gx 36 _ _ H.row;have A3:=H.cell.key;rw [Nat.zero_add] at A3;unfold Rw.val at c1 A3;unfold Rw.val at U;clear B s AD J h2;go_upto_region 19 with fail
      generalize wr.setCell ⟨gx,36,none⟩ (.slice e.key.p e.key.n e.key.c)=wk at *;generalize ({A with key:=e.key}:Kd)=kd3 at *;clear H c1 B4 A3 t0 t1 t2;have hz:kd3.size=N.size:=by rw [B0.out];have:=congrArg PK.size PE.out;rw [AB.out] at this;exact this
      have AQ:=U.cell.size;rw [Nat.zero_add] at AQ;by_cases hbig:1048576<kd3.size
      ·
       go_wp2_with (first
        | (refine x05 (by rfl) (by rfl) x0T ?_)
        | (refine jL (by rfl) 34 _ _ (by rfl) (w.heap.size+1) kd0.cells.toArray (by rfl) (by rfl) _ _ U.res (by rw [jF,x02];exact SKd) rfl (jN Kd.one) ?_))
       have r9:=jT _ (w.heap.size+1) _ kd0.cells.toArray _ _ U.res;have a:Below (w.heap.size+1) wk (wk.setRow (w.heap.size+1) kd0.cells.toArray):=Below.setRow (jC _ _) (jB _) _;refine x0G 2 3 (by kernel_rfl) (w.heap.size+1) _ kd0.cells.toArray _ A1 A4 (by rw [jF,x02];exact SKd) (by rfl) (by rfl) r9 ?_;exact ⟨U.low.trans (a.mono (by omega)),Or.inr ⟨by omega,rfl⟩⟩
      focus
       have W:=yH (Kd.cells_length U.ok.len)
      rotate_left
     rotate_left
    rotate_left 2;all_goals
     have Ax:=yH (x0E U.row);go_wp2_with (first
      | (refine jK (by rfl) 34 _ (by rfl) gx 0 (by rfl) kd3.cells du Ax A1 A4 (by rw [W.out];exact SKd) ?_)
      | (refine jL (by rfl) 34 _ _ (by rfl) (w.heap.size+1) kd3.cells.toArray (by rfl) (by rfl) _ _ U.res (by rw [jF,W.out];exact SKd) (by simp only [jF,W.out,x02]) (jN Kd.one) ?_))
     have r9:=jT _ (w.heap.size+1) _ kd3.cells.toArray _ _ U.res;have a:Below (w.heap.size+1) wk (wk.setRow (w.heap.size+1) kd3.cells.toArray):=Below.setRow (jC _ _) (jB _) _;have A5:∀r∈kd3.rows,r.Ok (wk.setRow (w.heap.size+1) kd3.cells.toArray):=fun r hr=>rw_keep (U.rows r hr).1 (fun x hx hR=>setRow_other _ _ _ _ ((U.rows r hr).2.2 x hx hR));refine x0G 2 3 (by kernel_rfl) (w.heap.size+1) _ kd3.cells.toArray _ A1 A4 (by rw [jF,W.out];exact SKd) (by rfl) (by rfl) r9 ?_;exact ⟨U.low.trans (a.mono (by omega)),Or.inl ⟨by omega,kd3,rfl,PE.trans HT.symm,⟨U.ok.len,U.ok.ok,A5 _ (by simp [Kd.rows]),A5 _ (by simp [Kd.rows]),A5 _ (by simp [Kd.rows]),U.ok.live,U.ok.size⟩,Ak.out⟩⟩
end Nd
namespace Kt
open Go.RowKit Nd
theorem y1l {w w':World} {E:List En} {K:List Kd} {N:PN} {e:Ending} (h:RSayF w E K N e w') (hz:N.size<=1048576):∃kd:Kd,e= .returned (.tuple #[.agg kd.cells.toArray,.bool true])/\kd.pk=N.says/\kd.Ok w'/\Far w E K kd.rows/\Below w.heap.size w w':=by
 obtain ⟨G,⟨-,kd,I,H,B,C⟩ | ⟨A,-⟩⟩:=h
 ·exact ⟨kd,I,H,B,C,G⟩
 ·exact absurd hz A
theorem y3k {w w':World} {E:List En} {K:List Kd} {N:PN} {e:Ending} (h:RSayF w E K N e w') (hz:¬N.size<=1048576):∃kd:Kd,e= .returned (.tuple #[.agg kd.cells.toArray,.bool false])/\kd.pk=PK.none/\kd.Ok w'/\Far w E K kd.rows/\Below w.heap.size w w':=by
 obtain ⟨B,⟨A,-⟩ | ⟨-,C⟩⟩:=h
 ·exact absurd A hz
 ·refine ⟨kd0,C,x9w,x24 _,fun X _ _ _ r hr=>?_,B⟩;simp only [Kd.rows,kd0,jW,jV,or_false] at hr;rcases hr with rfl | rfl | rfl<;>exact x1w _ rfl
theorem y3l {w w':World} {E:List En} {K:List Kd} {N:PN} {e:Ending} (h:RSayF w E K N e w'):∃(kd:Kd) (b:Bool),e= .returned (.tuple #[.agg kd.cells.toArray,.bool b])/\kd.pk=(if N.size<=1048576 then N.says else PK.none)/\kd.Ok w'/\Far w E K kd.rows/\Below w.heap.size w w':=by
 by_cases hz:N.size<=1048576
 ·obtain ⟨kd,C,A,B⟩:=y1l h hz;exact ⟨kd,true,C,by rw [if_pos hz];exact A,B⟩
 ·obtain ⟨kd,C,A,B⟩:=y3k h hz;exact ⟨kd,false,C,by rw [if_neg hz];exact A,B⟩
theorem y74 {w:World} {p q:Option Addr} {c f:Nat} {E:List En} {K:List Kd} {d:Int} (hE:EntsIn w p 1 c E) (hK:KidsIn w q 2 f K) (h:(pnOf 1 E K).right d=true):Few E K:=by
 have B:=PN.fit h;have C:∀e∈E,e.row.R.length<=8:=fun e he=>B.row e.pe (kJ.2 ⟨e,he,rfl⟩);have A:∀k∈K,k.pk.Fit:=fun k hk=>B.kid k.pk (kJ.2 ⟨k,hk,rfl⟩);have H:=hE.size;have G:=hK.size;exact ⟨by omega,by omega,fun e he=>by have:=C e he;rw [(hE.each e he).ints.size];omega,fun k hk=>by have:k.lo.R.length<=8:=(A k hk).lo;rw [(hK.each k hk).lo.ints.size];omega,fun k hk=>by have:k.hi.R.length<=8:=(A k hk).hi;rw [(hK.each k hk).hi.ints.size];omega,fun k hk=>by have:k.key.R.length<=8:=(A k hk).key;rw [(hK.each k hk).key.ints.size];omega⟩
theorem y5M {d:Nat} (hd:1<=d/\d<=8) (u:T):u.dims d->x9H u:=by
 induction u with
 | nil=>
  intro _ F p w h;obtain rfl:p=none:=by cases h;rfl
  clear h;obtain ⟨du,H,C⟩:=UKd;have L:=yH H;have O:=yH C;have z:=yH (zero_of_info kz);have A0:=z.1;have m:=jE w (.cells kd0.cells.toArray 34);have J:=jA w (.cells kd0.cells.toArray 34);clear H C
  go_enter Tryz.func26,Tryz.ntmps26
  go_upto_region 1 with fail
  generalize w.alloc (.cells kd0.cells.toArray 34)=w1 at *;go_wp2_with (first
   | (refine x05 (by rfl) (by rfl) x0T ?_)
   | (refine jL (by rfl) 34 _ _ (by rfl) w.heap.size kd0.cells.toArray (by rfl) (by rfl) _ _ m (by rw [jF,x02];exact SKd) rfl (jN Kd.one) ?_))
  refine x1U 2 (by kernel_rfl) w.heap.size _ kd0.cells.toArray L O (by rw [jF,x02];exact SKd) (by rfl) (jT _ _ _ _ _ _ m) ?_;refine ⟨kd0,rfl,x9w,x24 _,fun X _ _ r hr=>?_,J.trans (Below.setRow (jC _ _) (jB _) _)⟩;simp only [Kd.rows,kd0,jW,jV,or_false] at hr;rcases hr with rfl | rfl | rfl<;>exact x1w _ rfl
 | fork x v l u ihl ihr=>
  intro hdm F p w h;have J:=jA w (.cells kd0.cells.toArray 34);have m:=jE w (.cells kd0.cells.toArray 34);have HN:=yH (y2O x v l u (ihl hdm.2.1) (ihr hdm.2.2) _ p _ (h.lt.later J));have c:=yH (x1b (v:=v) hd hdm.1 (x1V hd l hdm.2.1).1 (x1V hd u hdm.2.2).1 (x1V hd l hdm.2.1).2 (x1V hd u hdm.2.2).2);have HK:=yH (show (T.fork x v l u).kid=if (forkN x v l.kid u.kid).size<=1048576 then (forkN x v l.kid u.kid).says else PK.none from rfl);obtain ⟨g,r0,a,b,rfl,rfl,-,-,-,-,-,-⟩:=h.go;generalize (T.fork r0.R v l u).kid=KK at *;generalize forkN r0.R v l.kid u.kid=N at *;have R1:=yH m;have B1:=yH J;obtain ⟨du,H,C⟩:=UKd;have L:=yH H;have O:=yH C;have z:=yH (zero_of_info kz);have A0:=z.1;clear H C h hdm ihl ihr m J
  go_enter Tryz.func26,Tryz.ntmps26
  go_upto_region 1 with fail
  generalize w.alloc (.cells kd0.cells.toArray 34)=w1 at *;go_upto_region 4 with (first
   | (go_at_call 86;refine HN.mono ?_;rintro _ w2 ⟨p2,q2,E,K,rfl,q,t,M,j,b2⟩;have o:=yH j;have f:=yH b2;have i:=yH (y5L 1 (by omega) p2 1 1 q2 2 2 E K d w2 q t (by rw [M];exact c.out) (y74 q t (by rw [M];exact c.out)));rw [M] at i;clear q t M j b2)
   | (go_at_call 85;refine i.mono ?_;rintro e G hp;obtain ⟨I,bb,rfl,Z,Q,P,b3⟩:=y3l hp;have A2:=yH Z;have s:=yH Q;have Y:=yH P;have B3:=yH b3;have B:=yH (Kd.cells_length Q.len);clear hp Z Q P b3)
   | (refine jL (by rfl) 34 (.tmp 3) _ (by rfl) G.heap.size I.cells.toArray (by rfl) (by rfl) _ _ (jE G _) (by rw [jF,B.out];exact SKd) (by simp only [jF,B.out,x02]) (jN Kd.one) ?_))
  have U:Below G.heap.size G ((G.alloc (.cells kd0.cells.toArray 34)).setRow G.heap.size I.cells.toArray):=Below.setRow (jA _ _) (jB _) _;have k:=jT _ G.heap.size _ I.cells.toArray _ _ (jE G (.cells kd0.cells.toArray 34));generalize (G.alloc (.cells kd0.cells.toArray 34)).setRow G.heap.size I.cells.toArray=w4 at *;have A3:=yH (x0E k);have B4:=yH ((f.trans (B3.mono f.size)).trans (U.mono (f.trans (B3.mono f.size)).size));have R4:=yH (yK B4 R1);have A:=yH (s.later U);clear U k;go_wp2_with (first
   | (refine jK (by rfl) 34 _ (by rfl) G.heap.size 0 (by rfl) I.cells du A3 L O (by rw [B.out];exact SKd) ?_)
   | (refine jL (by rfl) 34 _ _ (by rfl) w.heap.size I.cells.toArray (by rfl) (by rfl) _ _ R4 (by rw [jF,B.out];exact SKd) (by simp only [jF,B.out,x02]) (jN Kd.one) ?_))
  refine x1U 2 (by kernel_rfl) w.heap.size _ I.cells.toArray L O (by rw [jF,B.out];exact SKd) (by rfl) (jT _ _ _ _ _ _ R4) ?_;have A1:w.heap.size<w1.heap.size:=(yL R1)
  have n:∀X,X<w1.heap.size->¬(F X/\X<w.heap.size)->∀r∈I.rows,Away X r:=fun X hX hF=>Y.out X (jO hX f.size) (o.out X hX hF).1 (o.out X hX hF).2;have W:∀r∈I.rows,r.Ok w4->r.Ok (w4.setRow w.heap.size I.cells.toArray):=fun r hr ho=>Nd.rw_keep ho fun y hy hR=>setRow_other _ _ _ _ (n _ A1 (fun h=>by omega) r hr y hy hR);exact ⟨I,rfl,by rw [HK.out];exact A2.out,⟨A.len,A.ok,W _ (by simp [Kd.rows]) A.lo,W _ (by simp [Kd.rows]) A.hi,W _ (by simp [Kd.rows]) A.key,A.live,A.size⟩,fun X hX hF=>n X (by omega) (fun h=>hF h.1),(B1.trans (B4.mono B1.size)).trans (Below.setRow (jC _ _) (jB _) _)⟩
end Kt
namespace Kt
open Go.RowKit Nd Dk Pg
def hasV (d:Nat) (p:List Int) (u:V):Bool×Int:=match wayV d p u 0 with
 | none=>(false,21)
 | some x=>(x.2.live,0)
theorem y75 {gs d:Nat} {Q:Nat->Prop} {s:Pg.S} (hd:1<=d/\d<=8) (hW:x2x d s.W) (u:V) (k:Kd) (r:Rw) (w:World) (hp:PL w gs Q s) (hs:Sees s.W d u) (hk:k.Ok w) (he:k.pk=u.kid) (hr:r.Ok w) (hrd:r.n=d) (hz:u.kid.size<=90000) (hka:Aw Q k) (hra:∀y,r.p=some y->r.R≠[]->¬Q y.block):
  Calls Tryz.prog 29 #[.pointer (some ⟨gs,0,none⟩),.agg k.cells.toArray,r.val,.int .i64 d] w fun e w'=>e= .returned (.tuple #[.bool (hasV d r.R u).1,.int .i64 (hasV d r.R u).2])/\Below w.heap.size w w':=by
 have b1:=jA w (.cells k.cells.toArray 34);have r1:=jE w (.cells k.cells.toArray 34);have Y:=yH (show ∀w',Below w.heap.size w w'->Calls Tryz.prog 68 #[.agg #[.pointer (some ⟨gs,0,none⟩),.int .i64 d],.agg k.cells.toArray,r.val] w' (y0X w' Q (wayV d r.R u 0)) from fun w' hb=>x9V hd hW u k r w' (hp.keep (fun _=>False) (Only.of_below _ hb) (fun _ _ e=>e)) hs (hk.later hb) he (hr.later hb) hrd hz hka hra);have N:=yH (Kd.cells_length hk.len);have R1:=yH r1;have l:=yH b1;have I:=yH (show ∀L s,wayV d r.R u 0=some (L,s)->((L++[s]).length:Int)<=90001 from fun L s h=>by have:=(x2S u 0 hs L s h).2.2;omega);unfold hasV;generalize hO:wayV d r.R u 0=O at *;obtain ⟨rp,rn,rc,rR⟩:=r;unfold Rw.val at Y ⊢;simp only at Y ⊢;obtain ⟨du,j,a⟩:=UTr;obtain ⟨dk,U,G⟩:=UKd;have P:=yH j;have g:=yH a;have i:=yH U;have H:=yH G;clear hk b1 r1 j a U G hd hW hp hs he hr hrd hz hka hra hO;have E:O=none\/∃L s,O=some (L,s):=by
  cases O with
  | none=>exact Or.inl rfl
  | some x=>exact Or.inr ⟨x.1,x.2,rfl⟩
 rcases E with rfl | ⟨L,s',rfl⟩
 ·simp only
  go_enter Tryz.func29,Tryz.ntmps29
  go_upto_region 1 with fail
  generalize w.alloc (.cells k.cells.toArray 34)=w1 at *;go_upto_region 2 with (first
   | (refine x05 (cells:= #[.pointer (some ⟨gs,0,none⟩),.int .i64 d]) (by rfl) (by rfl) (by simp only [kA,kB,kC];exact x1y _ _) ?_)
   | (refine jL (by rfl) 107 (.tmp 10) (.tmp 15) (by rfl) w1.heap.size #[.pointer (some ⟨gs,0,none⟩),.int .i64 d] (by rfl) (by rfl) _ _ (jE w1 _) STr rfl (x4E _ _) ?_;rw [x03]))
  have A:=jA w1 (.cells #[.pointer (some ⟨gs,0,none⟩),.int .i64 d] 107);have C:=jE w1 (.cells #[.pointer (some ⟨gs,0,none⟩),.int .i64 d] 107);generalize w1.alloc (.cells #[.pointer (some ⟨gs,0,none⟩),.int .i64 d] 107)=w2 at *;have t:=yH (x09 C);have K:=yH (x0E (yK A R1));have J:=yH (l.trans (A.mono l.size));clear A C;go_wp2_with (first
   | (refine jK (by rfl) 107 _ (by rfl) w1.heap.size 0 (by rfl) [.pointer (some ⟨gs,0,none⟩),.int .i64 d] du t P g STr ?_)
   | (refine jK (by rfl) 34 _ (by rfl) w.heap.size 0 (by rfl) k.cells dk K i H (by rw [N.out];exact SKd) ?_)
   | (go_at_call 68;refine (Y.out w2 J).mono ?_;rintro _ w3 ⟨c,hn,-⟩;obtain rfl:=hn rfl;have v:=yH (J.trans (c.mono J.size));clear c hn))
  go_ret2;exact ⟨rfl,v.out⟩
 ·simp only
  go_enter Tryz.func29,Tryz.ntmps29
  go_upto_region 1 with fail
  generalize w.alloc (.cells k.cells.toArray 34)=w1 at *;go_upto_region 2 with (first
   | (refine x05 (cells:= #[.pointer (some ⟨gs,0,none⟩),.int .i64 d]) (by rfl) (by rfl) (by simp only [kA,kB,kC];exact x1y _ _) ?_)
   | (refine jL (by rfl) 107 (.tmp 10) (.tmp 15) (by rfl) w1.heap.size #[.pointer (some ⟨gs,0,none⟩),.int .i64 d] (by rfl) (by rfl) _ _ (jE w1 _) STr rfl (x4E _ _) ?_;rw [x03]))
  have A:=jA w1 (.cells #[.pointer (some ⟨gs,0,none⟩),.int .i64 d] 107);have C:=jE w1 (.cells #[.pointer (some ⟨gs,0,none⟩),.int .i64 d] 107);generalize w1.alloc (.cells #[.pointer (some ⟨gs,0,none⟩),.int .i64 d] 107)=w2 at *;have t:=yH (x09 C);have K:=yH (x0E (yK A R1));have J:=yH (l.trans (A.mono l.size));clear A C;go_upto_region 3 with (first
   | (refine jK (by rfl) 107 _ (by rfl) w1.heap.size 0 (by rfl) [.pointer (some ⟨gs,0,none⟩),.int .i64 d] du t P g STr ?_)
   | (refine jK (by rfl) 34 _ (by rfl) w.heap.size 0 (by rfl) k.cells dk K i H (by rw [N.out];exact SKd) ?_)
   | (go_at_call 68;refine (Y.out w2 J).mono ?_;rintro _ w3 ⟨c,-,f⟩;obtain ⟨q5,c5,A5,AE,rfl,B,X,-⟩:=f L s' rfl;have Z:=yH B;have b:=yH X;have v:=yH (J.trans (c.mono J.size));clear c f B X))
  obtain ⟨z,M⟩:∃z,z=A5.length:=⟨_,rfl⟩
  have A3:=yH (show Calls Tryz.prog 69 #[.slice q5 z c5] w3 fun e w'=>e= .returned (.bool s'.live)/\w'=w3 from by
   obtain ⟨A0,m,hA,q,o⟩:=x2T b.out;have B:=Z.out;rw [M];rw [hA] at B ⊢;rw [o.live];refine x7v B ?_;have:=I.out L s' rfl;rw [q.length];simp at this;omega)
  rw [<- M];clear M Z b Y I;go_wp2_with (go_at_call 69;refine A3.mono ?_;rintro _ w4 ⟨rfl,rfl⟩)
  go_ret2;exact ⟨rfl,v.out⟩
end Kt
end Go.Proofs.YtenenciaggbjnaaGreat
