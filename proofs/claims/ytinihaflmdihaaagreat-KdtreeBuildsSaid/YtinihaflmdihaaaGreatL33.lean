/- ShaRefSum, PgRefSum, NdRefSay. -/
import Derived.BigRegion
import Derived.StillTailTactics
import Derived.Test.YtinihaflmdihaaaGreatL32
set_option maxRecDepth 100000
set_option maxHeartbeats 8000000
set_option linter.all false
namespace Go.Proofs.YtinihaflmdihaaaGreat
open Go.RowKit
theorem y02 (T:List Nat) (p:Option Addr) (n c:Nat) (w:World) (hT:Tx w p n c T) (hl:T.length<1000000):
  Calls Tryz.prog 155 #[.slice p n c] w fun e w'=>e= .returned (.agg (u8s (Sm.sum T)))∧Below w.heap.size w w':=by
 have W:=(zero_of_info Z25).1
 have U:=yH hT
 clear hT
 go_enter Tryz.func155,Tryz.ntmps155
 go_wp2_with fail
 have B:Below w.heap.size w (w.alloc (.cells (u8s (zeros 32)) 30)):=(Below.refl _ _).alloc (Nat.le_refl _) _
 have G:=heap_alloc_new w (.cells (u8s (zeros 32)) 30)
 generalize hW0:w.alloc (.cells (u8s (zeros 32)) 30)=W0 at B G ⊢
 have K:=yH (U.out.later B)
 have M:=yH B
 have P:=yH G
 clear hW0 B G U W
 refine (y1w W0).mono ?_
 rintro _ O ⟨rfl,rfl⟩
 have A:Below W0.heap.size W0 (W0.alloc (.cells (u32s Sm.ks) 241)):=(Below.refl _ _).alloc (Nat.le_refl _) _
 have E:=heap_alloc_new W0 (.cells (u32s Sm.ks) 241)
 obtain ⟨O,J⟩:∃O,O=W0.alloc (.cells (u32s Sm.ks) 241):=⟨_,rfl⟩
 rw [← J] at A E ⊢
 have N:=yH (K.out.later A)
 have L:=yH (M.out.trans (A.mono M.out.size))
 have Q:=yH (yK A P.out)
 have H:=yH E
 clear J A E K
 go_wp2_with fail
 refine (y3X T p n c W0.heap.size O N.out hl H.out).mono ?_
 rintro _ X ⟨rfl,C⟩
 have R:=yH (L.out.trans (C.mono L.out.size))
 have I:=yH (yK C Q.out)
 clear C N H
 go_wp2_with (refine wpList_store_row (by rfl) 30 _ _ (by rfl) w.heap.size (u8s (Sm.sum T)) (by rfl) (by rfl) _ _ I.out (by exact S25) (by rfl) (x0b _) ?_)
 refine x0h 2 (by kernel_rfl) w.heap.size _ _ A25 S25 rfl (setRow_heap _ _ _ _ _ _ I.out) rfl ⟨rfl,?_⟩
 exact Below.setRow R.out (Nat.le_refl _) _
end Go.Proofs.YtinihaflmdihaaaGreat
namespace Go.Proofs.YtinihaflmdihaaaGreat.Pg
open Go.RowKit
theorem y3Y (b:List Nat) (p:Option Addr) (n c:Nat) (w:World) (hT:Tx w p n c b) (hn:n≤100000):
  Calls Tryz.prog 113 #[.slice p n c] w fun e w'=>e= .returned (.agg (u8s (sumOf b)))∧Below w.heap.size w w':=by
 have W:=yH hT
 have Y:=(zero_of_info Z25).1
 have B:=(Below.refl w.heap.size w).alloc (Nat.le_refl _) (.cells (u8s (zeros 32)) 30)
 have H:=(Below.refl (w.alloc (.cells (u8s (zeros 32)) 30)).heap.size (w.alloc (.cells (u8s (zeros 32)) 30))).alloc (Nat.le_refl _) (.cells #[.slice p n c] 45)
 have M:=yH (x8o (heap_alloc_new (w.alloc (.cells (u8s (zeros 32)) 30)) (.cells #[.slice p n c] 45)) ((hT.later B).later H))
 have B1:=yH (B.trans (H.mono B.size))
 have N:=yH ((heap_alloc_old (w.alloc (.cells (u8s (zeros 32)) 30)) (.cells #[.slice p n c] 45) (Array.getElem?_eq_some_iff.1 (heap_alloc_new w (.cells (u8s (zeros 32)) 30))).1).trans (heap_alloc_new w (.cells (u8s (zeros 32)) 30)))
 have R:=yH hT.size
 have J:=yH (show (pre 80 [b]).length<1000000 from by have:=hT.size;rw [y10];omega)
 clear hT H B
 go_enter Tryz.func113,Tryz.ntmps113
 go_wp2_with fail
 rw [show (w.alloc (.cells (u8s (zeros 32)) 30)).heap.size=w.heap.size+1 from by simp] at M
 generalize (w.alloc (.cells (u8s (zeros 32)) 30)).alloc (.cells #[.slice p n c] 45)=w1 at *
 refine (y00 80 (by omega) [b] _ 1 1 w1 M.out (by have:=R.out;rw [y11];omega)).mono ?_
 rintro e Q ⟨q,m,d,rfl,L,I⟩
 have U:=yH (x0H L (y5O 80 (by omega) (fun x hx=>by rw [List.mem_singleton.1 hx];exact W.out.ok)))
 have B2:=yH (B1.out.trans (I.mono B1.out.size))
 have O:=yH (yK I N.out)
 clear L I
 go_wp2_with fail
 refine (y02 (pre 80 [b]) q m d Q U.out J.out).mono ?_
 rintro e X ⟨rfl,E⟩
 have P:=yH (B2.out.trans (E.mono B2.out.size))
 have K:=yH (yK E O.out)
 obtain ⟨D,C⟩:∃D,D=sumOf b:=⟨_,rfl⟩
 rw [show Sm.sum (pre 80 [b])=D from C.symm]
 have A:=yH (show D.length=32 from by rw [C];rfl)
 have G:=yH C
 clear E C
 go_wp2_with (refine wpList_store_row (by rfl) 30 _ _ (by rfl) w.heap.size (u8s D) (by rfl) (by rfl) _ _ K.out (by rw [x08,A.out];exact S25) (by rw [x08,x08,A.out];rfl) (x0b _) ?_)
 exact x0h 2 (by kernel_rfl) w.heap.size _ _ A25 S25 rfl (setRow_heap _ _ _ _ _ _ K.out) (by rw [x08];exact A.out) ⟨by rw [G.out],Below.setRow P.out (Nat.le_refl _) _⟩
end Go.Proofs.YtinihaflmdihaaaGreat.Pg
namespace Go.Proofs.YtinihaflmdihaaaGreat.Nd
open Go.RowKit Go.Proofs.YtinihaflmdihaaaGreat.Dk Go.Proofs.YtinihaflmdihaaaGreat.Pg Go.Proofs.YtinihaflmdihaaaGreat.Zr
open List renaming setIfInBounds_toArray → yA, set_cons_zero → yB, set_cons_succ → yC
theorem x1R {w:World} {r:Rw} (h:r.Ok w) {X:Nat} (hX:w.heap.size≤X):Away X r:=fun _ hx hR e=>by have:=x23 h.ints hx hR;omega
theorem y20 (f:Int→Int→Int) (R T:List Int) (n:Nat):(two f R T n).length=n:=by simp [two]
theorem y3Z (A B:List Int×List Int) (M:Nat) (_h8:8≤M) (h1:A.1.length≤M) (h2:A.2.length≤M) (h3:B.1.length≤M) (h4:B.2.length≤M):(hull A B).1.length≤M∧(hull A B).2.length≤M:=by
 unfold hull
 split
 ·exact ⟨h1,h2⟩
 ·split
  ·exact ⟨h3,h4⟩
  ·split
   ·exact ⟨by simp,by simp⟩
   ·exact ⟨by rw [y20];exact h1,by rw [y20];exact h1⟩
theorem x7i {w w':World} {a1 a2 a3 a4:Rw} {v:Value} (hb:x6I w (hull (a1.R,a2.R) (a3.R,a4.R)).1 (hull (a1.R,a2.R) (a3.R,a4.R)).2 v w') (ha:x97 w a1.p a2.p a3.p a4.p a1.R a2.R a3.R a4.R (hull (a1.R,a2.R) (a3.R,a4.R)).1 (hull (a1.R,a2.R) (a3.R,a4.R)).2 v)
  (h1:a1.Ok w) (h2:a2.Ok w) (h3:a3.Ok w) (h4:a4.Ok w):
  ∃r1 r2:Rw,v= .agg #[r1.val,r2.val]∧r1.R=(hull (a1.R,a2.R) (a3.R,a4.R)).1∧r2.R=(hull (a1.R,a2.R) (a3.R,a4.R)).2∧r1.Ok w'∧r2.Ok w'∧(∀X,X<w.heap.size→Away X a1→Away X a2→Away X a3→Away X a4→Away X r1∧Away X r2)∧Below w.heap.size w w':=by
 have E:=y3Z (a1.R,a2.R) (a3.R,a4.R) 9223372036854775807 (by omega) (by have:=h1.top;rw [h1.ints.size] at this;exact this) (by have:=h2.top;rw [h2.ints.size] at this;exact this) (by have:=h3.top;rw [h3.ints.size] at this;exact this) (by have:=h4.top;rw [h4.ints.size] at this;exact this)
 generalize (hull (a1.R,a2.R) (a3.R,a4.R)).1=A at *
 generalize (hull (a1.R,a2.R) (a3.R,a4.R)).2=B at *
 obtain ⟨p,c,q,e,rfl,J,I,C⟩:=hb
 obtain ⟨a,n,L,b,m,K,G,H⟩:=ha
 simp only [Value.agg.injEq,Array.mk.injEq,List.cons.injEq,Value.slice.injEq,and_true] at G
 obtain ⟨⟨rfl,rfl,rfl⟩,rfl,rfl,rfl⟩:=G
 exact ⟨⟨p,A.length,c,A⟩,⟨q,B.length,e,B⟩,rfl,rfl,rfl,⟨J,E.1⟩,⟨I,E.2⟩,H,C⟩
theorem x7j:∀(D:List Nat),D.length=32→Tryz.prog.built 34 [(0,.agg (u8s D))]=some (⟨D,⟨none,0,0,[]⟩,⟨none,0,0,[]⟩,0,0,⟨none,0,0,[]⟩⟩:Kd).cells.toArray
 |[a0,a1,a2,a3,a4,a5,a6,a7,a8,a9,a10,a11,a12,a13,a14,a15,a16,a17,a18,a19,a20,a21,a22,a23,a24,a25,a26,a27,a28,a29,a30,a31],_=>by kernel_rfl
theorem y21 (p q:Option Addr) (n c m e:Nat):Tryz.prog.built 32 [(0,.slice p n c),(1,.slice q m e)]=some #[.slice p n c,.slice q m e]:=by kernel_rfl
section
variable {w0 w w':World} {gn kind:Nat} {p:Option Addr} {n c:Nat} {q:Option Addr} {m f gr gx:Nat} {kd:Kd}
theorem y3a {O:Array Value} (hn:NodeAt w gn kind p n c q m f) (hr:w.heap[gr]? =some (.cells kd0.cells.toArray 34 (0,0))) (hx:w.heap[gx]? =some (.cells O 34 (0,0))) (hk:kd.sum.length=32) (hkb:Sm.allB kd.sum) (hro:∀r∈kd.rows,r.Ok w∧Away gx r∧Away gr r) (hl:Below w0.heap.size w0 w) (ge:w0.heap.size≤gn∧w0.heap.size≤gr∧w0.heap.size≤gx) (ne:gn≠gx∧gr≠gx∧gn≠gr) (h1:In64 kd.live) (h2:In64 kd.size):
  TaSt w0 (w.setRow gx kd.cells.toArray) gn kind p n c q m f gr gx kd:=by
 have B:Below gx w (w.setRow gx kd.cells.toArray):=Below.setRow (Below.refl _ _) (Nat.le_refl _) _
 have A:∀r:Rw,r.Ok w∧Away gx r∧Away gr r→r.Ok (w.setRow gx kd.cells.toArray):=fun r hr=>rw_keep hr.1 (fun y hy hR=>setRow_other _ _ _ _ (hr.2.1 y hy hR))
 exact ⟨⟨(setRow_other _ _ _ _ ne.1).trans hn.row⟩,(setRow_other _ _ _ _ ne.2.1).trans hr,setRow_heap _ _ _ _ _ _ hx,⟨hk,hkb,A _ (hro _ (by simp [Kd.rows])),A _ (hro _ (by simp [Kd.rows])),A _ (hro _ (by simp [Kd.rows])),h1,h2⟩,fun r hr=>(hro r hr).2,hl.trans (B.mono ge.2.2),ge,ne⟩
theorem TaSt.setKey (h:TaSt w0 w gn kind p n c q m f gr gx kd) {r:Rw} (hr:r.Ok w∧Away gx r∧Away gr r):TaSt w0 (w.setCell ⟨gx,36,none⟩ r.val) gn kind p n c q m f gr gx {kd with key:=r}:=by
 have A:=heap_setCell_same w gx 36 _ _ r.val h.row
 rw [x5i h.ok.len] at A
 refine h.turn A (Only.setCell (P:=fun j=>j=gx) _ (a:=⟨gx,36,none⟩) rfl _) rfl (fun r' hr'=>?_) h.ok.live h.ok.size
 simp only [Kd.rows,List.mem_cons,List.not_mem_nil,or_false] at hr'
 rcases hr' with rfl | rfl | rfl
 ·exact h.rows _ (by simp [Kd.rows])
 ·exact h.rows _ (by simp [Kd.rows])
 ·exact hr
end
def Far (w0:World) (E:List En) (K:List Kd) (L:List Rw):Prop:=∀X,X<w0.heap.size→(∀e∈E,Away X e.row)→(∀k∈K,∀r∈k.rows,Away X r)→∀r∈L,Away X r
theorem x99 {w0 w1:World} {E:List En} {K:List Kd} {kd:Kd} {a3 a4 r1 r2:Rw} (h:Far w0 E K kd.rows) (hz:w0.heap.size≤w1.heap.size) (haw:∀X,X<w1.heap.size→Away X kd.lo→Away X kd.hi→Away X a3→Away X a4→Away X r1∧Away X r2) (h3:(∃e∈E,a3=e.row∧a4=e.row)∨∃k∈K,a3=k.lo∧a4=k.hi):Far w0 E K [r1,r2,kd.key]:=by
 intro X hX hE hK r hr
 have A:=h X hX hE hK
 have B:Away X a3∧Away X a4:=by
  rcases h3 with ⟨e,G,rfl,rfl⟩ | ⟨k,A,rfl,rfl⟩
  ·exact ⟨hE e G,hE e G⟩
  ·exact ⟨hK k A _ (by simp [Kd.rows]),hK k A _ (by simp [Kd.rows])⟩
 have C:=haw X (Nat.lt_of_lt_of_le hX hz) (A _ (by simp [Kd.rows])) (A _ (by simp [Kd.rows])) B.1 B.2
 simp only [List.mem_cons,List.not_mem_nil,or_false] at hr
 rcases hr with rfl | rfl | rfl
 ·exact C.1
 ·exact C.2
 ·exact A _ (by simp [Kd.rows])
theorem y22 {w0:World} {E:List En} {K:List Kd} {kd:Kd} {r0:Rw} (h:Far w0 E K kd.rows) (h3:(∃e∈E,r0=e.row)∨∃k∈K,r0=k.key):Far w0 E K ({kd with key:=r0}:Kd).rows:=by
 intro X hX hE hK r hr
 have A:=h X hX hE hK
 simp only [Kd.rows,List.mem_cons,List.not_mem_nil,or_false] at hr
 rcases hr with rfl | rfl | rfl
 ·exact A _ (by simp [Kd.rows])
 ·exact A _ (by simp [Kd.rows])
 ·rcases h3 with ⟨e,B,rfl⟩ | ⟨k,A,rfl⟩
  ·exact hE e B
  ·exact hK k A _ (by simp [Kd.rows])
def Ry1 (w:World) (gn kind:Nat) (p:Option Addr) (n c:Nat) (q:Option Addr) (m f gr gx:Nat) (SM:List Nat) (L:List PE) (E:List En) (K:List Kd) (i:Value) (wr:World):Prop:=
 ∃(k:Nat) (kd:Kd),k≤n∧i= .int .i64 k∧TaSt w wr gn kind p n c q m f gr gx kd∧kd.pk=⟨SM,(boxR (L.take k)).1,(boxR (L.take k)).2,liveR (L.take k),k,[]⟩∧Far w E K kd.rows
def Ry2 (w:World) (gn kind:Nat) (p:Option Addr) (n c:Nat) (q:Option Addr) (m f gr gx:Nat) (SM:List Nat) (b:List Int×List Int) (lv:Int) (L:List PK) (E:List En) (K:List Kd) (i:Value) (wr:World):Prop:=
 ∃(k:Nat) (kd:Kd),k≤m∧i= .int .i64 k∧TaSt w wr gn kind p n c q m f gr gx kd∧kd.pk=⟨SM,((L.take k).foldl boxK b).1,((L.take k).foldl boxK b).2,lv+((L.take k).map PK.live).sum,n+((L.take k).map PK.size).sum,[]⟩∧Far w E K kd.rows
def RSayF (w:World) (E:List En) (K:List Kd) (N:PN) (e:Ending) (w':World):Prop:=
 Below w.heap.size w w'∧
 ((N.size≤1048576∧∃kd:Kd,e= .returned (.tuple #[.agg kd.cells.toArray,.bool true])∧kd.pk=N.says∧kd.Ok w'∧Far w E K kd.rows)∨
  (¬N.size≤1048576∧e= .returned (.tuple #[.agg kd0.cells.toArray,.bool false])))
theorem y3b (kind:Nat) (hkd:kind<256) (p:Option Addr) (n c:Nat) (q:Option Addr) (m f:Nat) (E:List En) (K:List Kd) (d:Int) (w:World) (hE:EntsIn w p n c E) (hK:KidsIn w q m f K) (hr:(pnOf kind E K).right d=true) (hF:Few E K):
  Calls Tryz.prog 70 #[.agg #[.int .u8 kind,.slice p n c,.slice q m f]] w (RSayF w E K (pnOf kind E K)):=by
 have BL:Below w.heap.size w (w.alloc (.cells #[.int .u8 kind,.slice p n c,.slice q m f] 81)):=(Below.refl _ _).alloc (Nat.le_refl _) _
 have BR:=NodeAt.start w kind p n c q m f
 have z1:(w.alloc (.cells #[.int .u8 kind,.slice p n c,.slice q m f] 81)).heap.size=w.heap.size+1:=by simp
 have Ac:=PN.fit hr
 obtain ⟨hd,BE,An,A8⟩:=PN.kinds hr
 have Af:n≤4:=by have:=Ac.rows;simp only [pnOf,List.length_map] at this;rw [hE.size];exact this
 have Ar:m≤4:=by have:=Ac.kids;simp only [pnOf,List.length_map] at this;rw [hK.size];exact this
 have AA:=yH (show ∀k∈K,(0≤k.live∧k.live≤1048576)∧(0≤k.size∧k.size≤1048576) from fun k hk=>by
  have h:=x4q (An _ (List.mem_map.2 ⟨k,hk,rfl⟩))
  exact ⟨h.1,h.2.1⟩)
 have BS:=yH (fun w1 (h:Below w.heap.size w w1)=>x9z kind hkd p n c q m f E K w1 (hE.later h) (hK.later h) hF (fun k hk=>⟨(AA.out k hk).1.1,(AA.out k hk).2.1⟩))
 have Bg:=yH (x1N Ac (fun k hk=>by obtain ⟨y,hy,rfl⟩:=List.mem_map.1 hk;exact (hK.each y hy).len))
 have C4:=yH (show Sm.allB (pnOf kind E K).bytes from x6K hkd (fun k hk=>by obtain ⟨y,hy,rfl⟩:=List.mem_map.1 hk;exact (hK.each y hy).ok))
 have B4:(pnOf kind E K).says=⟨sumOf (pnOf kind E K).bytes,((K.map Kd.pk).foldl boxK (boxR (E.map En.pe))).1,((K.map Kd.pk).foldl boxK (boxR (E.map En.pe))).2,liveR (E.map En.pe)+((K.map Kd.pk).map PK.live).sum,n+((K.map Kd.pk).map PK.size).sum,(pnOf kind E K).keyOf⟩:=by
  unfold PN.says PN.tally PN.box PN.live PN.size pnOf
  simp only [List.length_map]
  rw [← hE.size]
 have BI:(pnOf kind E K).size=n+((K.map Kd.pk).map PK.size).sum:=by
  unfold PN.size pnOf
  simp only [List.length_map]
  rw [← hE.size]
 have BO:=yH (show (kind=1∧(pnOf kind E K).keyOf=[])∨(kind=2∧1≤n∧(pnOf kind E K).keyOf=(E.getD 0 default).row.R)∨(kind=3∧2≤m∧(pnOf kind E K).keyOf=(K.getD 0 default).key.R) from by
  rcases A8 with ⟨h1,-⟩ | ⟨h1,h2,-⟩ | ⟨h1,-,h2,-⟩
  ·have h1:kind=1:=h1
   subst h1
   exact Or.inl ⟨rfl,rfl⟩
  ·have h1:kind=2:=h1
   subst h1
   simp only [pnOf,List.length_map] at h2
   refine Or.inr (Or.inl ⟨rfl,by rw [hE.size];exact h2,?_⟩)
   cases E with
   | nil=>simp at h2
   | cons e E'=>rfl
  ·have h1:kind=3:=h1
   subst h1
   simp only [pnOf,List.length_map] at h2
   refine Or.inr (Or.inr ⟨rfl,by rw [hK.size];exact h2,?_⟩)
   cases K with
   | nil=>simp at h2
   | cons e E'=>rfl)
 generalize hN:pnOf kind E K=N at *
 clear hN
 obtain ⟨T,hT⟩:∃T,N.says=T:=⟨_,rfl⟩
 obtain ⟨D,hD⟩:∃D,sumOf N.bytes=D:=⟨_,rfl⟩
 rw [hT,hD] at B4
 have Aq:=yH (show D.length=32 from by rw [← hD];rfl)
 have Bu:=yH (show Sm.allB D from by rw [← hD];exact x3N _)
 have AD:=yH B4
 have HT:=yH hT
 have Bk:=yH hD
 have B9:=yH BI
 have BU:=yH Af
 have Bj:=yH Ar
 have HE:=yH hE
 have HK:=yH hK
 have Ad:=yH hE.size
 have B7:=yH hK.size
 obtain ⟨du,BN,BM⟩:=UKd
 have s:=yH BN
 have j:=yH BM
 have HZ:=yH (zero_of_info kz)
 clear hE hK hr Ac BE An A8 B4 hT hD BI hd Af Ar BN BM hF hkd
 have CI:=HZ.out.1
 go_enter Tryz.func70,Tryz.ntmps70
 go_upto_region 1 with fail
 have Ax:Below (w.heap.size+1) (w.alloc (.cells #[.int .u8 kind,.slice p n c,.slice q m f] 81)) ((w.alloc (.cells #[.int .u8 kind,.slice p n c,.slice q m f] 81)).alloc (.cells kd0.cells.toArray 34)):=(Below.refl _ _).alloc (by omega) _
 have r2:=heap_alloc_new (w.alloc (.cells #[.int .u8 kind,.slice p n c,.slice q m f] 81)) (.cells kd0.cells.toArray 34)
 rw [z1] at r2
 have z2:((w.alloc (.cells #[.int .u8 kind,.slice p n c,.slice q m f] 81)).alloc (.cells kd0.cells.toArray 34)).heap.size=w.heap.size+2:=by simp
 have B6:=yH (BR.later (by rw [z1];exact Ax))
 have AH:=yH (BL.trans (Ax.mono (by omega)))
 have BY:=yH r2
 have Aa:=yH z2
 clear BL BR z1 Ax r2 z2
 generalize (w.alloc (.cells #[.int .u8 kind,.slice p n c,.slice q m f] 81)).alloc (.cells kd0.cells.toArray 34)=w2 at *
 obtain ⟨v,t1,t2⟩:=B6.out.cells
 have Al:=yH (BS.out w2 AH.out)
 have Am:=yH (show (⟨D,⟨none,0,0,[]⟩,⟨none,0,0,[]⟩,0,0,⟨none,0,0,[]⟩⟩:Kd).cells.length=37 from Kd.cells_length Aq.out)
 clear BS
 go_upto_region 2 with (first
  | (go_at_call 114;refine Al.out.mono ?_;rintro e w3 ⟨q9,c9,rfl,o9,b3⟩;have BQ:=yH (x0H o9 C4.out);have Ay:=yH b3;clear o9 b3)
  | (go_at_call 113;refine (y3Y N.bytes q9 N.bytes.length c9 w3 BQ.out Bg.out).mono ?_;rintro e w4 ⟨rfl,b4⟩;have A5:=yH (Ay.out.trans (b4.mono Ay.out.size));clear b4;rw [Bk.out])
  | (refine x07 (cells:=(⟨D,⟨none,0,0,[]⟩,⟨none,0,0,[]⟩,0,0,⟨none,0,0,[]⟩⟩:Kd).cells.toArray) (by rfl) (by rfl) (by simp only [List.map_toArray,List.map_cons,List.map_nil];exact x7j D Aq.out) ?_)
  | (refine wpList_store_row (by rfl) 34 (.tmp 4) (.tmp 10) (by rfl) w4.heap.size (⟨D,⟨none,0,0,[]⟩,⟨none,0,0,[]⟩,0,0,⟨none,0,0,[]⟩⟩:Kd).cells.toArray (by rfl) (by rfl) _ _ (heap_alloc_new w4 _) (by rw [List.size_toArray,Am.out];exact SKd) (by simp only [List.size_toArray,Am.out,x01]) (all_oneCell_toArray Kd.one) ?_))
 have BG:Below w4.heap.size w4 (w4.alloc (.cells kd0.cells.toArray 34)):=(Below.refl _ _).alloc (Nat.le_refl _) _
 have Ak:=A5.out.trans (BG.mono A5.out.size)
 have A3:=y3a (w0:=w) (gr:=w.heap.size+1) (kd:=⟨D,⟨none,0,0,[]⟩,⟨none,0,0,[]⟩,0,0,⟨none,0,0,[]⟩⟩) (B6.out.later Ak) (yK Ak BY.out) (heap_alloc_new w4 (.cells kd0.cells.toArray 34)) Aq.out Bu.out (fun r hr=>by
  simp only [Kd.rows,List.mem_cons,List.not_mem_nil,or_false] at hr
  rcases hr with rfl | rfl | rfl<;>exact ⟨x4k _,x1U _ rfl,x1U _ rfl⟩) (AH.out.trans (Ak.mono AH.out.size)) ⟨Nat.le_refl _,by omega,by have:=AH.out.size;have:=A5.out.size;omega⟩ ⟨by have:=Aa.out;have:=A5.out.size;omega,by have:=Aa.out;have:=A5.out.size;omega,by omega⟩ ⟨by show -9223372036854775808≤(0:Int);omega,by show (0:Int)≤9223372036854775807;omega⟩ ⟨by show -9223372036854775808≤(0:Int);omega,by show (0:Int)≤9223372036854775807;omega⟩
 have HST:=yH A3
 have CK:=yH (show w.heap.size+1<w4.heap.size from by have:=Aa.out;have:=A5.out.size;omega)
 generalize (w4.alloc (.cells kd0.cells.toArray 34)).setRow w4.heap.size (⟨D,⟨none,0,0,[]⟩,⟨none,0,0,[]⟩,0,0,⟨none,0,0,[]⟩⟩:Kd).cells.toArray=wx at *
 generalize w4.heap.size=gx at *
 have HPK0:=yH (show (⟨D,⟨none,0,0,[]⟩,⟨none,0,0,[]⟩,0,0,⟨none,0,0,[]⟩⟩:Kd).pk=⟨D,(boxR ((E.map En.pe).take 0)).1,(boxR ((E.map En.pe).take 0)).2,liveR ((E.map En.pe).take 0),(0:Nat),[]⟩ from rfl)
 clear BG Ak A3 Al Ay A5 BQ B6 BY AH Aa v t1 t2
 obtain ⟨v,t1,t2⟩:=HST.out.node.cells
 go_wp2_with fail
 go_loopw [5] (fun i wr=>Ry1 w w.heap.size kind p n c q m f (w.heap.size+1) gx D (E.map En.pe) E K i wr) (fun i _=>n - (intOf i).toNat)
 case atStart=>exact ⟨0,_,by omega,rfl,HST.out,HPK0.out,fun X _ _ _ r hr=>by
  simp only [Kd.rows,List.mem_cons,List.not_mem_nil,or_false] at hr
  rcases hr with rfl | rfl | rfl<;>exact x1U _ rfl⟩
 case round=>
  obtain ⟨k,kd,hk,rfl,A3,AU,u⟩:=hrel
  have HFAR:=yH u
  have ST:=yH A3
  have B:=yH AU
  have Af:=BU.out
  clear A3 AU u HST HPK0 v t1 t2
  obtain ⟨v,t1,t2⟩:=ST.out.node.cells
  by_cases hlt:k<n
  ·obtain ⟨g,o,rfl,c1,c2,I⟩:=HE.out.get k hlt
   have i1:(0:Int)≤k∧(k:Int)<n:=by omega
   have C:k<E.length:=by rw [← Ad.out];exact hlt
   have J:k<(E.map En.pe).length:=by rw [List.length_map];exact C
   have A7:=yH (show boxR ((E.map En.pe).take (k+1))=boxE (boxR ((E.map En.pe).take k)) (E.getD k default).pe from by
    unfold boxR
    rw [x3M boxE _ _ _ J,x1M En.pe E k C])
   have Ah:=yH (show liveR ((E.map En.pe).take (k+1))=liveR ((E.map En.pe).take k)+(if (E.getD k default).pe.live then (1:Int) else 0) from by
    unfold liveR
    rw [x2Y _ _ _ J,x1M En.pe E k C])
   have Bc:=x3q ((E.map En.pe).take k)
   have Ai:((E.map En.pe).take k).length≤4:=by rw [List.length_take];omega
   have Br:=yH (getD_mem E k C)
   generalize E.getD k default=e at *
   have Q:=yH I
   have C1:=yH c1
   have C2:=yH c2
   have BT:kd.size=(k:Nat):=congrArg PK.size B.out
   have BP:=ST.out.cell.size
   rw [Nat.zero_add,BT] at BP
   have AT:=frozen_of_row wr gx 35 _ _ ST.out.row
   clear I c1 c2 BT C J
   go_upto_region 6 with fail
   have SB:=yH (ST.out.setSize ((k:Int)+1) ⟨by omega,by omega⟩)
   generalize wr.setCell ⟨gx,35,none⟩ (.int .i64 ((k:Int)+1))=wb at *
   clear BP AT v t1 t2
   obtain ⟨v,t1,t2⟩:=SB.out.node.cells
   have c2:=(SB.out.low.cell (block_lt_of_cell C2.out)).trans C2.out
   cases hlv:e.live with
   | false=>
    rw [hlv] at c2
    have HP1:=yH (show ({kd with size:=(k:Int)+1}:Kd).pk=⟨D,(boxR ((E.map En.pe).take (k+1))).1,(boxR ((E.map En.pe).take (k+1))).2,liveR ((E.map En.pe).take (k+1)),(k+1:Nat),[]⟩ from by
     have P:=B.out
     rw [A7.out,Ah.out]
     simp only [Kd.pk,PK.mk.injEq] at P ⊢
     simp [boxE,En.pe,hlv,P])
    clear hlv ST B Bc Ai A7 Ah
    go_wp2_with fail
    go_roundw
    case rel=>exact ⟨k+1,_,by omega,by go_num,SB.out,HP1.out,HFAR.out⟩
    case measure=>simp [intOf];omega
   | true=>
    rw [hlv] at c2
    have BX:kd.live=liveR ((E.map En.pe).take k):=congrArg PK.live B.out
    obtain ⟨lv,AV⟩:∃lv:Nat,kd.live=lv:=⟨kd.live.toNat,by omega⟩
    have CA:lv≤4:=by omega
    have AQ:kd.lo.R=(boxR ((E.map En.pe).take k)).1:=congrArg PK.lo B.out
    have AP:kd.hi.R=(boxR ((E.map En.pe).take k)).2:=congrArg PK.hi B.out
    have HP1:=yH (show ∀r1 r2:Rw,r1.R=(hull (kd.lo.R,kd.hi.R) (e.row.R,e.row.R)).1→r2.R=(hull (kd.lo.R,kd.hi.R) (e.row.R,e.row.R)).2→({kd with size:=(k:Int)+1,live:=(lv:Int)+1,lo:=r1,hi:=r2}:Kd).pk=⟨D,(boxR ((E.map En.pe).take (k+1))).1,(boxR ((E.map En.pe).take (k+1))).2,liveR ((E.map En.pe).take (k+1)),(k+1:Nat),[]⟩ from fun r1 r2 e1 e2=>by
     rw [A7.out,Ah.out,← BX,AV]
     have e3:boxE (boxR ((E.map En.pe).take k)) e.pe=hull (kd.lo.R,kd.hi.R) (e.row.R,e.row.R):=by
      unfold boxE
      rw [show e.pe.live=true from hlv,if_pos rfl,AQ,AP]
      rfl
     rw [e3,← e1,← e2]
     have P:=B.out
     simp only [Kd.pk,PK.mk.injEq] at P ⊢
     simp only [show e.pe.live=true from hlv,if_true,true_and]
     exact ⟨P.1,by omega,P.2.2.2.2.2⟩)
    have BW:=SB.out.cell.live
    rw [Nat.zero_add,show ({kd with size:=(k:Int)+1}:Kd).live=(lv:Int) from AV] at BW
    have AN:=frozen_of_row wb gx 34 _ _ SB.out.row
    clear hlv BX AV AQ AP Bc Ai ST B A7 Ah
    go_upto_region 8 with fail
    have SC:=yH (SB.out.setLive ((lv:Int)+1) ⟨by omega,by omega⟩)
    generalize wb.setCell ⟨gx,34,none⟩ (.int .i64 ((lv:Int)+1))=wq at *
    clear BW AN c2 SB v t1 t2
    refine wp_region_held_drew (S:=fun w'=>Below w.heap.size w w'∧NodeAt w' w.heap.size kind (some ⟨g,o,none⟩) n c q m f) (by kernel_rfl) ⟨(SC.out.later (Below.refl _ _).drew).low,(SC.out.later (Below.refl _ _).drew).node⟩ (fun hHeld=>?_)
    refine tK 0 ?_
    refine tK 2 ?_
    refine tQ 3 ?_ ?_ ?_
    rotate_left
    ·intro w' hSw
     obtain ⟨v,t1,t2⟩:=hSw.2.cells
     go_simp
     try with_reducible rfl
    refine tK 4 ?_
    refine tK 5 ?_
    refine tK 6 ?_
    refine tQ 7 ?_ ?_ ?_
    rotate_left
    ·intro w' hSw
     have c9:=(hSw.1.cell (block_lt_of_cell C1.out)).trans C1.out
     unfold Rw.val at c9
     go_simp
     try with_reducible rfl
    refine tK 8 ?_
    refine tQ 9 ?_ ?_ ?_
    rotate_left
    ·intro w' hSw
     obtain ⟨v,t1,t2⟩:=hSw.2.cells
     go_simp
     try with_reducible rfl
    refine tK 10 ?_
    refine tK 11 ?_
    refine tK 12 ?_
    refine tQ 13 ?_ ?_ ?_
    rotate_left
    ·intro w' hSw
     have c9:=(hSw.1.cell (block_lt_of_cell C1.out)).trans C1.out
     unfold Rw.val at c9
     go_simp
     try with_reducible rfl
    refine tQ 14 ?_ ?_ ?_
    rotate_left
    ·intro w' hSw
     refine Eq.trans (b:=Result.ok (Next.value (.agg #[.slice e.row.p e.row.n e.row.c,.slice e.row.p e.row.n e.row.c])) w') ?_ ?_
     ·apply x0t (t:=32) (parts:= #[(0,.tmp 39),(1,.tmp 45)])
      ·rfl
      ·simp only [List.map_toArray,List.map_cons,List.map_nil]
       exact y21 _ _ _ _ _ _
     ·with_reducible rfl
    refine rO 1 fun K hK=>?_
    have b0:wq.drew.cell? ⟨gx,32,none⟩=some (.slice kd.lo.p kd.lo.n kd.lo.c):=by have h9:=SC.out.cell.lo;rw [Nat.zero_add] at h9;exact h9
    have b1:wq.drew.cell? ⟨gx,33,none⟩=some (.slice kd.hi.p kd.hi.n kd.hi.c):=by have h9:=SC.out.cell.hi;rw [Nat.zero_add] at h9;exact h9
    go_simp
    refine hK.out _ _ hHeld (fun hHeld=>?_)
    clear hK K
    try simp only [Act.put,yA,yB,yC]
    refine rO 15 fun K hK=>?_
    go_simp
    have H:=yH (SC.out.later (Below.refl _ _).drew)
    have a:=yH (Q.out.later H.out.low)
    refine (x98 kd.lo.p kd.hi.p e.row.p e.row.p kd.lo.n kd.lo.c kd.hi.n kd.hi.c e.row.n e.row.c e.row.n e.row.c kd.lo.R kd.hi.R e.row.R e.row.R wq.drew H.out.ok.lo.ints H.out.ok.hi.ints a.out.ints a.out.ints).mono ?_
    rintro _ w8 ⟨v8,rfl,AS,O⟩
    obtain ⟨r1,r2,rfl,e1,e2,AL,AK,O,b8⟩:=x7i (a1:=kd.lo) (a2:=kd.hi) (a3:=e.row) (a4:=e.row) AS O H.out.ok.lo H.out.ok.hi a.out a.out
    have HFR:=yH (x99 HFAR.out H.out.low.size O (Or.inl ⟨_,Br.out,rfl,rfl⟩))
    have As:=yH e1
    have B0:=yH e2
    have S8:=yH (H.out.later b8)
    have U:=yH (O gx (show gx<wq.drew.heap.size from (yL H.out.row)) (H.out.away _ (by simp [Kd.rows])).1 (H.out.away _ (by simp [Kd.rows])).1 (x1R Q.out H.out.ge.2.2) (x1R Q.out H.out.ge.2.2))
    have W:=yH (O (w.heap.size+1) (show w.heap.size+1<wq.drew.heap.size from (yL H.out.res)) (H.out.away _ (by simp [Kd.rows])).2 (H.out.away _ (by simp [Kd.rows])).2 (x1R Q.out H.out.ge.2.1) (x1R Q.out H.out.ge.2.1))
    have A0:=yH AL
    have A2:=yH AK
    clear AS e1 e2 O b8 AL AK
    try go_wp2_with fail
    refine hK.out _ _ ⟨S8.out.low,S8.out.node⟩ (fun hHeld=>?_)
    clear hK K
    try simp only [Act.put,yA,yB,yC]
    refine tK 16 ?_
    refine rO 17 fun K hK=>?_
    refine wp_store_mid 32 (.tmp 48) (.tmp 47) (by rfl) gx 32 #[r1.val,r2.val] (by rfl) (by rfl) (x2G S8.out.row S8.out.ok.len r1 r2) IBx (x4t r1 r2) ?_
    have S9:=yH (S8.out.setBox (r1:=r1) (r2:=r2) ⟨A0.out,U.out.1,W.out.1⟩ ⟨A2.out,U.out.2,W.out.2⟩)
    refine hK.out _ _ ⟨S9.out.low,S9.out.node⟩ (fun hHeld=>?_)
    clear hK K
    try simp only [Act.put]
    refine wpAnyH_done (by kernel_rfl) ?_ _
    have HP2:=yH (HP1.out r1 r2 As.out B0.out)
    have AR:=S9.out
    clear S9 hHeld S8 H U W A0 A2
    have S9:=yH AR
    clear AR
    generalize w8.setCells gx 32 [r1.val,r2.val]=w9 at *
    go_wp2_with fail
    go_roundw
    case rel=>exact ⟨k+1,_,by omega,by go_num,S9.out,HP2.out,HFR.out⟩
    case measure=>simp [intOf];omega
  ·obtain rfl:n=k:=by omega
   have e0:(E.map En.pe).take n=E.map En.pe:=List.take_of_length_le (by rw [List.length_map,Ad.out];exact Nat.le_refl _)
   rw [e0] at B
   have AI:=x3q (E.map En.pe)
   rw [List.length_map,← Ad.out] at AI
   generalize boxR (E.map En.pe)=b0 at *
   generalize liveR (E.map En.pe)=lv0 at *
   have Bi:=yH AI
   have HPK0:=yH (show kd.pk=⟨D,(((K.map Kd.pk).take 0).foldl boxK b0).1,(((K.map Kd.pk).take 0).foldl boxK b0).2,lv0+(((K.map Kd.pk).take 0).map PK.live).sum,n+(((K.map Kd.pk).take 0).map PK.size).sum,[]⟩ from by
    rw [B.out]
    simp)
   clear e0 hlt hk AI B
   go_wp2_with fail
   go_loopw [6] (fun i wr=>Ry2 w w.heap.size kind p n c q m f (w.heap.size+1) gx D b0 lv0 (K.map Kd.pk) E K i wr) (fun i _=>m - (intOf i).toNat)
   case atStart=>exact ⟨0,kd,by omega,rfl,ST.out,HPK0.out,HFAR.out⟩
   case round=>
    obtain ⟨k,A,hk,rfl,A3,AU,u⟩:=hrel
    have l:=yH u
    have G:=yH A3
    have B:=yH AU
    have Ar:=Bj.out
    clear A3 AU u ST HPK0 HFAR v t1 t2
    obtain ⟨v,t1,t2⟩:=G.out.node.cells
    by_cases hlt:k<m
    ·obtain ⟨g,o,rfl,AB,I⟩:=HK.out.get k hlt
     have i1:(0:Int)≤k∧(k:Int)<m:=by omega
     have C:k<K.length:=by rw [← B7.out];exact hlt
     have J:k<(K.map Kd.pk).length:=by rw [List.length_map];exact C
     have A7:=yH (show ((K.map Kd.pk).take (k+1)).foldl boxK b0=boxK (((K.map Kd.pk).take k).foldl boxK b0) (K.getD k default).pk from by
      rw [x3M boxK _ _ _ J,x1M Kd.pk K k C])
     have BD:=yH (show (((K.map Kd.pk).take (k+1)).map PK.live).sum=(((K.map Kd.pk).take k).map PK.live).sum+(K.getD k default).live from by
      rw [x2Y PK.live _ _ J,x1M Kd.pk K k C]
      rfl)
     have Bb:=yH (show (((K.map Kd.pk).take (k+1)).map PK.size).sum=(((K.map Kd.pk).take k).map PK.size).sum+(K.getD k default).size from by
      rw [x2Y PK.size _ _ J,x1M Kd.pk K k C]
      rfl)
     have Bo:=AA.out _ (getD_mem K k C)
     have AX:∀x∈(K.map Kd.pk).take k,(0≤x.live∧x.live≤1048576)∧(0≤x.size∧x.size≤1048576):=fun x hx=>by
      obtain ⟨y,hy,rfl⟩:=List.mem_map.1 (List.mem_of_mem_take hx)
      exact AA.out y hy
     have Bz:=x5j PK.live 1048576 _ (fun x hx=>(AX x hx).1)
     have Bp:=x5j PK.size 1048576 _ (fun x hx=>(AX x hx).2)
     have Ai:((K.map Kd.pk).take k).length≤4:=by rw [List.length_take];omega
     have BB:=Bi.out
     have Af:=BU.out
     have Bq:A.live=lv0+(((K.map Kd.pk).take k).map PK.live).sum:=congrArg PK.live B.out
     have Bm:A.size=n+(((K.map Kd.pk).take k).map PK.size).sum:=congrArg PK.size B.out
     have AQ:A.lo.R=(((K.map Kd.pk).take k).foldl boxK b0).1:=congrArg PK.lo B.out
     have AP:A.hi.R=(((K.map Kd.pk).take k).foldl boxK b0).2:=congrArg PK.hi B.out
     have Bt:=yH (getD_mem K k C)
     generalize K.getD k default=e at *
     obtain ⟨a1,Ap⟩:∃a1:Nat,A.live=a1:=⟨A.live.toNat,by omega⟩
     obtain ⟨a2,Au⟩:∃a2:Nat,e.live=a2:=⟨e.live.toNat,by omega⟩
     obtain ⟨a3,At⟩:∃a3:Nat,A.size=a3:=⟨A.size.toNat,by omega⟩
     obtain ⟨a4,Av⟩:∃a4:Nat,e.size=a4:=⟨e.size.toNat,by omega⟩
     have CH:a1+a2≤100000000:=by omega
     have CN:a3+a4≤100000000:=by omega
     have HP1:=yH (show ∀r1 r2:Rw,r1.R=(hull (A.lo.R,A.hi.R) (e.lo.R,e.hi.R)).1→r2.R=(hull (A.lo.R,A.hi.R) (e.lo.R,e.hi.R)).2→({A with live:=(a1:Int)+a2,size:=(a3:Int)+a4,lo:=r1,hi:=r2}:Kd).pk=⟨D,(((K.map Kd.pk).take (k+1)).foldl boxK b0).1,(((K.map Kd.pk).take (k+1)).foldl boxK b0).2,lv0+(((K.map Kd.pk).take (k+1)).map PK.live).sum,n+(((K.map Kd.pk).take (k+1)).map PK.size).sum,[]⟩ from fun r1 r2 e1 e2=>by
      rw [A7.out,BD.out,Bb.out]
      have e3:boxK (((K.map Kd.pk).take k).foldl boxK b0) e.pk=hull (A.lo.R,A.hi.R) (e.lo.R,e.hi.R):=by
       unfold boxK
       rw [AQ,AP]
       rfl
      rw [e3,← e1,← e2]
      have P:=B.out
      simp only [Kd.pk,PK.mk.injEq] at P ⊢
      refine ⟨P.1,trivial,trivial,?_,?_,P.2.2.2.2.2⟩
      ·rw [← Ap,← Au];omega
      ·rw [← At,← Av];omega)
     have Q:=yH I
     have A1:=yH (x8M AB I.len)
     have Ba:=yH Ap
     have Bd:=yH Au
     have BJ:=yH At
     have BZ:=yH Av
     have C3:IntKind.i64.wrap ((a3:Int)+(a4:Int))=(a3:Int)+(a4:Int):=IntWalk.i64_in _ (by omega)
     have Bv:IntKind.i64.wrap ((a1:Int)+(a2:Int))=(a1:Int)+(a2:Int):=IntWalk.i64_in _ (by omega)
     clear AB I Ap Au At Av Bq Bm AQ AP Bz Bp Ai BB Bo AX B C J A7 BD Bb
     have x1:=G.out.cell.size
     rw [Nat.zero_add,BJ.out] at x1
     have x2:=(G.out.low.cell (block_lt_of_cell A1.out.size)).trans A1.out.size
     rw [BZ.out] at x2
     have AT:=frozen_of_row wr gx 35 _ _ G.out.row
     go_upto_region 12 with fail
     go_still_tail 10,(by kernel_rfl)
     have x1:wr.drew.cell? ⟨gx,35,none⟩=some (.int .i64 a3):=x1
     have AT:wr.drew.frozen? ⟨gx,35,none⟩=false:=AT
     go_upto_region 13 with fail
     have SB:=yH (show TaSt w (wr.setCell ⟨gx,35,none⟩ (.int .i64 ((a3:Int)+a4))).drew w.heap.size kind p n c (some ⟨g,o,none⟩) m f (w.heap.size+1) gx {A with size:=(a3:Int)+a4} from (G.out.setSize ((a3:Int)+a4) ⟨by omega,by omega⟩).later (Below.refl _ _).drew)
     generalize (wr.setCell ⟨gx,35,none⟩ (.int .i64 ((a3:Int)+a4))).drew=wb at *
     clear x1 x2 AT G v t1 t2 BJ BZ
     obtain ⟨v,t1,t2⟩:=SB.out.node.cells
     have x1:=SB.out.cell.live
     rw [Nat.zero_add,show ({A with size:=(a3:Int)+a4}:Kd).live=(a1:Int) from Ba.out] at x1
     have x2:=(SB.out.low.cell (block_lt_of_cell A1.out.live)).trans A1.out.live
     rw [Bd.out] at x2
     have AN:=frozen_of_row wb gx 34 _ _ SB.out.row
     go_still_tail 10,(by kernel_rfl)
     have x1:wb.drew.cell? ⟨gx,34,none⟩=some (.int .i64 a1):=x1
     have AN:wb.drew.frozen? ⟨gx,34,none⟩=false:=AN
     go_upto_region 14 with fail
     have SC:=yH (show TaSt w ((wb.setCell ⟨gx,34,none⟩ (.int .i64 ((a1:Int)+a2))).drew) w.heap.size kind p n c (some ⟨g,o,none⟩) m f (w.heap.size+1) gx {A with live:=(a1:Int)+a2,size:=(a3:Int)+a4} from (SB.out.setLive ((a1:Int)+a2) ⟨by omega,by omega⟩).later (Below.refl _ _).drew)
     generalize (wb.setCell ⟨gx,34,none⟩ (.int .i64 ((a1:Int)+a2))).drew=wq at *
     clear x1 x2 AN SB v t1 t2 Ba Bd C3 Bv
     refine wp_region_held_drew (S:=fun w'=>Below w.heap.size w w'∧NodeAt w' w.heap.size kind p n c (some ⟨g,o,none⟩) m f) (by kernel_rfl) ⟨(SC.out.later (Below.refl _ _).drew).low,(SC.out.later (Below.refl _ _).drew).node⟩ (fun hHeld=>?_)
     refine tK 0 ?_
     refine tK 2 ?_
     refine tQ 3 ?_ ?_ ?_
     rotate_left
     ·intro w' hSw
      obtain ⟨v,t1,t2⟩:=hSw.2.cells
      go_simp
      try with_reducible rfl
     refine tK 4 ?_
     refine tK 5 ?_
     refine tK 6 ?_
     refine tQ 7 ?_ ?_ ?_
     rotate_left
     ·intro w' hSw
      have c8:=(hSw.1.cell (block_lt_of_cell A1.out.lo)).trans A1.out.lo
      have c9:=(hSw.1.cell (block_lt_of_cell A1.out.hi)).trans A1.out.hi
      unfold Rw.val at c8 c9
      go_simp
      try with_reducible rfl
     refine rO 1 fun K hK=>?_
     have b0:wq.drew.cell? ⟨gx,32,none⟩=some (.slice A.lo.p A.lo.n A.lo.c):=by have h9:=SC.out.cell.lo;rw [Nat.zero_add] at h9;exact h9
     have b1:wq.drew.cell? ⟨gx,33,none⟩=some (.slice A.hi.p A.hi.n A.hi.c):=by have h9:=SC.out.cell.hi;rw [Nat.zero_add] at h9;exact h9
     go_simp
     refine hK.out _ _ hHeld (fun hHeld=>?_)
     clear hK K
     try simp only [Act.put,yA,yB,yC]
     refine rO 8 fun K hK=>?_
     go_simp
     have H:=yH (SC.out.later (Below.refl _ _).drew)
     have a:=yH (Q.out.later H.out.low)
     refine (x98 A.lo.p A.hi.p e.lo.p e.hi.p A.lo.n A.lo.c A.hi.n A.hi.c e.lo.n e.lo.c e.hi.n e.hi.c A.lo.R A.hi.R e.lo.R e.hi.R wq.drew H.out.ok.lo.ints H.out.ok.hi.ints a.out.lo.ints a.out.hi.ints).mono ?_
     rintro _ w8 ⟨v8,rfl,AS,O⟩
     obtain ⟨r1,r2,rfl,e1,e2,AL,AK,O,b8⟩:=x7i (a1:=A.lo) (a2:=A.hi) (a3:=e.lo) (a4:=e.hi) AS O H.out.ok.lo H.out.ok.hi a.out.lo a.out.hi
     have HFR:=yH (x99 l.out H.out.low.size O (Or.inr ⟨_,Bt.out,rfl,rfl⟩))
     have As:=yH e1
     have B0:=yH e2
     have S8:=yH (H.out.later b8)
     have U:=yH (O gx (show gx<wq.drew.heap.size from (yL H.out.row)) (H.out.away _ (by simp [Kd.rows])).1 (H.out.away _ (by simp [Kd.rows])).1 (x1R Q.out.lo H.out.ge.2.2) (x1R Q.out.hi H.out.ge.2.2))
     have W:=yH (O (w.heap.size+1) (show w.heap.size+1<wq.drew.heap.size from (yL H.out.res)) (H.out.away _ (by simp [Kd.rows])).2 (H.out.away _ (by simp [Kd.rows])).2 (x1R Q.out.lo H.out.ge.2.1) (x1R Q.out.hi H.out.ge.2.1))
     have A0:=yH AL
     have A2:=yH AK
     clear AS e1 e2 O b8 AL AK
     try go_wp2_with fail
     refine hK.out _ _ ⟨S8.out.low,S8.out.node⟩ (fun hHeld=>?_)
     clear hK K
     try simp only [Act.put,yA,yB,yC]
     refine tK 9 ?_
     refine rO 10 fun K hK=>?_
     refine wp_store_mid 32 (.tmp 85) (.tmp 84) (by rfl) gx 32 #[r1.val,r2.val] (by rfl) (by rfl) (x2G S8.out.row S8.out.ok.len r1 r2) IBx (x4t r1 r2) ?_
     have S9:=yH (S8.out.setBox (r1:=r1) (r2:=r2) ⟨A0.out,U.out.1,W.out.1⟩ ⟨A2.out,U.out.2,W.out.2⟩)
     refine hK.out _ _ ⟨S9.out.low,S9.out.node⟩ (fun hHeld=>?_)
     clear hK K
     try simp only [Act.put]
     refine wpAnyH_done (by kernel_rfl) ?_ _
     have HP2:=yH (HP1.out r1 r2 As.out B0.out)
     have AR:=S9.out
     clear S9 hHeld S8 H U W A0 A2
     have S9:=yH AR
     clear AR
     generalize w8.setCells gx 32 [r1.val,r2.val]=w9 at *
     go_wp2_with fail
     go_roundw
     case rel=>exact ⟨k+1,_,by omega,by go_num,S9.out,HP2.out,HFR.out⟩
     case measure=>simp [intOf];omega
    ·obtain rfl:m=k:=by omega
     have e0:(K.map Kd.pk).take m=K.map Kd.pk:=List.take_of_length_le (by rw [List.length_map,B7.out];exact Nat.le_refl _)
     rw [e0] at B
     clear e0 hlt hk
     have C6:=BO.out
     clear BO
     rcases C6 with ⟨rfl,z⟩ | ⟨rfl,h1,z⟩ | ⟨rfl,h2,z⟩
     ·have PE:=yH (show A.pk=T from by rw [AD.out,B.out,z])
      clear B z
      go_upto_region 19 with fail
      have hz:A.size=N.size:=by rw [B9.out];have:=congrArg PK.size PE.out;rw [AD.out] at this;exact this
      have AY:=G.out.cell.size
      rw [Nat.zero_add] at AY
      by_cases hbig:1048576<A.size
      ·go_wp2_with (first
        | (refine x07 (by rfl) (by rfl) x0T ?_)
        | (refine wpList_store_row (by rfl) 34 _ _ (by rfl) (w.heap.size+1) kd0.cells.toArray (by rfl) (by rfl) _ _ G.out.res (by rw [List.size_toArray,x01];exact SKd) rfl (all_oneCell_toArray Kd.one) ?_))
       have r9:=setRow_heap _ (w.heap.size+1) _ kd0.cells.toArray _ _ G.out.res
       have Z:Below (w.heap.size+1) wr (wr.setRow (w.heap.size+1) kd0.cells.toArray):=Below.setRow (Below.refl _ _) (Nat.le_refl _) _
       refine x0F 2 3 (by kernel_rfl) (w.heap.size+1) _ kd0.cells.toArray _ s.out j.out (by rw [List.size_toArray,x01];exact SKd) (by rfl) (by rfl) r9 ?_
       exact ⟨G.out.low.trans (Z.mono (by omega)),Or.inr ⟨by omega,rfl⟩⟩
      ·have M:=yH (Kd.cells_length G.out.ok.len)
       have AJ:=yH (x0E G.out.row)
       go_wp2_with (first
        | (refine wpList_load_mid (by rfl) 34 _ (by rfl) gx 0 (by rfl) A.cells du AJ.out s.out j.out (by rw [M.out];exact SKd) ?_)
        | (refine wpList_store_row (by rfl) 34 _ _ (by rfl) (w.heap.size+1) A.cells.toArray (by rfl) (by rfl) _ _ G.out.res (by rw [List.size_toArray,M.out];exact SKd) (by simp only [List.size_toArray,M.out,x01]) (all_oneCell_toArray Kd.one) ?_))
       have r9:=setRow_heap _ (w.heap.size+1) _ A.cells.toArray _ _ G.out.res
       have Z:Below (w.heap.size+1) wr (wr.setRow (w.heap.size+1) A.cells.toArray):=Below.setRow (Below.refl _ _) (Nat.le_refl _) _
       have Y:∀r∈A.rows,r.Ok (wr.setRow (w.heap.size+1) A.cells.toArray):=fun r hr=>rw_keep (G.out.rows r hr).1 (fun x hx hR=>setRow_other _ _ _ _ ((G.out.rows r hr).2.2 x hx hR))
       refine x0F 2 3 (by kernel_rfl) (w.heap.size+1) _ A.cells.toArray _ s.out j.out (by rw [List.size_toArray,M.out];exact SKd) (by rfl) (by rfl) r9 ?_
       exact ⟨G.out.low.trans (Z.mono (by omega)),Or.inl ⟨by omega,A,rfl,PE.out.trans HT.out.symm,⟨G.out.ok.len,G.out.ok.ok,Y _ (by simp [Kd.rows]),Y _ (by simp [Kd.rows]),Y _ (by simp [Kd.rows]),G.out.ok.live,G.out.ok.size⟩,l.out⟩⟩
     ·obtain ⟨g,o,rfl,c1,c2,I⟩:=HE.out.get 0 (by omega)
      simp only [Nat.zero_mul,Nat.add_zero] at c1
      have B8:=yH (getD_mem E 0 (by rw [← Ad.out];omega))
      generalize E.getD 0 default=e at *
      have AW:=yH (y22 l.out (Or.inl ⟨e,B8.out,rfl⟩))
      have PE:=yH (show ({A with key:=e.row}:Kd).pk=T from by
       have P:=B.out
       rw [AD.out,z]
       simp only [Kd.pk,PK.mk.injEq] at P ⊢
       exact ⟨P.1,P.2.1,P.2.2.1,P.2.2.2.1,P.2.2.2.2.1,trivial⟩)
      have L:=yH (G.out.setKey (r:=e.row) ⟨I.later G.out.low,x1R I G.out.ge.2.2,x1R I G.out.ge.2.1⟩)
      have c1:=(G.out.low.cell (block_lt_of_cell c1)).trans c1
      have i1:(0:Int)<n:=by omega
      have B5:=frozen_of_row wr gx 36 _ _ G.out.row
      have A4:=G.out.cell.key
      rw [Nat.zero_add] at A4
      unfold Rw.val at c1 A4
      unfold Rw.val at L
      clear B z c2 I h1
      go_upto_region 19 with fail
      generalize wr.setCell ⟨gx,36,none⟩ (.slice e.row.p e.row.n e.row.c)=wk at *
      generalize ({A with key:=e.row}:Kd)=kd3 at *
      clear G c1 B5 A4 v t1 t2
      have hz:kd3.size=N.size:=by rw [B9.out];have:=congrArg PK.size PE.out;rw [AD.out] at this;exact this
      have AY:=L.out.cell.size
      rw [Nat.zero_add] at AY
      by_cases hbig:1048576<kd3.size
      ·go_wp2_with (first
        | (refine x07 (by rfl) (by rfl) x0T ?_)
        | (refine wpList_store_row (by rfl) 34 _ _ (by rfl) (w.heap.size+1) kd0.cells.toArray (by rfl) (by rfl) _ _ L.out.res (by rw [List.size_toArray,x01];exact SKd) rfl (all_oneCell_toArray Kd.one) ?_))
       have r9:=setRow_heap _ (w.heap.size+1) _ kd0.cells.toArray _ _ L.out.res
       have Z:Below (w.heap.size+1) wk (wk.setRow (w.heap.size+1) kd0.cells.toArray):=Below.setRow (Below.refl _ _) (Nat.le_refl _) _
       refine x0F 2 3 (by kernel_rfl) (w.heap.size+1) _ kd0.cells.toArray _ s.out j.out (by rw [List.size_toArray,x01];exact SKd) (by rfl) (by rfl) r9 ?_
       exact ⟨L.out.low.trans (Z.mono (by omega)),Or.inr ⟨by omega,rfl⟩⟩
      ·have M:=yH (Kd.cells_length L.out.ok.len)
       have AJ:=yH (x0E L.out.row)
       go_wp2_with (first
        | (refine wpList_load_mid (by rfl) 34 _ (by rfl) gx 0 (by rfl) kd3.cells du AJ.out s.out j.out (by rw [M.out];exact SKd) ?_)
        | (refine wpList_store_row (by rfl) 34 _ _ (by rfl) (w.heap.size+1) kd3.cells.toArray (by rfl) (by rfl) _ _ L.out.res (by rw [List.size_toArray,M.out];exact SKd) (by simp only [List.size_toArray,M.out,x01]) (all_oneCell_toArray Kd.one) ?_))
       have r9:=setRow_heap _ (w.heap.size+1) _ kd3.cells.toArray _ _ L.out.res
       have Z:Below (w.heap.size+1) wk (wk.setRow (w.heap.size+1) kd3.cells.toArray):=Below.setRow (Below.refl _ _) (Nat.le_refl _) _
       have Y:∀r∈kd3.rows,r.Ok (wk.setRow (w.heap.size+1) kd3.cells.toArray):=fun r hr=>rw_keep (L.out.rows r hr).1 (fun x hx hR=>setRow_other _ _ _ _ ((L.out.rows r hr).2.2 x hx hR))
       refine x0F 2 3 (by kernel_rfl) (w.heap.size+1) _ kd3.cells.toArray _ s.out j.out (by rw [List.size_toArray,M.out];exact SKd) (by rfl) (by rfl) r9 ?_
       exact ⟨L.out.low.trans (Z.mono (by omega)),Or.inl ⟨by omega,kd3,rfl,PE.out.trans HT.out.symm,⟨L.out.ok.len,L.out.ok.ok,Y _ (by simp [Kd.rows]),Y _ (by simp [Kd.rows]),Y _ (by simp [Kd.rows]),L.out.ok.live,L.out.ok.size⟩,AW.out⟩⟩
     ·obtain ⟨g,o,rfl,AB,I⟩:=HK.out.get 0 (by omega)
      simp only [Nat.zero_mul,Nat.add_zero] at AB
      have B8:=yH (getD_mem K 0 (by rw [← B7.out];omega))
      generalize K.getD 0 default=e at *
      have AW:=yH (y22 l.out (Or.inr ⟨e,B8.out,rfl⟩))
      have c1:=(x8M AB I.len).key
      have PE:=yH (show ({A with key:=e.key}:Kd).pk=T from by
       have P:=B.out
       rw [AD.out,z]
       simp only [Kd.pk,PK.mk.injEq] at P ⊢
       exact ⟨P.1,P.2.1,P.2.2.1,P.2.2.2.1,P.2.2.2.2.1,trivial⟩)
      have L:=yH (G.out.setKey (r:=e.key) ⟨I.key.later G.out.low,x1R I.key G.out.ge.2.2,x1R I.key G.out.ge.2.1⟩)
      have c1:=(G.out.low.cell (block_lt_of_cell c1)).trans c1
      have i1:(0:Int)<m:=by omega
      have B5:=frozen_of_row wr gx 36 _ _ G.out.row
      have A4:=G.out.cell.key
      rw [Nat.zero_add] at A4
      unfold Rw.val at c1 A4
      unfold Rw.val at L
      clear B z AB I h2
      go_upto_region 19 with fail
      generalize wr.setCell ⟨gx,36,none⟩ (.slice e.key.p e.key.n e.key.c)=wk at *
      generalize ({A with key:=e.key}:Kd)=kd3 at *
      clear G c1 B5 A4 v t1 t2
      have hz:kd3.size=N.size:=by rw [B9.out];have:=congrArg PK.size PE.out;rw [AD.out] at this;exact this
      have AY:=L.out.cell.size
      rw [Nat.zero_add] at AY
      by_cases hbig:1048576<kd3.size
      ·go_wp2_with (first
        | (refine x07 (by rfl) (by rfl) x0T ?_)
        | (refine wpList_store_row (by rfl) 34 _ _ (by rfl) (w.heap.size+1) kd0.cells.toArray (by rfl) (by rfl) _ _ L.out.res (by rw [List.size_toArray,x01];exact SKd) rfl (all_oneCell_toArray Kd.one) ?_))
       have r9:=setRow_heap _ (w.heap.size+1) _ kd0.cells.toArray _ _ L.out.res
       have Z:Below (w.heap.size+1) wk (wk.setRow (w.heap.size+1) kd0.cells.toArray):=Below.setRow (Below.refl _ _) (Nat.le_refl _) _
       refine x0F 2 3 (by kernel_rfl) (w.heap.size+1) _ kd0.cells.toArray _ s.out j.out (by rw [List.size_toArray,x01];exact SKd) (by rfl) (by rfl) r9 ?_
       exact ⟨L.out.low.trans (Z.mono (by omega)),Or.inr ⟨by omega,rfl⟩⟩
      ·have M:=yH (Kd.cells_length L.out.ok.len)
       have AJ:=yH (x0E L.out.row)
       go_wp2_with (first
        | (refine wpList_load_mid (by rfl) 34 _ (by rfl) gx 0 (by rfl) kd3.cells du AJ.out s.out j.out (by rw [M.out];exact SKd) ?_)
        | (refine wpList_store_row (by rfl) 34 _ _ (by rfl) (w.heap.size+1) kd3.cells.toArray (by rfl) (by rfl) _ _ L.out.res (by rw [List.size_toArray,M.out];exact SKd) (by simp only [List.size_toArray,M.out,x01]) (all_oneCell_toArray Kd.one) ?_))
       have r9:=setRow_heap _ (w.heap.size+1) _ kd3.cells.toArray _ _ L.out.res
       have Z:Below (w.heap.size+1) wk (wk.setRow (w.heap.size+1) kd3.cells.toArray):=Below.setRow (Below.refl _ _) (Nat.le_refl _) _
       have Y:∀r∈kd3.rows,r.Ok (wk.setRow (w.heap.size+1) kd3.cells.toArray):=fun r hr=>rw_keep (L.out.rows r hr).1 (fun x hx hR=>setRow_other _ _ _ _ ((L.out.rows r hr).2.2 x hx hR))
       refine x0F 2 3 (by kernel_rfl) (w.heap.size+1) _ kd3.cells.toArray _ s.out j.out (by rw [List.size_toArray,M.out];exact SKd) (by rfl) (by rfl) r9 ?_
       exact ⟨L.out.low.trans (Z.mono (by omega)),Or.inl ⟨by omega,kd3,rfl,PE.out.trans HT.out.symm,⟨L.out.ok.len,L.out.ok.ok,Y _ (by simp [Kd.rows]),Y _ (by simp [Kd.rows]),Y _ (by simp [Kd.rows]),L.out.ok.live,L.out.ok.size⟩,AW.out⟩⟩
end Go.Proofs.YtinihaflmdihaaaGreat.Nd
