/- KrNode, KdSortLay, GenCmp, KdCmp, KdOrder, KdSortMath, KdSort, KdSorts. -/
import Derived.BigRegion
import Derived.Shelf.SlSortCmp.Whole1
import Derived.BigQuiet
import Derived.LoopN
import Derived.Shelf.Small.Bits
import Derived.Deep.MidRow
import Derived.Test.YtenenciaggbjnaaGreatP8
set_option maxRecDepth 100000
set_option maxHeartbeats 8000000
set_option linter.all false
namespace Go.Proofs.YtenenciaggbjnaaGreat
namespace Kt
open Go.RowKit Nd
open List renaming setIfInBounds_toArray -> yA, set_cons_zero -> yB, set_cons_succ -> yC
theorem x40 (p q:Option Addr) (n c m f:Nat):Tryz.prog.built 97 [(0,.int .u8 1),(1,.slice p n c),(2,.slice q m f)]=some #[.int .u8 1,.slice p n c,.slice q m f]:=by kernel_rfl
theorem y4D (p:Option Addr) (n c:Nat) (b:Bool):Tryz.prog.built 101 [(0,.slice p n c),(1,.bool b)]=some #[.slice p n c,.bool b]:=by kernel_rfl
theorem y7G:(Tryz.prog.underlying 97).map (·.isRow)=some true:=by kernel_rfl
theorem UNode:∃d,Tryz.prog.underlying 97=some d/\d.isRow=true:=by
 have h:=y7G
 revert h
 cases Tryz.prog.underlying 97 with
 | none=>intro h;cases h
 | some d=>intro h;exact ⟨d,rfl,by simpa using h⟩
theorem SNode:(Tryz.prog.info? 97).map (·.size)=some 3:=by kernel_rfl
theorem x8U (p q:Option Addr) (n c m f:Nat):(#[.int .u8 1,.slice p n c,.slice q m f]:Array Value).all (·.oneCell')=true:=jN (cs:=[.int .u8 1,.slice p n c,.slice q m f]) fun u hu=>by
 simp only [jW,jV,or_false] at hu
 rcases hu with rfl | rfl | rfl<;>rfl
def y2M (F:Nat->Prop) (w:World) (N:PK) (e:Ending) (w':World):Prop:=∃kd:Kd,e= .returned (.agg kd.cells.toArray)/\kd.pk=N/\kd.Ok w'/\(∀X,X<w.heap.size->¬F X->∀r∈kd.rows,Away X r)/\Below w.heap.size w w'
def x9H (u:T):Prop:=∀(F:Nat->Prop) (p:Option Addr) (w:World),TAt F w p u->Calls Tryz.prog 26 #[.pointer p] w (y2M F w u.kid)
def y0C (F:Nat->Prop) (w:World) (N:PN) (e:Ending) (w':World):Prop:=∃(p q:Option Addr) (E:List En) (K:List Kd),e= .returned (.agg #[.int .u8 1,.slice p 1 1,.slice q 2 2])/\EntsIn w' p 1 1 E/\KidsIn w' q 2 2 K/\pnOf 1 E K=N/\(∀X,X<w.heap.size->¬F X->(∀e∈E,Away X e.row)/\∀k∈K,∀r∈k.rows,Away X r)/\Below w.heap.size w w'
structure NdSt (w x:World):Prop where
 low:Below w.heap.size w x
 res:x.heap[w.heap.size]? =some (.cells #[.int .u8 0,.slice none 0 0,.slice none 0 0] 97 (0,0))
theorem NdSt.lt {w x:World} (h:NdSt w x):w.heap.size+1<=x.heap.size:=(yL h.res)
theorem NdSt.later {w x y:World} (h:NdSt w x) (hb:Below x.heap.size x y):NdSt w y:=⟨h.low.trans (hb.mono h.low.size),(hb.block _ (yL h.res)).trans h.res⟩
theorem NdSt.start (w:World):NdSt w (w.alloc (.cells #[.int .u8 0,.slice none 0 0,.slice none 0 0] 97)):=⟨jA _ _,jE w _⟩
theorem y2N {w:World} {r:Rw} (h:r.Ok w) {X:Nat} (hX:w.heap.size<=X):Away X r:=fun _ hx hR e=>by have:=rw_lt h _ hx hR;omega
theorem y0D {w:World} {g m c:Nat} {q:Option Addr} {R:List Int} {b:Bool} {t:TypeId} (h:w.heap[g]? =some (.cells #[.slice q m c,.bool b] t (0,0))) (ok:(⟨q,m,c,R⟩:Rw).Ok w):EntsIn w (some ⟨g,0,none⟩) 1 1 [⟨⟨q,m,c,R⟩,b⟩]:=by
 refine ⟨rfl,jB _,by omega,fun e he=>?_,Or.inr ⟨g,0,rfl,fun i hi=>?_⟩⟩
 ·obtain rfl:=kZ.1 he;exact ok
 ·obtain rfl:i=0:=by simpa using hi
  exact ⟨jH w g 0 _ _ _ h,jH w g 1 _ _ _ h⟩
theorem y0E {F:Nat->Prop} {w x:World} {ge gk sn sc:Nat} {sp:Option Addr} {sR:List Int} {v:Bool} {kdl kdr:Kd} {l r:PK} (hst:NdSt w x) (ok0:(⟨sp,sn,sc,sR⟩:Rw).Ok w) (hF0:RwIn F ⟨sp,sn,sc,sR⟩) (hge:w.heap.size+1<=ge) (he:x.heap[ge]? =some (.cells #[.slice sp sn sc,.bool v] 101 (0,0))) (hgk:w.heap.size+1<=gk) (hk:x.heap[gk]? =some (.cells (kdl.cells++kdr.cells).toArray 34 (0,0)))
  (ol:kdl.Ok x) (or:kdr.Ok x) (pl:kdl.pk=l) (pr:kdr.pk=r) (wl:∀X,X<w.heap.size+1->¬(F X/\X<w.heap.size)->∀r∈kdl.rows,Away X r) (wr:∀X,X<w.heap.size+1->¬(F X/\X<w.heap.size)->∀r∈kdr.rows,Away X r) (N:Array Value):
  y0C F w (forkN sR v l r) (.returned (.agg #[.int .u8 1,.slice (some ⟨ge,0,none⟩) 1 1,.slice (some ⟨gk,0,none⟩) 2 2])) (x.setRow w.heap.size N):=by
 have A:∀kd:Kd,kd.Ok x->(∀r∈kd.rows,Away w.heap.size r)->kd.Ok (x.setRow w.heap.size N):=fun kd h ha=>by
  have B:∀r∈kd.rows,r.Ok x->r.Ok (x.setRow w.heap.size N):=fun r hr ho=>Nd.rw_keep ho fun y hy hR=>setRow_other _ _ _ _ (ha r hr y hy hR);exact ⟨h.len,h.ok,B _ (by simp [Kd.rows]) h.lo,B _ (by simp [Kd.rows]) h.hi,B _ (by simp [Kd.rows]) h.key,h.live,h.size⟩
 have G:∀r∈kdl.rows,Away w.heap.size r:=wl _ (by omega) (fun h=>by omega);have E:∀r∈kdr.rows,Away w.heap.size r:=wr _ (by omega) (fun h=>by omega);have C:(⟨sp,sn,sc,sR⟩:Rw).Ok (x.setRow w.heap.size N):=Nd.rw_keep (ok0.later hst.low) fun y hy hR=>setRow_other _ _ _ _ (y2N ok0 (jB _) y hy hR);refine ⟨_,_,[⟨⟨sp,sn,sc,sR⟩,v⟩],[kdl,kdr],rfl,y0D ((setRow_other _ _ _ _ (by omega)).trans he) C,y0B ((setRow_other _ _ _ _ (by omega)).trans hk) (A _ ol G) (A _ or E),by rw [<- pl,<- pr];rfl,fun X hX hF=>⟨fun e he=>?_,fun k hk r hr=>?_⟩,hst.low.trans (Below.setRow (jC _ _) (jB _) _)⟩
 ·obtain rfl:=kZ.1 he;exact fun y hy hR e=>hF (e▸hF0 y hy hR)
 ·simp only [jW,jV,or_false] at hk;rcases hk with rfl | rfl
  ·exact wl X (by omega) (fun h=>hF h.1) r hr
  ·exact wr X (by omega) (fun h=>hF h.1) r hr
theorem y2O (x:List Int) (v:Bool) (l u:T) (HKL:x9H l) (HKR:x9H u) (F:Nat->Prop) (p:Option Addr) (w:World) (h:TAt F w p (.fork x v l u)):
  Calls Tryz.prog 86 #[.pointer p] w (y0C F w (forkN x v l.kid u.kid)):=by
 obtain ⟨g,r0,a,b,rfl,rfl,AG,AC,-,AI,hl,hr⟩:=h.lt.go;have HL:=yH (fun w' (hb:Below w.heap.size w w')=>HKL _ a w' (hl.later hb));have HR:=yH (fun w' (hb:Below w.heap.size w w')=>HKR _ b w' (hr.later hb));have O:=yH AG;have o:=yH AC;have s:=yH (show RwIn F r0 from fun y hy hR=>(AI y hy hR).1);clear HKL HKR h AG AC AI hl hr;obtain ⟨W,U,Y,sR⟩:=r0;unfold Rw.val at O;simp only at O o s ⊢;generalize l.kid=lk at *;generalize u.kid=uk at *;obtain ⟨dn,AB,AE⟩:=UNode;have A2:=yH AB;have A3:=yH AE;clear AB AE;have Q:=yH (NdSt.start w)
 go_enter Tryz.func86,Tryz.ntmps86
 go_upto_region 1 with fail
 generalize w.alloc (.cells #[.int .u8 0,.slice none 0 0,.slice none 0 0] 97)=w1 at *;have A0:=yH (Q.later (jC _ _).drew);refine kD (S:=fun w'=>Below w.heap.size w w') (by kernel_rfl) A0.low (fun hH=>?_);generalize w1.drew=x0 at *;refine tK 0 ?_;refine tK 1 ?_;refine tK 2 ?_;refine tQ 3 ?_ ?_ ?_;rotate_left
 ·intro w' hSw;have y0:=jH w' g 0 _ _ _ ((hSw.block g (yL O)).trans O.out);go_simp;try with_reducible rfl
 refine tK 4 ?_;refine tK 5 ?_;refine tK 6 ?_;refine tQ 7 ?_ ?_ ?_;rotate_left
 ·intro w' hSw;have y1:=jH w' g 1 _ _ _ ((hSw.block g (yL O)).trans O.out);go_simp;try with_reducible rfl
 refine tQ 8 ?_ ?_ ?_;rotate_left
 ·intro w' hSw;refine Eq.trans (b:=Result.ok (Next.value (.agg #[.slice W U Y,.bool v])) w') ?_ ?_
  ·apply x1o (t:=101) (parts:= #[(0,.tmp 6),(1,.tmp 10)])
   ·rfl
   ·simp only [kA,kB,kC];exact y4D _ _ _ _
  ·with_reducible rfl
 refine tK 10 ?_;refine tK 11 ?_;refine tK 12 ?_;refine tQ 13 ?_ ?_ ?_;rotate_left
 ·intro w' hSw;have y2:=jH w' g 2 _ _ _ ((hSw.block g (yL O)).trans O.out);go_simp;try with_reducible rfl
 refine tK 15 ?_;refine tK 16 ?_;refine tK 17 ?_;refine tQ 18 ?_ ?_ ?_;rotate_left
 ·intro w' hSw;have y3:=jH w' g 3 _ _ _ ((hSw.block g (yL O)).trans O.out);go_simp;try with_reducible rfl
 refine rY [9,14] ?_;refine rC (fun K hK=>?_) (rC (fun K hK=>?_) AllReadyH.nil)
 ·
  refine x1Q (.tmp 11) (by rfl) (q:=W) (m:=U) (c:=Y) (b:=v) (by rfl) ?_;have b1:=jA x0 (.cells #[.slice W U Y,.bool v] 101);have A4:=hH.trans (b1.mono hH.size);have AL:=yH (jE x0 (.cells #[.slice W U Y,.bool v] 101));have Q:=yH (A0.later b1);clear b1;refine hK.out _ _ A4 (fun hH=>?_);clear hK K;try simp only [Act.put,yA,yB,yC]
  clear A4;generalize x0.alloc (.cells #[.slice W U Y,.bool v] 101)=x1 at *;refine rO 14 fun K hK=>?_;go_simp;refine (HL.out _ hH).mono ?_;rintro _ R ⟨B,rfl,pl,ol,al,j⟩;have n:=hH.trans (j.mono hH.size);have PL:=yH pl;have WL:=yH (show ∀X,X<w.heap.size+1->¬(F X/\X<w.heap.size)->∀r∈B.rows,Away X r from fun X hX hF=>al X (jO hX Q.lt) hF);have Z:=yH ol;have L:=yH (Q.later j);have A8:=yH (yK j AL);clear pl ol al j;try go_wp2_with fail
  refine hK.out _ _ n (fun hH=>?_);clear hK K;try simp only [Act.put,yA,yB,yC]
  refine rO 19 fun K hK=>?_;go_simp;refine (HR.out _ hH).mono ?_;rintro _ E ⟨A,rfl,pr,or,ar,I⟩;have P:=hH.trans (I.mono hH.size);have PR:=yH pr;have WR:=yH (show ∀X,X<w.heap.size+1->¬(F X/\X<w.heap.size)->∀r∈A.rows,Away X r from fun X hX hF=>ar X (jO hX L.lt) hF);have N:=yH or;have J:=yH (L.later I);have z:=yH (yK I A8);have M:=yH (Z.later I);clear pr or ar I;try go_wp2_with fail
  refine hK.out _ _ P (fun hH=>?_);clear hK K;try simp only [Act.put,yA,yB,yC]
  refine rO 20 fun K hK=>?_;refine x2N (.tmp 17) (.tmp 22) (by rfl) (k:=B) (l:=A) M.len N.len (by rfl) (by rfl) ?_;have G:=jA E (.cells (B.cells++A.cells).toArray 34);have H:=hH.trans (G.mono hH.size);have f:=yH (jE E (.cells (B.cells++A.cells).toArray 34));have C:=yH (J.later G);have e:=yH (yK G z);have d:=yH (M.later G);have i:=yH (N.later G);clear G;refine hK.out _ _ H (fun hH=>?_);clear hK K;try simp only [Act.put,yA,yB,yC]
  clear H;generalize E.alloc (.cells (B.cells++A.cells).toArray 34)=x4 at *;refine tQ 21 ?_ ?_ ?_;rotate_left
  ·intro w' hSw;refine Eq.trans (b:=Result.ok (Next.value (.agg #[.int .u8 1,.slice (some ⟨x0.heap.size,0,none⟩) 1 1,.slice (some ⟨E.heap.size,0,none⟩) 2 2])) w') ?_ ?_
   ·apply x1o (t:=97) (parts:= #[(0,.const (.int .u8 1)),(1,.tmp 12),(2,.tmp 23)])
    ·rfl
    ·simp only [kA,kB,kC];exact x40 _ _ _ _ _ _
   ·with_reducible rfl
  refine rO 22 fun K hK=>?_;refine wp_store_row 97 (.tmp 2) (.tmp 24) (by rfl) w.heap.size #[.int .u8 1,.slice (some ⟨x0.heap.size,0,none⟩) 1 1,.slice (some ⟨E.heap.size,0,none⟩) 2 2] (by rfl) (by rfl) _ _ C.res SNode rfl (x8U _ _ _ _ _ _) ?_;refine hK.out _ _ (C.low.trans (Below.setRow (jC _ _) (jB _) _)) (fun hH=>?_);clear hK K;try simp only [Act.put,yA,yB,yC]
  refine jD ?_;go_wp2_with fail
  refine x1U 2 (by kernel_rfl) w.heap.size _ #[.int .u8 1,.slice (some ⟨x0.heap.size,0,none⟩) 1 1,.slice (some ⟨E.heap.size,0,none⟩) 2 2] A2.out A3 SNode (by rfl) (jT _ _ _ _ _ _ C.res) ?_;exact y0E C o s A0.lt e J.lt f d i PL PR WL WR _
 ·
  go_simp;refine (HL.out _ hH).mono ?_;rintro _ x1 ⟨B,rfl,pl,ol,al,b1⟩;have A4:=hH.trans (b1.mono hH.size);have PL:=yH pl;have WL:=yH (show ∀X,X<w.heap.size+1->¬(F X/\X<w.heap.size)->∀r∈B.rows,Away X r from fun X hX hF=>al X (jO hX A0.lt) hF);have AJ:=yH ol;have Q:=yH (A0.later b1);clear pl ol al b1;try go_wp2_with fail
  refine hK.out _ _ A4 (fun hH=>?_);clear hK K;try simp only [Act.put,yA,yB,yC]
  refine rY [9,19] ?_;refine rC (fun K hK=>?_) (rC (fun K hK=>?_) AllReadyH.nil)
  ·
   refine x1Q (.tmp 11) (by rfl) (q:=W) (m:=U) (c:=Y) (b:=v) (by rfl) ?_;have j:=jA x1 (.cells #[.slice W U Y,.bool v] 101);have n:=hH.trans (j.mono hH.size);have A8:=yH (jE x1 (.cells #[.slice W U Y,.bool v] 101));have L:=yH (Q.later j);have Z:=yH (AJ.later j);clear j;refine hK.out _ _ n (fun hH=>?_);clear hK K;try simp only [Act.put,yA,yB,yC]
   clear n;generalize x1.alloc (.cells #[.slice W U Y,.bool v] 101)=R at *;refine rO 19 fun K hK=>?_;go_simp;refine (HR.out _ hH).mono ?_;rintro _ E ⟨A,rfl,pr,or,ar,I⟩;have P:=hH.trans (I.mono hH.size);have PR:=yH pr;have WR:=yH (show ∀X,X<w.heap.size+1->¬(F X/\X<w.heap.size)->∀r∈A.rows,Away X r from fun X hX hF=>ar X (jO hX L.lt) hF);have N:=yH or;have J:=yH (L.later I);have z:=yH (yK I A8);have M:=yH (Z.later I);clear pr or ar I;try go_wp2_with fail
   refine hK.out _ _ P (fun hH=>?_);clear hK K;try simp only [Act.put,yA,yB,yC]
   refine rO 20 fun K hK=>?_;refine x2N (.tmp 17) (.tmp 22) (by rfl) (k:=B) (l:=A) M.len N.len (by rfl) (by rfl) ?_;have G:=jA E (.cells (B.cells++A.cells).toArray 34);have H:=hH.trans (G.mono hH.size);have f:=yH (jE E (.cells (B.cells++A.cells).toArray 34));have C:=yH (J.later G);have e:=yH (yK G z);have d:=yH (M.later G);have i:=yH (N.later G);clear G;refine hK.out _ _ H (fun hH=>?_);clear hK K;try simp only [Act.put,yA,yB,yC]
   clear H;generalize E.alloc (.cells (B.cells++A.cells).toArray 34)=x4 at *;refine tQ 21 ?_ ?_ ?_;rotate_left
   ·intro w' hSw;refine Eq.trans (b:=Result.ok (Next.value (.agg #[.int .u8 1,.slice (some ⟨x1.heap.size,0,none⟩) 1 1,.slice (some ⟨E.heap.size,0,none⟩) 2 2])) w') ?_ ?_
    ·apply x1o (t:=97) (parts:= #[(0,.const (.int .u8 1)),(1,.tmp 12),(2,.tmp 23)])
     ·rfl
     ·simp only [kA,kB,kC];exact x40 _ _ _ _ _ _
    ·with_reducible rfl
   refine rO 22 fun K hK=>?_;refine wp_store_row 97 (.tmp 2) (.tmp 24) (by rfl) w.heap.size #[.int .u8 1,.slice (some ⟨x1.heap.size,0,none⟩) 1 1,.slice (some ⟨E.heap.size,0,none⟩) 2 2] (by rfl) (by rfl) _ _ C.res SNode rfl (x8U _ _ _ _ _ _) ?_;refine hK.out _ _ (C.low.trans (Below.setRow (jC _ _) (jB _) _)) (fun hH=>?_);clear hK K;try simp only [Act.put,yA,yB,yC]
   refine jD ?_;go_wp2_with fail
   refine x1U 2 (by kernel_rfl) w.heap.size _ #[.int .u8 1,.slice (some ⟨x1.heap.size,0,none⟩) 1 1,.slice (some ⟨E.heap.size,0,none⟩) 2 2] A2.out A3 SNode (by rfl) (jT _ _ _ _ _ _ C.res) ?_;exact y0E C o s Q.lt e J.lt f d i PL PR WL WR _
  ·
   go_simp;refine (HR.out _ hH).mono ?_;rintro _ R ⟨A,rfl,pr,or,ar,j⟩;have n:=hH.trans (j.mono hH.size);have PR:=yH pr;have WR:=yH (show ∀X,X<w.heap.size+1->¬(F X/\X<w.heap.size)->∀r∈A.rows,Away X r from fun X hX hF=>ar X (jO hX Q.lt) hF);have A7:=yH or;have L:=yH (Q.later j);have Z:=yH (AJ.later j);clear pr or ar j;try go_wp2_with fail
   refine hK.out _ _ n (fun hH=>?_);clear hK K;try simp only [Act.put,yA,yB,yC]
   refine rY [9,20] ?_;refine rC (fun K hK=>?_) (rC (fun K hK=>?_) AllReadyH.nil)
   ·
    refine x1Q (.tmp 11) (by rfl) (q:=W) (m:=U) (c:=Y) (b:=v) (by rfl) ?_;have I:=jA R (.cells #[.slice W U Y,.bool v] 101);have P:=hH.trans (I.mono hH.size);have z:=yH (jE R (.cells #[.slice W U Y,.bool v] 101));have J:=yH (L.later I);have M:=yH (Z.later I);have N:=yH (A7.later I);clear I;refine hK.out _ _ P (fun hH=>?_);clear hK K;try simp only [Act.put,yA,yB,yC]
    clear P;generalize R.alloc (.cells #[.slice W U Y,.bool v] 101)=E at *;refine rO 20 fun K hK=>?_;refine x2N (.tmp 17) (.tmp 22) (by rfl) (k:=B) (l:=A) M.len N.len (by rfl) (by rfl) ?_;have G:=jA E (.cells (B.cells++A.cells).toArray 34);have H:=hH.trans (G.mono hH.size);have f:=yH (jE E (.cells (B.cells++A.cells).toArray 34));have C:=yH (J.later G);have e:=yH (yK G z);have d:=yH (M.later G);have i:=yH (N.later G);clear G;refine hK.out _ _ H (fun hH=>?_);clear hK K;try simp only [Act.put,yA,yB,yC]
    clear H;generalize E.alloc (.cells (B.cells++A.cells).toArray 34)=x4 at *;refine tQ 21 ?_ ?_ ?_;rotate_left
    ·intro w' hSw;refine Eq.trans (b:=Result.ok (Next.value (.agg #[.int .u8 1,.slice (some ⟨R.heap.size,0,none⟩) 1 1,.slice (some ⟨E.heap.size,0,none⟩) 2 2])) w') ?_ ?_
     ·apply x1o (t:=97) (parts:= #[(0,.const (.int .u8 1)),(1,.tmp 12),(2,.tmp 23)])
      ·rfl
      ·simp only [kA,kB,kC];exact x40 _ _ _ _ _ _
     ·with_reducible rfl
    refine rO 22 fun K hK=>?_;refine wp_store_row 97 (.tmp 2) (.tmp 24) (by rfl) w.heap.size #[.int .u8 1,.slice (some ⟨R.heap.size,0,none⟩) 1 1,.slice (some ⟨E.heap.size,0,none⟩) 2 2] (by rfl) (by rfl) _ _ C.res SNode rfl (x8U _ _ _ _ _ _) ?_;refine hK.out _ _ (C.low.trans (Below.setRow (jC _ _) (jB _) _)) (fun hH=>?_);clear hK K;try simp only [Act.put,yA,yB,yC]
    refine jD ?_;go_wp2_with fail
    refine x1U 2 (by kernel_rfl) w.heap.size _ #[.int .u8 1,.slice (some ⟨R.heap.size,0,none⟩) 1 1,.slice (some ⟨E.heap.size,0,none⟩) 2 2] A2.out A3 SNode (by rfl) (jT _ _ _ _ _ _ C.res) ?_;exact y0E C o s L.lt e J.lt f d i PL PR WL WR _
   ·
    refine x2N (.tmp 17) (.tmp 22) (by rfl) (k:=B) (l:=A) Z.len A7.len (by rfl) (by rfl) ?_;have I:=jA R (.cells (B.cells++A.cells).toArray 34);have P:=hH.trans (I.mono hH.size);have AM:=yH (jE R (.cells (B.cells++A.cells).toArray 34));have J:=yH (L.later I);have M:=yH (Z.later I);have N:=yH (A7.later I);clear I;refine hK.out _ _ P (fun hH=>?_);clear hK K;try simp only [Act.put,yA,yB,yC]
    clear P;generalize R.alloc (.cells (B.cells++A.cells).toArray 34)=E at *;refine rO 9 fun K hK=>?_;refine x1Q (.tmp 11) (by rfl) (q:=W) (m:=U) (c:=Y) (b:=v) (by rfl) ?_;have G:=jA E (.cells #[.slice W U Y,.bool v] 101);have H:=hH.trans (G.mono hH.size);have e:=yH (jE E (.cells #[.slice W U Y,.bool v] 101));have C:=yH (J.later G);have d:=yH (M.later G);have i:=yH (N.later G);have f:=yH (yK G AM);clear G;refine hK.out _ _ H (fun hH=>?_);clear hK K;try simp only [Act.put,yA,yB,yC]
    clear H;generalize E.alloc (.cells #[.slice W U Y,.bool v] 101)=x4 at *;refine tQ 21 ?_ ?_ ?_;rotate_left
    ·intro w' hSw;refine Eq.trans (b:=Result.ok (Next.value (.agg #[.int .u8 1,.slice (some ⟨E.heap.size,0,none⟩) 1 1,.slice (some ⟨R.heap.size,0,none⟩) 2 2])) w') ?_ ?_
     ·apply x1o (t:=97) (parts:= #[(0,.const (.int .u8 1)),(1,.tmp 12),(2,.tmp 23)])
      ·rfl
      ·simp only [kA,kB,kC];exact x40 _ _ _ _ _ _
     ·with_reducible rfl
    refine rO 22 fun K hK=>?_;refine wp_store_row 97 (.tmp 2) (.tmp 24) (by rfl) w.heap.size #[.int .u8 1,.slice (some ⟨E.heap.size,0,none⟩) 1 1,.slice (some ⟨R.heap.size,0,none⟩) 2 2] (by rfl) (by rfl) _ _ C.res SNode rfl (x8U _ _ _ _ _ _) ?_;refine hK.out _ _ (C.low.trans (Below.setRow (jC _ _) (jB _) _)) (fun hH=>?_);clear hK K;try simp only [Act.put,yA,yB,yC]
    refine jD ?_;go_wp2_with fail
    refine x1U 2 (by kernel_rfl) w.heap.size _ #[.int .u8 1,.slice (some ⟨E.heap.size,0,none⟩) 1 1,.slice (some ⟨R.heap.size,0,none⟩) 2 2] A2.out A3 SNode (by rfl) (jT _ _ _ _ _ _ C.res) ?_;exact y0E C o s J.lt e L.lt f d i PL PR WL WR _
end Kt
namespace Kt
open Go.Proofs Go.Shelf
def y2P:Go.Shelf.Ren:=⟨fun | 6=>143 | 15=>162 | 14=>201 | 28=>224 | 29=>165 | 20=>261 | 21=>262 | 22=>263 | 23=>264 | 24=>265 | 25=>266 | 26=>267 | 27=>268 | 46=>307 | 47=>308 | 48=>309 | 49=>310 | 50=>311 | 57=>331 | n=>n,fun | 22=>51 | 24=>24 | 25=>203 | 3=>3 | 39=>228 | 0=>0 | 53=>282 | 55=>234 | 4=>4 | 46=>317 | 45=>316 | 50=>289 | 5=>5 | 9=>9 | 66=>365 | 70=>333 | 76=>384 | 77=>112 | n=>n,fun n=>n⟩
theorem y0F:SlLaysF.n6 Tryz.prog y2P where
 mixed:=by kernel_rfl
 f6:=⟨Tryz.f143.name,by kernel_rfl,Tryz.func143.trans (congrArg some (by kernel_rfl))⟩
 f14:=⟨Tryz.f201.name,by kernel_rfl,Tryz.func201.trans (congrArg some (by kernel_rfl))⟩
 f15:=Tryz.func162.trans (congrArg some (by kernel_rfl))
 f20:=⟨Tryz.f261.name,by kernel_rfl,Tryz.func261.trans (congrArg some (by kernel_rfl))⟩
 f21:=⟨Tryz.f262.name,by kernel_rfl,Tryz.func262.trans (congrArg some (by kernel_rfl))⟩
 f22:=⟨Tryz.f263.name,by kernel_rfl,Tryz.func263.trans (congrArg some (by kernel_rfl))⟩
 f23:=⟨Tryz.f264.name,by kernel_rfl,Tryz.func264.trans (congrArg some (by kernel_rfl))⟩
 f24:=⟨Tryz.f265.name,by kernel_rfl,Tryz.func265.trans (congrArg some (by kernel_rfl))⟩
 f25:=⟨Tryz.f266.name,by kernel_rfl,Tryz.func266.trans (congrArg some (by kernel_rfl))⟩
 f26:=⟨Tryz.f267.name,by kernel_rfl,Tryz.func267.trans (congrArg some (by kernel_rfl))⟩
 f27:=⟨Tryz.f268.name,by kernel_rfl,Tryz.func268.trans (congrArg some (by kernel_rfl))⟩
 f28:=Tryz.func224.trans (congrArg some (by kernel_rfl))
 f29:=Tryz.func165.trans (congrArg some (by kernel_rfl))
 f46:=⟨Tryz.f307.name,by kernel_rfl,Tryz.func307.trans (congrArg some (by kernel_rfl))⟩
 f47:=Tryz.func308.trans (congrArg some (by kernel_rfl))
 f48:=Tryz.func309.trans (congrArg some (by kernel_rfl))
 f49:=⟨Tryz.f310.name,by kernel_rfl,Tryz.func310.trans (congrArg some (by kernel_rfl))⟩
 f50:=⟨Tryz.f311.name,by kernel_rfl,Tryz.func311.trans (congrArg some (by kernel_rfl))⟩
 f57:=⟨Tryz.f331.name,by kernel_rfl,Tryz.func331.trans (congrArg some (by kernel_rfl))⟩
 t0:=Tryz.underlying0
 a0:=Tryz.isAgg0
 z0:=Tryz.sizeOf0
 v0:=Tryz.zeroValue0
 t3:=Tryz.underlying3
 a3:=Tryz.isAgg3
 z3:=Tryz.sizeOf3
 v3:=Tryz.zeroValue3
 t4:=Tryz.underlying4
 a4:=Tryz.isAgg4
 z4:=Tryz.sizeOf4
 v4:=Tryz.zeroValue4
 t5:=Tryz.underlying5
 a5:=Tryz.isAgg5
 z5:=Tryz.sizeOf5
 v5:=Tryz.zeroValue5
 t9:=Tryz.underlying9
 a9:=Tryz.isAgg9
 z9:=Tryz.sizeOf9
 v9:=Tryz.zeroValue9
 t22:=Tryz.underlying51
 a22:=Tryz.isAgg51
 z22:=Tryz.sizeOf51
 v22:=Tryz.zeroValue51
 a24:=Tryz.isAgg24
 z24:=Tryz.sizeOf24
 t25:=Tryz.underlying203
 a25:=Tryz.isAgg203
 z25:=Tryz.sizeOf203
 v25:=Tryz.zeroValue203
 t39:=Tryz.underlying228
 a39:=Tryz.isAgg228
 z39:=Tryz.sizeOf228
 v39:=Tryz.zeroValue228
 t45:=Tryz.underlying316
 a45:=Tryz.isAgg316
 z45:=Tryz.sizeOf316
 v45:=Tryz.zeroValue316
 t46:=Tryz.underlying317
 a46:=Tryz.isAgg317
 z46:=Tryz.sizeOf317
 v46:=Tryz.zeroValue317
 t50:=Tryz.underlying289
 a50:=Tryz.isAgg289
 z50:=Tryz.sizeOf289
 v50:=Tryz.zeroValue289
 t53:=Tryz.underlying282
 a53:=Tryz.isAgg282
 z53:=Tryz.sizeOf282
 v53:=Tryz.zeroValue282
 t55:=Tryz.underlying234
 a55:=Tryz.isAgg234
 z55:=Tryz.sizeOf234
 v55:=Tryz.zeroValue234
 t66:=Tryz.underlying365
 a66:=Tryz.isAgg365
 z66:=Tryz.sizeOf365
 v66:=Tryz.zeroValue365
 t70:=Tryz.underlying333
 a70:=Tryz.isAgg333
 z70:=Tryz.sizeOf333
 v70:=Tryz.zeroValue333
 t76:=Tryz.underlying384
 a76:=Tryz.isAgg384
 z76:=Tryz.sizeOf384
 v76:=Tryz.zeroValue384
 t77:=Tryz.underlying112
 a77:=Tryz.isAgg112
 z77:=Tryz.sizeOf112
 v77:=Tryz.zeroValue112
end Kt
section
open Go.RowKit
def icmp (x y:Int):Int:=if x<y then -1 else if y<x then 1 else 0
theorem x41 (x y:Int) (w:World):
  Calls Tryz.prog 203 #[.int .i64 x,.int .i64 y] w fun e w'=>e= .returned (.int .i64 (icmp x y))/\w=w':=by
 have B:∀z w,Calls Tryz.prog 269 #[.int .i64 z] w fun e w'=>e= .returned (.bool false)/\w=w':=fun z w=>by
  have q:(z !=z)=false:=by simp
  go_enter Tryz.func269,Tryz.ntmps269
  go_wp2_with fail
  go_ret;exact ⟨rfl,rfl⟩
 have C:=yH B;clear B;by_cases h1:x<y
 focus
  have A:=yH (show icmp x y= -1 by unfold icmp;rw [if_pos h1])
 rotate_left
 focus
  by_cases h2:y<x
  focus
   have A:=yH (show icmp x y=1 by unfold icmp;rw [if_neg h1,if_pos h2])
  rotate_left
  focus
   have A:=yH (show icmp x y=0 by unfold icmp;rw [if_neg h1,if_neg h2])
  rotate_left
 rotate_left 2;all_goals
  go_enter Tryz.func203,Tryz.ntmps203
  go_wp2_with ((go_at_call 269;refine (C.out _ _).mono ?_;rintro _ w' ⟨rfl,rfl⟩))
  go_ret;exact ⟨by rw [A.out];rfl,rfl⟩
end
namespace Kt
open Go.RowKit
def cmpL:List Int->List Int->Int
 |[],[]=>0
 |[],_::_=> -1
 | _::_,[]=>1
 | a::p,b::q=>if icmp a b=0 then cmpL p q else icmp a b
theorem y4E {R S:List Int} {k:Nat} (hk:R.length<=k):cmpL (R.drop k) (S.drop k)=if R.length<S.length/\k<S.length then -1 else 0:=by
 rw [List.drop_eq_nil_of_le hk];by_cases h:k<S.length
 ·rw [if_pos ⟨by omega,h⟩,List.drop_eq_getElem_cons h];rfl
 ·rw [if_neg (fun h2=>h h2.2),List.drop_eq_nil_of_le (by omega)];rfl
theorem y2Q {R S:List Int} {k:Nat} (hk:k<R.length) (hs:S.length<=k):cmpL (R.drop k) (S.drop k)=1:=by
 rw [List.drop_eq_nil_of_le hs,List.drop_eq_getElem_cons hk];rfl
theorem y2R {R S:List Int} {k:Nat} (hk:k<R.length) (hs:k<S.length):cmpL (R.drop k) (S.drop k)=if icmp (R.getD k 0) (S.getD k 0)=0 then cmpL (R.drop (k+1)) (S.drop (k+1)) else icmp (R.getD k 0) (S.getD k 0):=by
 rw [List.drop_eq_getElem_cons hk,List.drop_eq_getElem_cons hs,jG,jG,jM hk,jM hs];rfl
def y7H (w:World) (R S:List Int) (C:Int) (n m:Nat) (i:Value) (wr:World):Prop:=∃k:Nat,k<=n/\k<=m/\i= .int .i64 k/\cmpL (R.drop k) (S.drop k)=C/\wr=w
theorem ret_i {x y:Int} (h:x=y):Ending.returned (.int .i64 x)= .returned (.int .i64 y):=by rw [h]
theorem x7d (p q:Option Addr) (n c m e:Nat) (R S:List Int) (w:World) (h1:Ints w p n c R) (h2:Ints w q m e S) (hn9:n<=9223372036854775807) (hm9:m<=9223372036854775807):
  Calls Tryz.prog 204 #[.slice p n c,.slice q m e] w fun e w'=>e= .returned (.int .i64 (cmpL R S))/\w'=w:=by
 have M:=yH h1;have N:=yH h2;have B:=yH h1.size;have G:=yH h2.size;obtain ⟨C,J⟩:∃C,cmpL R S=C:=⟨_,rfl⟩
 rw [J];have HC:=yH J;clear h1 h2 J
 go_enter Tryz.func204,Tryz.ntmps204
 go_wp2_with fail
 go_loopw [5,6,7,8,11] (fun _ _ _ _ i wr=>y7H w R S C n m i wr) (fun _ _ _ _ i _=>n - (intOf i).toNat)
 case atStart=>exact ⟨0,by omega,by omega,rfl,HC.out,rfl⟩
 case round=>
  obtain ⟨k,U,O,rfl,A,rfl⟩:=hrel;by_cases hlt:k<n
  ·obtain ⟨W,Q,rfl,K⟩:=M.cell k hlt;have Y:(0:Int)<=k/\(k:Int)<n:=by omega
   by_cases hlm:k<m
   ·obtain ⟨X,P,rfl,L⟩:=N.cell k hlm;have Z:(0:Int)<=k/\(k:Int)<m:=by omega
    rw [y2R (by rw [<- B.out];exact hlt) (by rw [<- G.out];exact hlm)] at A;have E:=yH A;clear A HC;generalize R.getD k 0=x at *;generalize S.getD k 0=y at *;have I:=yH (x41 x y);generalize icmp x y=z at *;by_cases hz:z=0
    ·have H:=E.out;rw [if_pos hz] at H;have HE:=yH H;subst hz;clear H E;go_wp2_with (go_at_call 203;refine (I.out _).mono ?_;rintro _ w' ⟨rfl,rfl⟩)
     go_roundw
     case rel=>exact ⟨k+1,by omega,by omega,by go_num,HE.out,rfl⟩
     case measure=>simp [intOf];omega
    ·have H:=E.out;rw [if_neg hz] at H;have b1:(z !=0)=true:=by simpa using hz
     have HE:=yH H;clear H E hz;go_wp2_with (go_at_call 203;refine (I.out _).mono ?_;rintro _ w' ⟨rfl,rfl⟩)
     go_ret;exact ⟨ret_i HE,rfl⟩
   ·have HE:=yH ((y2Q (S:=S) (by rw [<- B.out];exact hlt) (by rw [<- G.out];omega)).symm.trans A);clear A HC;go_wp2_with fail
    go_ret;exact ⟨ret_i HE,rfl⟩
  ·obtain rfl:k=n:=by omega
   rw [y4E (by rw [<- B.out];exact jB _),<- B.out,<- G.out] at A;by_cases hlm:k<m
   ·rw [if_pos ⟨hlm,hlm⟩] at A;have HE:=yH A;clear A HC;go_wp2_with fail
    go_ret;exact ⟨ret_i HE,rfl⟩
   ·rw [if_neg (fun h=>hlm h.1)] at A;have HE:=yH A;clear A HC;go_wp2_with fail
    go_ret;exact ⟨ret_i HE,rfl⟩
end Kt
namespace Kt
open Go.RowKit
open List renaming setIfInBounds_toArray -> yA, set_cons_zero -> yB, set_cons_succ -> yC
def ordC (a:Nat) (R S:List Int):Int:=if icmp (R.getD a 0) (S.getD a 0)=0 then cmpL R S else icmp (R.getD a 0) (S.getD a 0)
theorem x6r (p q:Option Addr) (n c m e:Nat) (R S:List Int) (a gf:Nat) (w:World) (h1:Ints w p n c R) (h2:Ints w q m e S) (hn:a<n) (hm:a<m) (hn9:n<=9223372036854775807) (hm9:m<=9223372036854775807) (hg:w.cell? ⟨gf,0,none⟩=some (.int .i64 a)):
  Calls Tryz.prog 202 #[.slice p n c,.slice q m e,.pointer (some ⟨gf,0,none⟩)] w fun e w'=>e= .returned (.int .i64 (ordC a R S))/\∃j,w'=w.drewN j:=by
 have I:=yH (fun j=>x7d p q n c m e R S (w.drewN j) (h1.later (Below.drewN (jC _ _) j)) (h2.later (Below.drewN (jC _ _) j)) hn9 hm9);obtain ⟨M,o,rfl,A⟩:=h1.cell a hn;obtain ⟨N,L,rfl,B⟩:=h2.cell a hm;have O:(0:Int)<=a/\(a:Int)<n:=by omega
 have P:(0:Int)<=a/\(a:Int)<m:=by omega
 obtain ⟨C,G⟩:∃C,ordC a R S=C:=⟨_,rfl⟩
 rw [G];unfold ordC at G;clear h1 h2 hn hm hn9 hm9;generalize R.getD a 0=x at *;generalize S.getD a 0=y at *;have H:=yH (x41 x y);generalize icmp x y=z at *;by_cases hz:z=0
 ·rw [if_pos hz] at G;subst hz;rw [G] at I;clear G
  go_enter Tryz.func202,Tryz.ntmps202
  go_upto_region 1 with fail
  refine kD (S:=fun w'=>Below w.heap.size w w') (by kernel_rfl) (jC _ _).drew (fun hH=>?_);refine tK 0 ?_;refine tQ 1 ?_ ?_ ?_;rotate_left
  ·intro w' hSw;have E:=(hSw.cell (jI hg)).trans hg;go_simp;try with_reducible rfl
  refine tK 2 ?_;refine tQ 3 ?_ ?_ ?_;rotate_left
  ·intro w' hSw;have E:=(hSw.cell (jI A)).trans A;go_simp;try with_reducible rfl
  refine tK 4 ?_;refine tQ 5 ?_ ?_ ?_;rotate_left
  ·intro w' hSw;have E:=(hSw.cell (jI hg)).trans hg;go_simp;try with_reducible rfl
  refine tK 6 ?_;refine tQ 7 ?_ ?_ ?_;rotate_left
  ·intro w' hSw;have E:=(hSw.cell (jI B)).trans B;go_simp;try with_reducible rfl
  refine rO 8 fun K hK=>?_;go_simp;refine (H.out _).mono ?_;rintro _ J ⟨rfl,rfl⟩;try go_wp2_with fail
  refine hK.out _ _ hH (fun hH=>?_);clear hK K;try simp only [Act.put,yA,yB,yC]
  refine tK 9 ?_;refine jD ?_;go_wp2_with (go_at_call 204;refine (I.out _).mono ?_;rintro _ w' ⟨rfl,rfl⟩)
  go_ret;exact ⟨rfl,_,rfl⟩
 ·rw [if_neg hz] at G;subst G;have b1:(z !=0)=true:=by simpa using hz
  clear hz
  go_enter Tryz.func202,Tryz.ntmps202
  go_upto_region 1 with fail
  refine kD (S:=fun w'=>Below w.heap.size w w') (by kernel_rfl) (jC _ _).drew (fun hH=>?_);refine tK 0 ?_;refine tQ 1 ?_ ?_ ?_;rotate_left
  ·intro w' hSw;have E:=(hSw.cell (jI hg)).trans hg;go_simp;try with_reducible rfl
  refine tK 2 ?_;refine tQ 3 ?_ ?_ ?_;rotate_left
  ·intro w' hSw;have E:=(hSw.cell (jI A)).trans A;go_simp;try with_reducible rfl
  refine tK 4 ?_;refine tQ 5 ?_ ?_ ?_;rotate_left
  ·intro w' hSw;have E:=(hSw.cell (jI hg)).trans hg;go_simp;try with_reducible rfl
  refine tK 6 ?_;refine tQ 7 ?_ ?_ ?_;rotate_left
  ·intro w' hSw;have E:=(hSw.cell (jI B)).trans B;go_simp;try with_reducible rfl
  refine rO 8 fun K hK=>?_;go_simp;refine (H.out _).mono ?_;rintro _ J ⟨rfl,rfl⟩;try go_wp2_with fail
  refine hK.out _ _ hH (fun hH=>?_);clear hK K;try simp only [Act.put,yA,yB,yC]
  refine tK 9 ?_;refine jD ?_;go_wp2_with fail
  go_ret;exact ⟨rfl,_,rfl⟩
theorem x1p {x y:Int}:icmp x y=0↔x=y:=by
 unfold icmp;split
 ·omega
 ·split<;>omega
theorem y0G {x y:Int}:icmp x y<0↔x<y:=by
 unfold icmp;split
 ·omega
 ·split<;>omega
theorem y0H:∀R S:List Int,R.length=S.length->(cmpL R S<0↔lexLt R S=true)
 |[],[],_=>by simp [cmpL,lexLt]
 |[],_::_,h=>by simp at h
 | _::_,[],h=>by simp at h
 | a::p,b::q,h=>by
  unfold cmpL lexLt
  by_cases hab:a=b
  ·rw [if_pos (x1p.2 hab),if_pos hab]
   exact y0H p q (by simpa using h)
  ·rw [if_neg (fun h=>hab (x1p.1 h)),if_neg hab,y0G,jY]
theorem x2j {a:Nat} {R S:List Int} (h:R.length=S.length):ordC a R S<0↔lessP a R S=true:=by
 unfold ordC lessP;by_cases hab:R.getD a 0=S.getD a 0
 ·rw [if_pos (x1p.2 hab),if_pos hab];exact y0H R S h
 ·rw [if_neg (fun h=>hab (x1p.1 h)),if_neg hab,y0G,jY]
theorem x8V:∀R S U:List Int,lexLt R S=true->lexLt S U=true->lexLt R U=true
 |[],_,_,h,_=>by simp [lexLt] at h
 | _::_,[],_,h,_=>by simp [lexLt] at h
 | _::_,_::_,[],_,h=>by simp [lexLt] at h
 | a::p,b::q,c::r,h1,h2=>by
  unfold lexLt at *
  by_cases hab:a=b
  ·rw [if_pos hab] at h1
   by_cases hbc:b=c
   ·rw [if_pos hbc] at h2
    rw [if_pos (hab.trans hbc)]
    exact x8V p q r h1 h2
   ·rw [if_neg hbc] at h2
    rw [if_neg (by omega)]
    rw [jY] at *
    omega
  ·rw [if_neg hab] at h1
   rw [jY] at h1
   by_cases hbc:b=c
   ·rw [if_neg (by omega),jY]
    omega
   ·rw [if_neg hbc,jY] at h2
    rw [if_neg (by omega),jY]
    omega
theorem x8W:∀R S:List Int,R.length=S.length->lexLt R S=false->lexLt S R=false->R=S
 |[],[],_,_,_=>rfl
 |[],_::_,h,_,_=>by simp at h
 | _::_,[],h,_,_=>by simp at h
 | a::p,b::q,h,h1,h2=>by
  unfold lexLt at h1 h2
  by_cases hab:a=b
  ·rw [if_pos hab] at h1
   rw [if_pos hab.symm] at h2
   rw [hab,x8W p q (by simpa using h) h1 h2]
  ·rw [if_neg hab,decide_eq_false_iff_not] at h1
   rw [if_neg (fun e=>hab e.symm),decide_eq_false_iff_not] at h2
   omega
theorem x0z (a:Nat) (R:List Int):lessP a R R=false:=by
 unfold lessP;rw [if_pos rfl];exact x4N R
theorem x2O {a:Nat} {R S U:List Int} (h1:lessP a R S=true) (h2:lessP a S U=true):lessP a R U=true:=by
 unfold lessP at *;by_cases hab:R.getD a 0=S.getD a 0
 ·rw [if_pos hab] at h1;by_cases hbc:S.getD a 0=U.getD a 0
  ·rw [if_pos hbc] at h2;rw [if_pos (hab.trans hbc)];exact x8V R S U h1 h2
  ·rw [if_neg hbc,jY] at h2;rw [if_neg (by omega),jY];omega
 ·rw [if_neg hab,jY] at h1;by_cases hbc:S.getD a 0=U.getD a 0
  ·rw [if_neg (by omega),jY];omega
  ·rw [if_neg hbc,jY] at h2;rw [if_neg (by omega),jY];omega
theorem x22 {a:Nat} {R S:List Int} (h:R.length=S.length) (h1:lessP a R S=false) (h2:lessP a S R=false):R=S:=by
 unfold lessP at *;by_cases hab:R.getD a 0=S.getD a 0
 ·rw [if_pos hab] at h1;rw [if_pos hab.symm] at h2;exact x8W R S h h1 h2
 ·rw [if_neg hab,decide_eq_false_iff_not] at h1;rw [if_neg (fun e=>hab e.symm),decide_eq_false_iff_not] at h2;omega
theorem y14 {a:Nat} {R S:List Int} (h:lessP a R S=true):lessP a S R=false:=by
 rw [Bool.eq_false_iff];intro h2;have:=x2O h h2;rw [x0z] at this;cases this
theorem x5n {a:Nat} {R S U:List Int} (e1:R.length=S.length) (e2:S.length=U.length) (h1:lessP a R S=false) (h2:lessP a S U=false):lessP a R U=false:=by
 rw [Bool.eq_false_iff];intro h;cases h3:lessP a S R with
 | true=>
  have:=x2O h3 h;rw [h2] at this;cases this
 | false=>
  have:=x22 e1 h1 h3;rw [this,h2] at h;cases h
def x50 (a:Nat) (L:List (List Int)):Prop:=L.Pairwise fun x y=>lessP a y x=false
theorem x42 {α:Type} (f:α->Bool):∀(L:List α),∀x∈L.takeWhile f,f x=true
 |[],x,h=>by simp at h
 | y::L,x,h=>by
  rw [List.takeWhile_cons] at h
  split at h
  ·rename_i hy
   rcases jW.1 h with rfl | h
   ·exact hy
   ·exact x42 f L x h
  ·simp at h
theorem x3X {α:Type} (f:α->Bool):∀(L:List α),L.dropWhile f=[]\/∃x T,L.dropWhile f=x::T/\f x=false
 |[]=>Or.inl rfl
 | y::L=>by
  rw [List.dropWhile_cons]
  split
  ·exact x3X f L
  ·rename_i hy
   exact Or.inr ⟨y,L,rfl,by simpa using hy⟩
theorem x9I {a d:Nat} {out:List (List Int)} {x:List Int} (h:x50 a out) (hd:∀y∈out,y.length=d) (hx:x.length=d):x50 a (insP a out x):=by
 unfold x50 insP at *;have B:(out.takeWhile (fun y=>lessP a y x)++out.dropWhile (fun y=>lessP a y x)).Pairwise fun x y=>lessP a y x=false:=by
  rw [List.takeWhile_append_dropWhile];exact h
 have E:∀y∈out.dropWhile (fun y=>lessP a y x),y∈out:=fun y hy=>(List.dropWhile_sublist _).mem hy;rw [List.pairwise_append] at B ⊢;have H:∀y∈out.dropWhile (fun y=>lessP a y x),lessP a y x=false:=by
  rcases x3X (fun y=>lessP a y x) out with K | ⟨z,T,C,I⟩
  ·rw [K];intro y hy;cases hy
  ·have A:=B.2.1;rw [C] at A E ⊢;rw [List.pairwise_cons] at A;intro y hy;rcases jW.1 hy with rfl | G
   ·exact I
   ·exact x5n ((hd _ (E y hy)).trans (hd _ (E z (by simp))).symm) ((hd _ (E z (by simp))).trans hx.symm) (A.1 y G) I
 refine ⟨B.1,?_,fun y hy z C=>?_⟩
 ·rw [List.pairwise_cons];exact ⟨H,B.2.1⟩
 ·have J:=x42 _ _ y hy;rcases jW.1 C with rfl | C
  ·exact y14 J
  ·exact B.2.2 y hy z C
theorem y2S {a d:Nat} {out:List (List Int)} {x:List Int} (hd:∀y∈out,y.length=d) (hx:x.length=d):∀y∈insP a out x,y.length=d:=fun y hy=>by
 rcases jW.1 ((x8C a out x).mem_iff.1 hy) with rfl | h
 ·exact hx
 ·exact hd y h
theorem x5o {a d:Nat}:∀(L out:List (List Int)),(∀y∈L,y.length=d)->(∀y∈out,y.length=d)->x50 a out->x50 a (L.foldl (insP a) out)
 |[],out,_,_,h=>h
 | x::L,out,hL,hd,h=>by
  rw [List.foldl_cons]
  exact x5o L _ (fun y hy=>hL y (by simp [hy])) (y2S hd (hL x (by simp))) (x9I h hd (hL x (by simp)))
theorem x2D {a d:Nat} {L:List (List Int)} (hL:∀y∈L,y.length=d):x50 a (sortP a L):=x5o L [] hL (fun y hy=>by cases hy) List.Pairwise.nil
theorem x6s {a d:Nat} {L M:List (List Int)} (hL:∀y∈L,y.length=d) (hp:M.Perm L) (hs:x50 a M):M=sortP a L:=by
 have B:=x2D (a:=a) hL;have A:M.Perm (sortP a L):=hp.trans (x17 a L).symm;refine List.Perm.eq_of_pairwise (le:=fun x y=>lessP a y x=false) (fun x y hx hy h1 B=>?_) hs B A;have E:=hL x (hp.mem_iff.1 hx);have C:=hL y ((x17 a L).mem_iff.1 hy);exact x22 (E.trans C.symm) B h1
end Kt
namespace Kt
open Go.Proofs Go.RowKit Go.Sort Go.Shelf Nd
def Seg (w:World) (g o:Nat) (L:List Rw):Prop:=∀j,j<L.length->w.cell? ⟨g,o+j,none⟩=some (L.getD j default).val/\w.frozen? ⟨g,o+j,none⟩=false
structure Turned (g o n:Nat) (w w':World):Prop where
 only:Dk.Only (fun k=>k=g) w w'
 cell:∀a:Addr,a.block≠g\/a.off<o\/o+n<=a.off->a.block<w.heap.size->w'.cell? a=w.cell? a
 frozen:∀a:Addr,a.block<w.heap.size->w'.frozen? a=w.frozen? a
abbrev RwE (w:World) (g d:Nat):={r:Rw//r.Ok w/\r.n=d/\Away g r}
section
variable {w:World} {g d a:Nat}
def encR (x:RwE w g d):Value:=x.1.val
theorem y4F:OneCell (encR (w:=w) (g:=g) (d:=d)):=fun _=>rfl
def cfR (a:Nat) (x y:RwE w g d):Int:=ordC a x.1.R y.1.R
theorem x4Z (x:RwE w g d):x.1.R.length=d:=by rw [<- x.2.1.ints.size];exact x.2.2.1
theorem ltR (x y:RwE w g d):ltOf (cfR a) x y=lessP a x.1.R y.1.R:=by
 unfold ltOf cfR;rw [Bool.eq_iff_iff,jY];exact x2j ((x4Z x).trans (x4Z y).symm)
theorem swoR:SWO (ltOf (cfR (w:=w) (g:=g) (d:=d) a)) where
 irrefl x:=by rw [ltR];exact x0z _ _
 trans x y z h1 h2:=by rw [ltR] at *;exact x2O h1 h2
 ntrans x y z h1 h2:=by rw [ltR] at *;exact x5n ((x4Z x).trans (x4Z y).symm) ((x4Z y).trans (x4Z z).symm) h1 h2
end
section
variable {α:Type} [Inhabited α] {enc:α->Value} {w:World} {blk off n:Nat} {d:Array α} {os:Array Obj}
theorem x1k:Dk.Only (fun k=>k=blk) w (sortWorld enc w blk off n d os):=by
 refine ⟨rfl,rfl,rfl,?_,fun k hk hn=>?_⟩
 ·simp [sortWorld,grow,putRow,mapBlock,Sort.ahead]
 ·simp only [sortWorld,grow,putRow,mapBlock];rw [Array.getElem?_append_left (by simpa [Sort.ahead] using hk),Array.getElem?_modify,if_neg (fun e=>hn e.symm)];rfl
theorem x1r:Turned blk off d.size w (sortWorld enc w blk off n d os):=by
 refine ⟨x1k,fun a h hb=>?_,fun a hb=>?_⟩
 ·unfold sortWorld;rw [cell?_grow _ _ _ (by simpa [Sort.ahead] using hb),cell?_putRow_other _ _ _ _ _ _ h];rfl
 ·unfold sortWorld;rw [frozen?_grow _ _ _ (by simpa [Sort.ahead] using hb),frozen?_putRow];rfl
theorem y4G {d d':Array α} (h:PermIn 0 d.size d d'):d'.toList.Perm d.toList:=by
 have A:=h.2.2;rw [Array.extract_size] at A
 rwa [<- h.1,Array.extract_size] at A
end
theorem y2T (w:World) (g o size a d gf:Nat) (ha:a<d) (hf:w.cell? ⟨gf,0,none⟩=some (.int .i64 a)) (hfg:gf≠g) [Inhabited (RwE w g d)]:
  CmpLays1 Tryz.prog 202 #[.pointer (some ⟨gf,0,none⟩)] (encR (w:=w) (g:=g) (d:=d)) (cfR a) g o size w:=fun m os dk _ x y=>by
 have key:∀x:RwE w g d,x.1.Ok (sortWorld encR w g o m dk os):=fun x=>Nd.rw_keep x.2.1 fun z hz hR=>x1k.block _ (rw_lt x.2.1 z hz hR) (x.2.2.2 z hz hR)
 have h:=x6r x.1.p y.1.p x.1.n x.1.c y.1.n y.1.c x.1.R y.1.R a gf (sortWorld encR w g o m dk os) (key x).ints (key y).ints (by rw [x.2.2.1];exact ha) (by rw [y.2.2.1];exact ha) (key x).top (key y).top ((x1r.cell _ (Or.inl hfg) (jI hf)).trans hf)
 refine Calls.mono h ?_
 rintro e w' ⟨he,j,hj⟩
 exact ⟨he,j,#[],by rw [hj,grow_empty]⟩
theorem x6t {L:List Rw} {P:Rw->Prop} (h:∀r∈L,P r):(L.attach.map fun r=>(⟨r.1,h r.1 r.2⟩:{r:Rw//P r})).map (·.1)=L:=by
 rw [List.map_map];exact List.attach_map_subtype_val L
theorem x5G {P:Rw->Prop} [Inhabited {r:Rw//P r}] (D:Array {r:Rw//P r}) (j:Nat) (hj:j<D.size):(D[j]!).1=(D.toList.map (·.1)).getD j default:=by
 rw [getElem!_pos D j hj,jG,kN,jM (by simpa using hj)];simp
theorem y2U (g o c a d gf:Nat) (L:List Rw) (w:World) (hne:L≠[]) (hS:Seg w g o L) (hok:∀r∈L,r.Ok w/\r.n=d/\Away g r) (ha:a<d) (hg:g<w.heap.size) (hf:w.cell? ⟨gf,0,none⟩=some (.int .i64 a)) (hfg:gf≠g) (hn:L.length<=1000000000):
  Calls Tryz.prog 143 #[.slice (some ⟨g,o,none⟩) L.length c,.func (.func 202) #[] #[.pointer (some ⟨gf,0,none⟩)]] w fun e w'=>e= .returned (.tuple #[])/\
   ∃M:List Rw,M.Perm L/\M.map Rw.R=sortP a (L.map Rw.R)/\Seg w' g o M/\Turned g o L.length w w':=by
 haveI:Inhabited (RwE w g d):=⟨⟨L.head hne,hok _ (List.head_mem hne)⟩⟩
 obtain ⟨D,I⟩:∃D:Array (RwE w g d),D.toList.map (·.1)=L:=⟨(L.attach.map fun r=>(⟨r.1,hok r.1 r.2⟩:RwE w g d)).toArray,by rw [List.toList_toArray];exact x6t hok⟩
 have A:D.size=L.length:=by rw [<- I];simp
 have K:Holds encR w g o D:=fun j hj=>by
  have h:=hS j (by omega);unfold encR;rw [x5G D j hj,I];exact h
 have h:=Any.slices_SortFunc (P:=Tryz.prog) y0F encR y4F (cfR a) swoR 202 #[.pointer (some ⟨gf,0,none⟩)] g o c D w (enters_of Tryz.func202 (by kernel_rfl) rfl) (y2T w g o D.size a d gf ha hf hfg) K hg (by omega);rw [A] at h;refine Calls.mono h ?_;rintro e w' ⟨O,C,n,os,H,J,rfl⟩;rw [<- A] at H J;have B:=(y4G H).map (·.1);rw [I] at B;refine ⟨O,C.toList.map (·.1),B,?_,fun j hj=>?_,by have:=x1r (enc:=encR) (w:=w) (blk:=g) (off:=o) (n:=n) (d:=C) (os:=os);rw [H.1,A] at this;exact this⟩
 ·refine x6s (d:=d) (fun y hy=>?_) (B.map Rw.R) ?_
  ·obtain ⟨r,N,rfl⟩:=kJ.1 hy;rw [<- (hok r N).1.ints.size];exact (hok r N).2.1
  ·unfold x50;rw [List.pairwise_iff_getElem];intro i j hi hj hij;simp only [kH,Array.length_toList] at hi hj;have E:=J i j (Nat.zero_le _) hij (by rw [<- H.1];exact hj);rw [ltR,getElem!_pos C j hj,getElem!_pos C i hi] at E
   simpa using E
 ·have G:j<C.size:=by simpa using hj
  have E:=holds_sortWorld encR w g o n D C os hg K H.1 j G;unfold encR at E;rw [x5G C j G] at E;exact E
theorem y4H (p:Option Addr) (c:Nat) (fv:Value) (w:World):Calls Tryz.prog 261 #[.slice p 0 c,.int .i64 0,.int .i64 0,fv] w fun e w'=>e= .returned (.tuple #[])/\w'=w:=by
 go_enter Tryz.func261,Tryz.ntmps261
 go_wp2_with fail
 refine wp_loop_rounds 1 ?_;rw [rounds_succ];go_wp2_with fail
 go_end0
 exact ⟨rfl,rfl⟩
theorem y4I (p:Option Addr) (c:Nat) (l:Int) (fv:Value) (w:World):Calls Tryz.prog 201 #[.slice p 0 c,.int .i64 0,.int .i64 0,.int .i64 l,fv] w fun e w'=>e= .returned (.tuple #[])/\w'=w:=by
 have A:=fun W=>y4H p c fv W
 go_enter Tryz.func201,Tryz.ntmps201
 go_wp2_with fail
 refine wp_loop_rounds 1 ?_;rw [rounds_succ];go_wp2_with (go_at_call 261;refine (A _).mono ?_;rintro e w' ⟨rfl,rfl⟩)
 (try simp only [Exit.inBlock,Exit.then])
 refine bodyPost_ret (results_none rfl _ _ _) rfl ?_;exact ⟨rfl,rfl⟩
theorem y2V (p:Option Addr) (c:Nat) (fv:Value) (w:World):Calls Tryz.prog 143 #[.slice p 0 c,fv] w fun e w'=>e= .returned (.tuple #[])/\w'=w:=by
 have B:=fun l W=>y4I p c l fv W;have A:∀W,Calls Tryz.prog 162 #[.int .u64 0] W fun e w'=>e= .returned (.int .i64 (Lib.bitLen 0:Nat))/\w'=W:=fun W=>
  Any.bits_Len (SlLaysF0.n15.bits (P:=Tryz.prog) (ρ:=y2P) {y0F with }) 0 W (by omega) (by omega)
 go_enter Tryz.func143,Tryz.ntmps143
 go_wp2_with (first | (go_at_call 162;refine (A _).mono ?_;rintro e w' ⟨rfl,rfl⟩) | (go_at_call 201;refine (B _ _).mono ?_;rintro e w' ⟨rfl,rfl⟩))
 go_end0
 exact ⟨rfl,rfl⟩
theorem Turned.after {g o n:Nat} {w w2 w':World} (hb:RowKit.Below w.heap.size w w2) (h:Turned g o n w2 w'):Turned g o n w w':=
 ⟨(Dk.Only.of_below _ hb).trans h.only,fun a ha hlt=>(h.cell a ha (jO hlt hb.size)).trans (jX (hb.block _ hlt)),fun a hlt=>(h.frozen a (jO hlt hb.size)).trans (by unfold World.frozen?;rw [hb.block _ hlt])⟩
theorem Seg.later {w w':World} {g o:Nat} {L:List Rw} (h:Seg w g o L) (hb:RowKit.Below w.heap.size w w') (hg:g<w.heap.size):Seg w' g o L:=fun j hj=>
 ⟨(jX (hb.block g hg)).trans (h j hj).1,(show w'.frozen? _=w.frozen? _ by unfold World.frozen?;rw [hb.block g hg]).trans (h j hj).2⟩
theorem STr:(Tryz.prog.info? 107).map (·.size)=some 2:=by kernel_rfl
theorem UTr0:(Tryz.prog.underlying 107).map (·.isRow)=some true:=by kernel_rfl
theorem UTr:∃d,Tryz.prog.underlying 107=some d/\d.isRow=true:=by
 have h:=UTr0
 revert h
 cases Tryz.prog.underlying 107 with
 | none=>intro h;cases h
 | some d=>intro h;exact ⟨d,rfl,by simpa using h⟩
theorem x09 {w:World} {g:Nat} {x y:Value} {t:TypeId} (h:w.heap[g]? =some (.cells #[x,y] t (0,0))):w.rangeAt g 0 [x,y]:=fun j v hv=>by
 rw [Nat.zero_add,jH w g j _ _ _ h]
 simpa using hv
def y6A (w:World) (a:Nat) (e:Ending) (w':World):Prop:=∃gf,e= .returned (.func (.func 202) #[] #[.pointer (some ⟨gf,0,none⟩)])/\w.heap.size<=gf/\w'.cell? ⟨gf,0,none⟩=some (.int .i64 a)/\RowKit.Below w.heap.size w w'
theorem x5p (sp:Option Addr) (d t:Nat) (w:World) (hd:0<d) (ht:t<=1000000000):
  Calls Tryz.prog 144 #[.agg #[.pointer sp,.int .i64 d],.int .i64 t] w (y6A w (t%d)):=by
 have G:(t:Int).tmod d=((t%d:Nat):Int):=by rw [Int.tmod_eq_emod_of_nonneg (by omega)];rfl
 have E:¬(d:Int)=0:=by omega
 have A:RowKit.Below w.heap.size w (w.alloc (.cells #[.pointer sp,.int .i64 d] 107)):=(RowKit.Below.refl _ _).alloc (jB _) _;have C:=jE w (.cells #[.pointer sp,.int .i64 d] 107);have H:w.heap.size<(w.alloc (.cells #[.pointer sp,.int .i64 d] 107)).heap.size:=by simp
 go_enter Tryz.func144,Tryz.ntmps144
 go_upto_region 1 with fail
 generalize w.alloc (.cells #[.pointer sp,.int .i64 d] 107)=w1 at *;have I:=jH w1 w.heap.size 1 _ _ _ C;go_wp2_with fail
 go_ret;have B:RowKit.Below w1.heap.size w1 (w1.alloc (.cells #[.int .i64 ((t:Int)%d)] 3)):=(RowKit.Below.refl _ _).alloc (jB _) _;exact ⟨w1.heap.size,rfl,A.size,jH _ w1.heap.size 0 _ _ _ (jE w1 _),A.trans (B.mono A.size)⟩
def x8X (w:World) (g o a:Nat) (L:List Rw) (e:Ending) (w':World):Prop:=e= .returned (.tuple #[])/\∃M:List Rw,M.Perm L/\M.map Rw.R=sortP a (L.map Rw.R)/\Seg w' g o M/\Turned g o L.length w w'
theorem x5q (sp:Option Addr) (d t g o c:Nat) (L:List Rw) (w:World) (hne:L≠[]) (hS:Seg w g o L) (hok:∀r∈L,r.Ok w/\r.n=d/\Away g r) (hd:0<d) (ht:t<=1000000000) (hg:g<w.heap.size) (hn:L.length<=1000000000):
  Calls Tryz.prog 88 #[.agg #[.pointer sp,.int .i64 d],.slice (some ⟨g,o,none⟩) L.length c,.int .i64 t] w (x8X w g o (t%d) L):=by
 have J:RowKit.Below w.heap.size w (w.alloc (.cells #[.pointer sp,.int .i64 d] 107)):=(RowKit.Below.refl _ _).alloc (jB _) _;have U:=jE w (.cells #[.pointer sp,.int .i64 d] 107);have Q:=yH (fun w'=>x5p sp d t w' hd ht);have K:=yH (show ∀(C:Nat) (w':World),RowKit.Below w.heap.size w w'->w'.cell? ⟨C,0,none⟩=some (.int .i64 ((t%d:Nat):Int))->w.heap.size<=C->Calls Tryz.prog 143 #[.slice (some ⟨g,o,none⟩) L.length c,.func (.func 202) #[] #[.pointer (some ⟨C,0,none⟩)]] w' (x8X w g o (t%d) L) from fun C w' hb hf B=>
  (y2U g o c (t%d) d C L w' hne (hS.later hb hg) (fun r hr=>⟨(hok r hr).1.later hb,(hok r hr).2.1,(hok r hr).2.2⟩) (Nat.mod_lt _ hd) (jO hg hb.size) hf (by omega) hn).mono fun e w'' ⟨he,M,h1,h2,h3,h4⟩=>⟨he,M,h1,h2,h3,h4.after hb⟩)
 generalize L.length=n at *;clear hS hok;obtain ⟨Z,I,E⟩:=UTr;have O:=yH I;have P:=yH E;clear I E
 go_enter Tryz.func88,Tryz.ntmps88
 go_upto_region 1 with fail
 generalize w.alloc (.cells #[.pointer sp,.int .i64 d] 107)=w1 at *;have A:=yH J;have b:=yH (x09 U);clear J U;go_wp2_with (first
  | (refine jK (by rfl) 107 _ (by rfl) w.heap.size 0 (by rfl) [.pointer sp,.int .i64 d] Z b O P STr ?_)
  | (go_at_call 144;refine (Q.out _).mono ?_;rintro _ a ⟨C,rfl,B,H,G⟩;have Y:=yH H;have R:=yH (A.trans (G.mono A.size));have N:=yH (jJ A.size B);clear B H G)
  | (go_at_call 143;refine (K.out C a R Y N).mono ?_;rintro _ f ⟨rfl,W⟩;have X:=yH W;clear W))
 go_end0
 exact ⟨rfl,X.out⟩
theorem y15 (sp:Option Addr) (d t c:Nat) (p:Option Addr) (w:World) (hd:0<d) (ht:t<=1000000000):
  Calls Tryz.prog 88 #[.agg #[.pointer sp,.int .i64 d],.slice p 0 c,.int .i64 t] w fun e w'=>e= .returned (.tuple #[])/\RowKit.Below w.heap.size w w':=by
 have G:RowKit.Below w.heap.size w (w.alloc (.cells #[.pointer sp,.int .i64 d] 107)):=(RowKit.Below.refl _ _).alloc (jB _) _;have O:=jE w (.cells #[.pointer sp,.int .i64 d] 107);have K:=yH (fun w'=>x5p sp d t w' hd ht);have H:=yH (fun fv w'=>y2V p c fv w');obtain ⟨P,E,B⟩:=UTr;have I:=yH E;have J:=yH B;clear E B
 go_enter Tryz.func88,Tryz.ntmps88
 go_upto_region 1 with fail
 generalize w.alloc (.cells #[.pointer sp,.int .i64 d] 107)=w1 at *;have A:=yH G;have Q:=yH (x09 O);clear G O;go_wp2_with (first
  | (refine jK (by rfl) 107 _ (by rfl) w.heap.size 0 (by rfl) [.pointer sp,.int .i64 d] P Q I J STr ?_)
  | (go_at_call 144;refine (K.out _).mono ?_;rintro _ U ⟨W,rfl,M,N,C⟩;have L:=yH (A.trans (C.mono A.size));clear M N C)
  | (go_at_call 143;refine (H.out _ _).mono ?_;rintro _ R ⟨rfl,rfl⟩))
 go_end0
 exact ⟨rfl,L.out⟩
end Kt
end Go.Proofs.YtenenciaggbjnaaGreat
