/- KdTurn, KdNext. -/
import Derived.Test.YtenenciaggbjnaaGreatP24
set_option maxRecDepth 100000
set_option maxHeartbeats 8000000
set_option linter.all false
namespace Go.Proofs.YtenenciaggbjnaaGreat
namespace Kt
open Go.RowKit Go.Shelf Nd Dk Pg
open List renaming setIfInBounds_toArray -> yA, set_cons_zero -> yB, set_cons_succ -> yC
def Told (w:World) (gs B:Nat) (Q:Nat->Prop) (st:PK×Pg.S) (e:Ending) (w':World):Prop:=
 ∃kd Q',e= .returned (.agg kd.cells.toArray)/\kd.pk=st.1/\kd.Ok w'/\(∀r∈kd.rows,∀x,r.p=some x->r.R≠[]->B<=x.block)/\PL w' gs Q' st.2/\(∀k,Q' k->Q k\/B<=k)/\Aw Q' kd/\Only (fun k=>Q k\/B<=k) w w'
theorem nz:(Tryz.prog.info? 97).map (fun i=>(i.zero,i.size))=some (some (.agg #[.int .u8 0,.slice none 0 0,.slice none 0 0]),3):=by kernel_rfl
theorem USt:Tryz.prog.underlying 109=some (.slice (Tryz.prog.elem 109)):=by kernel_rfl
theorem SStE:(Tryz.prog.info? (Tryz.prog.elem 109)).map (·.size)=some 41:=by kernel_rfl
theorem y0Z {ρ:Operand->Value} {o:Oper} {w:World} {x hi:Operand} (ho:o.op= .slice 109 x none (some hi) none) {g i n c k:Nat} (hx:ρ x= .slice (some ⟨g,i,none⟩) n c) (hl:ρ hi= .int .i64 ((k:Nat):Int)) (hk:k<=c):
  (execOp ρ o).run Tryz.prog w= .ok (.value (.slice (some ⟨g,i,none⟩) k c)) w:=by
 rw [y2v ho USt 41 SStE hx hl hk]
 congr 2
 congr 1
 split<;>rfl
theorem y3J {w:World} {b o:Nat} {m:MSt} (h:w.rangeAt b o m.cells) (hl:m.kid.sum.length=32):w.rangeAt b (o+37) [.int .u8 1,.slice (some ⟨m.ge,0,none⟩) 1 m.ce,.slice (some ⟨m.gk,0,none⟩) 2 m.ck]:=fun j v hv=>by
 have hj:j<3:=(List.getElem?_eq_some_iff.1 hv).1
 obtain ⟨h1,h2,h3,_⟩:=x3o m hl
 rcases j with _ | _ | _ | j
 ·cases hv;exact h 37 _ h1
 ·cases hv;exact h 38 _ h2
 ·cases hv;exact h 39 _ h3
 ·omega
theorem y4p {B bw:Nat} {w w5:World} {q:Option Addr} {c:Nat} {A:List MSt} {m:MSt} (h:WaySt B bw w (.slice q (A++[m]).length c) (A++[m])) (hb:Below w.heap.size w w5) (lv:Bool):
  EntsIn (w5.setCell ⟨m.ge,1,none⟩ (.bool lv)) (some ⟨m.ge,0,none⟩) 1 m.ce [⟨m.row,lv⟩]/\KidsIn (w5.setCell ⟨m.ge,1,none⟩ (.bool lv)) (some ⟨m.gk,0,none⟩) 2 m.ck [m.k1,m.k2]/\WayM B (w5.setCell ⟨m.ge,1,none⟩ (.bool lv)) A/\Only (fun k=>k=m.ge) w (w5.setCell ⟨m.ge,1,none⟩ (.bool lv))/\(∀a∈A,¬a.reads m.ge):=by
 have E:=h.way.each m (by simp);have Q:Only (fun k=>k=m.ge) w5 (w5.setCell ⟨m.ge,1,none⟩ (.bool lv)):=Only.setCell (P:=fun j=>j=m.ge) w5 (a:=⟨m.ge,1,none⟩) rfl _;have H:Only (fun k=>k=m.ge) w (w5.setCell ⟨m.ge,1,none⟩ (.bool lv)):=(Only.of_below _ hb).trans Q;have M:∀k,k<w.heap.size->k≠m.ge->(w5.setCell ⟨m.ge,1,none⟩ (.bool lv)).heap[k]? =w.heap[k]? :=fun k h1 h2=>H.block k h1 h2;have I:=x55 E;have G:∀a∈A,¬a.reads m.ge:=fun a ha=>((List.pairwise_append.1 h.way.part).2.2 a ha m (by simp)).1.1;have C:∀r∈m.rows,r.Ok w->r.Ok (w5.setCell ⟨m.ge,1,none⟩ (.bool lv)):=fun r hr hok=>Nd.rw_keep hok (fun x hx hR=>M _ (rw_lt hok x hx hR) (E.apart r hr x hx hR).1);have L:∀k:Kd,k.Ok w->(∀r∈k.rows,r∈m.rows)->k.Ok (w5.setCell ⟨m.ge,1,none⟩ (.bool lv)):=fun k hok hs=>⟨hok.len,hok.ok,C _ (hs _ (by simp [Kd.rows])) hok.lo,C _ (hs _ (by simp [Kd.rows])) hok.hi,C _ (hs _ (by simp [Kd.rows])) hok.key,hok.live,hok.size⟩
 have K:=M m.gk I.2 (fun e=>E.ne e.symm);refine ⟨?_,?_,?_,H,G⟩
 ·refine ⟨rfl,E.caps.1,by decide,fun e he=>by rw [kZ.1 he];exact C _ (by simp [MSt.rows]) E.row,Or.inr ⟨m.ge,0,rfl,fun i J=>?_⟩⟩;obtain rfl:i=0:=by simp at J;exact J
  have N:=E.ent 0 _ rfl;have O:=E.ent 1 _ rfl;refine ⟨?_,?_⟩
  ·show (w5.setCell ⟨m.ge,1,none⟩ (.bool lv)).cell? ⟨m.ge,0,none⟩=_
   rw [World.cell?_setCell_other w5 ⟨m.ge,1,none⟩ ⟨m.ge,0,none⟩ _ (by simp)];exact (hb.cell (p:=⟨m.ge,0,none⟩) I.1).trans (by simpa using N)
  ·show (w5.setCell ⟨m.ge,1,none⟩ (.bool lv)).cell? ⟨m.ge,1,none⟩=_
   exact World.cell?_setCell_same w5 ⟨m.ge,1,none⟩ _ ((hb.cell (p:=⟨m.ge,1,none⟩) I.1).trans (by simpa using O))
 ·refine ⟨rfl,E.caps.2,by decide,fun e he=>?_,Or.inr ⟨m.gk,0,rfl,fun i J=>?_⟩⟩
  ·simp only [jW,jV,or_false] at he;rcases he with rfl | rfl
   ·exact L _ E.k1 (fun r h1=>by simp [MSt.rows,h1])
   ·exact L _ E.k2 (fun r h1=>by simp [MSt.rows,h1])
  ·have J:i<2:=J;rcases i with _ | _ | i
   ·exact x0b E.kid1 K
   ·exact x0b E.kid2 K
   ·omega
 ·exact ⟨fun a ha=>(h.way.each a (by simp [ha])).keep fun k hkk=>M k ((h.way.each a (by simp [ha])).lt k hkk) (fun e=>G a ha (e▸hkk)),fun a ha=>h.way.new a (by simp [ha]),(List.pairwise_append.1 h.way.part).1⟩
theorem y0a (s:Pg.S) (b:List Nat):(s.put b).W≠[]:=by
 show putW s.W b≠[]
 unfold putW;split
 ·intro e;rename_i h
  rw [e] at h;cases h
 ·simp
theorem x8r {B bw gs d Z:Nat} {w:World} {q:Option Addr} {c:Nat} {A:List MSt} {m:MSt} {Q:Nat->Prop} {s0:Pg.S} (hd:1<=d/\d<=8) (h:WaySt B bw w (.slice q (A++[m]).length c) (A++[m])) (hB:B<=w.heap.size) (hQB:∀k,Q k->k<B) (hfq:∀x∈A++[m],∀j,x.reads j->¬Q j) (hp:PL w gs Q s0) (hsl:s0.W.length+A.length<=80000) (hA:A.length<=999)
  (hgm:∀x∈A++[m],GoodM d Z x) (hz:A.length*(Z+1)+2*Z+1<=1048576) (lv:Bool):
  Calls Tryz.prog 71 #[.agg #[.pointer (some ⟨gs,0,none⟩),.int .i64 d],.slice q (A++[m]).length c,.bool lv] w (Told w gs B Q (foldR A (forkN m.row.R lv m.k1.pk m.k2.pk).says (s0.put (forkN m.row.R lv m.k1.pk m.k2.pk).bytes) (List.range A.length))):=by
 obtain ⟨g,rfl,hc,J⟩:=x4F h (by simp);have hm:=h.way.each m (by simp);have AI:(A++[m]).length=A.length+1:=by simp
 have O:=J A.length (by simp);have Aj:(A++[m]).getD A.length default=m:=by simp
 rw [Aj] at O;have Bd:=yH (y3J O hm.kid.len);have A7:=yH (show B<=g/\g<w.heap.size from h.own.lt g rfl);have B7:=yH (show ∀x∈A++[m],∀k,x.reads k->k≠g from fun x J k hk e=>(h.aside x J k hk).2 (by rw [e];rfl));have Bl:=yH (show ∀i,i<A.length->w.rangeAt g (i*41) (A.getD i default).cells from fun i hi=>by
  have:=J i (by simp;omega);rw [show (A++[m]).getD i default=A.getD i default from by simp [kR hi]] at this;exact this)
 obtain ⟨W,hW,r0,r1,b1⟩:=x1B w (.cells #[.pointer (some ⟨gs,0,none⟩),.int .i64 d] 107) (.cells kd0.cells.toArray 34);have At:=yH (fun (w5:World) (hb:Below w.heap.size w w5)=>y4p h hb lv);have C:=hgm m (by simp);have AX:(forkN m.row.R lv m.k1.pk m.k2.pk).right d=true:=x1b hd C.row C.k1.right C.k2.right C.k1.key C.k2.key;have BS:=x0U m.row.R lv m.k1.pk m.k2.pk;have Aq:=C.z1;have BB:=C.z2;have Bh:=C.k1.zero;have Bk:=C.k2.zero;have Bg:(forkN m.row.R lv m.k1.pk m.k2.pk).size<=2*(Z:Int)+1:=by omega
 have Be:=yH (show GoodK d (forkN m.row.R lv m.k1.pk m.k2.pk).says from ⟨x2M AX (by omega) (by omega),rfl,by show 0<=(forkN m.row.R lv m.k1.pk m.k2.pk).size;omega⟩);have BR:=yH (show (forkN m.row.R lv m.k1.pk m.k2.pk).says.size+((A.length*(Z+1):Nat):Int)<=1048576 by
  show (forkN m.row.R lv m.k1.pk m.k2.pk).size+_<=_
  omega)
 have BO:=yH (show (forkN m.row.R lv m.k1.pk m.k2.pk).right d=true/\(forkN m.row.R lv m.k1.pk m.k2.pk).size<=1048576 from ⟨AX,by omega⟩);have AW:=yH (show pnOf 1 [⟨m.row,lv⟩] [m.k1,m.k2]=forkN m.row.R lv m.k1.pk m.k2.pk from rfl);have BZ:=yH (show ∀x∈A,GoodM d Z x from fun x J=>hgm x (by simp [J]));have B5:=yH hfq;have AG:=yH (show B<=m.ge/\B<=m.gk from h.way.new m (by simp));have BD:=yH (show ∀a∈A,B<=a.ge/\B<=a.gk from fun a ha=>h.way.new a (by simp [ha]));have y:=yH (x55 hm);have v:=yH (show ∀a∈A,a.gk<w.heap.size from fun a ha=>(x55 (h.way.each a (by simp [ha]))).2);have Am:=yH hQB;have Ba:=yH hB;have B8:=yH hp;have Af:=yH hsl;have Br:=yH hd;have HA:=yH hA;have Au:w.cell? ⟨m.ge,1,none⟩=some (.bool m.live):=by have:=hm.ent 1 _ rfl;simpa using this
 have Bq:=yH Au;have Bj:=yH (show w.frozen? ⟨m.ge,1,none⟩=false from by have:=(hm.entT 1 (by decide)).2;simpa using this);have C9:=hm.caps.1;rw [AI] at hc ⊢;have BV:=yH hc;have R0:=yH r0;have R1:=yH r1;have B1:=yH b1;obtain ⟨n,hn⟩:∃n,n=A.length:=⟨_,rfl⟩
 have HN:=yH hn;rw [<- hn] at hc ⊢;have AS:n<=999:=by omega
 have q1:IntKind.i64.wrap (((n+1:Nat):Int) - 1)=(n:Int):=by rw [IntWalk.i64_in _ (by omega)];omega
 have q0:IntKind.i64.wrap (n:Int)=(n:Int):=IntWalk.i64_in _ (by omega);have i1:(0:Int)<=n/\(n:Int)<(n:Int)+1:=by omega
 have BN:n<=c:=by omega
 obtain ⟨du,B6,Ag⟩:=UTr;obtain ⟨dk,Ae,AL⟩:=UKd;obtain ⟨dn,Ao,AJ⟩:=UNo;have Ad:=yH B6;have Ak:=yH Ag;have BX:=yH Ae;have B3:=yH AL;have Ap:=yH Ao;have AP:=yH AJ;have Bm:=yH (zero_of_info kz);have Bf:=yH (zero_of_info nz);have Bt:=Bm.1;have Bv:=Bf.1;clear hn h hB hQB hfq hp hsl hA hgm hz hd J hm AI O Aj C AX BS Bg Aq BB Bh Bk r0 r1 b1 Au B6 Ag Ae AL Ao AJ
 go_enter Tryz.func71,Tryz.ntmps71
 go_upto_region 1 with fail
 clear hW;refine kD (S:=fun w'=>Below W.heap.size W w') (by kernel_rfl) ((jC _ _).drew) (fun hH=>?_);have AA:=yH hH;generalize W.drew=x0 at *;refine tK 0 ?_;refine tK 1 ?_;refine tK 2 ?_;refine tK 3 ?_;refine tQ 4 ?_ ?_ ?_;rotate_left
 ·intro w' hSw;refine Eq.trans (b:=Result.ok (Next.value (.slice (some ⟨g,0,none⟩) n c)) w') ?_ ?_
  ·exact y0Z (x:=.tmp 9) (hi:=.tmp 12) (n:=n+1) (c:=c) (k:=n) (g:=g) (i:=0) (by rfl) (by rfl) (by rfl) BN
  ·with_reducible rfl
 refine tK 5 ?_;refine tK 6 ?_;refine tK 7 ?_;refine tK 8 ?_;refine tK 9 ?_;refine tK 10 ?_;refine tQ 11 ?_ ?_ ?_;rotate_left
 ·intro w' hSw;refine Eq.trans (b:=Result.ok (Next.value (.agg #[.int .u8 1,.slice (some ⟨m.ge,0,none⟩) 1 m.ce,.slice (some ⟨m.gk,0,none⟩) 2 m.ck])) w') ?_ ?_
  ·exact x0F 97 (.tmp 19) (by rfl) g (n*41+37) (by rfl) [.int .u8 1,.slice (some ⟨m.ge,0,none⟩) 1 m.ce,.slice (some ⟨m.gk,0,none⟩) 2 m.ck] dn (x01 (by rw [HN.out];exact Bd.out) (B1.trans (hSw.mono B1.size))) Ap AP SNo
  ·with_reducible rfl
 refine rO 12 fun K L=>?_;go_simp;have b5:=jA x0 (.cells #[.int .u8 0,.slice none 0 0,.slice none 0 0] 97);have RZ:=yH (jE x0 (.cells #[.int .u8 0,.slice none 0 0,.slice none 0 0] 97));have Bo:=hH.trans (b5.mono hH.size);try go_wp2_with fail
 refine L.out _ _ Bo (fun hH=>?_);clear L K;try simp only [Act.put,yA,yB,yC]
 refine tK 13 ?_;refine rO 14 fun K L=>?_;refine wp_store_row 97 (.tmp 8) (.tmp 20) (by rfl) x0.heap.size #[.int .u8 1,.slice (some ⟨m.ge,0,none⟩) 1 m.ce,.slice (some ⟨m.gk,0,none⟩) 2 m.ck] (by rfl) (by rfl) _ _ RZ SNo rfl (x2v _ _ _ _ _ _ _) ?_;rw [x03];have Bn:Below W.heap.size W (x0.alloc (.cells #[.int .u8 1,.slice (some ⟨m.ge,0,none⟩) 1 m.ce,.slice (some ⟨m.gk,0,none⟩) 2 m.ck] 97)):=AA.trans (((jC x0.heap.size x0).alloc (jB _) _).mono AA.size);refine L.out _ _ Bn (fun hH=>?_);clear L K;try simp only [Act.put,yA,yB,yC]
 refine jD ?_;have A0:=yH (jE x0 (.cells #[.int .u8 1,.slice (some ⟨m.ge,0,none⟩) 1 m.ce,.slice (some ⟨m.gk,0,none⟩) 2 m.ck] 97));have f:=yH hH;have AV:=yH AA.size;clear hH RZ;generalize x0.alloc (.cells #[.int .u8 1,.slice (some ⟨m.ge,0,none⟩) 1 m.ce,.slice (some ⟨m.gk,0,none⟩) 2 m.ck] 97)=w5 at *;have AF:=yH (B1.trans (f.mono B1.size));have Bs:=jH w5 x0.heap.size 1 _ _ _ A0;have BP:=(AF.cell (p:=⟨m.ge,1,none⟩) y.1).trans Bq.out;have Bi:=(AF.frozen (p:=⟨m.ge,1,none⟩) y.1).trans Bj.out;go_upto_region 3 with fail
 obtain ⟨hE,L,Ah,z,Bp⟩:=At.out w5 AF;have Ay:=yH Ah;have HE:=yH hE;have Av:=yH L;have B0:=yH z;have AD:=yH (Only.setCell (P:=fun j=>j=m.ge) w5 (a:=⟨m.ge,1,none⟩) rfl (.bool lv));have s:=yH (show w.heap.size+2<=W.heap.size from (yL R1));have B9:=yH ((AD.block _ (by have:=f.size;have:=s.out;omega) (by have:=y.1;omega)).trans ((f.block _ (by have:=s.out;omega)).trans R0.out));have BA:=yH ((AD.block _ (by have:=f.size;have:=s.out;omega) (by have:=y.1;omega)).trans ((f.block _ (by have:=s.out;omega)).trans R1.out));have AQ:=yH ((AD.block _ (yL A0) (by have:=y.1;have:=AV.out;have:=s.out;omega)).trans A0.out);have BQ:=yH (show w5.heap.size=(w5.setCell ⟨m.ge,1,none⟩ (.bool lv)).heap.size from by simp);have Ai:=yH (show x0.heap.size<w5.heap.size from (yL A0));clear hE L Ah z Bp Bs BP Bi;generalize w5.setCell ⟨m.ge,1,none⟩ (.bool lv)=w6 at *;have A1:=yH (show Below w6.heap.size w6 w6.drew from (jC _ _).drew);obtain ⟨Y,Ax⟩:∃Y,Y=x0.heap.size:=⟨_,rfl⟩
 rw [<- Ax] at AQ AV Ai ⊢;have AC:=yH (B0.trans (Only.of_below _ A1));have BC:=yH (HE.later A1);have As:=yH (Av.later A1);have AE:=yH (Ay.later A1);have l:=yH (show w6.drew.heap[w.heap.size]? =some (.cells #[.pointer (some ⟨gs,0,none⟩),.int .i64 d] 107 (0,0))/\w6.drew.heap[Y]? =some (.cells #[.int .u8 1,.slice (some ⟨m.ge,0,none⟩) 1 m.ce,.slice (some ⟨m.gk,0,none⟩) 2 m.ck] 97 (0,0)) from ⟨B9.out,AQ.out⟩);have BI:=yH (show w6.drew.heap[w.heap.size+1]? =some (.cells kd0.cells.toArray 34 (0,0)) from BA.out);have BU:=yH (show w.heap.size+2<=w6.drew.heap.size/\Y<w6.drew.heap.size/\w.heap.size<=Y from by
  have h1:=s.out;have h2:=AV.out;have h3:=Ai.out;have h4:=BQ.out;have h5:w6.drew.heap.size=w6.heap.size:=rfl;omega)
 clear A1 HE Av Ay B0 AD B9 BA AQ Ax A0 f AF AA;refine kD (S:=fun w'=>w'.heap[w.heap.size]? =some (.cells #[.pointer (some ⟨gs,0,none⟩),.int .i64 d] 107 (0,0))/\w'.heap[Y]? =some (.cells #[.int .u8 1,.slice (some ⟨m.ge,0,none⟩) 1 m.ce,.slice (some ⟨m.gk,0,none⟩) 2 m.ck] 97 (0,0))) (by kernel_rfl) (l.out) (fun hH=>?_);generalize w6.drew=x9 at *;have BG:=yH (B8.keep _ AC (fun k hk e=>by have:=Am.out k hk;have:=AG.1;omega));have Ar:=yH (x7l 1 (by omega) _ 1 m.ce _ 2 m.ck _ _ (d:Int) x9 BC As BG (by have:=Af.out;omega) (by rw [AW.out];exact BO.out));have AU:=yH (show ∀(E:World) (I:Kd) (Q1:Nat->Prop),I.pk=(forkN m.row.R lv m.k1.pk m.k2.pk).says->I.Ok E->Fsh x9 I->PL E gs Q1 (s0.put (forkN m.row.R lv m.k1.pk m.k2.pk).bytes)->(∀k,Q1 k->Q k\/x9.heap.size<=k)->Aw Q1 I->Only Q x9 E->
   (E.heap[w.heap.size]? =some (.cells #[.pointer (some ⟨gs,0,none⟩),.int .i64 d] 107 (0,0))/\E.heap[Y]? =some (.cells #[.int .u8 1,.slice (some ⟨m.ge,0,none⟩) 1 m.ce,.slice (some ⟨m.gk,0,none⟩) 2 m.ck] 97 (0,0)))/\
   Calls Tryz.prog 73 #[.agg #[.pointer (some ⟨gs,0,none⟩),.int .i64 d],.slice (some ⟨g,0,none⟩) n c,.agg I.cells.toArray] E fun e H=>∃U:Kd,e= .returned (.agg U.cells.toArray)/\U.cells.length=37/\H.heap[w.heap.size+1]? =some (.cells kd0.cells.toArray 34 (0,0))/\(H.heap[w.heap.size]? =some (.cells #[.pointer (some ⟨gs,0,none⟩),.int .i64 d] 107 (0,0))/\H.heap[Y]? =some (.cells #[.int .u8 1,.slice (some ⟨m.ge,0,none⟩) 1 m.ce,.slice (some ⟨m.gk,0,none⟩) 2 m.ck] 97 (0,0)))/\
    Told w gs B Q (foldR A (forkN m.row.R lv m.k1.pk m.k2.pk).says (s0.put (forkN m.row.R lv m.k1.pk m.k2.pk).bytes) (List.range n)) (.returned (.agg U.cells.toArray)) (H.setRow (w.heap.size+1) U.cells.toArray) from fun E I Q1 e1 e2 e3 e4 e5 e6 e7=>by
  have CI:=BU.out;have hQB:=Am.out;have CL:=Ba.out;have t:∀k,B<=k->¬Q k:=fun k hk e=>by have:=hQB k e;omega
  have CK:=e7.size;have AO:∀k,k<w.heap.size->k≠m.ge->¬Q k->E.heap[k]? =w.heap[k]? :=fun k h1 h2 h3=>(e7.block k (by omega) h3).trans (AC.block k h1 h2);have hgm:g≠m.ge:=fun e=>B7.out m (by simp) _ (Or.inl rfl) e.symm;have A8:∀k,k<w.heap.size+2->¬Q k->¬Q1 k:=fun k h1 h2 e=>(e5 k e).elim h2 (fun e=>by omega);have BE:¬Q1 Y:=fun e=>(e5 Y e).elim (t Y (by omega)) (fun e=>by omega);have CN:(s0.put (forkN m.row.R lv m.k1.pk m.k2.pk).bytes).W.length<=s0.W.length+1:=x1l [(forkN m.row.R lv m.k1.pk m.k2.pk).bytes] s0;have G:∀k,k<x9.heap.size->B<=k->E.heap[k]? =x9.heap[k]? :=fun k h1 h2=>e7.block k h1 (t k h2);refine ⟨⟨(G _ (by omega) (by omega)).trans l.1,(G _ (by omega) (by omega)).trans l.2⟩,?_⟩;have hr:=x8q (B:=B) (gs:=gs) (d:=d) (Z:=Z) (g:=g) (w:=E) (q:=some ⟨g,0,none⟩) (c:=c) (A:=A) (k0:=I) (Q:=Q1) (s0:=s0.put (forkN m.row.R lv m.k1.pk m.k2.pk).bytes) Br (fun _=>⟨rfl,by have:=BV.out;omega,fun i hi=>x0b (Bl.out i hi) (AO g A7.2 hgm (t g A7.1))⟩)
   (AE.keep fun a ha k hk=>e7.block k (by have:=(AE.each a ha).lt k hk;omega) (B5.out a (by simp [ha]) k hk))
   (fun a ha k hk=>⟨B7.out a (by simp [ha]) k hk,fun e=>(e5 k e).elim (B5.out a (by simp [ha]) k hk) (fun e=>by have:=(AE.each a ha).lt k hk;omega)⟩)
   (fun _=>A8 g (by have:=A7.2;omega) (t g A7.1)) (by have:=HA.out;omega) e2 e6 (fun a ha r hr x J hR=>by have:=e3 r hr x J hR;have:=v.out a ha;omega) e4 (fun _=>y0a _ _) (by have:=Af.out;omega) (by rw [e1];exact Be.out) BZ (by rw [e1];exact BR.out)
  rw [e1,<- HN.out] at hr;refine hr.mono ?_;rintro e H ⟨U,Q2,rfl,f1,f2,f3,f4,f5,f6,f7⟩;have CJ:=f7.size;have M:∀k,k<E.heap.size->¬Q1 k->w.heap.size<=k->H.heap[k]? =E.heap[k]? :=fun k h1 h2 h3=>f7.block k h1 (fun e=>e.elim h2 (fun ⟨a,ha,e⟩=>by have:=v.out a ha;omega));have B2:∀r∈U.rows,∀x,r.p=some x->r.R≠[]->x9.heap.size<=x.block:=fun r O x J hR=>by
   rcases f3 with ⟨_,e9⟩ | f3
   ·rw [e9] at O;exact e3 r O x J hR
   ·have:=f3 r O x J hR;omega
  have X:=(M (w.heap.size+1) (by omega) (A8 _ (by omega) (t _ (by omega))) (by omega)).trans ((G _ (by omega) (by omega)).trans BI.out);have N:=x08 H (w.heap.size+1) U.cells.toArray;have B4:∀k,Q2 k->Q k\/x9.heap.size<=k:=fun k hk=>(f5 k hk).elim (fun e=>e5 k e) (fun e=>Or.inr (by omega));refine ⟨U,rfl,Kd.cells_length f2.len,X,⟨(M _ (by omega) (A8 _ (by omega) (t _ (by omega))) (by omega)).trans ((G _ (by omega) (by omega)).trans l.1),(M _ (by omega) BE (by omega)).trans ((G _ (by omega) (by omega)).trans l.2)⟩,U,Q2,rfl,f1,x1L f2 fun r hr x J hR=>N.block _ (rw_lt (x06 f2 r hr) x J hR) (by have:=B2 r hr x J hR;omega),fun r hr x J hR=>by have:=B2 r hr x J hR;omega,f4.keep _ N (fun k hk e=>by
   rcases B4 k hk with h | h
   ·have:=hQB k h;omega
   ·omega),fun k hk=>(B4 k hk).imp id (fun e=>by omega),f6,?_⟩
  have h9:=AC.out;refine ⟨N.os.trans (f7.os.trans (e7.os.trans h9.os)),N.tape.trans (f7.tape.trans (e7.tape.trans h9.tape)),N.output.trans (f7.output.trans (e7.output.trans h9.output)),jJ h9.size (by have:=N.size;omega),fun k hk hn=>?_⟩;have AS:¬Q k:=fun e=>hn (Or.inl e);have CB:k<B:=Nat.lt_of_not_le (fun e=>hn (Or.inr e));rw [N.block k (by omega) (by omega),f7.block k (by omega) (fun e=>e.elim (A8 k (by omega) AS) (fun ⟨a,ha,e⟩=>by have:=(BD.out a ha).2;omega))];exact AO k hk (by have:=AG.1;omega) AS)
 have Bc:=yH (show Y≠w.heap.size+1 from fun e=>by
  have h1:=l.2;have h2:=BI.out;rw [e,h2] at h1;have h3:=congrArg (fun o=>match o with | some (Obj.cells c _ _)=>c.size | _=>0) h1;simp only [jF,x02] at h3;cases h3)
 clear B8 At BC As AE BG AC BD v;refine tQ 0 ?_ ?_ ?_;rotate_left
 ·intro w' hSw;refine Eq.trans (b:=Result.ok (Next.value (.agg #[.pointer (some ⟨gs,0,none⟩),.int .i64 d])) w') ?_ ?_
  ·exact x0F 107 (.tmp 3) (by rfl) w.heap.size 0 (by rfl) [.pointer (some ⟨gs,0,none⟩),.int .i64 d] du (x09 hSw.1) Ad Ak STr
  ·with_reducible rfl
 refine tK 1 ?_;refine tQ 2 ?_ ?_ ?_;rotate_left
 ·intro w' hSw;refine Eq.trans (b:=Result.ok (Next.value (.agg #[.pointer (some ⟨gs,0,none⟩),.int .i64 d])) w') ?_ ?_
  ·exact x0F 107 (.tmp 3) (by rfl) w.heap.size 0 (by rfl) [.pointer (some ⟨gs,0,none⟩),.int .i64 d] du (x09 hSw.1) Ad Ak STr
  ·with_reducible rfl
 refine tQ 3 ?_ ?_ ?_;rotate_left
 ·intro w' hSw;refine Eq.trans (b:=Result.ok (Next.value (.agg #[.int .u8 1,.slice (some ⟨m.ge,0,none⟩) 1 m.ce,.slice (some ⟨m.gk,0,none⟩) 2 m.ck])) w') ?_ ?_
  ·exact x0F 97 (.tmp 8) (by rfl) Y 0 (by rfl) [.int .u8 1,.slice (some ⟨m.ge,0,none⟩) 1 m.ce,.slice (some ⟨m.gk,0,none⟩) 2 m.ck] dn (x47 hSw.2) Ap AP SNo
  ·with_reducible rfl
 refine rO 4 fun K L=>?_;go_simp;refine Ar.mono ?_;rintro _ E ⟨I,rfl,AM,AH,AK,⟨Q1,Al,u,AN⟩,An,-⟩;obtain ⟨BL,A3⟩:=AU.out E I Q1 (by rw [AM,AW.out]) AH AK (by rw [<- AW.out];exact Al) u AN An;have AT:=yH A3;clear AM AH AK Al u AN An A3;try go_wp2_with fail
 refine L.out _ _ BL (fun hH=>?_);clear L K;try simp only [Act.put,yA,yB,yC]
 refine rO 5 fun K L=>?_;go_simp;refine AT.mono ?_;rintro _ H ⟨U,rfl,hl,X,Bb,A2⟩;have AR:=yH hl;have Az:=yH X;have AY:=yH A2;clear hl X A2;try go_wp2_with fail
 refine L.out _ _ Bb (fun hH=>?_);clear L K;try simp only [Act.put,yA,yB,yC]
 refine rO 6 fun K L=>?_;refine wp_store_row 34 (.tmp 6) (.tmp 31) (by rfl) (w.heap.size+1) U.cells.toArray (by rfl) (by rfl) _ _ Az (by rw [jF,AR.out];exact SKd) (by simp only [jF,AR.out,x02]) (jN Kd.one) ?_;have BM:(H.setRow (w.heap.size+1) U.cells.toArray).heap[w.heap.size]? =some (.cells #[.pointer (some ⟨gs,0,none⟩),.int .i64 d] 107 (0,0))/\(H.setRow (w.heap.size+1) U.cells.toArray).heap[Y]? =some (.cells #[.int .u8 1,.slice (some ⟨m.ge,0,none⟩) 1 m.ce,.slice (some ⟨m.gk,0,none⟩) 2 m.ck] 97 (0,0)):=⟨(setRow_other _ _ _ _ (by omega)).trans hH.1,(setRow_other _ _ _ _ (by have:=Bc.out;omega)).trans hH.2⟩
 refine L.out _ _ BM (fun hH=>?_);clear L K;try simp only [Act.put,yA,yB,yC]
 refine jD ?_;go_wp2_with fail
 exact x1U 6 (by kernel_rfl) (w.heap.size+1) _ U.cells.toArray BX B3 (by rw [jF,AR.out];exact SKd) (by rfl) (jT _ _ _ _ _ _ Az) AY
theorem y1Z {B gs d Z g:Nat} {w x:World} {q:Option Addr} {c:Nat} {A:List MSt} {Q Q1:Nat->Prop} {s1:Pg.S} {kd:Kd} (hd:1<=d/\d<=8) (hB:B<=w.heap.size) (hQB:∀k,Q k->k<B) (hq:A≠[]->q=some ⟨g,0,none⟩/\A.length<=c/\g<w.heap.size/\B<=g/\∀i,i<A.length->w.rangeAt g (i*41) (A.getD i default).cells)
  (hw:WayM B w A) (hrd:∀a∈A,∀k,a.reads k->k≠g/\¬Q k) (hx:Only (fun k=>Q k) w x) (hA:A.length<=1000) (hk:kd.Ok x) (hkr:∀r∈kd.rows,∀y,r.p=some y->r.R≠[]->w.heap.size<=y.block) (hka:Aw Q1 kd) (hp:PL x gs Q1 s1) (hsub:∀k,Q1 k->Q k\/w.heap.size<=k) (hs1:s1.W≠[]) (hsl:s1.W.length+A.length<=90000)
  (hgk:GoodK d kd.pk) (hgm:∀a∈A,GoodM d Z a) (hz:kd.pk.size+(A.length*(Z+1):Nat)<=1048576):
  Calls Tryz.prog 73 #[.agg #[.pointer (some ⟨gs,0,none⟩),.int .i64 d],.slice q A.length c,.agg kd.cells.toArray] x (Told w gs B Q (foldR A kd.pk s1 (List.range A.length))):=by
 have G:∀k,B<=k->¬Q k:=fun k hk e=>by have:=hQB k e;omega
 have L:=hx.size;have C:∀a∈A,∀k,a.reads k->k<w.heap.size:=fun a ha=>(hw.each a ha).lt;have E:∀k,k<w.heap.size->¬Q k->¬Q1 k:=fun k M K e=>(hsub k e).elim K (fun e=>by omega);refine (x8q (B:=B) (gs:=gs) (d:=d) (Z:=Z) (g:=g) (w:=x) (q:=q) (c:=c) (A:=A) (k0:=kd) (Q:=Q1) (s0:=s1) hd (fun h0=>?_)
  (hw.keep fun a ha k hk=>hx.block k (C a ha k hk) (hrd a ha k hk).2)
  (fun a ha k hk=>⟨(hrd a ha k hk).1,E k (C a ha k hk) (hrd a ha k hk).2⟩)
  (fun h0=>E g (hq h0).2.2.1 (G g (hq h0).2.2.2.1)) hA hk hka (fun a ha r hr y hy hR=>by have:=hkr r hr y hy hR;have:=C a ha a.gk (Or.inr (Or.inl rfl));omega) hp (fun _=>hs1) hsl hgk hgm hz).mono ?_
 ·obtain ⟨M,K,N,j,P⟩:=hq h0;exact ⟨M,K,fun i hi=>x0b (P i hi) (hx.block g N (G g j))⟩
 ·rintro e y ⟨l,m,rfl,Y,f,J,U,O,b,I⟩;refine ⟨l,m,rfl,Y,f,fun r hr z hz hR=>?_,U,fun k hk=>?_,b,?_⟩
  ·rcases J with ⟨_,X⟩ | J
   ·rw [X] at hr;have:=hkr r hr z hz hR;omega
   ·have:=J r hr z hz hR;omega
  ·rcases O k hk with h | h
   ·exact (hsub k h).imp id (fun e=>by omega)
   ·right;omega
  ·refine ⟨I.os.trans hx.os,I.tape.trans hx.tape,I.output.trans hx.output,jJ L I.size,fun k hk hn=>?_⟩;have H:¬Q k:=fun e=>hn (Or.inl e);have n:k<B:=Nat.lt_of_not_le (fun e=>hn (Or.inr e));rw [I.block k (by omega) (fun e=>e.elim (E k hk H) (fun ⟨a,ha,e⟩=>by have:=(hw.new a ha).2;omega))];exact hx.block k hk H
def Told2 (w:World) (gs:Nat) (Q:Nat->Prop) (u:V) (s:Pg.S) (e:Ending) (w':World):Prop:=
 ∃kd Q',e= .returned (.tuple #[.agg kd.cells.toArray,.int .i64 0])/\kd.pk=u.kid/\kd.Ok w'/\Fsh w kd/\PL w' gs Q' s/\(∀k,Q' k->Q k\/w.heap.size<=k)/\Aw Q' kd/\Only Q w w'
theorem x5O {B gs:Nat} {w w4 w5:World} {Q:Nat->Prop} {u:V} {s:Pg.S} {st:PK×Pg.S} {e:Ending} {b:Nat} (h:Told w4 gs B Q st e w5) (hst:st=(u.kid,s)) (hb:Below w.heap.size w w4) (hB:w.heap.size<=b/\b<B) (hB4:B<=w4.heap.size) (hQ:∀k,Q k->k<w.heap.size) (hbox:w4.heap[b]? =some (.cells kd0.cells.toArray 34 (0,0))):
  ∃kd:Kd,e= .returned (.agg kd.cells.toArray)/\kd.cells.length=37/\w5.heap[b]? =some (.cells kd0.cells.toArray 34 (0,0))/\Told2 w gs Q u s (.returned (.tuple #[.agg kd.cells.toArray,.int .i64 0])) (w5.setRow b kd.cells.toArray):=by
 subst hst;obtain ⟨kd,J,rfl,M,G,K,N,L,O,A⟩:=h;have C:=x08 w5 b kd.cells.toArray;have E:¬Q b:=fun e=>by have:=hQ b e;omega
 have I:¬J b:=fun e=>(L b e).elim E (fun e=>by omega);refine ⟨kd,rfl,Kd.cells_length G.len,(A.block b (by omega) (fun e=>e.elim E (fun e=>by omega))).trans hbox,kd,J,rfl,M,x1L G fun r hr x hx hR=>C.block _ (rw_lt (x06 G r hr) x hx hR) (by have:=K r hr x hx hR;omega),fun r hr x hx hR=>by have:=K r hr x hx hR;omega,N.keep _ C (fun k hk e=>I (e▸hk)),fun k hk=>(L k hk).imp id (fun e=>by omega),O,?_⟩;have H:=hb.size;refine ⟨C.os.trans (A.os.trans hb.os),C.tape.trans (A.tape.trans hb.tape),C.output.trans (A.output.trans hb.output),jJ H (jJ A.size C.size),fun k hk hn=>?_⟩;have P:=A.size;rw [C.block k (by omega) (by omega),A.block k (by omega) (fun e=>e.elim hn (fun e=>by omega))];exact hb.block k hk
end Kt
end Go.Proofs.YtenenciaggbjnaaGreat
