/- KdTurn, KdNext. -/
import Derived.Test.YtinihaflmdihaaaGreatL25
set_option maxRecDepth 100000
set_option maxHeartbeats 8000000
set_option linter.all false
namespace Go.Proofs.YtinihaflmdihaaaGreat.Kt
open Go.RowKit Go.Shelf Go.Proofs.YtinihaflmdihaaaGreat.Nd Go.Proofs.YtinihaflmdihaaaGreat.Dk Go.Proofs.YtinihaflmdihaaaGreat.Pg
open List renaming setIfInBounds_toArray → yA, set_cons_zero → yB, set_cons_succ → yC
def Told (w:World) (gs B:Nat) (Q:Nat→Prop) (st:PK×Pg.S) (e:Ending) (w':World):Prop:=
 ∃kd Q',e= .returned (.agg kd.cells.toArray)∧kd.pk=st.1∧kd.Ok w'∧(∀r∈kd.rows,∀x,r.p=some x→r.R≠[]→B≤x.block)∧PL w' gs Q' st.2∧(∀k,Q' k→Q k∨B≤k)∧Aw Q' kd∧Only (fun k=>Q k∨B≤k) w w'
theorem nz:(Tryz.prog.info? 81).map (fun i=>(i.zero,i.size))=some (some (.agg #[.int .u8 0,.slice none 0 0,.slice none 0 0]),3):=by kernel_rfl
theorem USt:Tryz.prog.underlying 93=some (.slice (Tryz.prog.elem 93)):=by kernel_rfl
theorem SStE:(Tryz.prog.info? (Tryz.prog.elem 93)).map (·.size)=some 41:=by kernel_rfl
theorem x90 {ρ:Operand→Value} {o:Oper} {w:World} {x hi:Operand} (ho:o.op= .slice 93 x none (some hi) none) {g i n c k:Nat} (hx:ρ x= .slice (some ⟨g,i,none⟩) n c) (hl:ρ hi= .int .i64 ((k:Nat):Int)) (hk:k≤c):
  (execOp ρ o).run Tryz.prog w= .ok (.value (.slice (some ⟨g,i,none⟩) k c)) w:=by
 rw [y1F ho USt 41 SStE hx hl hk]
 congr 2
 congr 1
 split<;>rfl
theorem y1d {w:World} {b o:Nat} {m:MSt} (h:w.rangeAt b o m.cells) (hl:m.kid.sum.length=32):w.rangeAt b (o+37) [.int .u8 1,.slice (some ⟨m.ge,0,none⟩) 1 m.ce,.slice (some ⟨m.gk,0,none⟩) 2 m.ck]:=fun j v hv=>by
 have hj:j<3:=(List.getElem?_eq_some_iff.1 hv).1
 obtain ⟨h1,h2,h3,_⟩:=x39 m hl
 rcases j with _ | _ | _ | j
 ·cases hv;exact h 37 _ h1
 ·cases hv;exact h 38 _ h2
 ·cases hv;exact h 39 _ h3
 ·omega
theorem y38 {B bw:Nat} {w w5:World} {q:Option Addr} {c:Nat} {A:List MSt} {m:MSt} (h:WaySt B bw w (.slice q (A++[m]).length c) (A++[m])) (hb:Below w.heap.size w w5) (lv:Bool):
  EntsIn (w5.setCell ⟨m.ge,1,none⟩ (.bool lv)) (some ⟨m.ge,0,none⟩) 1 m.ce [⟨m.row,lv⟩]∧KidsIn (w5.setCell ⟨m.ge,1,none⟩ (.bool lv)) (some ⟨m.gk,0,none⟩) 2 m.ck [m.k1,m.k2]∧WayM B (w5.setCell ⟨m.ge,1,none⟩ (.bool lv)) A∧Only (fun k=>k=m.ge) w (w5.setCell ⟨m.ge,1,none⟩ (.bool lv))∧(∀a∈A,¬a.reads m.ge):=by
 have E:=h.way.each m (by simp)
 have N:Only (fun k=>k=m.ge) w5 (w5.setCell ⟨m.ge,1,none⟩ (.bool lv)):=Only.setCell (P:=fun j=>j=m.ge) w5 (a:=⟨m.ge,1,none⟩) rfl _
 have H:Only (fun k=>k=m.ge) w (w5.setCell ⟨m.ge,1,none⟩ (.bool lv)):=(Only.of_below _ hb).trans N
 have M:∀k,k<w.heap.size→k≠m.ge→(w5.setCell ⟨m.ge,1,none⟩ (.bool lv)).heap[k]? =w.heap[k]? :=fun k h1 h2=>H.block k h1 h2
 have I:=x4M E
 have G:∀a∈A,¬a.reads m.ge:=fun a ha=>((List.pairwise_append.1 h.way.part).2.2 a ha m (by simp)).1.1
 have C:∀r∈m.rows,r.Ok w→r.Ok (w5.setCell ⟨m.ge,1,none⟩ (.bool lv)):=fun r hr hok=>Nd.rw_keep hok (fun x hx hR=>M _ (rw_lt hok x hx hR) (E.apart r hr x hx hR).1)
 have L:∀k:Kd,k.Ok w→(∀r∈k.rows,r∈m.rows)→k.Ok (w5.setCell ⟨m.ge,1,none⟩ (.bool lv)):=fun k hok hs=>⟨hok.len,hok.ok,C _ (hs _ (by simp [Kd.rows])) hok.lo,C _ (hs _ (by simp [Kd.rows])) hok.hi,C _ (hs _ (by simp [Kd.rows])) hok.key,hok.live,hok.size⟩
 have J:=M m.gk I.2 (fun e=>E.ne e.symm)
 refine ⟨?_,?_,?_,H,G⟩
 ·refine ⟨rfl,E.caps.1,by decide,fun e he=>by rw [List.mem_singleton.1 he];exact C _ (by simp [MSt.rows]) E.row,Or.inr ⟨m.ge,0,rfl,fun i K=>?_⟩⟩
  obtain rfl:i=0:=by simp at K;exact K
  have Q:=E.ent 0 _ rfl
  have O:=E.ent 1 _ rfl
  refine ⟨?_,?_⟩
  ·show (w5.setCell ⟨m.ge,1,none⟩ (.bool lv)).cell? ⟨m.ge,0,none⟩=_
   rw [World.cell?_setCell_other w5 ⟨m.ge,1,none⟩ ⟨m.ge,0,none⟩ _ (by simp)]
   exact (hb.cell (p:=⟨m.ge,0,none⟩) I.1).trans (by simpa using Q)
  ·show (w5.setCell ⟨m.ge,1,none⟩ (.bool lv)).cell? ⟨m.ge,1,none⟩=_
   exact World.cell?_setCell_same w5 ⟨m.ge,1,none⟩ _ ((hb.cell (p:=⟨m.ge,1,none⟩) I.1).trans (by simpa using O))
 ·refine ⟨rfl,E.caps.2,by decide,fun e he=>?_,Or.inr ⟨m.gk,0,rfl,fun i K=>?_⟩⟩
  ·simp only [List.mem_cons,List.not_mem_nil,or_false] at he
   rcases he with rfl | rfl
   ·exact L _ E.k1 (fun r h1=>by simp [MSt.rows,h1])
   ·exact L _ E.k2 (fun r h1=>by simp [MSt.rows,h1])
  ·have K:i<2:=K
   rcases i with _ | _ | i
   ·exact x0Y E.kid1 J
   ·exact x0Y E.kid2 J
   ·omega
 ·exact ⟨fun a ha=>(h.way.each a (by simp [ha])).keep fun k hkk=>M k ((h.way.each a (by simp [ha])).lt k hkk) (fun e=>G a ha (e▸hkk)),fun a ha=>h.way.new a (by simp [ha]),(List.pairwise_append.1 h.way.part).1⟩
theorem x91 (s:Pg.S) (b:List Nat):(s.put b).W≠[]:=by
 show putW s.W b≠[]
 unfold putW
 split
 ·intro e
  rename_i h
  rw [e] at h
  cases h
 ·simp
theorem y1e {B bw gs d Z:Nat} {w:World} {q:Option Addr} {c:Nat} {A:List MSt} {m:MSt} {Q:Nat→Prop} {s0:Pg.S} (hd:1≤d∧d≤8) (h:WaySt B bw w (.slice q (A++[m]).length c) (A++[m])) (hB:B≤w.heap.size) (hQB:∀k,Q k→k<B) (hfq:∀x∈A++[m],∀j,x.reads j→¬Q j) (hp:PL w gs Q s0) (hsl:s0.W.length+A.length≤80000) (hA:A.length≤999)
  (hgm:∀x∈A++[m],GoodM d Z x) (hz:A.length*(Z+1)+2*Z+1≤1048576) (lv:Bool):
  Calls Tryz.prog 56 #[.agg #[.pointer (some ⟨gs,0,none⟩),.int .i64 d],.slice q (A++[m]).length c,.bool lv] w (Told w gs B Q (foldR A (forkN m.row.R lv m.k1.pk m.k2.pk).says (s0.put (forkN m.row.R lv m.k1.pk m.k2.pk).bytes) (List.range A.length))):=by
 obtain ⟨g,rfl,hc,J⟩:=x3a h (by simp)
 have hm:=h.way.each m (by simp)
 have AI:(A++[m]).length=A.length+1:=by simp
 have M:=J A.length (by simp)
 have B6:(A++[m]).getD A.length default=m:=by simp
 rw [B6] at M
 have Bm:=yH (y1d M hm.kid.len)
 have AD:=yH (show B≤g∧g<w.heap.size from h.own.lt g rfl)
 have Ar:=yH (show ∀x∈A++[m],∀k,x.reads k→k≠g from fun x J k hk e=>(h.aside x J k hk).2 (by rw [e];rfl))
 have Be:=yH (show ∀i,i<A.length→w.rangeAt g (i*41) (A.getD i default).cells from fun i hi=>by
  have:=J i (by simp;omega)
  rw [show (A++[m]).getD i default=A.getD i default from by simp [List.getElem?_append_left hi]] at this
  exact this)
 obtain ⟨W,hW,r0,r1,b1⟩:=x0u w (.cells #[.pointer (some ⟨gs,0,none⟩),.int .i64 d] 91) (.cells kd0.cells.toArray 34)
 have BJ:=yH (fun (w5:World) (hb:Below w.heap.size w w5)=>y38 h hb lv)
 have C:=hgm m (by simp)
 have AT:(forkN m.row.R lv m.k1.pk m.k2.pk).right d=true:=x1H hd C.row C.k1.right C.k2.right C.k1.key C.k2.key
 have Bq:=x0Z m.row.R lv m.k1.pk m.k2.pk
 have Av:=C.z1
 have Ak:=C.z2
 have Bo:=C.k1.zero
 have BN:=C.k2.zero
 have BZ:(forkN m.row.R lv m.k1.pk m.k2.pk).size≤2*(Z:Int)+1:=by omega
 have Bg:=yH (show GoodK d (forkN m.row.R lv m.k1.pk m.k2.pk).says from ⟨x1w AT (by omega) (by omega),rfl,by show 0≤(forkN m.row.R lv m.k1.pk m.k2.pk).size;omega⟩)
 have Bf:=yH (show (forkN m.row.R lv m.k1.pk m.k2.pk).says.size+((A.length*(Z+1):Nat):Int)≤1048576 by
  show (forkN m.row.R lv m.k1.pk m.k2.pk).size+_≤_
  omega)
 have BR:=yH (show (forkN m.row.R lv m.k1.pk m.k2.pk).right d=true∧(forkN m.row.R lv m.k1.pk m.k2.pk).size≤1048576 from ⟨AT,by omega⟩)
 have AV:=yH (show pnOf 1 [⟨m.row,lv⟩] [m.k1,m.k2]=forkN m.row.R lv m.k1.pk m.k2.pk from rfl)
 have Bs:=yH (show ∀x∈A,GoodM d Z x from fun x J=>hgm x (by simp [J]))
 have BB:=yH hfq
 have AM:=yH (show B≤m.ge∧B≤m.gk from h.way.new m (by simp))
 have Al:=yH (show ∀a∈A,B≤a.ge∧B≤a.gk from fun a ha=>h.way.new a (by simp [ha]))
 have A1:=yH (x4M hm)
 have z:=yH (show ∀a∈A,a.gk<w.heap.size from fun a ha=>(x4M (h.way.each a (by simp [ha]))).2)
 have Ax:=yH hQB
 have Ba:=yH hB
 have Ap:=yH hp
 have Aj:=yH hsl
 have BQ:=yH hd
 have HA:=yH hA
 have Ah:w.cell? ⟨m.ge,1,none⟩=some (.bool m.live):=by have:=hm.ent 1 _ rfl;simpa using this
 have BX:=yH Ah
 have Bp:=yH (show w.frozen? ⟨m.ge,1,none⟩=false from by have:=(hm.entT 1 (by decide)).2;simpa using this)
 have CK:=hm.caps.1
 rw [AI] at hc ⊢
 have Br:=yH hc
 have R0:=yH r0
 have R1:=yH r1
 have B1:=yH b1
 obtain ⟨n,hn⟩:∃n,n=A.length:=⟨_,rfl⟩
 have HN:=yH hn
 rw [← hn] at hc ⊢
 have AX:n≤999:=by omega
 have q1:IntKind.i64.wrap (((n+1:Nat):Int) - 1)=(n:Int):=by rw [IntWalk.i64_in _ (by omega)];omega
 have q0:IntKind.i64.wrap (n:Int)=(n:Int):=IntWalk.i64_in _ (by omega)
 have i1:(0:Int)≤n∧(n:Int)<(n:Int)+1:=by omega
 have Bn:n≤c:=by omega
 obtain ⟨du,As,Aq⟩:=UTr
 obtain ⟨dk,B8,AJ⟩:=UKd
 obtain ⟨dn,BD,AG⟩:=UNo
 have BC:=yH As
 have B0:=yH Aq
 have Bj:=yH B8
 have BG:=yH AJ
 have Ao:=yH BD
 have AL:=yH AG
 have BM:=yH (zero_of_info kz)
 have Bd:=yH (zero_of_info nz)
 have By:=BM.out.1
 have Bw:=Bd.out.1
 clear hn h hB hQB hfq hp hsl hA hgm hz hd J hm AI M B6 C AT Bq BZ Av Ak Bo BN r0 r1 b1 Ah As Aq B8 AJ BD AG
 go_enter Tryz.func56,Tryz.ntmps56
 go_upto_region 1 with fail
 clear hW
 refine wp_region_held_drew (S:=fun w'=>Below W.heap.size W w') (by kernel_rfl) ((Below.refl _ _).drew) (fun hHeld=>?_)
 have AC:=yH hHeld
 generalize W.drew=x0 at *
 refine tK 0 ?_
 refine tK 1 ?_
 refine tK 2 ?_
 refine tK 3 ?_
 refine tQ 4 ?_ ?_ ?_
 rotate_left
 ·intro w' hSw
  refine Eq.trans (b:=Result.ok (Next.value (.slice (some ⟨g,0,none⟩) n c)) w') ?_ ?_
  ·exact x90 (x:=.tmp 9) (hi:=.tmp 12) (n:=n+1) (c:=c) (k:=n) (g:=g) (i:=0) (by rfl) (by rfl) (by rfl) Bn
  ·with_reducible rfl
 refine tK 5 ?_
 refine tK 6 ?_
 refine tK 7 ?_
 refine tK 8 ?_
 refine tK 9 ?_
 refine tK 10 ?_
 refine tQ 11 ?_ ?_ ?_
 rotate_left
 ·intro w' hSw
  refine Eq.trans (b:=Result.ok (Next.value (.agg #[.int .u8 1,.slice (some ⟨m.ge,0,none⟩) 1 m.ce,.slice (some ⟨m.gk,0,none⟩) 2 m.ck])) w') ?_ ?_
  ·exact x0A 81 (.tmp 19) (by rfl) g (n*41+37) (by rfl) [.int .u8 1,.slice (some ⟨m.ge,0,none⟩) 1 m.ce,.slice (some ⟨m.gk,0,none⟩) 2 m.ck] dn (x02 (by rw [HN.out];exact Bm.out) (B1.out.trans (hSw.mono B1.out.size))) Ao.out AL.out SNo
  ·with_reducible rfl
 refine rO 12 fun K L=>?_
 go_simp
 have b5:Below x0.heap.size x0 (x0.alloc (.cells #[.int .u8 0,.slice none 0 0,.slice none 0 0] 81)):=(Below.refl _ _).alloc (Nat.le_refl _) _
 have RZ:=yH (heap_alloc_new x0 (.cells #[.int .u8 0,.slice none 0 0,.slice none 0 0] 81))
 have Bc:=hHeld.trans (b5.mono hHeld.size)
 try go_wp2_with fail
 refine L.out _ _ Bc (fun hHeld=>?_)
 clear L K
 try simp only [Act.put,yA,yB,yC]
 refine tK 13 ?_
 refine rO 14 fun K L=>?_
 refine wp_store_row 81 (.tmp 8) (.tmp 20) (by rfl) x0.heap.size #[.int .u8 1,.slice (some ⟨m.ge,0,none⟩) 1 m.ce,.slice (some ⟨m.gk,0,none⟩) 2 m.ck] (by rfl) (by rfl) _ _ RZ.out SNo rfl (x2R _ _ _ _ _ _ _) ?_
 rw [x04]
 have BW:Below W.heap.size W (x0.alloc (.cells #[.int .u8 1,.slice (some ⟨m.ge,0,none⟩) 1 m.ce,.slice (some ⟨m.gk,0,none⟩) 2 m.ck] 81)):=AC.out.trans (((Below.refl x0.heap.size x0).alloc (Nat.le_refl _) _).mono AC.out.size)
 refine L.out _ _ BW (fun hHeld=>?_)
 clear L K
 try simp only [Act.put,yA,yB,yC]
 refine wpAnyH_done (by kernel_rfl) ?_ _
 have u:=yH (heap_alloc_new x0 (.cells #[.int .u8 1,.slice (some ⟨m.ge,0,none⟩) 1 m.ce,.slice (some ⟨m.gk,0,none⟩) 2 m.ck] 81))
 have t:=yH hHeld
 have AR:=yH AC.out.size
 clear hHeld RZ
 generalize x0.alloc (.cells #[.int .u8 1,.slice (some ⟨m.ge,0,none⟩) 1 m.ce,.slice (some ⟨m.gk,0,none⟩) 2 m.ck] 81)=w5 at *
 have AF:=yH (B1.out.trans (t.out.mono B1.out.size))
 have Bi:=cell_of_row w5 x0.heap.size 1 _ _ _ u.out
 have BV:=(AF.out.cell (p:=⟨m.ge,1,none⟩) A1.out.1).trans BX.out
 have Bk:=(AF.out.frozen (p:=⟨m.ge,1,none⟩) A1.out.1).trans Bp.out
 go_upto_region 3 with fail
 obtain ⟨hE,L,BI,y,Bl⟩:=BJ.out w5 AF.out
 have Au:=yH BI
 have HE:=yH hE
 have B4:=yH L
 have At:=yH y
 have AB:=yH (Only.setCell (P:=fun j=>j=m.ge) w5 (a:=⟨m.ge,1,none⟩) rfl (.bool lv))
 have f:=yH (show w.heap.size+2≤W.heap.size from (yL R1.out))
 have B3:=yH ((AB.out.block _ (by have:=t.out.size;have:=f.out;omega) (by have:=A1.out.1;omega)).trans ((t.out.block _ (by have:=f.out;omega)).trans R0.out))
 have Am:=yH ((AB.out.block _ (by have:=t.out.size;have:=f.out;omega) (by have:=A1.out.1;omega)).trans ((t.out.block _ (by have:=f.out;omega)).trans R1.out))
 have AU:=yH ((AB.out.block _ (yL u.out) (by have:=A1.out.1;have:=AR.out;have:=f.out;omega)).trans u.out)
 have BT:=yH (show w5.heap.size=(w5.setCell ⟨m.ge,1,none⟩ (.bool lv)).heap.size from by simp)
 have B9:=yH (show x0.heap.size<w5.heap.size from (yL u.out))
 clear hE L BI y Bl Bi BV Bk
 generalize w5.setCell ⟨m.ge,1,none⟩ (.bool lv)=w6 at *
 have v:=yH (show Below w6.heap.size w6 w6.drew from (Below.refl _ _).drew)
 obtain ⟨X,Ad⟩:∃X,X=x0.heap.size:=⟨_,rfl⟩
 rw [← Ad] at AU AR B9 ⊢
 have AA:=yH (At.out.trans (Only.of_below _ v.out))
 have Ay:=yH (HE.out.later v.out)
 have Af:=yH (B4.out.later v.out)
 have A8:=yH (Au.out.later v.out)
 have s:=yH (show w6.drew.heap[w.heap.size]? =some (.cells #[.pointer (some ⟨gs,0,none⟩),.int .i64 d] 91 (0,0))∧w6.drew.heap[X]? =some (.cells #[.int .u8 1,.slice (some ⟨m.ge,0,none⟩) 1 m.ce,.slice (some ⟨m.gk,0,none⟩) 2 m.ck] 81 (0,0)) from ⟨B3.out,AU.out⟩)
 have Az:=yH (show w6.drew.heap[w.heap.size+1]? =some (.cells kd0.cells.toArray 34 (0,0)) from Am.out)
 have Bb:=yH (show w.heap.size+2≤w6.drew.heap.size∧X<w6.drew.heap.size∧w.heap.size≤X from by
  have h1:=f.out
  have h2:=AR.out
  have h3:=B9.out
  have h4:=BT.out
  have h5:w6.drew.heap.size=w6.heap.size:=rfl
  omega)
 clear v HE B4 Au At AB B3 Am AU Ad u t AF AC
 refine wp_region_held_drew (S:=fun w'=>w'.heap[w.heap.size]? =some (.cells #[.pointer (some ⟨gs,0,none⟩),.int .i64 d] 91 (0,0))∧w'.heap[X]? =some (.cells #[.int .u8 1,.slice (some ⟨m.ge,0,none⟩) 1 m.ce,.slice (some ⟨m.gk,0,none⟩) 2 m.ck] 81 (0,0))) (by kernel_rfl) (s.out) (fun hHeld=>?_)
 generalize w6.drew=x9 at *
 have Ae:=yH (Ap.out.keep _ AA.out (fun k hk e=>by have:=Ax.out k hk;have:=AM.out.1;omega))
 have BA:=yH (x6e 1 (by omega) _ 1 m.ce _ 2 m.ck _ _ (d:Int) x9 Ay.out Af.out Ae.out (by have:=Aj.out;omega) (by rw [AV.out];exact BR.out))
 have AY:=yH (show ∀(E:World) (I:Kd) (Q1:Nat→Prop),I.pk=(forkN m.row.R lv m.k1.pk m.k2.pk).says→I.Ok E→Fsh x9 I→PL E gs Q1 (s0.put (forkN m.row.R lv m.k1.pk m.k2.pk).bytes)→(∀k,Q1 k→Q k∨x9.heap.size≤k)→Aw Q1 I→Only Q x9 E→
   (E.heap[w.heap.size]? =some (.cells #[.pointer (some ⟨gs,0,none⟩),.int .i64 d] 91 (0,0))∧E.heap[X]? =some (.cells #[.int .u8 1,.slice (some ⟨m.ge,0,none⟩) 1 m.ce,.slice (some ⟨m.gk,0,none⟩) 2 m.ck] 81 (0,0)))∧
   Calls Tryz.prog 58 #[.agg #[.pointer (some ⟨gs,0,none⟩),.int .i64 d],.slice (some ⟨g,0,none⟩) n c,.agg I.cells.toArray] E fun e H=>∃U:Kd,e= .returned (.agg U.cells.toArray)∧U.cells.length=37∧H.heap[w.heap.size+1]? =some (.cells kd0.cells.toArray 34 (0,0))∧(H.heap[w.heap.size]? =some (.cells #[.pointer (some ⟨gs,0,none⟩),.int .i64 d] 91 (0,0))∧H.heap[X]? =some (.cells #[.int .u8 1,.slice (some ⟨m.ge,0,none⟩) 1 m.ce,.slice (some ⟨m.gk,0,none⟩) 2 m.ck] 81 (0,0)))∧
    Told w gs B Q (foldR A (forkN m.row.R lv m.k1.pk m.k2.pk).says (s0.put (forkN m.row.R lv m.k1.pk m.k2.pk).bytes) (List.range n)) (.returned (.agg U.cells.toArray)) (H.setRow (w.heap.size+1) U.cells.toArray) from fun E I Q1 e1 e2 e3 e4 e5 e6 e7=>by
  have CE:=Bb.out
  have hQB:=Ax.out
  have CH:=Ba.out
  have l:∀k,B≤k→¬Q k:=fun k hk e=>by have:=hQB k e;omega
  have CB:=e7.size
  have AN:∀k,k<w.heap.size→k≠m.ge→¬Q k→E.heap[k]? =w.heap[k]? :=fun k h1 h2 h3=>(e7.block k (by omega) h3).trans (AA.out.block k h1 h2)
  have hgm:g≠m.ge:=fun e=>Ar.out m (by simp) _ (Or.inl rfl) e.symm
  have A7:∀k,k<w.heap.size+2→¬Q k→¬Q1 k:=fun k h1 h2 e=>(e5 k e).elim h2 (fun e=>by omega)
  have Ai:¬Q1 X:=fun e=>(e5 X e).elim (l X (by omega)) (fun e=>by omega)
  have CJ:(s0.put (forkN m.row.R lv m.k1.pk m.k2.pk).bytes).W.length≤s0.W.length+1:=x1V [(forkN m.row.R lv m.k1.pk m.k2.pk).bytes] s0
  have G:∀k,k<x9.heap.size→B≤k→E.heap[k]? =x9.heap[k]? :=fun k h1 h2=>e7.block k h1 (l k h2)
  refine ⟨⟨(G _ (by omega) (by omega)).trans s.out.1,(G _ (by omega) (by omega)).trans s.out.2⟩,?_⟩
  have hr:=x7Z (B:=B) (gs:=gs) (d:=d) (Z:=Z) (g:=g) (w:=E) (q:=some ⟨g,0,none⟩) (c:=c) (A:=A) (k0:=I) (Q:=Q1) (s0:=s0.put (forkN m.row.R lv m.k1.pk m.k2.pk).bytes) BQ.out (fun _=>⟨rfl,by have:=Br.out;omega,fun i hi=>x0Y (Be.out i hi) (AN g AD.out.2 hgm (l g AD.out.1))⟩)
   (A8.out.keep fun a ha k hk=>e7.block k (by have:=(A8.out.each a ha).lt k hk;omega) (BB.out a (by simp [ha]) k hk))
   (fun a ha k hk=>⟨Ar.out a (by simp [ha]) k hk,fun e=>(e5 k e).elim (BB.out a (by simp [ha]) k hk) (fun e=>by have:=(A8.out.each a ha).lt k hk;omega)⟩)
   (fun _=>A7 g (by have:=AD.out.2;omega) (l g AD.out.1)) (by have:=HA.out;omega) e2 e6 (fun a ha r hr x J hR=>by have:=e3 r hr x J hR;have:=z.out a ha;omega) e4 (fun _=>x91 _ _) (by have:=Aj.out;omega) (by rw [e1];exact Bg.out) Bs.out (by rw [e1];exact Bf.out)
  rw [e1,← HN.out] at hr
  refine hr.mono ?_
  rintro e H ⟨U,Q2,rfl,f1,f2,f3,f4,f5,f6,f7⟩
  have C8:=f7.size
  have N:∀k,k<E.heap.size→¬Q1 k→w.heap.size≤k→H.heap[k]? =E.heap[k]? :=fun k h1 h2 h3=>f7.block k h1 (fun e=>e.elim h2 (fun ⟨a,ha,e⟩=>by have:=z.out a ha;omega))
  have B5:∀r∈U.rows,∀x,r.p=some x→r.R≠[]→x9.heap.size≤x.block:=fun r M x J hR=>by
   rcases f3 with ⟨_,e9⟩ | f3
   ·rw [e9] at M
    exact e3 r M x J hR
   ·have:=f3 r M x J hR;omega
  have Y:=(N (w.heap.size+1) (by omega) (A7 _ (by omega) (l _ (by omega))) (by omega)).trans ((G _ (by omega) (by omega)).trans Az.out)
  have O:=x0C H (w.heap.size+1) U.cells.toArray
  have B7:∀k,Q2 k→Q k∨x9.heap.size≤k:=fun k hk=>(f5 k hk).elim (fun e=>e5 k e) (fun e=>Or.inr (by omega))
  refine ⟨U,rfl,Kd.cells_length f2.len,Y,⟨(N _ (by omega) (A7 _ (by omega) (l _ (by omega))) (by omega)).trans ((G _ (by omega) (by omega)).trans s.out.1),(N _ (by omega) Ai (by omega)).trans ((G _ (by omega) (by omega)).trans s.out.2)⟩,U,Q2,rfl,f1,x1I f2 fun r hr x J hR=>O.block _ (rw_lt (x05 f2 r hr) x J hR) (by have:=B5 r hr x J hR;omega),fun r hr x J hR=>by have:=B5 r hr x J hR;omega,f4.keep _ O (fun k hk e=>by
   rcases B7 k hk with h | h
   ·have:=hQB k h;omega
   ·omega),fun k hk=>(B7 k hk).imp id (fun e=>by omega),f6,?_⟩
  have h9:=AA.out
  refine ⟨O.os.trans (f7.os.trans (e7.os.trans h9.os)),O.tape.trans (f7.tape.trans (e7.tape.trans h9.tape)),O.output.trans (f7.output.trans (e7.output.trans h9.output)),Nat.le_trans h9.size (by have:=O.size;omega),fun k hk hn=>?_⟩
  have AX:¬Q k:=fun e=>hn (Or.inl e)
  have CN:k<B:=Nat.lt_of_not_le (fun e=>hn (Or.inr e))
  rw [O.block k (by omega) (by omega),f7.block k (by omega) (fun e=>e.elim (A7 k (by omega) AX) (fun ⟨a,ha,e⟩=>by have:=(Al.out a ha).2;omega))]
  exact AN k hk (by have:=AM.out.1;omega) AX)
 have BY:=yH (show X≠w.heap.size+1 from fun e=>by
  have h1:=s.out.2
  have h2:=Az.out
  rw [e,h2] at h1
  have h3:=congrArg (fun o=>match o with | some (Obj.cells c _ _)=>c.size | _=>0) h1
  simp only [List.size_toArray,x01] at h3
  cases h3)
 clear Ap BJ Ay Af A8 Ae AA Al z
 refine tQ 0 ?_ ?_ ?_
 rotate_left
 ·intro w' hSw
  refine Eq.trans (b:=Result.ok (Next.value (.agg #[.pointer (some ⟨gs,0,none⟩),.int .i64 d])) w') ?_ ?_
  ·exact x0A 91 (.tmp 3) (by rfl) w.heap.size 0 (by rfl) [.pointer (some ⟨gs,0,none⟩),.int .i64 d] du (x09 hSw.1) BC.out B0.out STr
  ·with_reducible rfl
 refine tK 1 ?_
 refine tQ 2 ?_ ?_ ?_
 rotate_left
 ·intro w' hSw
  refine Eq.trans (b:=Result.ok (Next.value (.agg #[.pointer (some ⟨gs,0,none⟩),.int .i64 d])) w') ?_ ?_
  ·exact x0A 91 (.tmp 3) (by rfl) w.heap.size 0 (by rfl) [.pointer (some ⟨gs,0,none⟩),.int .i64 d] du (x09 hSw.1) BC.out B0.out STr
  ·with_reducible rfl
 refine tQ 3 ?_ ?_ ?_
 rotate_left
 ·intro w' hSw
  refine Eq.trans (b:=Result.ok (Next.value (.agg #[.int .u8 1,.slice (some ⟨m.ge,0,none⟩) 1 m.ce,.slice (some ⟨m.gk,0,none⟩) 2 m.ck])) w') ?_ ?_
  ·exact x0A 81 (.tmp 8) (by rfl) X 0 (by rfl) [.int .u8 1,.slice (some ⟨m.ge,0,none⟩) 1 m.ce,.slice (some ⟨m.gk,0,none⟩) 2 m.ck] dn (x3V hSw.2) Ao.out AL.out SNo
  ·with_reducible rfl
 refine rO 4 fun K L=>?_
 go_simp
 refine BA.out.mono ?_
 rintro _ E ⟨I,rfl,AP,AH,AO,⟨Q1,BE,A2,AK⟩,Ag,-⟩
 obtain ⟨BS,A3⟩:=AY.out E I Q1 (by rw [AP,AV.out]) AH AO (by rw [← AV.out];exact BE) A2 AK Ag
 have AQ:=yH A3
 clear AP AH AO BE A2 AK Ag A3
 try go_wp2_with fail
 refine L.out _ _ BS (fun hHeld=>?_)
 clear L K
 try simp only [Act.put,yA,yB,yC]
 refine rO 5 fun K L=>?_
 go_simp
 refine AQ.out.mono ?_
 rintro _ H ⟨U,rfl,hl,Y,BU,A0⟩
 have AS:=yH hl
 have An:=yH Y
 have AW:=yH A0
 clear hl Y A0
 try go_wp2_with fail
 refine L.out _ _ BU (fun hHeld=>?_)
 clear L K
 try simp only [Act.put,yA,yB,yC]
 refine rO 6 fun K L=>?_
 refine wp_store_row 34 (.tmp 6) (.tmp 31) (by rfl) (w.heap.size+1) U.cells.toArray (by rfl) (by rfl) _ _ An.out (by rw [List.size_toArray,AS.out];exact SKd) (by simp only [List.size_toArray,AS.out,x01]) (all_oneCell_toArray Kd.one) ?_
 have BP:(H.setRow (w.heap.size+1) U.cells.toArray).heap[w.heap.size]? =some (.cells #[.pointer (some ⟨gs,0,none⟩),.int .i64 d] 91 (0,0))∧(H.setRow (w.heap.size+1) U.cells.toArray).heap[X]? =some (.cells #[.int .u8 1,.slice (some ⟨m.ge,0,none⟩) 1 m.ce,.slice (some ⟨m.gk,0,none⟩) 2 m.ck] 81 (0,0)):=⟨(setRow_other _ _ _ _ (by omega)).trans hHeld.1,(setRow_other _ _ _ _ (by have:=BY.out;omega)).trans hHeld.2⟩
 refine L.out _ _ BP (fun hHeld=>?_)
 clear L K
 try simp only [Act.put,yA,yB,yC]
 refine wpAnyH_done (by kernel_rfl) ?_ _
 go_wp2_with fail
 exact x1B 6 (by kernel_rfl) (w.heap.size+1) _ U.cells.toArray Bj.out BG.out (by rw [List.size_toArray,AS.out];exact SKd) (by rfl) (setRow_heap _ _ _ _ _ _ An.out) AW.out
theorem x9t {B gs d Z g:Nat} {w x:World} {q:Option Addr} {c:Nat} {A:List MSt} {Q Q1:Nat→Prop} {s1:Pg.S} {kd:Kd} (hd:1≤d∧d≤8) (hB:B≤w.heap.size) (hQB:∀k,Q k→k<B) (hq:A≠[]→q=some ⟨g,0,none⟩∧A.length≤c∧g<w.heap.size∧B≤g∧∀i,i<A.length→w.rangeAt g (i*41) (A.getD i default).cells)
  (hw:WayM B w A) (hrd:∀a∈A,∀k,a.reads k→k≠g∧¬Q k) (hx:Only (fun k=>Q k) w x) (hA:A.length≤1000) (hk:kd.Ok x) (hkr:∀r∈kd.rows,∀y,r.p=some y→r.R≠[]→w.heap.size≤y.block) (hka:Aw Q1 kd) (hp:PL x gs Q1 s1) (hsub:∀k,Q1 k→Q k∨w.heap.size≤k) (hs1:s1.W≠[]) (hsl:s1.W.length+A.length≤90000)
  (hgk:GoodK d kd.pk) (hgm:∀a∈A,GoodM d Z a) (hz:kd.pk.size+(A.length*(Z+1):Nat)≤1048576):
  Calls Tryz.prog 58 #[.agg #[.pointer (some ⟨gs,0,none⟩),.int .i64 d],.slice q A.length c,.agg kd.cells.toArray] x (Told w gs B Q (foldR A kd.pk s1 (List.range A.length))):=by
 have I:∀k,B≤k→¬Q k:=fun k hk e=>by have:=hQB k e;omega
 have L:=hx.size
 have C:∀a∈A,∀k,a.reads k→k<w.heap.size:=fun a ha=>(hw.each a ha).lt
 have E:∀k,k<w.heap.size→¬Q k→¬Q1 k:=fun k M K e=>(hsub k e).elim K (fun e=>by omega)
 refine (x7Z (B:=B) (gs:=gs) (d:=d) (Z:=Z) (g:=g) (w:=x) (q:=q) (c:=c) (A:=A) (k0:=kd) (Q:=Q1) (s0:=s1) hd (fun h0=>?_)
  (hw.keep fun a ha k hk=>hx.block k (C a ha k hk) (hrd a ha k hk).2)
  (fun a ha k hk=>⟨(hrd a ha k hk).1,E k (C a ha k hk) (hrd a ha k hk).2⟩)
  (fun h0=>E g (hq h0).2.2.1 (I g (hq h0).2.2.2.1)) hA hk hka (fun a ha r hr y hy hR=>by have:=hkr r hr y hy hR;have:=C a ha a.gk (Or.inr (Or.inl rfl));omega) hp (fun _=>hs1) hsl hgk hgm hz).mono ?_
 ·obtain ⟨M,K,Y,P,X⟩:=hq h0
  exact ⟨M,K,fun i hi=>x0Y (X i hi) (hx.block g Y (I g P))⟩
 ·rintro e y ⟨l,j,rfl,m,N,J,f,O,U,H⟩
  refine ⟨l,j,rfl,m,N,fun r hr z hz hR=>?_,f,fun k hk=>?_,U,?_⟩
  ·rcases J with ⟨_,b⟩ | J
   ·rw [b] at hr
    have:=hkr r hr z hz hR
    omega
   ·have:=J r hr z hz hR
    omega
  ·rcases O k hk with h | h
   ·exact (hsub k h).imp id (fun e=>by omega)
   ·right;omega
  ·refine ⟨H.os.trans hx.os,H.tape.trans hx.tape,H.output.trans hx.output,Nat.le_trans L H.size,fun k hk hn=>?_⟩
   have G:¬Q k:=fun e=>hn (Or.inl e)
   have n:k<B:=Nat.lt_of_not_le (fun e=>hn (Or.inr e))
   rw [H.block k (by omega) (fun e=>e.elim (E k hk G) (fun ⟨a,ha,e⟩=>by have:=(hw.new a ha).2;omega))]
   exact hx.block k hk G
def Told2 (w:World) (gs:Nat) (Q:Nat→Prop) (u:V) (s:Pg.S) (e:Ending) (w':World):Prop:=
 ∃kd Q',e= .returned (.tuple #[.agg kd.cells.toArray,.int .i64 0])∧kd.pk=u.kid∧kd.Ok w'∧Fsh w kd∧PL w' gs Q' s∧(∀k,Q' k→Q k∨w.heap.size≤k)∧Aw Q' kd∧Only Q w w'
theorem x92 {B gs:Nat} {w w4 w5:World} {Q:Nat→Prop} {u:V} {s:Pg.S} {st:PK×Pg.S} {e:Ending} {b:Nat} (h:Told w4 gs B Q st e w5) (hst:st=(u.kid,s)) (hb:Below w.heap.size w w4) (hB:w.heap.size≤b∧b<B) (hB4:B≤w4.heap.size) (hQ:∀k,Q k→k<w.heap.size) (hbox:w4.heap[b]? =some (.cells kd0.cells.toArray 34 (0,0))):
  ∃kd:Kd,e= .returned (.agg kd.cells.toArray)∧kd.cells.length=37∧w5.heap[b]? =some (.cells kd0.cells.toArray 34 (0,0))∧Told2 w gs Q u s (.returned (.tuple #[.agg kd.cells.toArray,.int .i64 0])) (w5.setRow b kd.cells.toArray):=by
 subst hst
 obtain ⟨kd,K,rfl,N,H,J,O,L,P,C⟩:=h
 have A:=x0C w5 b kd.cells.toArray
 have E:¬Q b:=fun e=>by have:=hQ b e;omega
 have G:¬K b:=fun e=>(L b e).elim E (fun e=>by omega)
 refine ⟨kd,rfl,Kd.cells_length H.len,(C.block b (by omega) (fun e=>e.elim E (fun e=>by omega))).trans hbox,kd,K,rfl,N,x1I H fun r hr x hx hR=>A.block _ (rw_lt (x05 H r hr) x hx hR) (by have:=J r hr x hx hR;omega),fun r hr x hx hR=>by have:=J r hr x hx hR;omega,O.keep _ A (fun k hk e=>G (e▸hk)),fun k hk=>(L k hk).imp id (fun e=>by omega),P,?_⟩
 have I:=hb.size
 refine ⟨A.os.trans (C.os.trans hb.os),A.tape.trans (C.tape.trans hb.tape),A.output.trans (C.output.trans hb.output),Nat.le_trans I (Nat.le_trans C.size A.size),fun k hk hn=>?_⟩
 have M:=C.size
 rw [A.block k (by omega) (by omega),C.block k (by omega) (fun e=>e.elim hn (fun e=>by omega))]
 exact hb.block k hk
end Go.Proofs.YtinihaflmdihaaaGreat.Kt
