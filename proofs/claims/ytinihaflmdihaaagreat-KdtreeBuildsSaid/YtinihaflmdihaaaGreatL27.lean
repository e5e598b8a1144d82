/- KdLay. -/
import Derived.BigRegion
import Derived.Deep.DeepCutAuto
import Derived.Test.YtinihaflmdihaaaGreatL21
set_option maxRecDepth 100000
set_option maxHeartbeats 8000000
set_option linter.all false
namespace Go.Proofs.YtinihaflmdihaaaGreat.Kt
open Go.RowKit Go.Proofs.YtinihaflmdihaaaGreat.Nd Go.Proofs.YtinihaflmdihaaaGreat.Dk Go.Proofs.YtinihaflmdihaaaGreat.Pg
open List renaming setIfInBounds_toArray → yA, set_cons_zero → yB, set_cons_succ → yC
def x29 (w:World) (gs:Nat) (Q:Nat→Prop) (s:Pg.S) (g o:Nat) (L:List Rw) (t:Nat) (e:Ending) (w':World):Prop:=
 ∃(kd:Kd) (Q':Nat→Prop),e= .returned (.agg kd.cells.toArray)∧kd.pk=(lay (L.map Rw.R) t).kid∧kd.Ok w'∧Fsh w kd∧Aw Q' kd∧LayR w w' gs Q Q' (puts s (lay (L.map Rw.R) t).pages) g o L.length
def RowsOk (w:World) (d g:Nat) (Q:Nat→Prop) (L:List Rw):Prop:=∀r∈L,r.Ok w∧r.n=d∧Away g r∧∀x,r.p=some x→r.R≠[]→¬Q x.block
theorem RowsOk.after {w w':World} {d g:Nat} {gs:Nat} {Q Q':Nat→Prop} {s':Pg.S} {L:List Rw} {o n:Nat} (h:RowsOk w d g Q L) (hl:LayR w w' gs Q Q' s' g o n):RowsOk w' d g Q' L:=fun r hr=>by
 obtain ⟨h1,h2,h3,h4⟩:=h r hr
 refine ⟨Nd.rw_keep h1 fun y hy hR=>hl.only.block _ (rw_lt h1 y hy hR) (fun e=>e.elim (h4 y hy hR) (h3 y hy hR)),h2,h3,fun x hx hR e=>?_⟩
 rcases hl.new _ e with e | e
 ·exact h4 x hx hR e
 ·have:=rw_lt h1 x hx hR
  omega
theorem y4t (w:World):Fsh w kd0:=fun r hr x hx hR=>by
 simp only [Kd.rows,kd0,List.mem_cons,List.not_mem_nil,or_false] at hr
 rcases hr with rfl | rfl | rfl<;>cases hx
theorem y5W (Q:Nat→Prop):Aw Q kd0:=fun r hr x hx hR=>by
 simp only [Kd.rows,kd0,List.mem_cons,List.not_mem_nil,or_false] at hr
 rcases hr with rfl | rfl | rfl<;>cases hx
theorem Seg.take {w:World} {g o:Nat} {L:List Rw} (h:Seg w g o L) (k:Nat):Seg w g o (L.take k):=fun j hj=>by
 rw [List.length_take] at hj
 have:=h j (by omega)
 rw [List.getD_eq_getElem?_getD,List.getElem?_take_of_lt (by omega),← List.getD_eq_getElem?_getD]
 exact this
theorem Seg.drop {w:World} {g o:Nat} {L:List Rw} (h:Seg w g o L) (k:Nat):Seg w g (o+k) (L.drop k):=fun j hj=>by
 rw [List.length_drop] at hj
 have:=h (k+j) (by omega)
 rw [List.getD_eq_getElem?_getD,List.getElem?_drop,← List.getD_eq_getElem?_getD,Nat.add_assoc]
 exact this
theorem y1f (p:Option Addr) (n c:Nat) (b:Bool):Tryz.prog.built 85 [(0,.slice p n c),(1,.bool b)]=some #[.slice p n c,.bool b]:=by kernel_rfl
theorem URSe:Tryz.prog.underlying 51=some (.slice (Tryz.prog.elem 51)):=by kernel_rfl
theorem SRSe:(Tryz.prog.info? (Tryz.prog.elem 51)).map (·.size)=some 1:=by kernel_rfl
theorem x6m {gs:Nat} {Q:Nat→Prop} {s:Pg.S} (d:Int) (p:Option Addr) (c t g o:Nat) (w:World) (hp:PL w gs Q s) (hg:g<w.heap.size):
  Calls Tryz.prog 59 #[.agg #[.pointer (some ⟨gs,0,none⟩),.int .i64 d],.slice p 0 c,.int .i64 t] w (x29 w gs Q s g o [] t):=by
 obtain ⟨W,N,M,H,b1⟩:=x0u w (.cells #[.pointer (some ⟨gs,0,none⟩),.int .i64 d] 91) (.cells kd0.cells.toArray 34)
 have J:=yH H
 have B1:=yH b1
 have I:=yH hp
 have G:=yH hg
 obtain ⟨O,B,A⟩:=UKd
 have E:=yH B
 have C:=yH A
 have L:=yH (zero_of_info kz)
 have K:=L.out.1
 clear hp hg M H b1 B A
 go_enter Tryz.func59,Tryz.ntmps59
 go_upto_region 1 with fail
 clear N
 go_wp2_with (first
  | (refine x07 (by rfl) (by rfl) x0T ?_)
  | (refine wpList_store_row (by rfl) 34 _ _ (by rfl) (w.heap.size+1) kd0.cells.toArray (by rfl) (by rfl) _ _ J.out (by rw [List.size_toArray,x01];exact SKd) rfl (all_oneCell_toArray Kd.one) ?_))
 refine x1B 6 (by kernel_rfl) (w.heap.size+1) _ kd0.cells.toArray E.out C.out (by rw [List.size_toArray,x01];exact SKd) (by rfl) (setRow_heap _ _ _ _ _ _ J.out) ?_
 exact ⟨kd0,Q,rfl,rfl,x1u _,y4t _,y5W _,(LayR.of_below I.out B1.out G.out).set (by omega) G.out (fun e=>by have:=I.out.lt _ e;omega) _⟩
def CutL (w:World) (gs:Nat) (Q:Nat→Prop) (s:Pg.S) (g o n m:Nat) (k1 k2:PK) (v8 v9:Value) (x:World):Prop:=∃(b8 b9:Nat) (kd1 kd2:Kd) (Q2:Nat→Prop),v8= .pointer (some ⟨b8,0,none⟩)∧v9= .pointer (some ⟨b9,0,none⟩)∧
 LyS w x gs Q Q2 s g o n m [b8,b9] [kd1,kd2]∧x.heap[b8]? =some (.cells kd1.cells.toArray 34 (0,0))∧x.heap[b9]? =some (.cells kd2.cells.toArray 34 (0,0))∧kd1.pk=k1∧kd2.pk=k2
theorem y39 (L:List Rw) (t:Nat) (s:Pg.S):(puts s (lay (L.map Rw.R) t).pages).W.length≤s.W.length+L.length:=by
 have h:=x1V (lay (L.map Rw.R) t).pages s
 rw [x0S,x2c,List.length_map] at h
 exact h
theorem y3A {ρ:Operand→Value} {o:Oper} {w:World} {x lo:Operand} (ho:o.op= .slice 51 x (some lo) none none) {g i n c k:Nat} {q:Option Addr} (hx:ρ x= .slice (some ⟨g,i,none⟩) n c) (hl:ρ lo= .int .i64 ((k:Nat):Int)) (hk:k≤n) (hq:q=if c=k then some ⟨g,i,none⟩ else some ⟨g,i+k,none⟩):
  (execOp ρ o).run Tryz.prog w= .ok (.value (.slice q (n - k) (c - k))) w:=by
 rw [y4h ho URSe 1 SRSe hx hl hk,hq]
 congr 2
 congr 1
 split
 ·rfl
 ·rw [Nat.mul_one]
  by_cases h0:k=0
  ·subst h0
   rfl
  ·simp [Addr.add,h0]
theorem y3B {ρ:Operand→Value} {o:Oper} {w:World} {x hi:Operand} (ho:o.op= .slice 51 x none (some hi) none) {g i n c k:Nat} (hx:ρ x= .slice (some ⟨g,i,none⟩) n c) (hl:ρ hi= .int .i64 ((k:Nat):Int)) (hk:k≤c):
  (execOp ρ o).run Tryz.prog w= .ok (.value (.slice (some ⟨g,i,none⟩) k c)) w:=by
 rw [y1F ho URSe 1 SRSe hx hl hk]
 congr 2
 congr 1
 split<;>rfl
theorem x0B {w x:World} {gs b g o n m:Nat} {Q Qx:Nat→Prop} {s:Pg.S} {bs:List Nat} {ks:List Kd} {a c:Value} (h:LyS w x gs Q Qx s g o n m bs ks) (hr:w.heap[b]? =some (.cells #[a,c] 91 (0,0))) (hq:¬Q b) (hg:b≠g):x.rangeAt b 0 [a,c]:=
 x09 ((h.r.only.block b (yL hr) (fun e=>e.elim hq hg)).trans hr)
theorem y1g {gs d:Nat} (hd:1≤d∧d≤8):∀(N:Nat) (L:List Rw) (p:Option Addr) (c t g o:Nat) (w:World) (Q:Nat→Prop) (s:Pg.S),L.length≤N→(L≠[]→p=some ⟨g,o,none⟩)→L.length≤c→Seg w g o L→RowsOk w d g Q L→PL w gs Q s→g<w.heap.size→¬Q g→s.W.length+L.length<100000→t+L.length≤100000000→
  Calls Tryz.prog 59 #[.agg #[.pointer (some ⟨gs,0,none⟩),.int .i64 d],.slice p L.length c,.int .i64 t] w (x29 w gs Q s g o L t):=by
 intro N
 induction N with
 | zero=>
  intro L p c t g o w Q s hN _ _ _ _ hp hg _ _ _
  obtain rfl:L=[]:=List.length_eq_zero_iff.1 (by omega)
  exact x6m d p c t g o w hp hg
 | succ N ih=>
  intro L p c t g o w Q s hN hpa hc hS Aj hp hg hqg hsl ht
  by_cases hne:L=[]
  ·subst hne
   exact x6m d p c t g o w hp hg
  obtain rfl:=hpa hne
  clear hpa
  have Bv:=List.length_pos_iff.2 hne
  obtain ⟨W,hW,r0,r1,b1⟩:=x0u w (.cells #[.pointer (some ⟨gs,0,none⟩),.int .i64 d] 91) (.cells kd0.cells.toArray 34)
  have Bf:=yH (x7F (some ⟨gs,0,none⟩) d t g o c L W hne (hS.later b1 hg) (fun r hr=>⟨(Aj r hr).1.later b1,(Aj r hr).2.1,(Aj r hr).2.2.1⟩) (by omega) (by omega) (Nat.lt_of_lt_of_le hg b1.size) (by omega))
  have Bd:=x8G (t:=t) (L:=L.map Rw.R) (fun e=>hne (List.map_eq_nil_iff.1 e))
  have CP:((L.map Rw.R).headD []).length=d:=by
   cases L with
   | nil=>exact absurd rfl hne
   | cons r K=>
    have:=Aj r (by simp)
    exact this.1.ints.size.symm.trans this.2.1
  rw [CP,List.length_map] at Bd
  have BM:=yH Bd
  have DD:=yH hne
  have Ck:=yH Aj
  have HP:=yH hp
  have HG:=yH hg
  have BJ:=yH hqg
  have Ap:=yH hsl
  have HT:=yH ht
  have HN:=yH hN
  have BC:=yH hc
  have IH:=yH ih
  have Cf:=yH hd
  have Cy:=yH (show (lay (L.map Rw.R) t).dims d from x6E fun y hy=>by
   obtain ⟨r,hr,rfl⟩:=List.mem_map.1 hy
   exact (Aj r hr).1.ints.size.symm.trans (Aj r hr).2.1)
  have Bm:=yH (show (lay (L.map Rw.R) t).size=L.length from by rw [x2c,List.length_map])
  obtain ⟨n,hn⟩:∃n,n=L.length:=⟨_,rfl⟩
  rw [← hn] at Bf BM Ap HT HN BC Bm Bv ⊢
  have Bi:=yH hn
  have R0:=yH r0
  have R1:=yH r1
  have B1:=yH b1
  have Bl:((n:Int)==0)=false:=by simp;omega
  obtain ⟨du,CA,C9⟩:=UTr
  obtain ⟨dk,CK,BS⟩:=UKd
  have BO:=yH CA
  have BL:=yH C9
  have Bg:=yH CK
  have BB:=yH BS
  have HZ:=yH (zero_of_info kz)
  have DB:=HZ.out.1
  have CB:=yH (x09 r0)
  clear hd hn hN hc hS Aj hp hg hqg hsl ht hne Bd CP ih r0 r1 b1 CA C9 CK BS
  go_enter Tryz.func59,Tryz.ntmps59
  go_upto_region 1 with fail
  clear hW
  go_upto_region 5 with (first
   | (refine wpList_load_mid (by rfl) 91 _ (by rfl) w.heap.size 0 (by rfl) [.pointer (some ⟨gs,0,none⟩),.int .i64 d] du CB.out BO.out BL.out STr ?_)
   | (go_at_call 73;refine Bf.out.mono ?_;rintro _ w3 ⟨rfl,M,CN,CO,Bs,C8⟩;have Bb:=yH CN;have CE:=yH CO;have BG:=yH Bs;have BI:=yH C8;clear CN CO Bs C8))
  obtain ⟨m,hm⟩:∃m,n/2=m:=⟨_,rfl⟩
  rw [show (n:Int)/2=(m:Int) from by omega]
  have DL:m<n:=by omega
  rw [show wrap64 (m:Int)=(m:Int) from by have:=Ap.out;unfold wrap64;omega]
  have Cz:=yH (show m+m≤n by omega)
  have Az:=yH (show M.length=n from Bb.out.length_eq.trans Bi.out.symm)
  rw [hm] at BM
  clear hm
  have B6:LayR w w3 gs Q Q s g o n:=((LayR.of_below (n:=n) (o:=o) HP.out B1.out HG.out).trans (o2:=o) (n2:=n) (LayR.of_turned (HP.out.keep (fun _=>False) (Only.of_below _ B1.out) (fun _ _ e=>e)) (Bi.out▸BI.out) (Nat.lt_of_lt_of_le HG.out B1.out.size) BJ.out) ⟨Nat.le_refl _,Nat.le_refl _⟩ ⟨Nat.le_refl _,Nat.le_refl _⟩)
  have Cd:=yH B6
  have B:=yH (show g<w3.heap.size from Nat.lt_of_lt_of_le HG.out B6.only.size)
  have A4:=yH (show w3.heap[w.heap.size]? =some (.cells #[.pointer (some ⟨gs,0,none⟩),.int .i64 d] 91 (0,0)) from (BI.out.only.block _ (yL R0.out) (by have:=HG.out;omega)).trans R0.out)
  have CQ:=yH (show w3.heap[w.heap.size+1]? =some (.cells kd0.cells.toArray 34 (0,0)) from (BI.out.only.block _ (yL R1.out) (by have:=HG.out;omega)).trans R1.out)
  have A2:=yH (show (∀k,Q k→k<w.heap.size) from HP.out.lt)
  have Ba:=yH (show RowsOk w3 d g Q M from fun r hr=>by
   have h:=(Ck.out).after B6 r (Bb.out.mem_iff.1 hr)
   exact h)
  have Bc:=yH B6.st
  clear B6 BI Bf R0 R1 CB HP
  obtain ⟨q2,Bj⟩:∃q2:Option Addr,q2=if c=m+1 then some ⟨g,o,none⟩ else some ⟨g,o+(m+1),none⟩:=⟨_,rfl⟩
  have D0:=yH Bj
  have Cs:=yH (show M.drop (m+1)≠[]→q2=some ⟨g,o+(m+1),none⟩ from fun h=>by
   have h2:=List.length_pos_iff.2 h
   rw [List.length_drop,Az.out] at h2
   rw [Bj,if_neg (by have:=BC.out;omega)])
  clear Bj
  have BT:=yH (show Seg w3 g o (M.take m) from BG.out.take m)
  have BW:=yH (show Seg w3 g (o+(m+1)) (M.drop (m+1)) from BG.out.drop (m+1))
  have At:=yH (show (M.take m).length=m from by rw [List.length_take,Az.out];omega)
  have Ay:=yH (show (M.drop (m+1)).length=n - (m+1) from by rw [List.length_drop,Az.out])
  obtain ⟨P1,B9⟩:∃P1,P1=(lay ((M.take m).map Rw.R) (t+1)):=⟨_,rfl⟩
  obtain ⟨P2,BK⟩:∃P2,P2=(lay ((M.drop (m+1)).map Rw.R) (t+1)):=⟨_,rfl⟩
  have B0:=yH (show ∀(x:World) (Qx:Nat→Prop) (bs:List Nat),LyS w3 x gs Q Qx s g o n m bs []→Seg x g o (M.take m)→Calls Tryz.prog 59 #[.agg #[.pointer (some ⟨gs,0,none⟩),.int .i64 d],.slice (some ⟨g,o,none⟩) m c,.int .i64 ((t+1:Nat):Int)] x (fun e x'=>∃(kd:Kd) (Q':Nat→Prop),e= .returned (.agg kd.cells.toArray)∧kd.pk=P1.kid∧kd.Ok x'∧Fsh x kd∧Aw Q' kd∧LayR x x' gs Qx Q' (puts s P1.pages) g o m) from fun x Qx bs hl hsg=>by
   have h:=IH.out (M.take m) (some ⟨g,o,none⟩) c (t+1) g o x Qx s (by have:=At.out;have:=HN.out;have:=Cz.out;omega) (fun _=>rfl) (by have:=At.out;have:=BC.out;omega) hsg (fun r hr=>Ba.out.after hl.r r (List.mem_of_mem_take hr)) hl.r.st (hl.glt B.out) (fun e=>(hl.r.new g e).elim BJ.out (fun e=>by have:=B.out;omega)) (by have:=At.out;have:=Ap.out;omega) (by have:=At.out;have:=HT.out;omega)
   unfold x29 at h
   rw [At.out,← B9] at h
   exact h)
  have Ai:=yH (show ∀(x:World) (Qx:Nat→Prop) (bs:List Nat) (ks:List Kd),LyS w3 x gs Q Qx (puts s P1.pages) g o n m bs ks→Seg x g (o+(m+1)) (M.drop (m+1))→Calls Tryz.prog 59 #[.agg #[.pointer (some ⟨gs,0,none⟩),.int .i64 d],.slice q2 (n - (m+1)) (c - (m+1)),.int .i64 ((t+1:Nat):Int)] x (fun e x'=>∃(kd:Kd) (Q':Nat→Prop),e= .returned (.agg kd.cells.toArray)∧kd.pk=P2.kid∧kd.Ok x'∧Fsh x kd∧Aw Q' kd∧LayR x x' gs Qx Q' (puts (puts s P1.pages) P2.pages) g (o+(m+1)) (n - (m+1))) from fun x Qx bs ks hl hsg=>by
   have Cl:=y39 (M.take m) (t+1) s
   rw [← B9,At.out] at Cl
   have h:=IH.out (M.drop (m+1)) q2 (c - (m+1)) (t+1) g (o+(m+1)) x Qx (puts s P1.pages) (by have:=Ay.out;have:=HN.out;omega) Cs.out (by have:=Ay.out;have:=BC.out;omega) hsg (fun r hr=>Ba.out.after hl.r r (List.mem_of_mem_drop hr)) hl.r.st (hl.glt B.out) (fun e=>(hl.r.new g e).elim BJ.out (fun e=>by have:=B.out;omega)) (by have:=Ay.out;have:=Ap.out;omega) (by have:=Ay.out;have:=HT.out;omega)
   unfold x29 at h
   rw [Ay.out,← BK] at h
   exact h)
  obtain ⟨gm,BP⟩:∃r:Rw,r=M.getD m default:=⟨_,rfl⟩
  have BD:=(BG.out m (by have:=Az.out;omega)).1
  rw [← BP] at BD
  have B5:=yH BD
  have C6:gm∈M:=by rw [BP];exact x2C (by have:=Az.out;omega)
  have BQ:=yH (Ba.out gm C6)
  have BA:=yH (show lay (L.map Rw.R) t= .fork gm.R true P1 P2 from by
   rw [BM.out,← CE.out,B9,BK,BP,← List.map_take,← List.map_drop,x5Z (by have:=Az.out;omega)])
  have Cc:=yH (show P1.size=m from by rw [B9,x2c,List.length_map,At.out])
  have Cb:=yH (show P2.size=n - (m+1) from by rw [BK,x2c,List.length_map,Ay.out])
  have Co:=yH (show (puts (puts s P1.pages) P2.pages).W.length<100000 from by
   have h1:=x1V P1.pages s
   have h2:=x1V P2.pages (puts s P1.pages)
   rw [x0S] at h1 h2
   have:=Cc.out
   have:=Cb.out
   have:=Ap.out
   omega)
  clear BP BD C6 B9 BK IH BM Bb CE BG
  have q3:IntKind.i64.wrap ((t:Int)+1)=((t+1:Nat):Int):=by rw [IntWalk.i64_in _ (by have:=HT.out;omega)];rfl
  have q4:IntKind.i64.wrap ((m:Int)+1)=((m+1:Nat):Int):=by rw [IntWalk.i64_in _ (by have:=Ap.out;omega)];rfl
  have C1:m≤c:=by have:=BC.out;omega
  go_cut [8,9] from 8 to 36 (fun v8 v9 wx=>CutL w3 gs Q (puts (puts s P1.pages) P2.pages) g o n m P1.kid P2.kid v8 v9 wx)
  case first=>
   have Ar:=yH (LyS.start (m:=m) (n:=n) (o:=o) Bc.out B.out)
   have SA:=yH (show Seg w3.drew g o (M.take m)∧Seg w3.drew g (o+(m+1)) (M.drop (m+1)) from ⟨BT.out,BW.out⟩)
   refine wp_region_held_drew (S:=fun w'=>w'.rangeAt w.heap.size 0 [.pointer (some ⟨gs,0,none⟩),.int .i64 d]) (by kernel_rfl) (x09 A4.out) (fun hHeld=>?_)
   generalize w3.drew=x0 at *
   refine tQ 0 ?_ ?_ ?_
   rotate_left
   ·intro w' hSw
    refine Eq.trans (b:=Result.ok (Next.value (.agg #[.pointer (some ⟨gs,0,none⟩),.int .i64 d])) w') ?_ ?_
    ·exact x0A 91 (.tmp 3) (by rfl) w.heap.size 0 (by rfl) [.pointer (some ⟨gs,0,none⟩),.int .i64 d] du hSw BO.out BL.out STr
    ·with_reducible rfl
   refine tK 1 ?_
   refine tK 2 ?_
   refine tQ 3 ?_ ?_ ?_
   rotate_left
   ·intro w' hSw
    refine Eq.trans (b:=Result.ok (Next.value (.slice (some ⟨g,o,none⟩) m c)) w') ?_ ?_
    ·exact y3B (x:=.tmp 22) (hi:=.tmp 23) (n:=n) (c:=c) (k:=m) (g:=g) (i:=o) (by rfl) (by rfl) (by rfl) C1
    ·with_reducible rfl
   refine tK 4 ?_
   refine tK 5 ?_
   refine tQ 7 ?_ ?_ ?_
   rotate_left
   ·intro w' hSw
    refine Eq.trans (b:=Result.ok (Next.value (.agg #[.pointer (some ⟨gs,0,none⟩),.int .i64 d])) w') ?_ ?_
    ·exact x0A 91 (.tmp 3) (by rfl) w.heap.size 0 (by rfl) [.pointer (some ⟨gs,0,none⟩),.int .i64 d] du hSw BO.out BL.out STr
    ·with_reducible rfl
   refine tK 8 ?_
   refine tK 9 ?_
   refine tK 10 ?_
   refine tQ 11 ?_ ?_ ?_
   rotate_left
   ·intro w' hSw
    refine Eq.trans (b:=Result.ok (Next.value (.slice q2 (n - (m+1)) (c - (m+1)))) w') ?_ ?_
    ·exact y3A (x:=.tmp 29) (lo:=.tmp 31) (n:=n) (c:=c) (k:=m+1) (g:=g) (i:=o) (q:=q2) (by rfl) (by rfl) (by rfl) (by omega) D0.out
    ·with_reducible rfl
   refine tK 12 ?_
   refine tK 13 ?_
   refine rY [6,15,16] ?_
   refine rC (fun K A=>?_) (rC (fun K A=>?_) (rC (fun K A=>?_) AllReadyH.nil))
   ·
    go_simp
    refine (B0.out _ _ _ Ar.out SA.out.1).mono ?_
    rintro _ x1 ⟨E,Q1,rfl,AY,AG,AX,AV,AA⟩
    obtain ⟨CJ,C3⟩:=Ar.out.call B.out AA ⟨Nat.le_refl _,by omega⟩ (Or.inr (Nat.le_refl _)) AG AX AV (fun k hk=>by cases hk)
    have SB:=yH (show Seg x1 g (o+(m+1)) (M.drop (m+1)) from fun j hj=>⟨(AA.cell _ (Or.inr (by omega))).trans (SA.out.2 j hj).1,(AA.frozen _).trans (SA.out.2 j hj).2⟩)
    have AJ:=yH AY
    have A1:=yH (Kd.cells_length AG.len)
    have AI:=yH CJ
    have B8:=x0B AI.out A4.out (fun e=>by have:=A2.out _ e;omega) (by have:=HG.out;omega)
    clear CJ C3 AY AG AX AV AA SA
    try go_wp2_with fail
    refine A.out _ _ B8 (fun hHeld=>?_)
    clear A K
    try simp only [Act.put,yA,yB,yC]
    have SA:=yH (show True∧Seg x1 g (o+(m+1)) (M.drop (m+1)) from ⟨trivial,SB.out⟩)
    clear SB
    refine rY [14,15,16] ?_
    refine rC (fun K A=>?_) (rC (fun K A=>?_) (rC (fun K A=>?_) AllReadyH.nil))
    ·
     go_simp
     refine (Ai.out _ _ _ _ AI.out SA.out.2).mono ?_
     rintro _ x2 ⟨C,Q2,rfl,a,J,Z,f,l⟩
     obtain ⟨Aq,Ak⟩:=AI.out.call B.out l ⟨by omega,by omega⟩ (Or.inl (by omega)) J Z f (fun k hk r hr y hy hR=>by have h:=(AI.out.kid k hk).2.2 r hr y hy hR;have:=B.out;omega)
     have A8:=yH a
     have U:=yH (Kd.cells_length J.len)
     have A3:=yH Aq
     have Ag:=x0B A3.out A4.out (fun e=>by have:=A2.out _ e;omega) (by have:=HG.out;omega)
     clear Aq Ak a J Z f l
     try go_wp2_with fail
     refine A.out _ _ Ag (fun hHeld=>?_)
     clear A K
     try simp only [Act.put,yA,yB,yC]
     refine rY [15,16] ?_
     refine rC (fun K A=>?_) (rC (fun K A=>?_) AllReadyH.nil)
     ·
      go_simp
      have ba:Below x2.heap.size x2 (x2.alloc (.cells kd0.cells.toArray 34)):=(Below.refl _ _).alloc (Nat.le_refl _) _
      have X:=yH (A3.out.alloc B.out (.cells kd0.cells.toArray 34))
      have A5:=yH (heap_alloc_new x2 (.cells kd0.cells.toArray 34))
      have AQ:=x02 hHeld ba
      clear ba
      try go_wp2_with fail
      refine A.out _ _ AQ (fun hHeld=>?_)
      clear A K
      try simp only [Act.put,yA,yB,yC]
      generalize x2.alloc (.cells kd0.cells.toArray 34)=x3 at *
      obtain ⟨P,AK⟩:∃b,x2.heap.size=b:=⟨_,rfl⟩
      rw [AK] at X A5 ⊢
      clear AK
      refine rO 16 fun K A=>?_
      go_simp
      have ba:Below x3.heap.size x3 (x3.alloc (.cells kd0.cells.toArray 34)):=(Below.refl _ _).alloc (Nat.le_refl _) _
      have AD:=yH (X.out.alloc B.out (.cells kd0.cells.toArray 34))
      have Y:=yH (heap_alloc_new x3 (.cells kd0.cells.toArray 34))
      have G:=yH (yK ba A5.out)
      have AP:=x02 hHeld ba
      clear ba
      try go_wp2_with fail
      refine A.out _ _ AP (fun hHeld=>?_)
      clear A K
      try simp only [Act.put,yA,yB,yC]
      generalize x3.alloc (.cells kd0.cells.toArray 34)=x4 at *
      obtain ⟨O,AL⟩:∃b,x3.heap.size=b:=⟨_,rfl⟩
      rw [AL] at AD Y ⊢
      have I:=yH (show P≠O from by have:=(X.out.box P (by simp)).2.1;omega)
      clear AL
      refine rO 17 fun K A=>?_
      refine wp_store_row 34 (.tmp 8) (.tmp 27) (by rfl) P E.cells.toArray (by rfl) (by rfl) _ _ G.out (by rw [List.size_toArray,A1.out];exact SKd) (by simp only [List.size_toArray,A1.out,x01]) (all_oneCell_toArray Kd.one) ?_
      have AC:=yH (AD.out.set B.out (b:=P) (by simp) E.cells.toArray)
      have A0:=yH (setRow_heap _ _ _ E.cells.toArray _ _ G.out)
      have H:=yH ((setRow_other x4 P O E.cells.toArray (by have:=I.out;omega)).trans Y.out)
      have AT:=x0B AC.out A4.out (fun e=>by have:=A2.out _ e;omega) (by have:=HG.out;omega)
      refine A.out _ _ AT (fun hHeld=>?_)
      clear A K
      try simp only [Act.put,yA,yB,yC]
      generalize x4.setRow P E.cells.toArray=x5 at *
      refine rO 18 fun K A=>?_
      refine wp_store_row 34 (.tmp 9) (.tmp 35) (by rfl) O C.cells.toArray (by rfl) (by rfl) _ _ H.out (by rw [List.size_toArray,U.out];exact SKd) (by simp only [List.size_toArray,U.out,x01]) (all_oneCell_toArray Kd.one) ?_
      have AB:=yH (AC.out.set B.out (b:=O) (by simp) C.cells.toArray)
      have u:=yH (setRow_heap _ _ _ C.cells.toArray _ _ H.out)
      have z:=yH ((setRow_other x5 O P C.cells.toArray (by have:=I.out;omega)).trans A0.out)
      have AU:=x0B AB.out A4.out (fun e=>by have:=A2.out _ e;omega) (by have:=HG.out;omega)
      refine A.out _ _ AU (fun hHeld=>?_)
      clear A K
      try simp only [Act.put,yA,yB,yC]
      generalize x5.setRow O C.cells.toArray=x6 at *
      refine wpAnyH_done (by kernel_rfl) ?_ _
      go_wp2_with fail
      go_meet
      exact ⟨P,O,E,C,Q2,rfl,rfl,AB.out.less (fun b hb=>by simp only [List.mem_cons,List.not_mem_nil,or_false] at hb ⊢;omega) (fun k hk=>by simp only [List.mem_cons,List.not_mem_nil,or_false] at hk ⊢;exact hk.symm),z.out,u.out,AJ.out,A8.out⟩
     ·
      go_simp
      have ba:Below x2.heap.size x2 (x2.alloc (.cells kd0.cells.toArray 34)):=(Below.refl _ _).alloc (Nat.le_refl _) _
      have X:=yH (A3.out.alloc B.out (.cells kd0.cells.toArray 34))
      have A6:=yH (heap_alloc_new x2 (.cells kd0.cells.toArray 34))
      have AQ:=x02 hHeld ba
      clear ba
      try go_wp2_with fail
      refine A.out _ _ AQ (fun hHeld=>?_)
      clear A K
      try simp only [Act.put,yA,yB,yC]
      generalize x2.alloc (.cells kd0.cells.toArray 34)=x3 at *
      obtain ⟨O,AL⟩:∃b,x2.heap.size=b:=⟨_,rfl⟩
      rw [AL] at X A6 ⊢
      clear AL
      refine rO 15 fun K A=>?_
      go_simp
      have ba:Below x3.heap.size x3 (x3.alloc (.cells kd0.cells.toArray 34)):=(Below.refl _ _).alloc (Nat.le_refl _) _
      have AD:=yH (X.out.alloc B.out (.cells kd0.cells.toArray 34))
      have G:=yH (heap_alloc_new x3 (.cells kd0.cells.toArray 34))
      have Y:=yH (yK ba A6.out)
      have AP:=x02 hHeld ba
      clear ba
      try go_wp2_with fail
      refine A.out _ _ AP (fun hHeld=>?_)
      clear A K
      try simp only [Act.put,yA,yB,yC]
      generalize x3.alloc (.cells kd0.cells.toArray 34)=x4 at *
      obtain ⟨P,AK⟩:∃b,x3.heap.size=b:=⟨_,rfl⟩
      rw [AK] at AD G ⊢
      have I:=yH (show P≠O from by have:=(X.out.box O (by simp)).2.1;omega)
      clear AK
      refine rO 17 fun K A=>?_
      refine wp_store_row 34 (.tmp 8) (.tmp 27) (by rfl) P E.cells.toArray (by rfl) (by rfl) _ _ G.out (by rw [List.size_toArray,A1.out];exact SKd) (by simp only [List.size_toArray,A1.out,x01]) (all_oneCell_toArray Kd.one) ?_
      have AC:=yH (AD.out.set B.out (b:=P) (by simp) E.cells.toArray)
      have A0:=yH (setRow_heap _ _ _ E.cells.toArray _ _ G.out)
      have H:=yH ((setRow_other x4 P O E.cells.toArray (by have:=I.out;omega)).trans Y.out)
      have AT:=x0B AC.out A4.out (fun e=>by have:=A2.out _ e;omega) (by have:=HG.out;omega)
      refine A.out _ _ AT (fun hHeld=>?_)
      clear A K
      try simp only [Act.put,yA,yB,yC]
      generalize x4.setRow P E.cells.toArray=x5 at *
      refine rO 18 fun K A=>?_
      refine wp_store_row 34 (.tmp 9) (.tmp 35) (by rfl) O C.cells.toArray (by rfl) (by rfl) _ _ H.out (by rw [List.size_toArray,U.out];exact SKd) (by simp only [List.size_toArray,U.out,x01]) (all_oneCell_toArray Kd.one) ?_
      have AB:=yH (AC.out.set B.out (b:=O) (by simp) C.cells.toArray)
      have u:=yH (setRow_heap _ _ _ C.cells.toArray _ _ H.out)
      have z:=yH ((setRow_other x5 O P C.cells.toArray (by have:=I.out;omega)).trans A0.out)
      have AU:=x0B AB.out A4.out (fun e=>by have:=A2.out _ e;omega) (by have:=HG.out;omega)
      refine A.out _ _ AU (fun hHeld=>?_)
      clear A K
      try simp only [Act.put,yA,yB,yC]
      generalize x5.setRow O C.cells.toArray=x6 at *
      refine wpAnyH_done (by kernel_rfl) ?_ _
      go_wp2_with fail
      go_meet
      exact ⟨P,O,E,C,Q2,rfl,rfl,AB.out.less (fun b hb=>by simp only [List.mem_cons,List.not_mem_nil,or_false] at hb ⊢;omega) (fun k hk=>by simp only [List.mem_cons,List.not_mem_nil,or_false] at hk ⊢;exact hk.symm),z.out,u.out,AJ.out,A8.out⟩
    ·
     go_simp
     have ba:Below x1.heap.size x1 (x1.alloc (.cells kd0.cells.toArray 34)):=(Below.refl _ _).alloc (Nat.le_refl _) _
     have A3:=yH (AI.out.alloc B.out (.cells kd0.cells.toArray 34))
     have AS:=yH (heap_alloc_new x1 (.cells kd0.cells.toArray 34))
     have SB:=yH (show True∧Seg (x1.alloc (.cells kd0.cells.toArray 34)) g (o+(m+1)) (M.drop (m+1)) from ⟨trivial,SA.out.2.later ba (AI.out.glt B.out)⟩)
     have Ag:=x02 hHeld ba
     clear ba SA
     try go_wp2_with fail
     refine A.out _ _ Ag (fun hHeld=>?_)
     clear A K
     try simp only [Act.put,yA,yB,yC]
     generalize x1.alloc (.cells kd0.cells.toArray 34)=x2 at *
     obtain ⟨P,AK⟩:∃b,x1.heap.size=b:=⟨_,rfl⟩
     rw [AK] at A3 AS ⊢
     clear AK
     have SA:=yH SB.out
     clear SB
     refine rY [14,16] ?_
     refine rC (fun K A=>?_) (rC (fun K A=>?_) AllReadyH.nil)
     ·
      go_simp
      refine (Ai.out _ _ _ _ A3.out SA.out.2).mono ?_
      rintro _ x3 ⟨C,Q2,rfl,a,J,Z,f,l⟩
      obtain ⟨Ad,AH⟩:=A3.out.call B.out l ⟨by omega,by omega⟩ (Or.inl (by omega)) J Z f (fun k hk r hr y hy hR=>by have h:=(A3.out.kid k hk).2.2 r hr y hy hR;have:=B.out;omega)
      have A5:=yH ((AH P (by simp)).trans AS.out)
      have A8:=yH a
      have U:=yH (Kd.cells_length J.len)
      have X:=yH Ad
      have AQ:=x0B X.out A4.out (fun e=>by have:=A2.out _ e;omega) (by have:=HG.out;omega)
      clear Ad AH a J Z f l
      try go_wp2_with fail
      refine A.out _ _ AQ (fun hHeld=>?_)
      clear A K
      try simp only [Act.put,yA,yB,yC]
      refine rO 16 fun K A=>?_
      go_simp
      have ba:Below x3.heap.size x3 (x3.alloc (.cells kd0.cells.toArray 34)):=(Below.refl _ _).alloc (Nat.le_refl _) _
      have AD:=yH (X.out.alloc B.out (.cells kd0.cells.toArray 34))
      have Y:=yH (heap_alloc_new x3 (.cells kd0.cells.toArray 34))
      have G:=yH (yK ba A5.out)
      have AP:=x02 hHeld ba
      clear ba
      try go_wp2_with fail
      refine A.out _ _ AP (fun hHeld=>?_)
      clear A K
      try simp only [Act.put,yA,yB,yC]
      generalize x3.alloc (.cells kd0.cells.toArray 34)=x4 at *
      obtain ⟨O,AL⟩:∃b,x3.heap.size=b:=⟨_,rfl⟩
      rw [AL] at AD Y ⊢
      have I:=yH (show P≠O from by have:=(X.out.box P (by simp)).2.1;omega)
      clear AL
      refine rO 17 fun K A=>?_
      refine wp_store_row 34 (.tmp 8) (.tmp 27) (by rfl) P E.cells.toArray (by rfl) (by rfl) _ _ G.out (by rw [List.size_toArray,A1.out];exact SKd) (by simp only [List.size_toArray,A1.out,x01]) (all_oneCell_toArray Kd.one) ?_
      have AC:=yH (AD.out.set B.out (b:=P) (by simp) E.cells.toArray)
      have A0:=yH (setRow_heap _ _ _ E.cells.toArray _ _ G.out)
      have H:=yH ((setRow_other x4 P O E.cells.toArray (by have:=I.out;omega)).trans Y.out)
      have AT:=x0B AC.out A4.out (fun e=>by have:=A2.out _ e;omega) (by have:=HG.out;omega)
      refine A.out _ _ AT (fun hHeld=>?_)
      clear A K
      try simp only [Act.put,yA,yB,yC]
      generalize x4.setRow P E.cells.toArray=x5 at *
      refine rO 18 fun K A=>?_
      refine wp_store_row 34 (.tmp 9) (.tmp 35) (by rfl) O C.cells.toArray (by rfl) (by rfl) _ _ H.out (by rw [List.size_toArray,U.out];exact SKd) (by simp only [List.size_toArray,U.out,x01]) (all_oneCell_toArray Kd.one) ?_
      have AB:=yH (AC.out.set B.out (b:=O) (by simp) C.cells.toArray)
      have u:=yH (setRow_heap _ _ _ C.cells.toArray _ _ H.out)
      have z:=yH ((setRow_other x5 O P C.cells.toArray (by have:=I.out;omega)).trans A0.out)
      have AU:=x0B AB.out A4.out (fun e=>by have:=A2.out _ e;omega) (by have:=HG.out;omega)
      refine A.out _ _ AU (fun hHeld=>?_)
      clear A K
      try simp only [Act.put,yA,yB,yC]
      generalize x5.setRow O C.cells.toArray=x6 at *
      refine wpAnyH_done (by kernel_rfl) ?_ _
      go_wp2_with fail
      go_meet
      exact ⟨P,O,E,C,Q2,rfl,rfl,AB.out.less (fun b hb=>by simp only [List.mem_cons,List.not_mem_nil,or_false] at hb ⊢;omega) (fun k hk=>by simp only [List.mem_cons,List.not_mem_nil,or_false] at hk ⊢;exact hk.symm),z.out,u.out,AJ.out,A8.out⟩
     ·
      go_simp
      have ba:Below x2.heap.size x2 (x2.alloc (.cells kd0.cells.toArray 34)):=(Below.refl _ _).alloc (Nat.le_refl _) _
      have X:=yH (A3.out.alloc B.out (.cells kd0.cells.toArray 34))
      have A6:=yH (heap_alloc_new x2 (.cells kd0.cells.toArray 34))
      have A5:=yH (yK ba AS.out)
      have SB:=yH (show True∧Seg (x2.alloc (.cells kd0.cells.toArray 34)) g (o+(m+1)) (M.drop (m+1)) from ⟨trivial,SA.out.2.later ba (A3.out.glt B.out)⟩)
      have AQ:=x02 hHeld ba
      clear ba SA
      try go_wp2_with fail
      refine A.out _ _ AQ (fun hHeld=>?_)
      clear A K
      try simp only [Act.put,yA,yB,yC]
      generalize x2.alloc (.cells kd0.cells.toArray 34)=x3 at *
      obtain ⟨O,AL⟩:∃b,x2.heap.size=b:=⟨_,rfl⟩
      rw [AL] at X A6 ⊢
      have I:=yH (show P≠O from by have:=(A3.out.box P (by simp)).2.1;omega)
      clear AL
      have SA:=yH SB.out
      clear SB
      refine rO 14 fun K A=>?_
      go_simp
      refine (Ai.out _ _ _ _ X.out SA.out.2).mono ?_
      rintro _ x4 ⟨C,Q2,rfl,a,J,Z,f,l⟩
      obtain ⟨Aa,AE⟩:=X.out.call B.out l ⟨by omega,by omega⟩ (Or.inl (by omega)) J Z f (fun k hk r hr y hy hR=>by have h:=(X.out.kid k hk).2.2 r hr y hy hR;have:=B.out;omega)
      have Y:=yH ((AE O (by simp)).trans A6.out)
      have G:=yH ((AE P (by simp)).trans A5.out)
      have A8:=yH a
      have U:=yH (Kd.cells_length J.len)
      have AD:=yH Aa
      have AP:=x0B AD.out A4.out (fun e=>by have:=A2.out _ e;omega) (by have:=HG.out;omega)
      clear Aa AE a J Z f l
      try go_wp2_with fail
      refine A.out _ _ AP (fun hHeld=>?_)
      clear A K
      try simp only [Act.put,yA,yB,yC]
      refine rO 17 fun K A=>?_
      refine wp_store_row 34 (.tmp 8) (.tmp 27) (by rfl) P E.cells.toArray (by rfl) (by rfl) _ _ G.out (by rw [List.size_toArray,A1.out];exact SKd) (by simp only [List.size_toArray,A1.out,x01]) (all_oneCell_toArray Kd.one) ?_
      have AC:=yH (AD.out.set B.out (b:=P) (by simp) E.cells.toArray)
      have A0:=yH (setRow_heap _ _ _ E.cells.toArray _ _ G.out)
      have H:=yH ((setRow_other x4 P O E.cells.toArray (by have:=I.out;omega)).trans Y.out)
      have AT:=x0B AC.out A4.out (fun e=>by have:=A2.out _ e;omega) (by have:=HG.out;omega)
      refine A.out _ _ AT (fun hHeld=>?_)
      clear A K
      try simp only [Act.put,yA,yB,yC]
      generalize x4.setRow P E.cells.toArray=x5 at *
      refine rO 18 fun K A=>?_
      refine wp_store_row 34 (.tmp 9) (.tmp 35) (by rfl) O C.cells.toArray (by rfl) (by rfl) _ _ H.out (by rw [List.size_toArray,U.out];exact SKd) (by simp only [List.size_toArray,U.out,x01]) (all_oneCell_toArray Kd.one) ?_
      have AB:=yH (AC.out.set B.out (b:=O) (by simp) C.cells.toArray)
      have u:=yH (setRow_heap _ _ _ C.cells.toArray _ _ H.out)
      have z:=yH ((setRow_other x5 O P C.cells.toArray (by have:=I.out;omega)).trans A0.out)
      have AU:=x0B AB.out A4.out (fun e=>by have:=A2.out _ e;omega) (by have:=HG.out;omega)
      refine A.out _ _ AU (fun hHeld=>?_)
      clear A K
      try simp only [Act.put,yA,yB,yC]
      generalize x5.setRow O C.cells.toArray=x6 at *
      refine wpAnyH_done (by kernel_rfl) ?_ _
      go_wp2_with fail
      go_meet
      exact ⟨P,O,E,C,Q2,rfl,rfl,AB.out.less (fun b hb=>by simp only [List.mem_cons,List.not_mem_nil,or_false] at hb ⊢;omega) (fun k hk=>by simp only [List.mem_cons,List.not_mem_nil,or_false] at hk ⊢;exact hk.symm),z.out,u.out,AJ.out,A8.out⟩
    ·
     go_simp
     have ba:Below x1.heap.size x1 (x1.alloc (.cells kd0.cells.toArray 34)):=(Below.refl _ _).alloc (Nat.le_refl _) _
     have A3:=yH (AI.out.alloc B.out (.cells kd0.cells.toArray 34))
     have AR:=yH (heap_alloc_new x1 (.cells kd0.cells.toArray 34))
     have SB:=yH (show True∧Seg (x1.alloc (.cells kd0.cells.toArray 34)) g (o+(m+1)) (M.drop (m+1)) from ⟨trivial,SA.out.2.later ba (AI.out.glt B.out)⟩)
     have Ag:=x02 hHeld ba
     clear ba SA
     try go_wp2_with fail
     refine A.out _ _ Ag (fun hHeld=>?_)
     clear A K
     try simp only [Act.put,yA,yB,yC]
     generalize x1.alloc (.cells kd0.cells.toArray 34)=x2 at *
     obtain ⟨O,AL⟩:∃b,x1.heap.size=b:=⟨_,rfl⟩
     rw [AL] at A3 AR ⊢
     clear AL
     have SA:=yH SB.out
     clear SB
     refine rY [14,15] ?_
     refine rC (fun K A=>?_) (rC (fun K A=>?_) AllReadyH.nil)
     ·
      go_simp
      refine (Ai.out _ _ _ _ A3.out SA.out.2).mono ?_
      rintro _ x3 ⟨C,Q2,rfl,a,J,Z,f,l⟩
      obtain ⟨Ad,AH⟩:=A3.out.call B.out l ⟨by omega,by omega⟩ (Or.inl (by omega)) J Z f (fun k hk r hr y hy hR=>by have h:=(A3.out.kid k hk).2.2 r hr y hy hR;have:=B.out;omega)
      have A6:=yH ((AH O (by simp)).trans AR.out)
      have A8:=yH a
      have U:=yH (Kd.cells_length J.len)
      have X:=yH Ad
      have AQ:=x0B X.out A4.out (fun e=>by have:=A2.out _ e;omega) (by have:=HG.out;omega)
      clear Ad AH a J Z f l
      try go_wp2_with fail
      refine A.out _ _ AQ (fun hHeld=>?_)
      clear A K
      try simp only [Act.put,yA,yB,yC]
      refine rO 15 fun K A=>?_
      go_simp
      have ba:Below x3.heap.size x3 (x3.alloc (.cells kd0.cells.toArray 34)):=(Below.refl _ _).alloc (Nat.le_refl _) _
      have AD:=yH (X.out.alloc B.out (.cells kd0.cells.toArray 34))
      have G:=yH (heap_alloc_new x3 (.cells kd0.cells.toArray 34))
      have Y:=yH (yK ba A6.out)
      have AP:=x02 hHeld ba
      clear ba
      try go_wp2_with fail
      refine A.out _ _ AP (fun hHeld=>?_)
      clear A K
      try simp only [Act.put,yA,yB,yC]
      generalize x3.alloc (.cells kd0.cells.toArray 34)=x4 at *
      obtain ⟨P,AK⟩:∃b,x3.heap.size=b:=⟨_,rfl⟩
      rw [AK] at AD G ⊢
      have I:=yH (show P≠O from by have:=(X.out.box O (by simp)).2.1;omega)
      clear AK
      refine rO 17 fun K A=>?_
      refine wp_store_row 34 (.tmp 8) (.tmp 27) (by rfl) P E.cells.toArray (by rfl) (by rfl) _ _ G.out (by rw [List.size_toArray,A1.out];exact SKd) (by simp only [List.size_toArray,A1.out,x01]) (all_oneCell_toArray Kd.one) ?_
      have AC:=yH (AD.out.set B.out (b:=P) (by simp) E.cells.toArray)
      have A0:=yH (setRow_heap _ _ _ E.cells.toArray _ _ G.out)
      have H:=yH ((setRow_other x4 P O E.cells.toArray (by have:=I.out;omega)).trans Y.out)
      have AT:=x0B AC.out A4.out (fun e=>by have:=A2.out _ e;omega) (by have:=HG.out;omega)
      refine A.out _ _ AT (fun hHeld=>?_)
      clear A K
      try simp only [Act.put,yA,yB,yC]
      generalize x4.setRow P E.cells.toArray=x5 at *
      refine rO 18 fun K A=>?_
      refine wp_store_row 34 (.tmp 9) (.tmp 35) (by rfl) O C.cells.toArray (by rfl) (by rfl) _ _ H.out (by rw [List.size_toArray,U.out];exact SKd) (by simp only [List.size_toArray,U.out,x01]) (all_oneCell_toArray Kd.one) ?_
      have AB:=yH (AC.out.set B.out (b:=O) (by simp) C.cells.toArray)
      have u:=yH (setRow_heap _ _ _ C.cells.toArray _ _ H.out)
      have z:=yH ((setRow_other x5 O P C.cells.toArray (by have:=I.out;omega)).trans A0.out)
      have AU:=x0B AB.out A4.out (fun e=>by have:=A2.out _ e;omega) (by have:=HG.out;omega)
      refine A.out _ _ AU (fun hHeld=>?_)
      clear A K
      try simp only [Act.put,yA,yB,yC]
      generalize x5.setRow O C.cells.toArray=x6 at *
      refine wpAnyH_done (by kernel_rfl) ?_ _
      go_wp2_with fail
      go_meet
      exact ⟨P,O,E,C,Q2,rfl,rfl,AB.out.less (fun b hb=>by simp only [List.mem_cons,List.not_mem_nil,or_false] at hb ⊢;omega) (fun k hk=>by simp only [List.mem_cons,List.not_mem_nil,or_false] at hk ⊢;exact hk.symm),z.out,u.out,AJ.out,A8.out⟩
     ·
      go_simp
      have ba:Below x2.heap.size x2 (x2.alloc (.cells kd0.cells.toArray 34)):=(Below.refl _ _).alloc (Nat.le_refl _) _
      have X:=yH (A3.out.alloc B.out (.cells kd0.cells.toArray 34))
      have A5:=yH (heap_alloc_new x2 (.cells kd0.cells.toArray 34))
      have A6:=yH (yK ba AR.out)
      have SB:=yH (show True∧Seg (x2.alloc (.cells kd0.cells.toArray 34)) g (o+(m+1)) (M.drop (m+1)) from ⟨trivial,SA.out.2.later ba (A3.out.glt B.out)⟩)
      have AQ:=x02 hHeld ba
      clear ba SA
      try go_wp2_with fail
      refine A.out _ _ AQ (fun hHeld=>?_)
      clear A K
      try simp only [Act.put,yA,yB,yC]
      generalize x2.alloc (.cells kd0.cells.toArray 34)=x3 at *
      obtain ⟨P,AK⟩:∃b,x2.heap.size=b:=⟨_,rfl⟩
      rw [AK] at X A5 ⊢
      have I:=yH (show P≠O from by have:=(A3.out.box O (by simp)).2.1;omega)
      clear AK
      have SA:=yH SB.out
      clear SB
      refine rO 14 fun K A=>?_
      go_simp
      refine (Ai.out _ _ _ _ X.out SA.out.2).mono ?_
      rintro _ x4 ⟨C,Q2,rfl,a,J,Z,f,l⟩
      obtain ⟨Aa,AE⟩:=X.out.call B.out l ⟨by omega,by omega⟩ (Or.inl (by omega)) J Z f (fun k hk r hr y hy hR=>by have h:=(X.out.kid k hk).2.2 r hr y hy hR;have:=B.out;omega)
      have G:=yH ((AE P (by simp)).trans A5.out)
      have Y:=yH ((AE O (by simp)).trans A6.out)
      have A8:=yH a
      have U:=yH (Kd.cells_length J.len)
      have AD:=yH Aa
      have AP:=x0B AD.out A4.out (fun e=>by have:=A2.out _ e;omega) (by have:=HG.out;omega)
      clear Aa AE a J Z f l
      try go_wp2_with fail
      refine A.out _ _ AP (fun hHeld=>?_)
      clear A K
      try simp only [Act.put,yA,yB,yC]
      refine rO 17 fun K A=>?_
      refine wp_store_row 34 (.tmp 8) (.tmp 27) (by rfl) P E.cells.toArray (by rfl) (by rfl) _ _ G.out (by rw [List.size_toArray,A1.out];exact SKd) (by simp only [List.size_toArray,A1.out,x01]) (all_oneCell_toArray Kd.one) ?_
      have AC:=yH (AD.out.set B.out (b:=P) (by simp) E.cells.toArray)
      have A0:=yH (setRow_heap _ _ _ E.cells.toArray _ _ G.out)
      have H:=yH ((setRow_other x4 P O E.cells.toArray (by have:=I.out;omega)).trans Y.out)
      have AT:=x0B AC.out A4.out (fun e=>by have:=A2.out _ e;omega) (by have:=HG.out;omega)
      refine A.out _ _ AT (fun hHeld=>?_)
      clear A K
      try simp only [Act.put,yA,yB,yC]
      generalize x4.setRow P E.cells.toArray=x5 at *
      refine rO 18 fun K A=>?_
      refine wp_store_row 34 (.tmp 9) (.tmp 35) (by rfl) O C.cells.toArray (by rfl) (by rfl) _ _ H.out (by rw [List.size_toArray,U.out];exact SKd) (by simp only [List.size_toArray,U.out,x01]) (all_oneCell_toArray Kd.one) ?_
      have AB:=yH (AC.out.set B.out (b:=O) (by simp) C.cells.toArray)
      have u:=yH (setRow_heap _ _ _ C.cells.toArray _ _ H.out)
      have z:=yH ((setRow_other x5 O P C.cells.toArray (by have:=I.out;omega)).trans A0.out)
      have AU:=x0B AB.out A4.out (fun e=>by have:=A2.out _ e;omega) (by have:=HG.out;omega)
      refine A.out _ _ AU (fun hHeld=>?_)
      clear A K
      try simp only [Act.put,yA,yB,yC]
      generalize x5.setRow O C.cells.toArray=x6 at *
      refine wpAnyH_done (by kernel_rfl) ?_ _
      go_wp2_with fail
      go_meet
      exact ⟨P,O,E,C,Q2,rfl,rfl,AB.out.less (fun b hb=>by simp only [List.mem_cons,List.not_mem_nil,or_false] at hb ⊢;omega) (fun k hk=>by simp only [List.mem_cons,List.not_mem_nil,or_false] at hk ⊢;exact hk.symm),z.out,u.out,AJ.out,A8.out⟩
   ·
    go_simp
    have ba:Below x0.heap.size x0 (x0.alloc (.cells kd0.cells.toArray 34)):=(Below.refl _ _).alloc (Nat.le_refl _) _
    have AI:=yH (Ar.out.alloc B.out (.cells kd0.cells.toArray 34))
    have Ax:=yH (heap_alloc_new x0 (.cells kd0.cells.toArray 34))
    have SB:=yH (show Seg (x0.alloc (.cells kd0.cells.toArray 34)) g o (M.take m)∧Seg (x0.alloc (.cells kd0.cells.toArray 34)) g (o+(m+1)) (M.drop (m+1)) from ⟨SA.out.1.later ba (Ar.out.glt B.out),SA.out.2.later ba (Ar.out.glt B.out)⟩)
    have B8:=x02 hHeld ba
    clear ba SA
    try go_wp2_with fail
    refine A.out _ _ B8 (fun hHeld=>?_)
    clear A K
    try simp only [Act.put,yA,yB,yC]
    generalize x0.alloc (.cells kd0.cells.toArray 34)=x1 at *
    obtain ⟨P,AK⟩:∃b,x0.heap.size=b:=⟨_,rfl⟩
    rw [AK] at AI Ax ⊢
    clear AK
    have SA:=yH SB.out
    clear SB
    refine rY [6,16] ?_
    refine rC (fun K A=>?_) (rC (fun K A=>?_) AllReadyH.nil)
    ·
     go_simp
     refine (B0.out _ _ _ AI.out SA.out.1).mono ?_
     rintro _ x2 ⟨E,Q1,rfl,AY,AG,AX,AV,AA⟩
     obtain ⟨Aq,Ak⟩:=AI.out.call B.out AA ⟨Nat.le_refl _,by omega⟩ (Or.inr (Nat.le_refl _)) AG AX AV (fun k hk=>by cases hk)
     have AS:=yH ((Ak P (by simp)).trans Ax.out)
     have SB:=yH (show Seg x2 g (o+(m+1)) (M.drop (m+1)) from fun j hj=>⟨(AA.cell _ (Or.inr (by omega))).trans (SA.out.2 j hj).1,(AA.frozen _).trans (SA.out.2 j hj).2⟩)
     have AJ:=yH AY
     have A1:=yH (Kd.cells_length AG.len)
     have A3:=yH Aq
     have Ag:=x0B A3.out A4.out (fun e=>by have:=A2.out _ e;omega) (by have:=HG.out;omega)
     clear Aq Ak AY AG AX AV AA SA
     try go_wp2_with fail
     refine A.out _ _ Ag (fun hHeld=>?_)
     clear A K
     try simp only [Act.put,yA,yB,yC]
     have SA:=yH (show True∧Seg x2 g (o+(m+1)) (M.drop (m+1)) from ⟨trivial,SB.out⟩)
     clear SB
     refine rY [14,16] ?_
     refine rC (fun K A=>?_) (rC (fun K A=>?_) AllReadyH.nil)
     ·
      go_simp
      refine (Ai.out _ _ _ _ A3.out SA.out.2).mono ?_
      rintro _ x3 ⟨C,Q2,rfl,a,J,Z,f,l⟩
      obtain ⟨Ad,AH⟩:=A3.out.call B.out l ⟨by omega,by omega⟩ (Or.inl (by omega)) J Z f (fun k hk r hr y hy hR=>by have h:=(A3.out.kid k hk).2.2 r hr y hy hR;have:=B.out;omega)
      have A5:=yH ((AH P (by simp)).trans AS.out)
      have A8:=yH a
      have U:=yH (Kd.cells_length J.len)
      have X:=yH Ad
      have AQ:=x0B X.out A4.out (fun e=>by have:=A2.out _ e;omega) (by have:=HG.out;omega)
      clear Ad AH a J Z f l
      try go_wp2_with fail
      refine A.out _ _ AQ (fun hHeld=>?_)
      clear A K
      try simp only [Act.put,yA,yB,yC]
      refine rO 16 fun K A=>?_
      go_simp
      have ba:Below x3.heap.size x3 (x3.alloc (.cells kd0.cells.toArray 34)):=(Below.refl _ _).alloc (Nat.le_refl _) _
      have AD:=yH (X.out.alloc B.out (.cells kd0.cells.toArray 34))
      have Y:=yH (heap_alloc_new x3 (.cells kd0.cells.toArray 34))
      have G:=yH (yK ba A5.out)
      have AP:=x02 hHeld ba
      clear ba
      try go_wp2_with fail
      refine A.out _ _ AP (fun hHeld=>?_)
      clear A K
      try simp only [Act.put,yA,yB,yC]
      generalize x3.alloc (.cells kd0.cells.toArray 34)=x4 at *
      obtain ⟨O,AL⟩:∃b,x3.heap.size=b:=⟨_,rfl⟩
      rw [AL] at AD Y ⊢
      have I:=yH (show P≠O from by have:=(X.out.box P (by simp)).2.1;omega)
      clear AL
      refine rO 17 fun K A=>?_
      refine wp_store_row 34 (.tmp 8) (.tmp 27) (by rfl) P E.cells.toArray (by rfl) (by rfl) _ _ G.out (by rw [List.size_toArray,A1.out];exact SKd) (by simp only [List.size_toArray,A1.out,x01]) (all_oneCell_toArray Kd.one) ?_
      have AC:=yH (AD.out.set B.out (b:=P) (by simp) E.cells.toArray)
      have A0:=yH (setRow_heap _ _ _ E.cells.toArray _ _ G.out)
      have H:=yH ((setRow_other x4 P O E.cells.toArray (by have:=I.out;omega)).trans Y.out)
      have AT:=x0B AC.out A4.out (fun e=>by have:=A2.out _ e;omega) (by have:=HG.out;omega)
      refine A.out _ _ AT (fun hHeld=>?_)
      clear A K
      try simp only [Act.put,yA,yB,yC]
      generalize x4.setRow P E.cells.toArray=x5 at *
      refine rO 18 fun K A=>?_
      refine wp_store_row 34 (.tmp 9) (.tmp 35) (by rfl) O C.cells.toArray (by rfl) (by rfl) _ _ H.out (by rw [List.size_toArray,U.out];exact SKd) (by simp only [List.size_toArray,U.out,x01]) (all_oneCell_toArray Kd.one) ?_
      have AB:=yH (AC.out.set B.out (b:=O) (by simp) C.cells.toArray)
      have u:=yH (setRow_heap _ _ _ C.cells.toArray _ _ H.out)
      have z:=yH ((setRow_other x5 O P C.cells.toArray (by have:=I.out;omega)).trans A0.out)
      have AU:=x0B AB.out A4.out (fun e=>by have:=A2.out _ e;omega) (by have:=HG.out;omega)
      refine A.out _ _ AU (fun hHeld=>?_)
      clear A K
      try simp only [Act.put,yA,yB,yC]
      generalize x5.setRow O C.cells.toArray=x6 at *
      refine wpAnyH_done (by kernel_rfl) ?_ _
      go_wp2_with fail
      go_meet
      exact ⟨P,O,E,C,Q2,rfl,rfl,AB.out.less (fun b hb=>by simp only [List.mem_cons,List.not_mem_nil,or_false] at hb ⊢;omega) (fun k hk=>by simp only [List.mem_cons,List.not_mem_nil,or_false] at hk ⊢;exact hk.symm),z.out,u.out,AJ.out,A8.out⟩
     ·
      go_simp
      have ba:Below x2.heap.size x2 (x2.alloc (.cells kd0.cells.toArray 34)):=(Below.refl _ _).alloc (Nat.le_refl _) _
      have X:=yH (A3.out.alloc B.out (.cells kd0.cells.toArray 34))
      have A6:=yH (heap_alloc_new x2 (.cells kd0.cells.toArray 34))
      have A5:=yH (yK ba AS.out)
      have SB:=yH (show True∧Seg (x2.alloc (.cells kd0.cells.toArray 34)) g (o+(m+1)) (M.drop (m+1)) from ⟨trivial,SA.out.2.later ba (A3.out.glt B.out)⟩)
      have AQ:=x02 hHeld ba
      clear ba SA
      try go_wp2_with fail
      refine A.out _ _ AQ (fun hHeld=>?_)
      clear A K
      try simp only [Act.put,yA,yB,yC]
      generalize x2.alloc (.cells kd0.cells.toArray 34)=x3 at *
      obtain ⟨O,AL⟩:∃b,x2.heap.size=b:=⟨_,rfl⟩
      rw [AL] at X A6 ⊢
      have I:=yH (show P≠O from by have:=(A3.out.box P (by simp)).2.1;omega)
      clear AL
      have SA:=yH SB.out
      clear SB
      refine rO 14 fun K A=>?_
      go_simp
      refine (Ai.out _ _ _ _ X.out SA.out.2).mono ?_
      rintro _ x4 ⟨C,Q2,rfl,a,J,Z,f,l⟩
      obtain ⟨Aa,AE⟩:=X.out.call B.out l ⟨by omega,by omega⟩ (Or.inl (by omega)) J Z f (fun k hk r hr y hy hR=>by have h:=(X.out.kid k hk).2.2 r hr y hy hR;have:=B.out;omega)
      have Y:=yH ((AE O (by simp)).trans A6.out)
      have G:=yH ((AE P (by simp)).trans A5.out)
      have A8:=yH a
      have U:=yH (Kd.cells_length J.len)
      have AD:=yH Aa
      have AP:=x0B AD.out A4.out (fun e=>by have:=A2.out _ e;omega) (by have:=HG.out;omega)
      clear Aa AE a J Z f l
      try go_wp2_with fail
      refine A.out _ _ AP (fun hHeld=>?_)
      clear A K
      try simp only [Act.put,yA,yB,yC]
      refine rO 17 fun K A=>?_
      refine wp_store_row 34 (.tmp 8) (.tmp 27) (by rfl) P E.cells.toArray (by rfl) (by rfl) _ _ G.out (by rw [List.size_toArray,A1.out];exact SKd) (by simp only [List.size_toArray,A1.out,x01]) (all_oneCell_toArray Kd.one) ?_
      have AC:=yH (AD.out.set B.out (b:=P) (by simp) E.cells.toArray)
      have A0:=yH (setRow_heap _ _ _ E.cells.toArray _ _ G.out)
      have H:=yH ((setRow_other x4 P O E.cells.toArray (by have:=I.out;omega)).trans Y.out)
      have AT:=x0B AC.out A4.out (fun e=>by have:=A2.out _ e;omega) (by have:=HG.out;omega)
      refine A.out _ _ AT (fun hHeld=>?_)
      clear A K
      try simp only [Act.put,yA,yB,yC]
      generalize x4.setRow P E.cells.toArray=x5 at *
      refine rO 18 fun K A=>?_
      refine wp_store_row 34 (.tmp 9) (.tmp 35) (by rfl) O C.cells.toArray (by rfl) (by rfl) _ _ H.out (by rw [List.size_toArray,U.out];exact SKd) (by simp only [List.size_toArray,U.out,x01]) (all_oneCell_toArray Kd.one) ?_
      have AB:=yH (AC.out.set B.out (b:=O) (by simp) C.cells.toArray)
      have u:=yH (setRow_heap _ _ _ C.cells.toArray _ _ H.out)
      have z:=yH ((setRow_other x5 O P C.cells.toArray (by have:=I.out;omega)).trans A0.out)
      have AU:=x0B AB.out A4.out (fun e=>by have:=A2.out _ e;omega) (by have:=HG.out;omega)
      refine A.out _ _ AU (fun hHeld=>?_)
      clear A K
      try simp only [Act.put,yA,yB,yC]
      generalize x5.setRow O C.cells.toArray=x6 at *
      refine wpAnyH_done (by kernel_rfl) ?_ _
      go_wp2_with fail
      go_meet
      exact ⟨P,O,E,C,Q2,rfl,rfl,AB.out.less (fun b hb=>by simp only [List.mem_cons,List.not_mem_nil,or_false] at hb ⊢;omega) (fun k hk=>by simp only [List.mem_cons,List.not_mem_nil,or_false] at hk ⊢;exact hk.symm),z.out,u.out,AJ.out,A8.out⟩
    ·
     go_simp
     have ba:Below x1.heap.size x1 (x1.alloc (.cells kd0.cells.toArray 34)):=(Below.refl _ _).alloc (Nat.le_refl _) _
     have A3:=yH (AI.out.alloc B.out (.cells kd0.cells.toArray 34))
     have AR:=yH (heap_alloc_new x1 (.cells kd0.cells.toArray 34))
     have AS:=yH (yK ba Ax.out)
     have SB:=yH (show Seg (x1.alloc (.cells kd0.cells.toArray 34)) g o (M.take m)∧Seg (x1.alloc (.cells kd0.cells.toArray 34)) g (o+(m+1)) (M.drop (m+1)) from ⟨SA.out.1.later ba (AI.out.glt B.out),SA.out.2.later ba (AI.out.glt B.out)⟩)
     have Ag:=x02 hHeld ba
     clear ba SA
     try go_wp2_with fail
     refine A.out _ _ Ag (fun hHeld=>?_)
     clear A K
     try simp only [Act.put,yA,yB,yC]
     generalize x1.alloc (.cells kd0.cells.toArray 34)=x2 at *
     obtain ⟨O,AL⟩:∃b,x1.heap.size=b:=⟨_,rfl⟩
     rw [AL] at A3 AR ⊢
     have I:=yH (show P≠O from by have:=(AI.out.box P (by simp)).2.1;omega)
     clear AL
     have SA:=yH SB.out
     clear SB
     refine rO 6 fun K A=>?_
     go_simp
     refine (B0.out _ _ _ A3.out SA.out.1).mono ?_
     rintro _ x3 ⟨E,Q1,rfl,AY,AG,AX,AV,AA⟩
     obtain ⟨Ad,AH⟩:=A3.out.call B.out AA ⟨Nat.le_refl _,by omega⟩ (Or.inr (Nat.le_refl _)) AG AX AV (fun k hk=>by cases hk)
     have A6:=yH ((AH O (by simp)).trans AR.out)
     have A5:=yH ((AH P (by simp)).trans AS.out)
     have SB:=yH (show Seg x3 g (o+(m+1)) (M.drop (m+1)) from fun j hj=>⟨(AA.cell _ (Or.inr (by omega))).trans (SA.out.2 j hj).1,(AA.frozen _).trans (SA.out.2 j hj).2⟩)
     have AJ:=yH AY
     have A1:=yH (Kd.cells_length AG.len)
     have X:=yH Ad
     have AQ:=x0B X.out A4.out (fun e=>by have:=A2.out _ e;omega) (by have:=HG.out;omega)
     clear Ad AH AY AG AX AV AA SA
     try go_wp2_with fail
     refine A.out _ _ AQ (fun hHeld=>?_)
     clear A K
     try simp only [Act.put,yA,yB,yC]
     have SA:=yH (show True∧Seg x3 g (o+(m+1)) (M.drop (m+1)) from ⟨trivial,SB.out⟩)
     clear SB
     refine rO 14 fun K A=>?_
     go_simp
     refine (Ai.out _ _ _ _ X.out SA.out.2).mono ?_
     rintro _ x4 ⟨C,Q2,rfl,a,J,Z,f,l⟩
     obtain ⟨Aa,AE⟩:=X.out.call B.out l ⟨by omega,by omega⟩ (Or.inl (by omega)) J Z f (fun k hk r hr y hy hR=>by have h:=(X.out.kid k hk).2.2 r hr y hy hR;have:=B.out;omega)
     have Y:=yH ((AE O (by simp)).trans A6.out)
     have G:=yH ((AE P (by simp)).trans A5.out)
     have A8:=yH a
     have U:=yH (Kd.cells_length J.len)
     have AD:=yH Aa
     have AP:=x0B AD.out A4.out (fun e=>by have:=A2.out _ e;omega) (by have:=HG.out;omega)
     clear Aa AE a J Z f l
     try go_wp2_with fail
     refine A.out _ _ AP (fun hHeld=>?_)
     clear A K
     try simp only [Act.put,yA,yB,yC]
     refine rO 17 fun K A=>?_
     refine wp_store_row 34 (.tmp 8) (.tmp 27) (by rfl) P E.cells.toArray (by rfl) (by rfl) _ _ G.out (by rw [List.size_toArray,A1.out];exact SKd) (by simp only [List.size_toArray,A1.out,x01]) (all_oneCell_toArray Kd.one) ?_
     have AC:=yH (AD.out.set B.out (b:=P) (by simp) E.cells.toArray)
     have A0:=yH (setRow_heap _ _ _ E.cells.toArray _ _ G.out)
     have H:=yH ((setRow_other x4 P O E.cells.toArray (by have:=I.out;omega)).trans Y.out)
     have AT:=x0B AC.out A4.out (fun e=>by have:=A2.out _ e;omega) (by have:=HG.out;omega)
     refine A.out _ _ AT (fun hHeld=>?_)
     clear A K
     try simp only [Act.put,yA,yB,yC]
     generalize x4.setRow P E.cells.toArray=x5 at *
     refine rO 18 fun K A=>?_
     refine wp_store_row 34 (.tmp 9) (.tmp 35) (by rfl) O C.cells.toArray (by rfl) (by rfl) _ _ H.out (by rw [List.size_toArray,U.out];exact SKd) (by simp only [List.size_toArray,U.out,x01]) (all_oneCell_toArray Kd.one) ?_
     have AB:=yH (AC.out.set B.out (b:=O) (by simp) C.cells.toArray)
     have u:=yH (setRow_heap _ _ _ C.cells.toArray _ _ H.out)
     have z:=yH ((setRow_other x5 O P C.cells.toArray (by have:=I.out;omega)).trans A0.out)
     have AU:=x0B AB.out A4.out (fun e=>by have:=A2.out _ e;omega) (by have:=HG.out;omega)
     refine A.out _ _ AU (fun hHeld=>?_)
     clear A K
     try simp only [Act.put,yA,yB,yC]
     generalize x5.setRow O C.cells.toArray=x6 at *
     refine wpAnyH_done (by kernel_rfl) ?_ _
     go_wp2_with fail
     go_meet
     exact ⟨P,O,E,C,Q2,rfl,rfl,AB.out.less (fun b hb=>by simp only [List.mem_cons,List.not_mem_nil,or_false] at hb ⊢;omega) (fun k hk=>by simp only [List.mem_cons,List.not_mem_nil,or_false] at hk ⊢;exact hk.symm),z.out,u.out,AJ.out,A8.out⟩
   ·
    go_simp
    have ba:Below x0.heap.size x0 (x0.alloc (.cells kd0.cells.toArray 34)):=(Below.refl _ _).alloc (Nat.le_refl _) _
    have AI:=yH (Ar.out.alloc B.out (.cells kd0.cells.toArray 34))
    have Av:=yH (heap_alloc_new x0 (.cells kd0.cells.toArray 34))
    have SB:=yH (show Seg (x0.alloc (.cells kd0.cells.toArray 34)) g o (M.take m)∧Seg (x0.alloc (.cells kd0.cells.toArray 34)) g (o+(m+1)) (M.drop (m+1)) from ⟨SA.out.1.later ba (Ar.out.glt B.out),SA.out.2.later ba (Ar.out.glt B.out)⟩)
    have B8:=x02 hHeld ba
    clear ba SA
    try go_wp2_with fail
    refine A.out _ _ B8 (fun hHeld=>?_)
    clear A K
    try simp only [Act.put,yA,yB,yC]
    generalize x0.alloc (.cells kd0.cells.toArray 34)=x1 at *
    obtain ⟨O,AL⟩:∃b,x0.heap.size=b:=⟨_,rfl⟩
    rw [AL] at AI Av ⊢
    clear AL
    have SA:=yH SB.out
    clear SB
    refine rY [6,15] ?_
    refine rC (fun K A=>?_) (rC (fun K A=>?_) AllReadyH.nil)
    ·
     go_simp
     refine (B0.out _ _ _ AI.out SA.out.1).mono ?_
     rintro _ x2 ⟨E,Q1,rfl,AY,AG,AX,AV,AA⟩
     obtain ⟨Aq,Ak⟩:=AI.out.call B.out AA ⟨Nat.le_refl _,by omega⟩ (Or.inr (Nat.le_refl _)) AG AX AV (fun k hk=>by cases hk)
     have AR:=yH ((Ak O (by simp)).trans Av.out)
     have SB:=yH (show Seg x2 g (o+(m+1)) (M.drop (m+1)) from fun j hj=>⟨(AA.cell _ (Or.inr (by omega))).trans (SA.out.2 j hj).1,(AA.frozen _).trans (SA.out.2 j hj).2⟩)
     have AJ:=yH AY
     have A1:=yH (Kd.cells_length AG.len)
     have A3:=yH Aq
     have Ag:=x0B A3.out A4.out (fun e=>by have:=A2.out _ e;omega) (by have:=HG.out;omega)
     clear Aq Ak AY AG AX AV AA SA
     try go_wp2_with fail
     refine A.out _ _ Ag (fun hHeld=>?_)
     clear A K
     try simp only [Act.put,yA,yB,yC]
     have SA:=yH (show True∧Seg x2 g (o+(m+1)) (M.drop (m+1)) from ⟨trivial,SB.out⟩)
     clear SB
     refine rY [14,15] ?_
     refine rC (fun K A=>?_) (rC (fun K A=>?_) AllReadyH.nil)
     ·
      go_simp
      refine (Ai.out _ _ _ _ A3.out SA.out.2).mono ?_
      rintro _ x3 ⟨C,Q2,rfl,a,J,Z,f,l⟩
      obtain ⟨Ad,AH⟩:=A3.out.call B.out l ⟨by omega,by omega⟩ (Or.inl (by omega)) J Z f (fun k hk r hr y hy hR=>by have h:=(A3.out.kid k hk).2.2 r hr y hy hR;have:=B.out;omega)
      have A6:=yH ((AH O (by simp)).trans AR.out)
      have A8:=yH a
      have U:=yH (Kd.cells_length J.len)
      have X:=yH Ad
      have AQ:=x0B X.out A4.out (fun e=>by have:=A2.out _ e;omega) (by have:=HG.out;omega)
      clear Ad AH a J Z f l
      try go_wp2_with fail
      refine A.out _ _ AQ (fun hHeld=>?_)
      clear A K
      try simp only [Act.put,yA,yB,yC]
      refine rO 15 fun K A=>?_
      go_simp
      have ba:Below x3.heap.size x3 (x3.alloc (.cells kd0.cells.toArray 34)):=(Below.refl _ _).alloc (Nat.le_refl _) _
      have AD:=yH (X.out.alloc B.out (.cells kd0.cells.toArray 34))
      have G:=yH (heap_alloc_new x3 (.cells kd0.cells.toArray 34))
      have Y:=yH (yK ba A6.out)
      have AP:=x02 hHeld ba
      clear ba
      try go_wp2_with fail
      refine A.out _ _ AP (fun hHeld=>?_)
      clear A K
      try simp only [Act.put,yA,yB,yC]
      generalize x3.alloc (.cells kd0.cells.toArray 34)=x4 at *
      obtain ⟨P,AK⟩:∃b,x3.heap.size=b:=⟨_,rfl⟩
      rw [AK] at AD G ⊢
      have I:=yH (show P≠O from by have:=(X.out.box O (by simp)).2.1;omega)
      clear AK
      refine rO 17 fun K A=>?_
      refine wp_store_row 34 (.tmp 8) (.tmp 27) (by rfl) P E.cells.toArray (by rfl) (by rfl) _ _ G.out (by rw [List.size_toArray,A1.out];exact SKd) (by simp only [List.size_toArray,A1.out,x01]) (all_oneCell_toArray Kd.one) ?_
      have AC:=yH (AD.out.set B.out (b:=P) (by simp) E.cells.toArray)
      have A0:=yH (setRow_heap _ _ _ E.cells.toArray _ _ G.out)
      have H:=yH ((setRow_other x4 P O E.cells.toArray (by have:=I.out;omega)).trans Y.out)
      have AT:=x0B AC.out A4.out (fun e=>by have:=A2.out _ e;omega) (by have:=HG.out;omega)
      refine A.out _ _ AT (fun hHeld=>?_)
      clear A K
      try simp only [Act.put,yA,yB,yC]
      generalize x4.setRow P E.cells.toArray=x5 at *
      refine rO 18 fun K A=>?_
      refine wp_store_row 34 (.tmp 9) (.tmp 35) (by rfl) O C.cells.toArray (by rfl) (by rfl) _ _ H.out (by rw [List.size_toArray,U.out];exact SKd) (by simp only [List.size_toArray,U.out,x01]) (all_oneCell_toArray Kd.one) ?_
      have AB:=yH (AC.out.set B.out (b:=O) (by simp) C.cells.toArray)
      have u:=yH (setRow_heap _ _ _ C.cells.toArray _ _ H.out)
      have z:=yH ((setRow_other x5 O P C.cells.toArray (by have:=I.out;omega)).trans A0.out)
      have AU:=x0B AB.out A4.out (fun e=>by have:=A2.out _ e;omega) (by have:=HG.out;omega)
      refine A.out _ _ AU (fun hHeld=>?_)
      clear A K
      try simp only [Act.put,yA,yB,yC]
      generalize x5.setRow O C.cells.toArray=x6 at *
      refine wpAnyH_done (by kernel_rfl) ?_ _
      go_wp2_with fail
      go_meet
      exact ⟨P,O,E,C,Q2,rfl,rfl,AB.out.less (fun b hb=>by simp only [List.mem_cons,List.not_mem_nil,or_false] at hb ⊢;omega) (fun k hk=>by simp only [List.mem_cons,List.not_mem_nil,or_false] at hk ⊢;exact hk.symm),z.out,u.out,AJ.out,A8.out⟩
     ·
      go_simp
      have ba:Below x2.heap.size x2 (x2.alloc (.cells kd0.cells.toArray 34)):=(Below.refl _ _).alloc (Nat.le_refl _) _
      have X:=yH (A3.out.alloc B.out (.cells kd0.cells.toArray 34))
      have A5:=yH (heap_alloc_new x2 (.cells kd0.cells.toArray 34))
      have A6:=yH (yK ba AR.out)
      have SB:=yH (show True∧Seg (x2.alloc (.cells kd0.cells.toArray 34)) g (o+(m+1)) (M.drop (m+1)) from ⟨trivial,SA.out.2.later ba (A3.out.glt B.out)⟩)
      have AQ:=x02 hHeld ba
      clear ba SA
      try go_wp2_with fail
      refine A.out _ _ AQ (fun hHeld=>?_)
      clear A K
      try simp only [Act.put,yA,yB,yC]
      generalize x2.alloc (.cells kd0.cells.toArray 34)=x3 at *
      obtain ⟨P,AK⟩:∃b,x2.heap.size=b:=⟨_,rfl⟩
      rw [AK] at X A5 ⊢
      have I:=yH (show P≠O from by have:=(A3.out.box O (by simp)).2.1;omega)
      clear AK
      have SA:=yH SB.out
      clear SB
      refine rO 14 fun K A=>?_
      go_simp
      refine (Ai.out _ _ _ _ X.out SA.out.2).mono ?_
      rintro _ x4 ⟨C,Q2,rfl,a,J,Z,f,l⟩
      obtain ⟨Aa,AE⟩:=X.out.call B.out l ⟨by omega,by omega⟩ (Or.inl (by omega)) J Z f (fun k hk r hr y hy hR=>by have h:=(X.out.kid k hk).2.2 r hr y hy hR;have:=B.out;omega)
      have G:=yH ((AE P (by simp)).trans A5.out)
      have Y:=yH ((AE O (by simp)).trans A6.out)
      have A8:=yH a
      have U:=yH (Kd.cells_length J.len)
      have AD:=yH Aa
      have AP:=x0B AD.out A4.out (fun e=>by have:=A2.out _ e;omega) (by have:=HG.out;omega)
      clear Aa AE a J Z f l
      try go_wp2_with fail
      refine A.out _ _ AP (fun hHeld=>?_)
      clear A K
      try simp only [Act.put,yA,yB,yC]
      refine rO 17 fun K A=>?_
      refine wp_store_row 34 (.tmp 8) (.tmp 27) (by rfl) P E.cells.toArray (by rfl) (by rfl) _ _ G.out (by rw [List.size_toArray,A1.out];exact SKd) (by simp only [List.size_toArray,A1.out,x01]) (all_oneCell_toArray Kd.one) ?_
      have AC:=yH (AD.out.set B.out (b:=P) (by simp) E.cells.toArray)
      have A0:=yH (setRow_heap _ _ _ E.cells.toArray _ _ G.out)
      have H:=yH ((setRow_other x4 P O E.cells.toArray (by have:=I.out;omega)).trans Y.out)
      have AT:=x0B AC.out A4.out (fun e=>by have:=A2.out _ e;omega) (by have:=HG.out;omega)
      refine A.out _ _ AT (fun hHeld=>?_)
      clear A K
      try simp only [Act.put,yA,yB,yC]
      generalize x4.setRow P E.cells.toArray=x5 at *
      refine rO 18 fun K A=>?_
      refine wp_store_row 34 (.tmp 9) (.tmp 35) (by rfl) O C.cells.toArray (by rfl) (by rfl) _ _ H.out (by rw [List.size_toArray,U.out];exact SKd) (by simp only [List.size_toArray,U.out,x01]) (all_oneCell_toArray Kd.one) ?_
      have AB:=yH (AC.out.set B.out (b:=O) (by simp) C.cells.toArray)
      have u:=yH (setRow_heap _ _ _ C.cells.toArray _ _ H.out)
      have z:=yH ((setRow_other x5 O P C.cells.toArray (by have:=I.out;omega)).trans A0.out)
      have AU:=x0B AB.out A4.out (fun e=>by have:=A2.out _ e;omega) (by have:=HG.out;omega)
      refine A.out _ _ AU (fun hHeld=>?_)
      clear A K
      try simp only [Act.put,yA,yB,yC]
      generalize x5.setRow O C.cells.toArray=x6 at *
      refine wpAnyH_done (by kernel_rfl) ?_ _
      go_wp2_with fail
      go_meet
      exact ⟨P,O,E,C,Q2,rfl,rfl,AB.out.less (fun b hb=>by simp only [List.mem_cons,List.not_mem_nil,or_false] at hb ⊢;omega) (fun k hk=>by simp only [List.mem_cons,List.not_mem_nil,or_false] at hk ⊢;exact hk.symm),z.out,u.out,AJ.out,A8.out⟩
    ·
     go_simp
     have ba:Below x1.heap.size x1 (x1.alloc (.cells kd0.cells.toArray 34)):=(Below.refl _ _).alloc (Nat.le_refl _) _
     have A3:=yH (AI.out.alloc B.out (.cells kd0.cells.toArray 34))
     have AS:=yH (heap_alloc_new x1 (.cells kd0.cells.toArray 34))
     have AR:=yH (yK ba Av.out)
     have SB:=yH (show Seg (x1.alloc (.cells kd0.cells.toArray 34)) g o (M.take m)∧Seg (x1.alloc (.cells kd0.cells.toArray 34)) g (o+(m+1)) (M.drop (m+1)) from ⟨SA.out.1.later ba (AI.out.glt B.out),SA.out.2.later ba (AI.out.glt B.out)⟩)
     have Ag:=x02 hHeld ba
     clear ba SA
     try go_wp2_with fail
     refine A.out _ _ Ag (fun hHeld=>?_)
     clear A K
     try simp only [Act.put,yA,yB,yC]
     generalize x1.alloc (.cells kd0.cells.toArray 34)=x2 at *
     obtain ⟨P,AK⟩:∃b,x1.heap.size=b:=⟨_,rfl⟩
     rw [AK] at A3 AS ⊢
     have I:=yH (show P≠O from by have:=(AI.out.box O (by simp)).2.1;omega)
     clear AK
     have SA:=yH SB.out
     clear SB
     refine rO 6 fun K A=>?_
     go_simp
     refine (B0.out _ _ _ A3.out SA.out.1).mono ?_
     rintro _ x3 ⟨E,Q1,rfl,AY,AG,AX,AV,AA⟩
     obtain ⟨Ad,AH⟩:=A3.out.call B.out AA ⟨Nat.le_refl _,by omega⟩ (Or.inr (Nat.le_refl _)) AG AX AV (fun k hk=>by cases hk)
     have A5:=yH ((AH P (by simp)).trans AS.out)
     have A6:=yH ((AH O (by simp)).trans AR.out)
     have SB:=yH (show Seg x3 g (o+(m+1)) (M.drop (m+1)) from fun j hj=>⟨(AA.cell _ (Or.inr (by omega))).trans (SA.out.2 j hj).1,(AA.frozen _).trans (SA.out.2 j hj).2⟩)
     have AJ:=yH AY
     have A1:=yH (Kd.cells_length AG.len)
     have X:=yH Ad
     have AQ:=x0B X.out A4.out (fun e=>by have:=A2.out _ e;omega) (by have:=HG.out;omega)
     clear Ad AH AY AG AX AV AA SA
     try go_wp2_with fail
     refine A.out _ _ AQ (fun hHeld=>?_)
     clear A K
     try simp only [Act.put,yA,yB,yC]
     have SA:=yH (show True∧Seg x3 g (o+(m+1)) (M.drop (m+1)) from ⟨trivial,SB.out⟩)
     clear SB
     refine rO 14 fun K A=>?_
     go_simp
     refine (Ai.out _ _ _ _ X.out SA.out.2).mono ?_
     rintro _ x4 ⟨C,Q2,rfl,a,J,Z,f,l⟩
     obtain ⟨Aa,AE⟩:=X.out.call B.out l ⟨by omega,by omega⟩ (Or.inl (by omega)) J Z f (fun k hk r hr y hy hR=>by have h:=(X.out.kid k hk).2.2 r hr y hy hR;have:=B.out;omega)
     have G:=yH ((AE P (by simp)).trans A5.out)
     have Y:=yH ((AE O (by simp)).trans A6.out)
     have A8:=yH a
     have U:=yH (Kd.cells_length J.len)
     have AD:=yH Aa
     have AP:=x0B AD.out A4.out (fun e=>by have:=A2.out _ e;omega) (by have:=HG.out;omega)
     clear Aa AE a J Z f l
     try go_wp2_with fail
     refine A.out _ _ AP (fun hHeld=>?_)
     clear A K
     try simp only [Act.put,yA,yB,yC]
     refine rO 17 fun K A=>?_
     refine wp_store_row 34 (.tmp 8) (.tmp 27) (by rfl) P E.cells.toArray (by rfl) (by rfl) _ _ G.out (by rw [List.size_toArray,A1.out];exact SKd) (by simp only [List.size_toArray,A1.out,x01]) (all_oneCell_toArray Kd.one) ?_
     have AC:=yH (AD.out.set B.out (b:=P) (by simp) E.cells.toArray)
     have A0:=yH (setRow_heap _ _ _ E.cells.toArray _ _ G.out)
     have H:=yH ((setRow_other x4 P O E.cells.toArray (by have:=I.out;omega)).trans Y.out)
     have AT:=x0B AC.out A4.out (fun e=>by have:=A2.out _ e;omega) (by have:=HG.out;omega)
     refine A.out _ _ AT (fun hHeld=>?_)
     clear A K
     try simp only [Act.put,yA,yB,yC]
     generalize x4.setRow P E.cells.toArray=x5 at *
     refine rO 18 fun K A=>?_
     refine wp_store_row 34 (.tmp 9) (.tmp 35) (by rfl) O C.cells.toArray (by rfl) (by rfl) _ _ H.out (by rw [List.size_toArray,U.out];exact SKd) (by simp only [List.size_toArray,U.out,x01]) (all_oneCell_toArray Kd.one) ?_
     have AB:=yH (AC.out.set B.out (b:=O) (by simp) C.cells.toArray)
     have u:=yH (setRow_heap _ _ _ C.cells.toArray _ _ H.out)
     have z:=yH ((setRow_other x5 O P C.cells.toArray (by have:=I.out;omega)).trans A0.out)
     have AU:=x0B AB.out A4.out (fun e=>by have:=A2.out _ e;omega) (by have:=HG.out;omega)
     refine A.out _ _ AU (fun hHeld=>?_)
     clear A K
     try simp only [Act.put,yA,yB,yC]
     generalize x5.setRow O C.cells.toArray=x6 at *
     refine wpAnyH_done (by kernel_rfl) ?_ _
     go_wp2_with fail
     go_meet
     exact ⟨P,O,E,C,Q2,rfl,rfl,AB.out.less (fun b hb=>by simp only [List.mem_cons,List.not_mem_nil,or_false] at hb ⊢;omega) (fun k hk=>by simp only [List.mem_cons,List.not_mem_nil,or_false] at hk ⊢;exact hk.symm),z.out,u.out,AJ.out,A8.out⟩
  case rest=>
   obtain ⟨P,O,E,C,Q2,rfl,rfl,Ab,h8,h9,CI,CC⟩:=hcut
   obtain ⟨rp,rn,rc,rR⟩:=gm
   unfold Rw.val at B5
   simp only at B5 BA
   have C7:=Ab.r.only.size
   have Bl:w.heap.size<w3.heap.size:=(yL A4.out)
   have Be:w.heap.size+1<w3.heap.size:=(yL CQ.out)
   have C2:∀k,w.heap.size≤k→k<w3.heap.size→¬Q2 k:=fun k h1 h2 h=>(Ab.r.new k h).elim (fun e=>by have:=A2.out k e;omega) (fun e=>by omega)
   have Cp:=yH (show wc.heap[w.heap.size]? =_ from (Ab.r.only.block _ Bl (fun e=>e.elim (fun e=>by have:=A2.out _ e;omega) (fun e=>by have:=HG.out;omega))).trans A4.out)
   have Cw:=yH (show wc.heap[w.heap.size+1]? =_ from (Ab.r.only.block _ Be (fun e=>e.elim (fun e=>by have:=A2.out _ e;omega) (fun e=>by have:=HG.out;omega))).trans CQ.out)
   have D1:=yH (Ab.mid.trans B5.out)
   have Cm:=yH (show (⟨rp,rn,rc,rR⟩:Rw).Ok wc from (BQ.out.1.later (Below.refl _ _) |> fun h=>Nd.rw_keep h fun y hy hR=>Ab.r.only.block _ (rw_lt BQ.out.1 y hy hR) (fun e=>e.elim (BQ.out.2.2.2 y hy hR) (BQ.out.2.2.1 y hy hR))))
   have Bz:=yH (Ab.kid E (by simp)).1
   have C4:=yH (Ab.kid C (by simp)).1
   have BE:=yH (show wc.heap[P]? =_∧P<wc.heap.size∧¬Q2 P∧w3.heap.size≤P from ⟨h8,(Ab.box P (by simp)).2.1,(Ab.box P (by simp)).2.2,(Ab.box P (by simp)).1⟩)
   have BN:=yH (show wc.heap[O]? =_∧O<wc.heap.size∧¬Q2 O∧w3.heap.size≤O from ⟨h9,(Ab.box O (by simp)).2.1,(Ab.box O (by simp)).2.2,(Ab.box O (by simp)).1⟩)
   have Al:=yH (show w.heap.size+1<w3.heap.size∧w3.heap.size≤wc.heap.size∧g<w.heap.size from ⟨Be,C7,HG.out⟩)
   have BX:=yH C2
   have CH:=yH (show ¬Q2 g from fun e=>(Ab.r.new g e).elim BJ.out (fun e=>by have:=B.out;omega))
   have Bk:=yH Ab.r
   have AJ:=yH CI
   have A8:=yH CC
   have A1:=yH (Kd.cells_length Bz.out.len)
   have U:=yH (Kd.cells_length C4.out.len)
   have i1:(0:Int)≤m∧(m:Int)<n:=by omega
   clear Ab h8 h9 CI CC C7 Bl Be C2 q3 q4 C1 B0 Ai BT BW
   go_upto_region 6 with fail
   refine wp_region_held_drew (S:=fun w'=>∀k,k<wc.heap.size→¬Q2 k→k≠w.heap.size+1→w'.heap[k]? =wc.heap[k]?) (by kernel_rfl) (fun k _ _ _=>rfl) (fun hHeld=>?_)
   have B7:=yH (show Below wc.heap.size wc wc.drew from (Below.refl _ _).drew)
   generalize wc.drew=x0 at *
   refine tQ 0 ?_ ?_ ?_
   rotate_left
   ·intro w' hSw
    refine Eq.trans (b:=Result.ok (Next.value (.agg #[.pointer (some ⟨gs,0,none⟩),.int .i64 d])) w') ?_ ?_
    ·exact x0A 91 (.tmp 3) (by rfl) w.heap.size 0 (by rfl) [.pointer (some ⟨gs,0,none⟩),.int .i64 d] du (x09 ((hSw w.heap.size (by have:=Al.out;omega) (BX.out _ (by omega) (by have:=Al.out;omega)) (by omega)).trans Cp.out)) BO.out BL.out STr
    ·with_reducible rfl
   refine tK 1 ?_
   refine tK 2 ?_
   refine tK 3 ?_
   refine tQ 4 ?_ ?_ ?_
   rotate_left
   ·intro w' hSw
    have y:w'.cell? ⟨g,o+m,none⟩=some (.slice rp rn rc):=(World.cell?_of_block (hSw g (by have:=Al.out;omega) CH.out (by have:=Al.out;omega))).trans D1.out
    go_simp
    try with_reducible rfl
   refine tQ 5 ?_ ?_ ?_
   rotate_left
   ·intro w' hSw
    refine Eq.trans (b:=Result.ok (Next.value (.agg #[.slice rp rn rc,.bool true])) w') ?_ ?_
    ·apply x0t (t:=85) (parts:= #[(0,.tmp 40),(1,.const (.bool true))])
     ·rfl
     ·simp only [List.map_toArray,List.map_cons,List.map_nil]
      exact y1f _ _ _ _
    ·with_reducible rfl
   refine tQ 6 ?_ ?_ ?_
   rotate_left
   ·intro w' hSw
    refine Eq.trans (b:=Result.ok (Next.value (.agg E.cells.toArray)) w') ?_ ?_
    ·exact x0A 34 (.tmp 8) (by rfl) P 0 (by rfl) E.cells dk (x0E ((hSw P BE.out.2.1 BE.out.2.2.1 (by have:=BE.out;have:=Al.out;omega)).trans BE.out.1)) Bg.out BB.out (by rw [A1.out];exact SKd)
    ·with_reducible rfl
   refine tQ 7 ?_ ?_ ?_
   rotate_left
   ·intro w' hSw
    refine Eq.trans (b:=Result.ok (Next.value (.agg C.cells.toArray)) w') ?_ ?_
    ·exact x0A 34 (.tmp 9) (by rfl) O 0 (by rfl) C.cells dk (x0E ((hSw O BN.out.2.1 BN.out.2.2.1 (by have:=BN.out;have:=Al.out;omega)).trans BN.out.1)) Bg.out BB.out (by rw [U.out];exact SKd)
    ·with_reducible rfl
   refine rO 8 fun K A=>?_
   go_simp
   refine (x6W ⟨rp,rn,rc,rR⟩ true E C x0 (Cm.out.later B7.out) (Bz.out.later B7.out) (C4.out.later B7.out)).mono ?_
   rintro _ y1 ⟨pe,pk,rfl,hE,A,hb,-⟩
   have Au:=yH (B7.out.trans (hb.mono B7.out.size))
   have Cg:∀k,k<wc.heap.size→¬Q2 k→k≠w.heap.size+1→y1.heap[k]? =wc.heap[k]? :=fun k h1 _ _=>Au.out.block k h1
   have Ca:=yH (Bk.out.st.keep (fun _=>False) (Only.of_below _ Au.out) (fun _ _ e=>e))
   have BU:=yH (x6e 1 (by omega) (some ⟨pe,0,none⟩) 1 1 (some ⟨pk,0,none⟩) 2 2 [⟨⟨rp,rn,rc,rR⟩,true⟩] [E,C] d y1 hE A Ca.out Co.out (by
    have h:=y16 (v:=true) Cf.out (BA.out▸Cy.out) (by rw [← BA.out,Bm.out];have:=Ap.out;omega)
    rw [← AJ.out,← A8.out] at h
    exact h))
   clear hE A hb
   try go_wp2_with fail
   refine A.out _ _ Cg (fun hHeld=>?_)
   clear A K
   try simp only [Act.put,yA,yB,yC]
   refine rO 9 fun K A=>?_
   go_simp
   refine BU.out.mono ?_
   rintro _ y2 ⟨kd,rfl,CG,Aj,By,⟨Q3,CF,CM,CD⟩,ho,-⟩
   have HO:=yH ho
   have AI:=yH Au.out.size
   have Ci:∀k,k<wc.heap.size→¬Q2 k→k≠w.heap.size+1→y2.heap[k]? =wc.heap[k]? :=fun k h1 h2 _=>(HO.out.block k (by have:=AI.out;omega) h2).trans (Au.out.block k h1)
   have RK:=yH ((HO.out.block (w.heap.size+1) (by have:=AI.out;have:=Al.out;omega) (BX.out _ (by omega) (by have:=Al.out;omega))).trans ((Au.out.block _ (by have:=Al.out;omega)).trans Cw.out))
   have Cr:=yH CG
   have Am:=yH Aj
   have C0:=yH By
   have Bc:=yH CF
   have Bt:=yH CM
   have Cj:=yH CD
   have BY:=yH (Kd.cells_length Aj.len)
   clear CG Aj By CF CM CD ho BU
   try go_wp2_with fail
   refine A.out _ _ Ci (fun hHeld=>?_)
   clear A K
   try simp only [Act.put,yA,yB,yC]
   refine rO 10 fun K A=>?_
   refine wp_store_row 34 (.tmp 6) (.tmp 45) (by rfl) (w.heap.size+1) kd.cells.toArray (by rfl) (by rfl) _ _ RK.out (by rw [List.size_toArray,BY.out];exact SKd) (by simp only [List.size_toArray,BY.out,x01]) (all_oneCell_toArray Kd.one) ?_
   have Ce:∀k,k<wc.heap.size→¬Q2 k→k≠w.heap.size+1→(y2.setRow (w.heap.size+1) kd.cells.toArray).heap[k]? =wc.heap[k]? :=fun k h1 h2 h3=>(setRow_other y2 (w.heap.size+1) k kd.cells.toArray h3).trans ((HO.out.block k (by have:=AI.out;omega) h2).trans (Au.out.block k h1))
   refine A.out _ _ Ce (fun hHeld=>?_)
   clear A K
   try simp only [Act.put,yA,yB,yC]
   refine wpAnyH_done (by kernel_rfl) ?_ _
   go_wp2_with fail
   refine x1B 6 (by kernel_rfl) (w.heap.size+1) _ kd.cells.toArray Bg.out BB.out (by rw [List.size_toArray,BY.out];exact SKd) (by rfl) (setRow_heap _ _ _ _ _ _ RK.out) ?_
   have hz:=Al.out
   have DJ:=AI.out
   have Cq:=x0C y2 (w.heap.size+1) kd.cells.toArray
   have B4:∀r∈kd.rows,r.Ok (y2.setRow (w.heap.size+1) kd.cells.toArray):=fun r hr=>Nd.rw_keep (x05 Am.out r hr) (fun x hx hR=>Cq.block _ (rw_lt (x05 Am.out r hr) x hx hR) (by have:=C0.out r hr x hx hR;omega))
   have CR:LayR y1 y2 gs Q2 Q3 _ g o n:=LayR.of_put Bc.out Bt.out HO.out (by omega) CH.out
   have CL:LayR w y2 gs Q Q3 _ g o n:=((Cd.out.trans Bk.out ⟨Nat.le_refl _,Nat.le_refl _⟩ ⟨Nat.le_refl _,Nat.le_refl _⟩).trans (LayR.of_below (n:=n) (o:=o) Bk.out.st Au.out (by omega)) ⟨Nat.le_refl _,Nat.le_refl _⟩ ⟨Nat.le_refl _,Nat.le_refl _⟩).trans CR ⟨Nat.le_refl _,Nat.le_refl _⟩ ⟨Nat.le_refl _,Nat.le_refl _⟩
   have Bu:¬Q3 (w.heap.size+1):=fun e=>(Bt.out _ e).elim (BX.out _ (by omega) (by omega)) (fun e=>by omega)
   have Br:(T.fork rR true P1 P2).size≤1048576:=by rw [← BA.out,Bm.out];have:=Ap.out;omega
   have hN:pnOf 1 [⟨⟨rp,rn,rc,rR⟩,true⟩] [E,C]=forkN rR true P1.kid P2.kid:=by rw [← AJ.out,← A8.out];rfl
   unfold x29
   rw [BA.out,x8s Br,x9X,← hN,← Bi.out]
   exact ⟨kd,Q3,rfl,Cr.out,⟨Am.out.len,Am.out.ok,B4 _ (by simp [Kd.rows]),B4 _ (by simp [Kd.rows]),B4 _ (by simp [Kd.rows]),Am.out.live,Am.out.size⟩,(fun r hr x hx hR=>by have:=C0.out r hr x hx hR;omega),Cj.out,CL.set (by omega) hz.2.2 Bu _⟩
end Go.Proofs.YtinihaflmdihaaaGreat.Kt
