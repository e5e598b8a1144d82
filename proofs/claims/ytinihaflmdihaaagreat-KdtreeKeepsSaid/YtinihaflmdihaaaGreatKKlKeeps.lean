/- Proved: whatever number and two lists of steps it is handed, the Go function indenturelaw11.KdtreeKeeps returns true (a tree stays what it was, whatever trees are made of it: its rows are the same; no tree has more tombstones than live rows), and each argument reads afterwards as it read before. Conditions: none beyond the given row's own. -/
import Derived.Test.YtinihaflmdihaaaGreatK35
set_option maxRecDepth 100000
set_option maxHeartbeats 8000000
set_option linter.all false
namespace Go.Proofs.YtinihaflmdihaaaGreat.Kt
open Go.RowKit Go.Proofs.YtinihaflmdihaaaGreat.Nd Go.Proofs.YtinihaflmdihaaaGreat.Dk Go.Proofs.YtinihaflmdihaaaGreat.Pg
open List renaming setIfInBounds_toArray → yA, set_cons_zero → yB, set_cons_succ → yC
def K1 (w0:World) (g d bK n:Nat) (i:Value) (wr:World):Prop:=∃(k:Nat) (kd:Kd) (Q:Nat→Prop) (s:Pg.S) (t:T),k≤20∧k≤n∧i= .int .i64 k∧KpSt w0 wr g d kd Q s t∧wr.heap[bK]? =some (.cells kd.cells.toArray 34 (0,0))∧¬Q bK∧(∀r∈kd.rows,∀x,r.p=some x→r.R≠[]→x.block≠bK)∧kd.pk.size≤k∧s.W.length≤100*k
def GotP (w0:World) (g d bK:Nat) (kd:Kd) (s:Pg.S) (t:T) (x:T×Bool) (v11 v12:Value) (wx:World):Prop:=∃bX kd' err Q' s',v11= .pointer (some ⟨bX,0,none⟩)∧v12= .int .i64 err∧Got w0 wx g d bK bX kd kd' err Q' s s' t x
def K2R (w0:World) (g d bK bM:Nat) (kd:Kd) (t:T) (q:Option Addr) (c:Nat) (M:List Rw) (s0:Pg.S) (m:Nat) (gd i:Value) (wr:World):Prop:=∃(j:Nat) (G:Bool) (km:Kd) (Q:Nat→Prop) (s:Pg.S) (tm:T),j≤20∧j≤m∧gd= .bool G∧i= .int .i64 j∧K2 w0 wr g d bK bM kd t q c M km Q s tm∧(s.cl=none→G=true)∧(s.cl=none→s0.cl=none)∧km.pk.size≤20+j∧s.W.length≤2000+200*j
def X2 (w0:World) (g d bK bM bX:Nat) (kd:Kd) (t:T) (q:Option Addr) (c:Nat) (M:List Rw) (km:Kd) (s:Pg.S) (tm:T) (v:Value) (wx:World):Prop:=∃(kx:Kd) (tx:T) (Q':Nat→Prop) (s':Pg.S) (f:Int),v= .int .i64 f∧K2 w0 wx g d bK bM kd t q c M km Q' s' tm∧KpSt w0 wx g d kx Q' s' tx∧wx.heap[bX]? =some (.cells kx.cells.toArray 34 (0,0))∧(s'.cl=none→f=0∧s.cl=none)∧kx.pk.size≤km.pk.size+1∧(s'.W.length:Int)≤s.W.length+(4*km.pk.size+4)∧(∀r∈kx.rows,∀x,r.p=some x→r.R≠[]→x.block≠bM)∧kx.cells.length=37
theorem keeps_any (dd:Nat) (hdd:dd<256) (pa pb:Option Addr) (n c m e:Nat) (A B:List KOp) (w:World) (hA:Ops w pa n c A) (hB:Ops w pb m e B) (hn:n≤9223372036854775807) (hm:m≤9223372036854775807):
  Calls Tryz.prog 6 #[.int .u8 dd,.slice pa n c,.slice pb m e] w fun e w'=>e= .returned (.bool true)∧Below w.heap.size w w':=by
 have HA:=yH hA
 have HB:=yH hB
 have HZ:=yH (zero_of_info kz)
 have hz0:=HZ.out.1
 obtain ⟨du,hdu,hdr⟩:=UKd
 have HDU:=yH hdu
 have HDR:=yH hdr
 have HDM:=yH (dims_any dd hdd)
 obtain ⟨d,hd⟩:∃d,d=dimsP dd:=⟨_,rfl⟩
 have HD:=yH (show 1≤d∧d≤5 by rw [hd];exact dims_le dd)
 rw [← hd] at HDM
 clear hA hB hdu hdr hd hdd
 go_enter Tryz.func6,Tryz.ntmps6
 go_wp2_with fail
 refine (alive_any w).mono ?_
 rintro _ w1 ⟨rfl,b1⟩
 have B1:=yH b1
 clear b1
 go_upto_region 5 with (first
  | (go_at_call 12;refine (HDM.out w1).mono ?_;rintro _ w1' ⟨rfl,rfl⟩)
  | (go_at_call 13;refine (Pg.new_any _).mono ?_;rintro _ w2 ⟨g,Q0,rfl,p2,q2,b2⟩;have P2:=yH p2;have Q2:=yH (show ∀k,Q0 k→w.heap.size≤k from fun k hk=>Nat.le_trans B1.out.size (q2 k hk));have B2:=yH (B1.out.trans (b2.mono B1.out.size));clear p2 q2 b2))
 go_upto_region 6 with fail
 obtain ⟨bK,hbK⟩:∃b,b=w2.heap.size:=⟨_,rfl⟩
 have hb3:Below w2.heap.size w2 (w2.alloc (.cells kd0.cells.toArray 34)):=(Below.refl _ _).alloc (Nat.le_refl _) _
 have hr3:=heap_alloc_new w2 (.cells kd0.cells.toArray 34)
 rw [← hbK] at hr3 ⊢
 have HK1:=yH (show K1 w g d bK n (.int .i64 0) (w2.alloc (.cells kd0.cells.toArray 34)) from ⟨0,kd0,Q0,⟨[],none⟩,.nil,by omega,Nat.zero_le _,rfl,⟨kd0_ok _,Tr.nil _ _,aw_kd0' _,P2.out.keep (fun _=>False) (Only.of_below _ hb3) (fun _ _ e=>e),(fun x hx=>by cases hx),Q2.out,B2.out.trans (hb3.mono B2.out.size)⟩,hr3,fun e=>by have:=P2.out.lt _ e;omega,fun r hr x hx hR=>absurd hx (by
  have e:r=⟨none,0,0,[]⟩:=by simpa [Kd.rows,kd0] using hr
  subst e
  exact fun e=>by cases e),Int.le_refl _,Nat.zero_le _⟩)
 have HBK:=yH (show w.heap.size≤bK from by rw [hbK];exact B2.out.size)
 generalize w2.alloc (.cells kd0.cells.toArray 34)=w3 at *
 clear hb3 hr3 hbK P2 Q2 B2 B1 HDM
 go_upto_region 7 with fail
 go_loopw [10,11,12] (fun i _ _ wr=>K1 w g d bK n i wr) (fun i _ _ _=>20 - (intOf i).toNat)
 case atStart=>exact HK1.out
 case round=>
  obtain ⟨k,kd,Q,s,t,hk20,hkn,rfl,hkp,hrow,hnq,hfar,hsz,hfew⟩:=hrel
  have KP:=yH hkp
  have RK:=yH hrow
  have NQ:=yH hnq
  have FAR:=yH hfar
  have SZ:=yH hsz
  have FEW:=yH hfew
  have HCL:=yH (Kd.cells_length hkp.ok.len)
  clear hkp hrow hnq hfar hsz hfew HK1
  by_cases hlt:k<n∧k<20
  ·obtain ⟨hlt1,hlt2⟩:=hlt
   have l1:(k:Int)<n:=by omega
   have l2:(k:Int)<20:=by omega
   have i1:(0:Int)≤k∧(k:Int)<n:=by omega
   obtain ⟨go,oo,rfl,-,hc1,-,hro⟩:=HA.out.get k hlt1
   obtain ⟨y,hy⟩:∃y,y=(A.getD k default).row:=⟨_,rfl⟩
   rw [← hy] at hc1 hro
   have c1:=(KP.out.low.cell (block_lt_of_cell hc1)).trans hc1
   have HRO:=yH (hro.later KP.out.low)
   have C0:=yH hc1
   clear hc1 hro hy
   obtain ⟨yp,yn,yc,yR⟩:=y
   unfold Rw.val at c1
   simp only at c1
   have C1:=yH c1
   clear c1
   go_upto_region 9 with fail
   go_cut [11,12] from 41 to 54 (fun v11 v12 wx=>GotP w g d bK kd s t (insertT t (fitP yR d) 0) v11 v12 wx)
   case first=>
    have HFIT:=yH (show ∀x,Below wr.heap.size wr x→Calls Tryz.prog 14 #[.slice yp yn yc,.int .i64 d] x (FitPost x yR d) from fun x hb=>fit_any yp yn yc yR d x (HRO.out.ints.later hb) HRO.out.top (by have:=HD.out;omega))
    have HINS:=yH (show ∀(x:World) (r:Rw),KpSt w x g d kd Q s t→r.Ok x→r.n=d→r.R=fitP yR d→(∀y,r.p=some y→r.R≠[]→wr.heap.size≤y.block)→Calls Tryz.prog 15 #[.pointer (some ⟨g,0,none⟩),.agg kd.cells.toArray,r.val,.int .i64 d] x fun e w'=>∃kd' err Q' s',e= .returned (.tuple #[.agg kd'.cells.toArray,.int .i64 err])∧Chg x g d Q s kd.pk (insertT t (fitP yR d) 0) 8 kd' err Q' s' w' from fun x r hx hr hrn hrR hfr=>by
     rw [← hrR]
     exact ins_chg (by have:=HD.out;omega) hx.fk t kd r x hx.st hx.tr hx.ok hr hrn (by have:=SZ.out;omega) hx.aw (fun y hy hR e=>by have:=KP.out.st.lt _ e;have:=hfr y hy hR;omega) (by have:=FEW.out;omega))
    refine wp_region_held_drew (S:=fun w'=>w'.heap[bK]? =wr.heap[bK]? ∧w'.heap[go]? =wr.heap[go]?) (by kernel_rfl) ⟨rfl,rfl⟩ (fun hHeld=>?_)
    have BX:=yH (Below.refl wr.heap.size wr).drew
    generalize wr.drew=x0 at *
    have HLK:=yH (yL RK.out)
    have HLG:=yH (block_lt_of_cell C1.out)
    have HGQ:=yH (show ¬Q go from fun e=>by have:=KP.out.own _ e;have:go<w.heap.size:=block_lt_of_cell C0.out;omega)
    refine tK 0 ?_
    refine tQ 1 ?_ ?_ ?_
    rotate_left
    ·intro w' hSw
     refine Eq.trans (b:=Result.ok (Next.value (.agg kd.cells.toArray)) w') ?_ ?_
     ·exact op_load_mid 34 (.tmp 9) (by rfl) bK 0 (by rfl) kd.cells du (range_kd (hSw.1.trans RK.out)) HDU.out HDR.out (by rw [HCL.out];exact SKd)
     ·with_reducible rfl
    refine tK 2 ?_
    refine tK 3 ?_
    refine tK 4 ?_
    refine tK 5 ?_
    refine tQ 6 ?_ ?_ ?_
    rotate_left
    ·intro w' hSw
     have y:w'.cell? ⟨go,oo+k*2+1,none⟩=some (.slice yp yn yc):=(World.cell?_of_block (w:=wr) hSw.2).trans C1.out
     go_simp
     try with_reducible rfl
    refine tK 7 ?_
    refine tK 9 ?_
    refine rY [8,14] ?_
    refine rC (fun K hK=>?_) (rC (fun K hK=>?_) AllReadyH.nil)
    ·
     go_simp
     refine (HFIT.out x0 BX.out).mono ?_
     rintro _ y1 ⟨⟨rp,rn,rc,rR⟩,rfl,hrR,hrn,hfr,hb⟩
     have BY:=yH (BX.out.trans (hb.mono BX.out.size))
     have BFY:=yH hb
     have HR:=yH (show (⟨rp,rn,rc,rR⟩:Rw).Ok y1∧rn=d∧rR=fitP yR d∧∀y,rp=some y→rR≠[]→wr.heap.size≤y.block from ⟨hfr.ok,hrn,hrR,fun y hy hR=>Nat.le_trans BX.out.size (hfr.lo y hy hR)⟩)
     unfold Rw.val
     simp only
     clear hrR hrn hfr hb
     try go_wp2_with fail
     refine hK.out _ _ ⟨BY.out.block _ HLK.out,BY.out.block _ HLG.out⟩ (fun hHeld=>?_)
     clear hK K
     try simp only [Act.put,yA,yB,yC]
     refine rY [10,14] ?_
     refine rC (fun K hK=>?_) (rC (fun K hK=>?_) AllReadyH.nil)
     ·
      go_simp
      refine (HINS.out y1 ⟨rp,rn,rc,rR⟩ (KP.out.later BY.out) HR.out.1 HR.out.2.1 HR.out.2.2.1 HR.out.2.2.2).mono ?_
      rintro _ y2 ⟨kd',err,Q',s',rfl,hc⟩
      have HG:=yH (got_new (KP.out.later BY.out) ((BY.out.block _ HLK.out).trans RK.out) NQ.out hc)
      have HO:=yH hc.only
      have HL2:=yH (Kd.cells_length hc.ok.len)
      clear hc
      have hS2:=(show y2.heap[bK]? =wr.heap[bK]? ∧y2.heap[go]? =wr.heap[go]? from ⟨(HO.out.block _ (Nat.lt_of_lt_of_le HLK.out BY.out.size) NQ.out).trans (BY.out.block _ HLK.out),(HO.out.block _ (Nat.lt_of_lt_of_le HLG.out BY.out.size) HGQ.out).trans (BY.out.block _ HLG.out)⟩)
      try go_wp2_with fail
      refine hK.out _ _ hS2 (fun hHeld=>?_)
      clear hK K
      try simp only [Act.put,yA,yB,yC]
      refine tK 11 ?_
      refine tK 12 ?_
      refine tK 13 ?_
      refine rY [14] ?_
      refine rC (fun K hK=>?_) AllReadyH.nil
      go_simp
      have hS3:=(show (y2.alloc (.cells kd0.cells.toArray 34)).heap[bK]? =wr.heap[bK]? ∧(y2.alloc (.cells kd0.cells.toArray 34)).heap[go]? =wr.heap[go]? from ⟨(((Below.refl y2.heap.size y2).alloc (Nat.le_refl _) _).block _ (Nat.lt_of_lt_of_le HLK.out (Nat.le_trans BY.out.size HO.out.size))).trans hS2.1,(((Below.refl y2.heap.size y2).alloc (Nat.le_refl _) _).block _ (Nat.lt_of_lt_of_le HLG.out (Nat.le_trans BY.out.size HO.out.size))).trans hS2.2⟩)
      try go_wp2_with fail
      refine hK.out _ _ hS3 (fun hHeld=>?_)
      clear hK K
      try simp only [Act.put,yA,yB,yC]
      refine rY [15] ?_
      refine rC (fun K hK=>?_) AllReadyH.nil
      refine wp_store_row 34 (.tmp 11) (.tmp 53) (by rfl) y2.heap.size kd'.cells.toArray (by rfl) (by rfl) _ _ (heap_alloc_new y2 _) (by rw [List.size_toArray,HL2.out];exact SKd) (by simp only [List.size_toArray,HL2.out,kd0_size]) (all_oneCell_toArray Kd.one) ?_
      rw [setRow_alloc]
      have hS4:=(show (y2.alloc (.cells kd'.cells.toArray 34)).heap[bK]? =wr.heap[bK]? ∧(y2.alloc (.cells kd'.cells.toArray 34)).heap[go]? =wr.heap[go]? from ⟨(((Below.refl y2.heap.size y2).alloc (Nat.le_refl _) _).block _ (Nat.lt_of_lt_of_le HLK.out (Nat.le_trans BY.out.size HO.out.size))).trans hS2.1,(((Below.refl y2.heap.size y2).alloc (Nat.le_refl _) _).block _ (Nat.lt_of_lt_of_le HLG.out (Nat.le_trans BY.out.size HO.out.size))).trans hS2.2⟩)
      refine hK.out _ _ hS4 (fun hHeld=>?_)
      clear hK K
      try simp only [Act.put,yA,yB,yC]
      refine tK 16 ?_
      refine wpAnyH_done (by kernel_rfl) ?_ _
      go_wp2_with fail
      go_meet
      exact ⟨y2.heap.size,kd',err,Q',s',rfl,rfl,HG.out⟩
     ·
      have HBX:=yH (show wr.heap.size≤y1.heap.size from BY.out.size)
      go_simp
      have BZ:=yH (BY.out.alloc BY.out.size (.cells kd0.cells.toArray 34))
      try go_wp2_with fail
      refine hK.out _ _ ⟨BZ.out.block _ HLK.out,BZ.out.block _ HLG.out⟩ (fun hHeld=>?_)
      clear hK K
      try simp only [Act.put,yA,yB,yC]
      have HX:=yH (heap_alloc_new y1 (.cells kd0.cells.toArray 34))
      have HRZ:=yH (HR.out.1.later ((Below.refl y1.heap.size y1).alloc (Nat.le_refl _) (.cells kd0.cells.toArray 34)))
      obtain ⟨bX,hbX⟩:∃b,b=y1.heap.size:=⟨_,rfl⟩
      rw [← hbX] at HX HBX ⊢
      generalize y1.alloc (.cells kd0.cells.toArray 34)=z1 at *
      clear hbX BY
      have BY:=yH BZ.out
      refine rY [10] ?_
      refine rC (fun K hK=>?_) AllReadyH.nil
      go_simp
      refine (HINS.out z1 ⟨rp,rn,rc,rR⟩ (KP.out.later BY.out) HRZ.out HR.out.2.1 HR.out.2.2.1 HR.out.2.2.2).mono ?_
      rintro _ y2 ⟨kd',err,Q',s',rfl,hc⟩
      obtain ⟨hgx,hg⟩:=got_old (KP.out.later BY.out) ((BY.out.block _ HLK.out).trans RK.out) NQ.out hc (bX:=bX) HX.out (fun e=>by have:=KP.out.st.lt _ e;have:=HBX.out;omega) (by have:=HLK.out;have:=HBX.out;omega) (Nat.le_trans KP.out.low.size HBX.out) (fun r hr x hx hR=>by have:=rw_lt (kd_rows_ok KP.out.ok r hr) x hx hR;have:=HBX.out;omega);have HGX:=yH hgx;have HG:=yH hg;clear hgx hg
      have HO:=yH hc.only
      have HL2:=yH (Kd.cells_length hc.ok.len)
      clear hc
      have hS2:=(show y2.heap[bK]? =wr.heap[bK]? ∧y2.heap[go]? =wr.heap[go]? from ⟨(HO.out.block _ (Nat.lt_of_lt_of_le HLK.out BY.out.size) NQ.out).trans (BY.out.block _ HLK.out),(HO.out.block _ (Nat.lt_of_lt_of_le HLG.out BY.out.size) HGQ.out).trans (BY.out.block _ HLG.out)⟩)
      try go_wp2_with fail
      refine hK.out _ _ hS2 (fun hHeld=>?_)
      clear hK K
      try simp only [Act.put,yA,yB,yC]
      refine tK 11 ?_
      refine tK 12 ?_
      refine tK 13 ?_
      refine rY [15] ?_
      refine rC (fun K hK=>?_) AllReadyH.nil
      refine wp_store_row 34 (.tmp 11) (.tmp 53) (by rfl) bX kd'.cells.toArray (by rfl) (by rfl) _ _ HGX.out (by rw [List.size_toArray,HL2.out];exact SKd) (by simp only [List.size_toArray,HL2.out,kd0_size]) (all_oneCell_toArray Kd.one) ?_
      have hS4:=(show (y2.setRow bX kd'.cells.toArray).heap[bK]? =wr.heap[bK]? ∧(y2.setRow bX kd'.cells.toArray).heap[go]? =wr.heap[go]? from ⟨((only_setRow y2 _ _).block _ (Nat.lt_of_lt_of_le HLK.out (Nat.le_trans BY.out.size HO.out.size)) (by have:=HLK.out;have:=HBX.out;omega)).trans hS2.1,((only_setRow y2 _ _).block _ (Nat.lt_of_lt_of_le HLG.out (Nat.le_trans BY.out.size HO.out.size)) (by have:=HLG.out;have:=HBX.out;omega)).trans hS2.2⟩)
      refine hK.out _ _ hS4 (fun hHeld=>?_)
      clear hK K
      try simp only [Act.put,yA,yB,yC]
      refine tK 16 ?_
      refine wpAnyH_done (by kernel_rfl) ?_ _
      go_wp2_with fail
      go_meet
      exact ⟨bX,kd',err,Q',s',rfl,rfl,HG.out⟩
    ·
     have HBX:=yH (show wr.heap.size≤x0.heap.size from BX.out.size)
     go_simp
     have BZ:=yH (BX.out.alloc BX.out.size (.cells kd0.cells.toArray 34))
     try go_wp2_with fail
     refine hK.out _ _ ⟨BZ.out.block _ HLK.out,BZ.out.block _ HLG.out⟩ (fun hHeld=>?_)
     clear hK K
     try simp only [Act.put,yA,yB,yC]
     have HX0:=yH (heap_alloc_new x0 (.cells kd0.cells.toArray 34))
     obtain ⟨bX,hbX⟩:∃b,b=x0.heap.size:=⟨_,rfl⟩
     rw [← hbX] at HX0 HBX ⊢
     generalize x0.alloc (.cells kd0.cells.toArray 34)=z0 at *
     clear hbX
     refine rY [8] ?_
     refine rC (fun K hK=>?_) AllReadyH.nil
     go_simp
     refine (HFIT.out z0 BZ.out).mono ?_
     rintro _ y1 ⟨⟨rp,rn,rc,rR⟩,rfl,hrR,hrn,hfr,hb⟩
     have BY:=yH (BZ.out.trans (hb.mono BZ.out.size))
     have BFY:=yH hb
     have HR:=yH (show (⟨rp,rn,rc,rR⟩:Rw).Ok y1∧rn=d∧rR=fitP yR d∧∀y,rp=some y→rR≠[]→wr.heap.size≤y.block from ⟨hfr.ok,hrn,hrR,fun y hy hR=>Nat.le_trans BZ.out.size (hfr.lo y hy hR)⟩)
     unfold Rw.val
     simp only
     clear hrR hrn hfr hb
     try go_wp2_with fail
     refine hK.out _ _ ⟨BY.out.block _ HLK.out,BY.out.block _ HLG.out⟩ (fun hHeld=>?_)
     clear hK K
     try simp only [Act.put,yA,yB,yC]
     have HX:=yH ((BFY.out.block _ (yL HX0.out)).trans HX0.out)
     refine rY [10] ?_
     refine rC (fun K hK=>?_) AllReadyH.nil
     go_simp
     refine (HINS.out y1 ⟨rp,rn,rc,rR⟩ (KP.out.later BY.out) HR.out.1 HR.out.2.1 HR.out.2.2.1 HR.out.2.2.2).mono ?_
     rintro _ y2 ⟨kd',err,Q',s',rfl,hc⟩
     obtain ⟨hgx,hg⟩:=got_old (KP.out.later BY.out) ((BY.out.block _ HLK.out).trans RK.out) NQ.out hc (bX:=bX) HX.out (fun e=>by have:=KP.out.st.lt _ e;have:=HBX.out;omega) (by have:=HLK.out;have:=HBX.out;omega) (Nat.le_trans KP.out.low.size HBX.out) (fun r hr x hx hR=>by have:=rw_lt (kd_rows_ok KP.out.ok r hr) x hx hR;have:=HBX.out;omega);have HGX:=yH hgx;have HG:=yH hg;clear hgx hg
     have HO:=yH hc.only
     have HL2:=yH (Kd.cells_length hc.ok.len)
     clear hc
     have hS2:=(show y2.heap[bK]? =wr.heap[bK]? ∧y2.heap[go]? =wr.heap[go]? from ⟨(HO.out.block _ (Nat.lt_of_lt_of_le HLK.out BY.out.size) NQ.out).trans (BY.out.block _ HLK.out),(HO.out.block _ (Nat.lt_of_lt_of_le HLG.out BY.out.size) HGQ.out).trans (BY.out.block _ HLG.out)⟩)
     try go_wp2_with fail
     refine hK.out _ _ hS2 (fun hHeld=>?_)
     clear hK K
     try simp only [Act.put,yA,yB,yC]
     refine tK 11 ?_
     refine tK 12 ?_
     refine tK 13 ?_
     refine rY [15] ?_
     refine rC (fun K hK=>?_) AllReadyH.nil
     refine wp_store_row 34 (.tmp 11) (.tmp 53) (by rfl) bX kd'.cells.toArray (by rfl) (by rfl) _ _ HGX.out (by rw [List.size_toArray,HL2.out];exact SKd) (by simp only [List.size_toArray,HL2.out,kd0_size]) (all_oneCell_toArray Kd.one) ?_
     have hS4:=(show (y2.setRow bX kd'.cells.toArray).heap[bK]? =wr.heap[bK]? ∧(y2.setRow bX kd'.cells.toArray).heap[go]? =wr.heap[go]? from ⟨((only_setRow y2 _ _).block _ (Nat.lt_of_lt_of_le HLK.out (Nat.le_trans BY.out.size HO.out.size)) (by have:=HLK.out;have:=HBX.out;omega)).trans hS2.1,((only_setRow y2 _ _).block _ (Nat.lt_of_lt_of_le HLG.out (Nat.le_trans BY.out.size HO.out.size)) (by have:=HLG.out;have:=HBX.out;omega)).trans hS2.2⟩)
     refine hK.out _ _ hS4 (fun hHeld=>?_)
     clear hK K
     try simp only [Act.put,yA,yB,yC]
     refine tK 16 ?_
     refine wpAnyH_done (by kernel_rfl) ?_ _
     go_wp2_with fail
     go_meet
     exact ⟨bX,kd',err,Q',s',rfl,rfl,HG.out⟩
   case rest=>
    obtain ⟨bX,kd',err,Q',s',rfl,rfl,hg⟩:=hcut
    have HG:=yH hg
    have RX:=yH (range_kd hg.rowX)
    have HLX:=yH hg.len
    have HFW:=yH hg.few
    clear hg C0 C1 HRO
    by_cases he:err=0
    ·subst he
     have HCP:=yH ((HG.out.new rfl).copy HBK.out HG.out.nq HG.out.far HG.out.rowK)
     have HROW:=yH HG.out.rowK
     go_wp2_with (first
      | (refine wpList_load_mid (by rfl) 34 _ (by rfl) bX 0 (by rfl) kd'.cells du RX.out HDU.out HDR.out (by rw [HLX.out];exact SKd) ?_)
      | (refine wpList_store_row (by rfl) 34 (.tmp 9) (.tmp 57) (by rfl) bK kd'.cells.toArray (by rfl) (by rfl) _ _ HROW.out (by rw [List.size_toArray,HLX.out];exact SKd) (by simp only [List.size_toArray,HLX.out,HCL.out]) (all_oneCell_toArray Kd.one) ?_))
     go_roundw
     case rel=>exact ⟨k+1,kd',Q',s',_,by omega,by omega,by go_num,HCP.out.1,HCP.out.2,HG.out.nq,HG.out.far,by have:=HG.out.size;have:=SZ.out;omega,by have:=HFW.out;have:=SZ.out;have:=FEW.out;omega⟩
     case measure=>simp [intOf];omega
    ·have e1:(err==0)=false:=by simpa using he
     go_wp2_with fail
     go_roundw
     case rel=>exact ⟨k+1,kd,Q',s',t,by omega,by omega,by go_num,HG.out.old,HG.out.rowK,HG.out.nq,FAR.out,by have:=SZ.out;omega,by have:=HFW.out;have:=SZ.out;have:=FEW.out;omega⟩
     case measure=>simp [intOf];omega
  ·have HNLT:=yH hlt
   clear hlt
   go_upto_region 7 with fail
   go_cut [38] from 31 to 38 (fun s38 wx=>s38= .bool false∧wx=wr)
   case first=>
    by_cases h1:k<n
    ·have l1:(k:Int)<n:=by omega
     have l2:¬(k:Int)<20:=by have:=HNLT.out;omega
     go_wp2_with fail
     go_meet
     exact ⟨rfl,rfl⟩
    ·have l1:¬(k:Int)<n:=by omega
     go_wp2_with fail
     go_meet
     exact ⟨rfl,rfl⟩
   case rest=>
    obtain ⟨rfl,hww⟩:=hcut
    rw [hww]
    clear hww HNLT HA
    have hrw:=rows_chg (by have:=HD.out;omega) KP.out (by have:=SZ.out;omega)
    have HRW:=yH hrw
    have RK1:=yH (range_kd RK.out)
    clear hrw
    go_upto_region 13 with (first
     | (refine wpList_load_mid (by rfl) 34 _ (by rfl) bK 0 (by rfl) kd.cells du RK1.out HDU.out HDR.out (by rw [HCL.out];exact SKd) ?_)
     | (go_at_call 23;refine HRW.out.mono ?_;rintro _ w4 ⟨q,f,M,err,rfl,hM,hMb,hMc,hMl,hb4⟩;have HM:=yH hM;have HMB:=yH hMb;have HMC:=yH hMc;have HML:=yH hMl;have HB4:=yH hb4;clear hM hMb hMc hMl hb4))
    obtain ⟨nM,hnM⟩:∃x,x=M.length:=⟨_,rfl⟩
    have HNM:=yH hnM
    rw [← hnM]
    clear hnM HRW RK1
    have KP4:=yH (KP.out.later HB4.out)
    have RK4:=yH ((HB4.out.block _ (yL RK.out)).trans RK.out)
    have RR4:=yH (range_kd RK4.out)
    have HKL:=yH (yL RK.out)
    have HQL:=yH (show ∀k,Q k→k<wr.heap.size from KP.out.st.lt)
    clear KP RK
    go_upto_region 14 with (first
     | (refine wpList_load_mid (by rfl) 34 _ (by rfl) bK 0 (by rfl) kd.cells du RR4.out HDU.out HDR.out (by rw [HCL.out];exact SKd) ?_)
     | (refine wpList_store_row (by rfl) 34 (.tmp 15) (.tmp 65) (by rfl) w4.heap.size kd.cells.toArray (by rfl) (by rfl) _ _ (heap_alloc_new w4 _) (by rw [List.size_toArray,HCL.out];exact SKd) (by simp only [List.size_toArray,HCL.out,kd0_size]) (all_oneCell_toArray Kd.one) ?_;rw [setRow_alloc]))
    obtain ⟨bM,hbM⟩:∃b,b=w4.heap.size:=⟨_,rfl⟩
    have hb5:Below w4.heap.size w4 (w4.alloc (.cells kd.cells.toArray 34)):=(Below.refl _ _).alloc (Nat.le_refl _) _
    have hr5:=heap_alloc_new w4 (.cells kd.cells.toArray 34)
    generalize w4.alloc (.cells kd.cells.toArray 34)=w5 at *
    rw [← hbM] at hr5 ⊢
    have HST:=yH (show K2 w w5 g d bK bM kd t q f M kd Q s t from by
     have h1:=HKL.out
     have h2:=HB4.out.size
     have hfd:∀r∈kd.rows,∀x,r.p=some x→r.R≠[]→x.block≠bM:=fun r hr x hx hR=>by
      have:=rw_lt (kd_rows_ok KP4.out.ok r hr) x hx hR
      omega
     exact ⟨KP4.out.later hb5,KP4.out.later hb5,(hb5.block _ (yL RK4.out)).trans RK4.out,hr5,by omega,NQ.out,fun e=>by have:=HQL.out _ e;omega,hfd,hfd,HM.out.later hb5,fun b hb=>⟨fun e=>by have:=HQL.out _ e;have:=HMB.out b hb;omega,by have:=rows_lt HM.out hb;omega⟩⟩)
    have HBM:=yH (show w.heap.size≤bM from by rw [hbM];exact KP4.out.low.size)
    clear hb5 hr5 hbM KP4 RK4 RR4 HM HMB HB4 HKL HQL NQ
    go_upto_region 15 with fail
    go_loopw [16,17,18,19,20] (fun v16 v17 _ _ _ wr=>K2R w g d bK bM kd t q f M s m v16 v17 wr) (fun _ v17 _ _ _ _=>20 - (intOf v17).toNat)
    case atStart=>exact ⟨0,true,kd,Q,s,t,by omega,Nat.zero_le _,rfl,rfl,HST.out,fun _=>rfl,fun h=>h,by have:=SZ.out;omega,by have:=FEW.out;omega⟩
    case round=>
     obtain ⟨j,G,km,Q1,s1,tm,hj20,hjm,rfl,rfl,hst,hG,hs0,hsz,hfew⟩:=hrel
     have ST:=yH hst
     have HGD:=yH hG
     have HS0:=yH hs0
     have SZ1:=yH hsz
     have FEW1:=yH hfew
     have HCM:=yH (Kd.cells_length hst.now.ok.len)
     clear hst hG hs0 hsz hfew HST FEW
     by_cases hlt:j<m∧j<20
     ·obtain ⟨hlt1,hlt2⟩:=hlt
      have l1:(j:Int)<m:=by omega
      have l2:(j:Int)<20:=by omega
      have i1:(0:Int)≤j∧(j:Int)<m:=by omega
      obtain ⟨go,oo,rfl,-,hc1,-,hro⟩:=HB.out.get j hlt1
      obtain ⟨y,hy⟩:∃y,y=(B.getD j default).row:=⟨_,rfl⟩
      rw [← hy] at hc1 hro
      have c1:=(ST.out.old.low.cell (block_lt_of_cell hc1)).trans hc1
      have HRO:=yH (hro.later ST.out.old.low)
      clear hc1 hro hy
      obtain ⟨yp,yn,yc,yR⟩:=y
      unfold Rw.val at c1
      simp only at c1
      have HFIT:=yH (show Calls Tryz.prog 14 #[.slice yp yn yc,.int .i64 d] wr (FitPost wr yR d) from fit_any yp yn yc yR d wr HRO.out.ints HRO.out.top (by have:=HD.out;omega))
      clear HRO
      go_upto_region 18 with (go_at_call 14;refine HFIT.out.mono ?_;rintro _ y1 ⟨⟨rp,rn,rc,rR⟩,rfl,hrR,hrn,hfr,hb⟩;have HR:=yH (show (⟨rp,rn,rc,rR⟩:Rw).Ok y1∧rn=d∧rR=fitP yR d∧∀y,rp=some y→rR≠[]→wr.heap.size≤y.block from ⟨hfr.ok,hrn,hrR,fun y hy hR=>hfr.lo y hy hR⟩);have BY:=yH hb;unfold Rw.val;simp only;clear hrR hrn hfr hb)
      clear c1 HFIT
      have ST1:=yH (ST.out.later BY.out)
      have RM1:=yH (range_kd ST1.out.rowM)
      have HQL:=yH (show ∀k,Q1 k→k<wr.heap.size from ST.out.old.st.lt)
      have hrl:rR.length=d:=by
       have h1:rn=rR.length:=HR.out.1.ints.size
       have h2:rn=d:=HR.out.2.1
       omega
      have HRL:=yH hrl
      clear hrl
      have HDEL:=yH (show Calls Tryz.prog 17 #[.pointer (some ⟨g,0,none⟩),.agg km.cells.toArray,.slice rp rn rc,.int .i64 d] y1 _ from del_chg (by have:=HD.out;omega) ST1.out.now.fk tm km ⟨rp,rn,rc,rR⟩ y1 ST1.out.now.st ST1.out.now.tr ST1.out.now.ok HR.out.1 HR.out.2.1 (by have:=SZ1.out;omega) ST1.out.now.aw (fun y hy hR e=>by have:=HQL.out _ e;have:=HR.out.2.2.2 y hy hR;omega) (by have:=FEW1.out;omega))
      go_upto_region 19 with (first
       | (refine wpList_load_mid (by rfl) 34 _ (by rfl) bM 0 (by rfl) km.cells du RM1.out HDU.out HDR.out (by rw [HCM.out];exact SKd) ?_)
       | (go_at_call 17;refine HDEL.out.mono ?_;rintro _ y2 ⟨kx,err1,Q2,s2,rfl,hc⟩;have HC:=yH hc;have HCX:=yH (Kd.cells_length hc.ok.len);clear hc)
       | (refine wpList_store_row (by rfl) 34 (.tmp 19) (.tmp 89) (by rfl) y2.heap.size kx.cells.toArray (by rfl) (by rfl) _ _ (heap_alloc_new y2 _) (by rw [List.size_toArray,HCX.out];exact SKd) (by simp only [List.size_toArray,HCX.out,kd0_size]) (all_oneCell_toArray Kd.one) ?_;rw [setRow_alloc]))
      clear HDEL RM1
      obtain ⟨h2,tx,htx⟩:=ST1.out.chg HC.out
      have hb3:Below y2.heap.size y2 (y2.alloc (.cells kx.cells.toArray 34)):=(Below.refl _ _).alloc (Nat.le_refl _) _
      have hr3:=heap_alloc_new y2 (.cells kx.cells.toArray 34)
      have hs3:(y2.alloc (.cells kx.cells.toArray 34)).heap.size=y2.heap.size+1:=by simp
      obtain ⟨bX,hbX⟩:∃b,b=y2.heap.size:=⟨_,rfl⟩
      have HFR:=yH (h2.fresh (b:=bX) (by omega))
      have HXX:=yH (show ∀r∈kx.rows,∀x,r.p=some x→r.R≠[]→x.block≠bM from fun r hr x hx hR=>by
       have:=HC.out.fsh r hr x hx hR
       have:=(yL ST1.out.rowM)
       omega)
      have ST3:=yH (h2.later hb3)
      have HX3:=yH (htx.later hb3)
      generalize y2.alloc (.cells kx.cells.toArray 34)=y3 at *
      rw [← hbX] at hr3 ⊢
      have RX3:=yH hr3
      have HSB:=yH (show bX<y3.heap.size by omega)
      have HM3:=yH (yL ST3.out.rowM)
      have HR3:=yH (show (⟨rp,rn,rc,rR⟩:Rw).Ok y3 from (Nd.rw_keep HR.out.1 fun y hy hR=>HC.out.only.block _ (rw_lt HR.out.1 y hy hR) (fun e=>by have:=HQL.out _ e;have:=HR.out.2.2.2 y hy hR;omega)).later hb3)
      clear h2 htx hb3 hr3 hs3 hbX
      go_upto_if 92 with fail
      go_cut [20] from 92 to 100 (fun v20 wx=>X2 w g d bK bM bX kd t q f M km s1 tm v20 wx)
      case first=>
       by_cases he:err1=0
       ·subst he
        have HEL:=yH HC.out.elder
        have HSZ:=yH HC.out.size
        have HFW:=yH HC.out.few
        go_wp2_with fail
        go_meet
        refine ⟨kx,tx,Q2,s2,0,rfl,ST3.out,HX3.out,RX3.out,fun e=>⟨rfl,?_⟩,HSZ.out,by have:=HFW.out;have:=(kid_zero ST1.out.now.tr.new.right).1;omega,HXX.out,HCX.out⟩
        obtain ⟨P,hP⟩:=HEL.out
        rw [hP] at e
        exact clean_back e
       ·have e1:(err1 !=0)=true:=by simpa using he
        have hsay:=HC.out.says.resolve_left (fun h=>he h.1)
        obtain ⟨-,hk0,hs2,hcl⟩:=hsay
        subst hk0 hs2
        have HCL0:=yH hcl
        have RM3:=yH (range_kd ST3.out.rowM)
        have HINS:=yH (show Calls Tryz.prog 15 #[.pointer (some ⟨g,0,none⟩),.agg km.cells.toArray,.slice rp rn rc,.int .i64 d] y3 _ from ins_chg (by have:=HD.out;omega) ST3.out.now.fk tm km ⟨rp,rn,rc,rR⟩ y3 ST3.out.now.st ST3.out.now.tr ST3.out.now.ok HR3.out HR.out.2.1 (by have:=SZ1.out;omega) ST3.out.now.aw (fun y hy hR e=>(HC.out.own _ e).elim (fun e=>by have:=HQL.out _ e;have:=HR.out.2.2.2 y hy hR;omega) (fun e=>by have:=rw_lt HR.out.1 y hy hR;omega)) (by have:=FEW1.out;omega))
        have HNX:=yH (show ¬Q2 bX from HFR.out.2.1)
        clear he hcl
        go_wp2_with (first
         | (refine wpList_load_mid (by rfl) 34 _ (by rfl) bM 0 (by rfl) km.cells du RM3.out HDU.out HDR.out (by rw [HCM.out];exact SKd) ?_)
         | (go_at_call 15;refine HINS.out.mono ?_;rintro _ y4 ⟨kz,err2,Q4,s4,rfl,hc4⟩;have HC4:=yH hc4;have HCZ:=yH (Kd.cells_length hc4.ok.len);have RX4:=yH ((hc4.only.block _ HSB.out HNX.out).trans RX3.out);clear hc4)
         | (refine wpList_store_row (by rfl) 34 (.tmp 19) (.tmp 99) (by rfl) bX kz.cells.toArray (by rfl) (by rfl) _ _ RX4.out (by rw [List.size_toArray,HCZ.out];exact SKd) (by simp only [List.size_toArray,HCZ.out,kd0_size]) (all_oneCell_toArray Kd.one) ?_))
        go_meet
        obtain ⟨h4,tz,htz⟩:=ST3.out.chg HC4.out
        have hq4:¬Q4 bX:=fun e=>(HC4.out.own _ e).elim HNX.out (fun e=>by have:=HSB.out;omega)
        have hzr:∀r∈kz.rows,∀x,r.p=some x→r.R≠[]→y3.heap.size≤x.block:=fun r hr x hx hR=>HC4.out.fsh r hr x hx hR
        refine ⟨kz,tz,Q4,s4,err2,rfl,h4.set HFR.out.1 hq4 HFR.out.2.2.1 HFR.out.2.2.2.1 HFR.out.2.2.2.2.1 HFR.out.2.2.2.2.2.1 HFR.out.2.2.2.2.2.2 _,htz.set HFR.out.1 hq4 (fun r hr x hx hR=>by have:=hzr r hr x hx hR;have:=HSB.out;omega) _,setRow_heap _ _ _ _ _ _ RX4.out,fun e=>?_,HC4.out.size,by have:=HC4.out.few;have:=(kid_zero ST1.out.now.tr.new.right).1;omega,fun r hr x hx hR=>by have:=hzr r hr x hx hR;have:=HM3.out;omega,HCZ.out⟩
        obtain ⟨P,hP⟩:=HC4.out.elder
        have e2:s2.cl=none:=clean_back (hP▸e)
        refine ⟨?_,e2⟩
        obtain ⟨-,hr1⟩:=HCL0.out e2
        obtain ⟨k1,k2,k3⟩:=ST1.out.now.tr.clean e2
        have hz:=fine_size k1 k2 (by have:=SZ1.out;omega)
        have hir:=ins_rem k3.dims HRL.out (show tm.size<900000 by omega)
        rcases HC4.out.says with ⟨h,-⟩ | ⟨-,-,-,h⟩
        ·exact h
        ·have h1:=(h e2).2
         have hr1:(removeT tm rR 0).2=false:=hr1
         have h1:(insertT tm rR 0).2=false:=h1
         rw [hr1,h1] at hir
         cases hir
      case rest=>
       obtain ⟨kz,tz,Q4,s4,fe,rfl,h4,htz,hrx,hcl,hsz4,hfw4,hfar4,hlen4⟩:=hcut
       obtain ⟨y5,hy5⟩:∃x,x=wc:=⟨_,rfl⟩
       rw [← hy5] at h4 htz hrx ⊢
       clear hy5
       have ST5:=yH h4
       have HX5:=yH htz
       have RX5:=yH hrx
       have HCL5:=yH hcl
       have HSZ5:=yH hsz4
       have HFW5:=yH hfw4
       have HFAR5:=yH hfar4
       have HLN5:=yH hlen4
       have hk:=kat_row hrx htz.ok.len
       have hn:=htz.tr.new.right
       have hb1:=kid_zero hn
       have hb2:=kid_le hn
       have hb3:=(kid_split hn).1
       have hsv:kz.pk.size=kz.size:=rfl
       have hlv:kz.pk.live=kz.live:=rfl
       rw [hsv] at hb1 hb2
       rw [hlv] at hb2 hb3
       have hhalf:s4.cl=none→kz.size≤2*kz.live:=fun e=>htz.tr.half e (by rw [hsv];have:=SZ1.out;have h:=hsz4;rw [hsv] at h;omega)
       have HHALF:=yH hhalf
       have q1:IntKind.i64.wrap (2*kz.live)=2*kz.live:=by rw [IntWalk.i64_in _ (by omega)]
       have c2:=hk.live
       have c3:=hk.size
       rw [Nat.zero_add] at c2 c3
       clear h4 htz hrx hcl hsz4 hfw4 hfar4 hlen4 hk hn hb1 hb2 hb3 hsv hlv hhalf HC HFR HXX ST3 HX3 RX3 HSB HM3 HR3 ST1 HR BY HRL HCX HQL
       go_upto_region 21 with fail
       go_cut [16] from 101 to 113 (fun v16 wx=>∃G':Bool,v16= .bool G'∧(s4.cl=none→G'=true)∧wx=y5)
       case first=>
        cases G with
        | false=>
         go_wp2_with fail
         go_meet
         exact ⟨false,rfl,fun e=>HGD.out (HCL5.out e).2,rfl⟩
        | true=>
         by_cases hf:fe=0
         ·subst hf
          by_cases hh:2*kz.live≥kz.size
          ·go_wp2_with fail
           go_meet
           exact ⟨true,rfl,fun _=>rfl,rfl⟩
          ·go_wp2_with fail
           go_meet
           exact ⟨false,rfl,fun e=>absurd (HHALF.out e) (by omega),rfl⟩
         ·have e1:(fe==0)=false:=by simpa using hf
          go_wp2_with fail
          go_meet
          exact ⟨false,rfl,fun e=>absurd (HCL5.out e).1 hf,rfl⟩
       case rest=>
        obtain ⟨G',rfl,hG',hww⟩:=hcut
        rw [hww]
        have HG2:=yH hG'
        have RRX5:=yH (range_kd RX5.out)
        have HROWM:=yH ST5.out.rowM
        clear hww hG' c2 c3 q1
        go_wp2_with (first
         | (refine wpList_load_mid (by rfl) 34 _ (by rfl) bX 0 (by rfl) kz.cells du RRX5.out HDU.out HDR.out (by rw [HLN5.out];exact SKd) ?_)
         | (refine wpList_store_row (by rfl) 34 (.tmp 15) (.tmp 114) (by rfl) bM kz.cells.toArray (by rfl) (by rfl) _ _ HROWM.out (by rw [List.size_toArray,HLN5.out];exact SKd) (by simp only [List.size_toArray,HLN5.out,HCM.out]) (all_oneCell_toArray Kd.one) ?_))
        go_roundw
        case rel=>exact ⟨j+1,G',kz,Q4,s4,tz,by omega,by omega,rfl,by go_num,ST5.out.next HX5.out HBM.out HFAR5.out,HG2.out,fun e=>HS0.out (HCL5.out e).2,by have:=HSZ5.out;have:=SZ1.out;omega,by have:=HFW5.out;have:=SZ1.out;have:=FEW1.out;omega⟩
        case measure=>simp [intOf];omega
     ·have HNLT:=yH hlt
      clear hlt
      go_upto_region 15 with fail
      go_cut [73] from 66 to 73 (fun s73 wx=>s73= .bool false∧wx=wr)
      case first=>
       by_cases h1:j<m
       ·have l1:(j:Int)<m:=by omega
        have l2:¬(j:Int)<20:=by have:=HNLT.out;omega
        go_wp2_with fail
        go_meet
        exact ⟨rfl,rfl⟩
       ·have l1:¬(j:Int)<m:=by omega
        go_wp2_with fail
        go_meet
        exact ⟨rfl,rfl⟩
      case rest=>
       obtain ⟨rfl,hww⟩:=hcut
       rw [hww]
       clear hww HNLT HB
       have hrw:=rows_chg (by have:=HD.out;omega) ST.out.old (by have:=SZ.out;omega)
       have HRW:=yH hrw
       have RK1:=yH (range_kd ST.out.rowK)
       clear hrw
       go_upto_region 24 with (first
        | (refine wpList_load_mid (by rfl) 34 _ (by rfl) bK 0 (by rfl) kd.cells du RK1.out HDU.out HDR.out (by rw [HCL.out];exact SKd) ?_)
        | (go_at_call 23;refine HRW.out.mono ?_;rintro _ z1 ⟨q9,f9,M9,err9,rfl,hM,-,hMc,hMl,hb⟩;have HM9:=yH hM;have HMC9:=yH hMc;have HML9:=yH hMl;have BZ:=yH hb;clear hM hMc hMl hb))
       obtain ⟨n9,hn9⟩:∃x,x=M9.length:=⟨_,rfl⟩
       have HN9:=yH hn9
       rw [← hn9]
       clear hn9 HRW RK1
       have STZ:=yH (ST.out.later BZ.out)
       cases hcl:s1.cl with
       | some xy=>
        obtain ⟨x,y⟩:=xy
        have HCC:=yH hcl
        clear hcl
        go_wp2_with (go_at_call 19;refine (Pg.clash_any x y STZ.out.old.st HCC.out).mono ?_;rintro _ z2 ⟨p1,n1,c1,p2,n2,c2,rfl,-,-,-,-,hb⟩;have BZ2:=yH (STZ.out.old.low.trans (hb.mono STZ.out.old.low.size));clear hb)
        go_ret
        exact ⟨rfl,BZ2.out⟩
       | none=>
        have HCC:=yH hcl
        have hg:G=true:=HGD.out hcl
        have h0:=HS0.out hcl
        obtain ⟨he1,hR1⟩:=HMC.out h0
        obtain ⟨he9,hR9⟩:=HMC9.out hcl
        subst hg he1 he9
        have HRE:=yH (show numsK M=numsK M9 from hR1.trans hR9.symm)
        clear hcl h0 hR1 hR9
        go_upto_region 27 with (go_at_call 19;refine (Pg.clash_no STZ.out.old.st HCC.out).mono ?_;rintro _ z2 ⟨p1,c1,p2,c2,rfl,hb⟩;have BZ2:=yH (STZ.out.old.low.trans (hb.mono STZ.out.old.low.size));have BZH:=yH hb;clear hb)
        have HSR:=yH (show Calls Tryz.prog 29 #[.slice q nM f,.slice q9 n9 f9] z2 _ from samerows_any q q9 nM f n9 f9 M M9 z2 (by rw [HNM.out];exact STZ.out.rows.later BZH.out) (by rw [HN9.out];exact HM9.out.later BZH.out) (by rw [HNM.out];have:=HML.out;omega))
        go_wp2_with (go_at_call 29;refine HSR.out.mono ?_;rintro _ z3 ⟨rfl,jj,hjj⟩;have BZ3:=yH (show Below w.heap.size w z3 from by rw [hjj];exact Below.drewN BZ2.out _);rw [decide_eq_true HRE.out];clear hjj)
        go_ret
        exact ⟨rfl,BZ3.out⟩
end Go.Proofs.YtinihaflmdihaaaGreat.Kt
namespace Go.Proofs.YtinihaflmdihaaaGreat
open Go.ChangeShapes Go.WideShapes Go.ChangeAt Go.RowKit Go.Deep
theorem klkeeps_lifted (os:Os) (started:os.Started) (H:Type) (enc:TypeId×Value→H):
  ReturnsInHanded {} Tryz.checked os 6 .any (Rows.kdtreeKeepsSpec.pre6 enc Tryz.prog Tryz.f6 Rows.kdtreeKeepsRow.domain false) (Rows.kdtreeKeepsSpec.post enc Tryz.prog Tryz.f6 false true false false):=by
 refine returnsInHanded_of_change (C:=Tryz.checked) gen_own started (by kernel_rfl) Tryz.func6
  (ChangeSpec.witness6 (enc:=enc) (C:=Tryz.checked) false ⟨#[],#[.int .u8 0,.slice none 0 0,.slice none 0 0],[]⟩ 8 (by kernel_rfl) (by kernel_rfl) (by kernel_rfl) (by kernel_rfl)) ?_
 intro W base args ds gs before hval0 hW _ _
 have hval:∀(j:Nat) t v,Tryz.f6.params[j]? =some t→args[j]? =some v→Value.okWide Tryz.prog W .any base t v:=hval0
 have hW':=hW
 obtain ⟨p,q,hA0,hV,rfl,_,_⟩:=hW
 have hA:DataW.TrodAll enc Tryz.prog W 0 (fun _=>true) true Tryz.f6.params.toList args.toList ds p:=hA0
 rw [Tryz.params6] at hA hval
 obtain ⟨v0,vs0,d0,ds0,p0,q0,hargs,rfl,rfl,h0,r0⟩:=trodAll_cons hA
 obtain ⟨v1,vs1,d1,ds1,p1,q1,rfl,rfl,rfl,h1,r1⟩:=trodAll_cons r0
 obtain ⟨v2,vs2,d2,ds2,p2,q2,rfl,rfl,rfl,h2,r2⟩:=trodAll_cons r1
 obtain ⟨rfl,rfl,rfl⟩:=trodAll_nil r2
 obtain rfl:args= #[v0,v1,v2]:=by cases args;simp_all
 obtain ⟨rfl,rfl⟩:=trodVars_none hV
 obtain ⟨n0,rfl,rfl,rfl,hn0⟩:=open_int Tryz.underlying5 (hval 0 5 v0 rfl rfl) h0
 obtain ⟨a1,len1,cap1,rfl⟩:=okWide_slice Tryz.underlying22 (hval 1 22 v1 rfl rfl)
 obtain ⟨a2,len2,cap2,rfl⟩:=okWide_slice Tryz.underlying22 (hval 2 22 v2 rfl rfl)
 have k0:=h0
 have k1:=h1
 have k2:=h2
 have lt1:∀x∈p1,x.block<W.heap.size:=by obtain ⟨m,hm⟩:=k1;exact DataW.trod_lt m _ _ _ hm
 have lt2:∀x∈p2,x.block<W.heap.size:=by obtain ⟨m,hm⟩:=k2;exact DataW.trod_lt m _ _ _ hm
 have bn0:=bounds_u8 hn0
 obtain ⟨m0,rfl⟩:∃m:Nat,n0=m:=⟨n0.toNat,by omega⟩
 obtain ⟨⟨L1,hL1⟩,hl1⟩:(∃L,Kt.Ops W a1 len1 cap1 L)∧len1≤9223372036854775807:=by
  obtain ⟨fuel,hf⟩:=h1
  exact Kt.open_ops hf
 obtain ⟨⟨L2,hL2⟩,hl2⟩:(∃L,Kt.Ops W a2 len2 cap2 L)∧len2≤9223372036854775807:=by
  obtain ⟨fuel,hf⟩:=h2
  exact Kt.open_ops hf
 clear hA0 hval0
 refine (Kt.keeps_any m0 (by omega) a1 a2 len1 cap1 len2 cap2 L1 L2 W hL1 hL2 hl1 hl2).mono fun e W' ⟨he,bel⟩=>?_
 subst he
 exact ⟨_,rfl,_,_,_,[],_,[],hW',trodAll_mk1 (shut_bool Tryz.underlying4 _),
  (trodAll_cons_mk (Below.trod gen_laidOut (by kernel_rfl) (of_decide_eq_true (by kernel_rfl)) k0 bel (fun x hx=>by cases hx)) (trodAll_cons_mk (Below.trod gen_laidOut (by kernel_rfl) (of_decide_eq_true (by kernel_rfl)) k1 bel lt1) (trodAll_cons_mk (Below.trod gen_laidOut (by kernel_rfl) (of_decide_eq_true (by kernel_rfl)) k2 bel lt2) trodAll_mk0))),rfl,bel.frame _,fun h=>by cases h⟩
theorem klkeeps_holds:Rows.KdtreeKeepsSaid:=
 OpenClaim.holds_of_wide 6 Tryz.f6 rfl rfl rfl rfl rfl rfl rfl ⟨rfl,rfl,rfl,rfl,rfl⟩ rfl rfl rfl rfl rfl (by kernel_rfl) Tryz.func6 (by kernel_rfl)
  (of_decide_eq_true (by kernel_rfl)) (by unfold Func.isWrapper;first | (rw [if_pos (by decide+kernel)];kernel_rfl) | (rw [if_neg (by decide+kernel)];exact ⟨rfl,rfl⟩))
  (fun os started H enc _=>klkeeps_lifted os started H enc)
end Go.Proofs.YtinihaflmdihaaaGreat
