/- KdTurn, KdNext. -/
import Derived.Test.YtinihaflmdihaaaGreatK28
set_option maxRecDepth 100000
set_option maxHeartbeats 8000000
set_option linter.all false
namespace Go.Proofs.YtinihaflmdihaaaGreat.Kt
open Go.RowKit Go.Shelf Go.Proofs.YtinihaflmdihaaaGreat.Nd Go.Proofs.YtinihaflmdihaaaGreat.Dk Go.Proofs.YtinihaflmdihaaaGreat.Pg
open List renaming setIfInBounds_toArray → yA, set_cons_zero → yB, set_cons_succ → yC
def Told (w:World) (gs B:Nat) (Q:Nat→Prop) (st:PK×Pg.S) (e:Ending) (w':World):Prop:=
 ∃kd Q',e= .returned (.agg kd.cells.toArray)∧kd.pk=st.1∧kd.Ok w'∧(∀r∈kd.rows,∀x,r.p=some x→r.R≠[]→B≤x.block)∧PL w' gs Q' st.2∧(∀k,Q' k→Q k∨B≤k)∧Aw Q' kd∧Only (fun k=>Q k∨B≤k) w w'
theorem nz:(Tryz.prog.info? 81).map (fun i=>(i.zero,i.size))=some (some (.agg #[.int .u8 0,.slice none 0 0,.slice none 0 0]),3):=by kernel_rfl
theorem USt:Tryz.prog.underlying 93=some (.slice (Tryz.prog.elem 93)):=by kernel_rfl
theorem SStE:(Tryz.prog.info? (Tryz.prog.elem 93)).map (·.size)=some 41:=by kernel_rfl
theorem op_headW {ρ:Operand→Value} {o:Oper} {w:World} {x hi:Operand} (ho:o.op= .slice 93 x none (some hi) none) {g i n c k:Nat} (hx:ρ x= .slice (some ⟨g,i,none⟩) n c) (hl:ρ hi= .int .i64 ((k:Nat):Int)) (hk:k≤c):
  (execOp ρ o).run Tryz.prog w= .ok (.value (.slice (some ⟨g,i,none⟩) k c)) w:=by
 rw [op_head ho USt 41 SStE hx hl hk]
 congr 2
 congr 1
 split<;>rfl
theorem range_at3 {w:World} {b o:Nat} {m:MSt} (h:w.rangeAt b o m.cells) (hl:m.kid.sum.length=32):w.rangeAt b (o+37) [.int .u8 1,.slice (some ⟨m.ge,0,none⟩) 1 m.ce,.slice (some ⟨m.gk,0,none⟩) 2 m.ck]:=fun j v hv=>by
 have hj:j<3:=(List.getElem?_eq_some_iff.1 hv).1
 obtain ⟨h1,h2,h3,_⟩:=mst_get m hl
 rcases j with _ | _ | _ | j
 ·cases hv;exact h 37 _ h1
 ·cases hv;exact h 38 _ h2
 ·cases hv;exact h 39 _ h3
 ·omega
theorem turn_mem {B bw:Nat} {w w5:World} {q:Option Addr} {c:Nat} {A:List MSt} {m:MSt} (h:WaySt B bw w (.slice q (A++[m]).length c) (A++[m])) (hb:Below w.heap.size w w5) (lv:Bool):
  EntsIn (w5.setCell ⟨m.ge,1,none⟩ (.bool lv)) (some ⟨m.ge,0,none⟩) 1 m.ce [⟨m.row,lv⟩]∧KidsIn (w5.setCell ⟨m.ge,1,none⟩ (.bool lv)) (some ⟨m.gk,0,none⟩) 2 m.ck [m.k1,m.k2]∧WayM B (w5.setCell ⟨m.ge,1,none⟩ (.bool lv)) A∧Only (fun k=>k=m.ge) w (w5.setCell ⟨m.ge,1,none⟩ (.bool lv))∧(∀a∈A,¬a.reads m.ge):=by
 have hm:=h.way.each m (by simp)
 have ho:Only (fun k=>k=m.ge) w5 (w5.setCell ⟨m.ge,1,none⟩ (.bool lv)):=Only.setCell (P:=fun j=>j=m.ge) w5 (a:=⟨m.ge,1,none⟩) rfl _
 have hall:Only (fun k=>k=m.ge) w (w5.setCell ⟨m.ge,1,none⟩ (.bool lv)):=(Only.of_below _ hb).trans ho
 have hk:∀k,k<w.heap.size→k≠m.ge→(w5.setCell ⟨m.ge,1,none⟩ (.bool lv)).heap[k]? =w.heap[k]? :=fun k h1 h2=>hall.block k h1 h2
 have hlt:=stM_lt hm
 have hpart:∀a∈A,¬a.reads m.ge:=fun a ha=>((List.pairwise_append.1 h.way.part).2.2 a ha m (by simp)).1.1
 have hrow:∀r∈m.rows,r.Ok w→r.Ok (w5.setCell ⟨m.ge,1,none⟩ (.bool lv)):=fun r hr hok=>Nd.rw_keep hok (fun x hx hR=>hk _ (rw_lt hok x hx hR) (hm.apart r hr x hx hR).1)
 have hkd:∀k:Kd,k.Ok w→(∀r∈k.rows,r∈m.rows)→k.Ok (w5.setCell ⟨m.ge,1,none⟩ (.bool lv)):=fun k hok hs=>⟨hok.len,hok.ok,hrow _ (hs _ (by simp [Kd.rows])) hok.lo,hrow _ (hs _ (by simp [Kd.rows])) hok.hi,hrow _ (hs _ (by simp [Kd.rows])) hok.key,hok.live,hok.size⟩
 have hgk:=hk m.gk hlt.2 (fun e=>hm.ne e.symm)
 refine ⟨?_,?_,?_,hall,hpart⟩
 ·refine ⟨rfl,hm.caps.1,by decide,fun e he=>by rw [List.mem_singleton.1 he];exact hrow _ (by simp [MSt.rows]) hm.row,Or.inr ⟨m.ge,0,rfl,fun i hi=>?_⟩⟩
  obtain rfl:i=0:=by simp at hi;exact hi
  have e0:=hm.ent 0 _ rfl
  have e1:=hm.ent 1 _ rfl
  refine ⟨?_,?_⟩
  ·show (w5.setCell ⟨m.ge,1,none⟩ (.bool lv)).cell? ⟨m.ge,0,none⟩=_
   rw [World.cell?_setCell_other w5 ⟨m.ge,1,none⟩ ⟨m.ge,0,none⟩ _ (by simp)]
   exact (hb.cell (p:=⟨m.ge,0,none⟩) hlt.1).trans (by simpa using e0)
  ·show (w5.setCell ⟨m.ge,1,none⟩ (.bool lv)).cell? ⟨m.ge,1,none⟩=_
   exact World.cell?_setCell_same w5 ⟨m.ge,1,none⟩ _ ((hb.cell (p:=⟨m.ge,1,none⟩) hlt.1).trans (by simpa using e1))
 ·refine ⟨rfl,hm.caps.2,by decide,fun e he=>?_,Or.inr ⟨m.gk,0,rfl,fun i hi=>?_⟩⟩
  ·simp only [List.mem_cons,List.not_mem_nil,or_false] at he
   rcases he with rfl | rfl
   ·exact hkd _ hm.k1 (fun r h1=>by simp [MSt.rows,h1])
   ·exact hkd _ hm.k2 (fun r h1=>by simp [MSt.rows,h1])
  ·have hi:i<2:=hi
   rcases i with _ | _ | i
   ·exact range_keep hm.kid1 hgk
   ·exact range_keep hm.kid2 hgk
   ·omega
 ·exact ⟨fun a ha=>(h.way.each a (by simp [ha])).keep fun k hkk=>hk k ((h.way.each a (by simp [ha])).lt k hkk) (fun e=>hpart a ha (e▸hkk)),fun a ha=>h.way.new a (by simp [ha]),(List.pairwise_append.1 h.way.part).1⟩
theorem s_put_ne (s:Pg.S) (b:List Nat):(s.put b).W≠[]:=by
 show putW s.W b≠[]
 unfold putW
 split
 ·intro e
  rename_i h
  rw [e] at h
  cases h
 ·simp
theorem kturn_any {B bw gs d Z:Nat} {w:World} {q:Option Addr} {c:Nat} {A:List MSt} {m:MSt} {Q:Nat→Prop} {s0:Pg.S} (hd:1≤d∧d≤8) (h:WaySt B bw w (.slice q (A++[m]).length c) (A++[m])) (hB:B≤w.heap.size) (hQB:∀k,Q k→k<B) (hfq:∀x∈A++[m],∀j,x.reads j→¬Q j) (hp:PL w gs Q s0) (hsl:s0.W.length+A.length≤80000) (hA:A.length≤999)
  (hgm:∀x∈A++[m],GoodM d Z x) (hz:A.length*(Z+1)+2*Z+1≤1048576) (lv:Bool):
  Calls Tryz.prog 56 #[.agg #[.pointer (some ⟨gs,0,none⟩),.int .i64 d],.slice q (A++[m]).length c,.bool lv] w (Told w gs B Q (foldR A (forkN m.row.R lv m.k1.pk m.k2.pk).says (s0.put (forkN m.row.R lv m.k1.pk m.k2.pk).bytes) (List.range A.length))):=by
 obtain ⟨g,rfl,hc,hx⟩:=way_range h (by simp)
 have hm:=h.way.each m (by simp)
 have hlen:(A++[m]).length=A.length+1:=by simp
 have hrm:=hx A.length (by simp)
 have hgd:(A++[m]).getD A.length default=m:=by simp
 rw [hgd] at hrm
 have HR3:=yH (range_at3 hrm hm.kid.len)
 have HGB:=yH (show B≤g∧g<w.heap.size from h.own.lt g rfl)
 have HAS:=yH (show ∀x∈A++[m],∀k,x.reads k→k≠g from fun x hx k hk e=>(h.aside x hx k hk).2 (by rw [e];rfl))
 have HXR:=yH (show ∀i,i<A.length→w.rangeAt g (i*41) (A.getD i default).cells from fun i hi=>by
  have:=hx i (by simp;omega)
  rw [show (A++[m]).getD i default=A.getD i default from by simp [List.getElem?_append_left hi]] at this
  exact this)
 obtain ⟨W,hW,r0,r1,b1⟩:=two_alloc w (.cells #[.pointer (some ⟨gs,0,none⟩),.int .i64 d] 91) (.cells kd0.cells.toArray 34)
 have HTM:=yH (fun (w5:World) (hb:Below w.heap.size w w5)=>turn_mem h hb lv)
 have hgmm:=hgm m (by simp)
 have hN1:(forkN m.row.R lv m.k1.pk m.k2.pk).right d=true:=fork_right hd hgmm.row hgmm.k1.right hgmm.k2.right hgmm.k1.key hgmm.k2.key
 have hN2:=fork_size m.row.R lv m.k1.pk m.k2.pk
 have hzz1:=hgmm.z1
 have hzz2:=hgmm.z2
 have hz1:=hgmm.k1.zero
 have hz2:=hgmm.k2.zero
 have hN3:(forkN m.row.R lv m.k1.pk m.k2.pk).size≤2*(Z:Int)+1:=by omega
 have HGK:=yH (show GoodK d (forkN m.row.R lv m.k1.pk m.k2.pk).says from ⟨says_right hN1 (by omega) (by omega),rfl,by show 0≤(forkN m.row.R lv m.k1.pk m.k2.pk).size;omega⟩)
 have HZK:=yH (show (forkN m.row.R lv m.k1.pk m.k2.pk).says.size+((A.length*(Z+1):Nat):Int)≤1048576 by
  show (forkN m.row.R lv m.k1.pk m.k2.pk).size+_≤_
  omega)
 have HNG:=yH (show (forkN m.row.R lv m.k1.pk m.k2.pk).right d=true∧(forkN m.row.R lv m.k1.pk m.k2.pk).size≤1048576 from ⟨hN1,by omega⟩)
 have HPN:=yH (show pnOf 1 [⟨m.row,lv⟩] [m.k1,m.k2]=forkN m.row.R lv m.k1.pk m.k2.pk from rfl)
 have HGM:=yH (show ∀x∈A,GoodM d Z x from fun x hx=>hgm x (by simp [hx]))
 have HFQ:=yH hfq
 have HNEW:=yH (show B≤m.ge∧B≤m.gk from h.way.new m (by simp))
 have HNA:=yH (show ∀a∈A,B≤a.ge∧B≤a.gk from fun a ha=>h.way.new a (by simp [ha]))
 have HLT:=yH (stM_lt hm)
 have HLTA:=yH (show ∀a∈A,a.gk<w.heap.size from fun a ha=>(stM_lt (h.way.each a (by simp [ha]))).2)
 have HQB:=yH hQB
 have HBB:=yH hB
 have HPL:=yH hp
 have HSL:=yH hsl
 have HDD:=yH hd
 have HA:=yH hA
 have ece:w.cell? ⟨m.ge,1,none⟩=some (.bool m.live):=by have:=hm.ent 1 _ rfl;simpa using this
 have ECE:=yH ece
 have EFE:=yH (show w.frozen? ⟨m.ge,1,none⟩=false from by have:=(hm.entT 1 (by decide)).2;simpa using this)
 have hce:=hm.caps.1
 rw [hlen] at hc ⊢
 have HCC:=yH hc
 have R0:=yH r0
 have R1:=yH r1
 have B1:=yH b1
 obtain ⟨n,hn⟩:∃n,n=A.length:=⟨_,rfl⟩
 have HN:=yH hn
 rw [← hn] at hc ⊢
 have hn1:n≤999:=by omega
 have q1:IntKind.i64.wrap (((n+1:Nat):Int) - 1)=(n:Int):=by rw [IntWalk.i64_in _ (by omega)];omega
 have q0:IntKind.i64.wrap (n:Int)=(n:Int):=IntWalk.i64_in _ (by omega)
 have i1:(0:Int)≤n∧(n:Int)<(n:Int)+1:=by omega
 have hnc:n≤c:=by omega
 obtain ⟨du,hdu,hdr⟩:=UTr
 obtain ⟨dk,hdk,hdkr⟩:=UKd
 obtain ⟨dn,hdn,hdnr⟩:=UNo
 have HDU:=yH hdu
 have HDR:=yH hdr
 have HDK:=yH hdk
 have HDKR:=yH hdkr
 have HDN:=yH hdn
 have HDNR:=yH hdnr
 have HZ2:=yH (zero_of_info kz)
 have HZ3:=yH (zero_of_info nz)
 have hz2':=HZ2.out.1
 have hz3':=HZ3.out.1
 clear hn h hB hQB hfq hp hsl hA hgm hz hd hx hm hlen hrm hgd hgmm hN1 hN2 hN3 hzz1 hzz2 hz1 hz2 r0 r1 b1 ece hdu hdr hdk hdkr hdn hdnr
 go_enter Tryz.func56,Tryz.ntmps56
 go_upto_region 1 with fail
 clear hW
 refine wp_region_held_drew (S:=fun w'=>Below W.heap.size W w') (by kernel_rfl) ((Below.refl _ _).drew) (fun hHeld=>?_)
 have HX0:=yH hHeld
 generalize W.drew=x0 at *
 refine tK 0 ?_
 refine tK 1 ?_
 refine tK 2 ?_
 refine tK 3 ?_
 refine tQ 4 ?_ ?_ ?_
 rotate_left
 ·intro w' hSw
  refine Eq.trans (b:=Result.ok (Next.value (.slice (some ⟨g,0,none⟩) n c)) w') ?_ ?_
  ·exact op_headW (x:=.tmp 9) (hi:=.tmp 12) (n:=n+1) (c:=c) (k:=n) (g:=g) (i:=0) (by rfl) (by rfl) (by rfl) hnc
  ·with_reducible rfl
 refine tK 5 ?_
 refine tK 6 ?_
 refine tK 7 ?_
 refine tK 8 ?_
 refine tK 9 ?_
 refine tK 10 ?_
 refine tQ 11 ?_ ?_ ?_
 rotate_left
 ·intro w' hSw
  refine Eq.trans (b:=Result.ok (Next.value (.agg #[.int .u8 1,.slice (some ⟨m.ge,0,none⟩) 1 m.ce,.slice (some ⟨m.gk,0,none⟩) 2 m.ck])) w') ?_ ?_
  ·exact op_load_mid 81 (.tmp 19) (by rfl) g (n*41+37) (by rfl) [.int .u8 1,.slice (some ⟨m.ge,0,none⟩) 1 m.ce,.slice (some ⟨m.gk,0,none⟩) 2 m.ck] dn (range_later (by rw [HN.out];exact HR3.out) (B1.out.trans (hSw.mono B1.out.size))) HDN.out HDNR.out SNo
  ·with_reducible rfl
 refine rY [12] ?_
 refine rC (fun K hK=>?_) AllReadyH.nil
 go_simp
 have b5:Below x0.heap.size x0 (x0.alloc (.cells #[.int .u8 0,.slice none 0 0,.slice none 0 0] 81)):=(Below.refl _ _).alloc (Nat.le_refl _) _
 have RZ:=yH (heap_alloc_new x0 (.cells #[.int .u8 0,.slice none 0 0,.slice none 0 0] 81))
 have hH5:=hHeld.trans (b5.mono hHeld.size)
 try go_wp2_with fail
 refine hK.out _ _ hH5 (fun hHeld=>?_)
 clear hK K
 try simp only [Act.put,yA,yB,yC]
 refine tK 13 ?_
 refine rY [14] ?_
 refine rC (fun K hK=>?_) AllReadyH.nil
 refine wp_store_row 81 (.tmp 8) (.tmp 20) (by rfl) x0.heap.size #[.int .u8 1,.slice (some ⟨m.ge,0,none⟩) 1 m.ce,.slice (some ⟨m.gk,0,none⟩) 2 m.ck] (by rfl) (by rfl) _ _ RZ.out SNo rfl (nd3_one _ _ _ _ _ _ _) ?_
 rw [setRow_alloc]
 have hH6:Below W.heap.size W (x0.alloc (.cells #[.int .u8 1,.slice (some ⟨m.ge,0,none⟩) 1 m.ce,.slice (some ⟨m.gk,0,none⟩) 2 m.ck] 81)):=HX0.out.trans (((Below.refl x0.heap.size x0).alloc (Nat.le_refl _) _).mono HX0.out.size)
 refine hK.out _ _ hH6 (fun hHeld=>?_)
 clear hK K
 try simp only [Act.put,yA,yB,yC]
 refine wpAnyH_done (by kernel_rfl) ?_ _
 have HR8:=yH (heap_alloc_new x0 (.cells #[.int .u8 1,.slice (some ⟨m.ge,0,none⟩) 1 m.ce,.slice (some ⟨m.gk,0,none⟩) 2 m.ck] 81))
 have HB5:=yH hHeld
 have HX8:=yH HX0.out.size
 clear hHeld RZ
 generalize x0.alloc (.cells #[.int .u8 1,.slice (some ⟨m.ge,0,none⟩) 1 m.ce,.slice (some ⟨m.gk,0,none⟩) 2 m.ck] 81)=w5 at *
 have HBW:=yH (B1.out.trans (HB5.out.mono B1.out.size))
 have c81:=cell_of_row w5 x0.heap.size 1 _ _ _ HR8.out
 have ce1:=(HBW.out.cell (p:=⟨m.ge,1,none⟩) HLT.out.1).trans ECE.out
 have fe1:=(HBW.out.frozen (p:=⟨m.ge,1,none⟩) HLT.out.1).trans EFE.out
 go_upto_region 3 with fail
 obtain ⟨hE,hK,hwm,honly,hnr⟩:=HTM.out w5 HBW.out
 have HWM:=yH hwm
 have HE:=yH hE
 have HKI:=yH hK
 have HOY:=yH honly
 have HO5:=yH (Only.setCell (P:=fun j=>j=m.ge) w5 (a:=⟨m.ge,1,none⟩) rfl (.bool lv))
 have HSW:=yH (show w.heap.size+2≤W.heap.size from (yL R1.out))
 have HRT:=yH ((HO5.out.block _ (by have:=HB5.out.size;have:=HSW.out;omega) (by have:=HLT.out.1;omega)).trans ((HB5.out.block _ (by have:=HSW.out;omega)).trans R0.out))
 have HRK:=yH ((HO5.out.block _ (by have:=HB5.out.size;have:=HSW.out;omega) (by have:=HLT.out.1;omega)).trans ((HB5.out.block _ (by have:=HSW.out;omega)).trans R1.out))
 have HRN:=yH ((HO5.out.block _ (yL HR8.out) (by have:=HLT.out.1;have:=HX8.out;have:=HSW.out;omega)).trans HR8.out)
 have HSZ:=yH (show w5.heap.size=(w5.setCell ⟨m.ge,1,none⟩ (.bool lv)).heap.size from by simp)
 have HZ5:=yH (show x0.heap.size<w5.heap.size from (yL HR8.out))
 clear hE hK hwm honly hnr c81 ce1 fe1
 generalize w5.setCell ⟨m.ge,1,none⟩ (.bool lv)=w6 at *
 have HDB:=yH (show Below w6.heap.size w6 w6.drew from (Below.refl _ _).drew)
 obtain ⟨bs,hbs⟩:∃bs,bs=x0.heap.size:=⟨_,rfl⟩
 rw [← hbs] at HRN HX8 HZ5 ⊢
 have HO9:=yH (HOY.out.trans (Only.of_below _ HDB.out))
 have HE9:=yH (HE.out.later HDB.out)
 have HK9:=yH (HKI.out.later HDB.out)
 have HW9:=yH (HWM.out.later HDB.out)
 have HS9:=yH (show w6.drew.heap[w.heap.size]? =some (.cells #[.pointer (some ⟨gs,0,none⟩),.int .i64 d] 91 (0,0))∧w6.drew.heap[bs]? =some (.cells #[.int .u8 1,.slice (some ⟨m.ge,0,none⟩) 1 m.ce,.slice (some ⟨m.gk,0,none⟩) 2 m.ck] 81 (0,0)) from ⟨HRT.out,HRN.out⟩)
 have HB9:=yH (show w6.drew.heap[w.heap.size+1]? =some (.cells kd0.cells.toArray 34 (0,0)) from HRK.out)
 have HZ9:=yH (show w.heap.size+2≤w6.drew.heap.size∧bs<w6.drew.heap.size∧w.heap.size≤bs from by
  have h1:=HSW.out
  have h2:=HX8.out
  have h3:=HZ5.out
  have h4:=HSZ.out
  have h5:w6.drew.heap.size=w6.heap.size:=rfl
  omega)
 clear HDB HE HKI HWM HOY HO5 HRT HRK HRN hbs HR8 HB5 HBW HX0
 refine wp_region_held_drew (S:=fun w'=>w'.heap[w.heap.size]? =some (.cells #[.pointer (some ⟨gs,0,none⟩),.int .i64 d] 91 (0,0))∧w'.heap[bs]? =some (.cells #[.int .u8 1,.slice (some ⟨m.ge,0,none⟩) 1 m.ce,.slice (some ⟨m.gk,0,none⟩) 2 m.ck] 81 (0,0))) (by kernel_rfl) (HS9.out) (fun hHeld=>?_)
 generalize w6.drew=x9 at *
 have HP9:=yH (HPL.out.keep _ HO9.out (fun k hk e=>by have:=HQB.out k hk;have:=HNEW.out.1;omega))
 have HPUT:=yH (kput_any 1 (by omega) _ 1 m.ce _ 2 m.ck _ _ (d:Int) x9 HE9.out HK9.out HP9.out (by have:=HSL.out;omega) (by rw [HPN.out];exact HNG.out))
 have HNEXT:=yH (show ∀(x10:World) (kd1:Kd) (Q1:Nat→Prop),kd1.pk=(forkN m.row.R lv m.k1.pk m.k2.pk).says→kd1.Ok x10→Fsh x9 kd1→PL x10 gs Q1 (s0.put (forkN m.row.R lv m.k1.pk m.k2.pk).bytes)→(∀k,Q1 k→Q k∨x9.heap.size≤k)→Aw Q1 kd1→Only Q x9 x10→
   (x10.heap[w.heap.size]? =some (.cells #[.pointer (some ⟨gs,0,none⟩),.int .i64 d] 91 (0,0))∧x10.heap[bs]? =some (.cells #[.int .u8 1,.slice (some ⟨m.ge,0,none⟩) 1 m.ce,.slice (some ⟨m.gk,0,none⟩) 2 m.ck] 81 (0,0)))∧
   Calls Tryz.prog 58 #[.agg #[.pointer (some ⟨gs,0,none⟩),.int .i64 d],.slice (some ⟨g,0,none⟩) n c,.agg kd1.cells.toArray] x10 fun e x11=>∃kd:Kd,e= .returned (.agg kd.cells.toArray)∧kd.cells.length=37∧x11.heap[w.heap.size+1]? =some (.cells kd0.cells.toArray 34 (0,0))∧(x11.heap[w.heap.size]? =some (.cells #[.pointer (some ⟨gs,0,none⟩),.int .i64 d] 91 (0,0))∧x11.heap[bs]? =some (.cells #[.int .u8 1,.slice (some ⟨m.ge,0,none⟩) 1 m.ce,.slice (some ⟨m.gk,0,none⟩) 2 m.ck] 81 (0,0)))∧
    Told w gs B Q (foldR A (forkN m.row.R lv m.k1.pk m.k2.pk).says (s0.put (forkN m.row.R lv m.k1.pk m.k2.pk).bytes) (List.range n)) (.returned (.agg kd.cells.toArray)) (x11.setRow (w.heap.size+1) kd.cells.toArray) from fun x10 kd1 Q1 e1 e2 e3 e4 e5 e6 e7=>by
  have hz9:=HZ9.out
  have hQB:=HQB.out
  have hBB:=HBB.out
  have hnq:∀k,B≤k→¬Q k:=fun k hk e=>by have:=hQB k e;omega
  have hs7:=e7.size
  have hlow:∀k,k<w.heap.size→k≠m.ge→¬Q k→x10.heap[k]? =w.heap[k]? :=fun k h1 h2 h3=>(e7.block k (by omega) h3).trans (HO9.out.block k h1 h2)
  have hgm:g≠m.ge:=fun e=>HAS.out m (by simp) _ (Or.inl rfl) e.symm
  have hq1:∀k,k<w.heap.size+2→¬Q k→¬Q1 k:=fun k h1 h2 e=>(e5 k e).elim h2 (fun e=>by omega)
  have hbs1:¬Q1 bs:=fun e=>(e5 bs e).elim (hnq bs (by omega)) (fun e=>by omega)
  have hlx:(s0.put (forkN m.row.R lv m.k1.pk m.k2.pk).bytes).W.length≤s0.W.length+1:=puts_few [(forkN m.row.R lv m.k1.pk m.k2.pk).bytes] s0
  have hstay:∀k,k<x9.heap.size→B≤k→x10.heap[k]? =x9.heap[k]? :=fun k h1 h2=>e7.block k h1 (hnq k h2)
  refine ⟨⟨(hstay _ (by omega) (by omega)).trans HS9.out.1,(hstay _ (by omega) (by omega)).trans HS9.out.2⟩,?_⟩
  have hr:=raise_any (B:=B) (gs:=gs) (d:=d) (Z:=Z) (g:=g) (w:=x10) (q:=some ⟨g,0,none⟩) (c:=c) (A:=A) (k0:=kd1) (Q:=Q1) (s0:=s0.put (forkN m.row.R lv m.k1.pk m.k2.pk).bytes) HDD.out (fun _=>⟨rfl,by have:=HCC.out;omega,fun i hi=>range_keep (HXR.out i hi) (hlow g HGB.out.2 hgm (hnq g HGB.out.1))⟩)
   (HW9.out.keep fun a ha k hk=>e7.block k (by have:=(HW9.out.each a ha).lt k hk;omega) (HFQ.out a (by simp [ha]) k hk))
   (fun a ha k hk=>⟨HAS.out a (by simp [ha]) k hk,fun e=>(e5 k e).elim (HFQ.out a (by simp [ha]) k hk) (fun e=>by have:=(HW9.out.each a ha).lt k hk;omega)⟩)
   (fun _=>hq1 g (by have:=HGB.out.2;omega) (hnq g HGB.out.1)) (by have:=HA.out;omega) e2 e6 (fun a ha r hr x hx hR=>by have:=e3 r hr x hx hR;have:=HLTA.out a ha;omega) e4 (fun _=>s_put_ne _ _) (by have:=HSL.out;omega) (by rw [e1];exact HGK.out) HGM.out (by rw [e1];exact HZK.out)
  rw [e1,← HN.out] at hr
  refine hr.mono ?_
  rintro e x11 ⟨kd,Q2,rfl,f1,f2,f3,f4,f5,f6,f7⟩
  have hs8:=f7.size
  have hkeep:∀k,k<x10.heap.size→¬Q1 k→w.heap.size≤k→x11.heap[k]? =x10.heap[k]? :=fun k h1 h2 h3=>f7.block k h1 (fun e=>e.elim h2 (fun ⟨a,ha,e⟩=>by have:=HLTA.out a ha;omega))
  have hfr:∀r∈kd.rows,∀x,r.p=some x→r.R≠[]→x9.heap.size≤x.block:=fun r hrm x hx hR=>by
   rcases f3 with ⟨_,e9⟩ | f3
   ·rw [e9] at hrm
    exact e3 r hrm x hx hR
   ·have:=f3 r hrm x hx hR;omega
  have hbox:=(hkeep (w.heap.size+1) (by omega) (hq1 _ (by omega) (hnq _ (by omega))) (by omega)).trans ((hstay _ (by omega) (by omega)).trans HB9.out)
  have ho3:=only_setRow x11 (w.heap.size+1) kd.cells.toArray
  have hq2:∀k,Q2 k→Q k∨x9.heap.size≤k:=fun k hk=>(f5 k hk).elim (fun e=>e5 k e) (fun e=>Or.inr (by omega))
  refine ⟨kd,rfl,Kd.cells_length f2.len,hbox,⟨(hkeep _ (by omega) (hq1 _ (by omega) (hnq _ (by omega))) (by omega)).trans ((hstay _ (by omega) (by omega)).trans HS9.out.1),(hkeep _ (by omega) hbs1 (by omega)).trans ((hstay _ (by omega) (by omega)).trans HS9.out.2)⟩,kd,Q2,rfl,f1,kd_keep f2 fun r hr x hx hR=>ho3.block _ (rw_lt (kd_rows_ok f2 r hr) x hx hR) (by have:=hfr r hr x hx hR;omega),fun r hr x hx hR=>by have:=hfr r hr x hx hR;omega,f4.keep _ ho3 (fun k hk e=>by
   rcases hq2 k hk with h | h
   ·have:=hQB k h;omega
   ·omega),fun k hk=>(hq2 k hk).imp id (fun e=>by omega),f6,?_⟩
  have h9:=HO9.out
  refine ⟨ho3.os.trans (f7.os.trans (e7.os.trans h9.os)),ho3.tape.trans (f7.tape.trans (e7.tape.trans h9.tape)),ho3.output.trans (f7.output.trans (e7.output.trans h9.output)),Nat.le_trans h9.size (by have:=ho3.size;omega),fun k hk hn=>?_⟩
  have hn1:¬Q k:=fun e=>hn (Or.inl e)
  have hn2:k<B:=Nat.lt_of_not_le (fun e=>hn (Or.inr e))
  rw [ho3.block k (by omega) (by omega),f7.block k (by omega) (fun e=>e.elim (hq1 k (by omega) hn1) (fun ⟨a,ha,e⟩=>by have:=(HNA.out a ha).2;omega))]
  exact hlow k hk (by have:=HNEW.out.1;omega) hn1)
 have HNB:=yH (show bs≠w.heap.size+1 from fun e=>by
  have h1:=HS9.out.2
  have h2:=HB9.out
  rw [e,h2] at h1
  have h3:=congrArg (fun o=>match o with | some (Obj.cells c _ _)=>c.size | _=>0) h1
  simp only [List.size_toArray,kd0_size] at h3
  cases h3)
 clear HPL HTM HE9 HK9 HW9 HP9 HO9 HNA HLTA
 refine tQ 0 ?_ ?_ ?_
 rotate_left
 ·intro w' hSw
  refine Eq.trans (b:=Result.ok (Next.value (.agg #[.pointer (some ⟨gs,0,none⟩),.int .i64 d])) w') ?_ ?_
  ·exact op_load_mid 91 (.tmp 3) (by rfl) w.heap.size 0 (by rfl) [.pointer (some ⟨gs,0,none⟩),.int .i64 d] du (range_tr hSw.1) HDU.out HDR.out STr
  ·with_reducible rfl
 refine tK 1 ?_
 refine tQ 2 ?_ ?_ ?_
 rotate_left
 ·intro w' hSw
  refine Eq.trans (b:=Result.ok (Next.value (.agg #[.pointer (some ⟨gs,0,none⟩),.int .i64 d])) w') ?_ ?_
  ·exact op_load_mid 91 (.tmp 3) (by rfl) w.heap.size 0 (by rfl) [.pointer (some ⟨gs,0,none⟩),.int .i64 d] du (range_tr hSw.1) HDU.out HDR.out STr
  ·with_reducible rfl
 refine tQ 3 ?_ ?_ ?_
 rotate_left
 ·intro w' hSw
  refine Eq.trans (b:=Result.ok (Next.value (.agg #[.int .u8 1,.slice (some ⟨m.ge,0,none⟩) 1 m.ce,.slice (some ⟨m.gk,0,none⟩) 2 m.ck])) w') ?_ ?_
  ·exact op_load_mid 81 (.tmp 8) (by rfl) bs 0 (by rfl) [.int .u8 1,.slice (some ⟨m.ge,0,none⟩) 1 m.ce,.slice (some ⟨m.gk,0,none⟩) 2 m.ck] dn (range_nd hSw.2) HDN.out HDNR.out SNo
  ·with_reducible rfl
 refine rY [4] ?_
 refine rC (fun K hK=>?_) AllReadyH.nil
 go_simp
 refine HPUT.out.mono ?_
 rintro _ x10 ⟨kd1,rfl,hpk1,hok1,hfs1,⟨Q1,hp1,hsub1,haw1⟩,ho1,-⟩
 obtain ⟨hS1,hcall⟩:=HNEXT.out x10 kd1 Q1 (by rw [hpk1,HPN.out]) hok1 hfs1 (by rw [← HPN.out];exact hp1) hsub1 haw1 ho1
 have HCALL:=yH hcall
 clear hpk1 hok1 hfs1 hp1 hsub1 haw1 ho1 hcall
 try go_wp2_with fail
 refine hK.out _ _ hS1 (fun hHeld=>?_)
 clear hK K
 try simp only [Act.put,yA,yB,yC]
 refine rY [5] ?_
 refine rC (fun K hK=>?_) AllReadyH.nil
 go_simp
 refine HCALL.out.mono ?_
 rintro _ x11 ⟨kd,rfl,hl,hbox,hS2,htold⟩
 have HCK:=yH hl
 have HBX:=yH hbox
 have HTOLD:=yH htold
 clear hl hbox htold
 try go_wp2_with fail
 refine hK.out _ _ hS2 (fun hHeld=>?_)
 clear hK K
 try simp only [Act.put,yA,yB,yC]
 refine rY [6] ?_
 refine rC (fun K hK=>?_) AllReadyH.nil
 refine wp_store_row 34 (.tmp 6) (.tmp 31) (by rfl) (w.heap.size+1) kd.cells.toArray (by rfl) (by rfl) _ _ HBX.out (by rw [List.size_toArray,HCK.out];exact SKd) (by simp only [List.size_toArray,HCK.out,kd0_size]) (all_oneCell_toArray Kd.one) ?_
 have hS3:(x11.setRow (w.heap.size+1) kd.cells.toArray).heap[w.heap.size]? =some (.cells #[.pointer (some ⟨gs,0,none⟩),.int .i64 d] 91 (0,0))∧(x11.setRow (w.heap.size+1) kd.cells.toArray).heap[bs]? =some (.cells #[.int .u8 1,.slice (some ⟨m.ge,0,none⟩) 1 m.ce,.slice (some ⟨m.gk,0,none⟩) 2 m.ck] 81 (0,0)):=⟨(setRow_other _ _ _ _ (by omega)).trans hHeld.1,(setRow_other _ _ _ _ (by have:=HNB.out;omega)).trans hHeld.2⟩
 refine hK.out _ _ hS3 (fun hHeld=>?_)
 clear hK K
 try simp only [Act.put,yA,yB,yC]
 refine wpAnyH_done (by kernel_rfl) ?_ _
 go_wp2_with fail
 exact ret_str 6 (by kernel_rfl) (w.heap.size+1) _ kd.cells.toArray HDK.out HDKR.out (by rw [List.size_toArray,HCK.out];exact SKd) (by rfl) (setRow_heap _ _ _ _ _ _ HBX.out) HTOLD.out
theorem raise_next {B gs d Z g:Nat} {w x:World} {q:Option Addr} {c:Nat} {A:List MSt} {Q Q1:Nat→Prop} {s1:Pg.S} {kd:Kd} (hd:1≤d∧d≤8) (hB:B≤w.heap.size) (hQB:∀k,Q k→k<B) (hq:A≠[]→q=some ⟨g,0,none⟩∧A.length≤c∧g<w.heap.size∧B≤g∧∀i,i<A.length→w.rangeAt g (i*41) (A.getD i default).cells)
  (hw:WayM B w A) (hrd:∀a∈A,∀k,a.reads k→k≠g∧¬Q k) (hx:Only (fun k=>Q k) w x) (hA:A.length≤1000) (hk:kd.Ok x) (hkr:∀r∈kd.rows,∀y,r.p=some y→r.R≠[]→w.heap.size≤y.block) (hka:Aw Q1 kd) (hp:PL x gs Q1 s1) (hsub:∀k,Q1 k→Q k∨w.heap.size≤k) (hs1:s1.W≠[]) (hsl:s1.W.length+A.length≤90000)
  (hgk:GoodK d kd.pk) (hgm:∀a∈A,GoodM d Z a) (hz:kd.pk.size+(A.length*(Z+1):Nat)≤1048576):
  Calls Tryz.prog 58 #[.agg #[.pointer (some ⟨gs,0,none⟩),.int .i64 d],.slice q A.length c,.agg kd.cells.toArray] x (Told w gs B Q (foldR A kd.pk s1 (List.range A.length))):=by
 have hnq:∀k,B≤k→¬Q k:=fun k hk e=>by have:=hQB k e;omega
 have hxs:=hx.size
 have hlt:∀a∈A,∀k,a.reads k→k<w.heap.size:=fun a ha=>(hw.each a ha).lt
 have hq1:∀k,k<w.heap.size→¬Q k→¬Q1 k:=fun k h1 h2 e=>(hsub k e).elim h2 (fun e=>by omega)
 refine (raise_any (B:=B) (gs:=gs) (d:=d) (Z:=Z) (g:=g) (w:=x) (q:=q) (c:=c) (A:=A) (k0:=kd) (Q:=Q1) (s0:=s1) hd (fun h0=>?_)
  (hw.keep fun a ha k hk=>hx.block k (hlt a ha k hk) (hrd a ha k hk).2)
  (fun a ha k hk=>⟨(hrd a ha k hk).1,hq1 k (hlt a ha k hk) (hrd a ha k hk).2⟩)
  (fun h0=>hq1 g (hq h0).2.2.1 (hnq g (hq h0).2.2.2.1)) hA hk hka (fun a ha r hr y hy hR=>by have:=hkr r hr y hy hR;have:=hlt a ha a.gk (Or.inr (Or.inl rfl));omega) hp (fun _=>hs1) hsl hgk hgm hz).mono ?_
 ·obtain ⟨h1,h2,h3,h4,h5⟩:=hq h0
  exact ⟨h1,h2,fun i hi=>range_keep (h5 i hi) (hx.block g h3 (hnq g h4))⟩
 ·rintro e y ⟨k2,Q2,rfl,f1,f2,f3,f4,f5,f6,f7⟩
  refine ⟨k2,Q2,rfl,f1,f2,fun r hr z hz hR=>?_,f4,fun k hk=>?_,f6,?_⟩
  ·rcases f3 with ⟨_,e9⟩ | f3
   ·rw [e9] at hr
    have:=hkr r hr z hz hR
    omega
   ·have:=f3 r hr z hz hR
    omega
  ·rcases f5 k hk with h | h
   ·exact (hsub k h).imp id (fun e=>by omega)
   ·right;omega
  ·refine ⟨f7.os.trans hx.os,f7.tape.trans hx.tape,f7.output.trans hx.output,Nat.le_trans hxs f7.size,fun k hk hn=>?_⟩
   have hn1:¬Q k:=fun e=>hn (Or.inl e)
   have hn2:k<B:=Nat.lt_of_not_le (fun e=>hn (Or.inr e))
   rw [f7.block k (by omega) (fun e=>e.elim (hq1 k hk hn1) (fun ⟨a,ha,e⟩=>by have:=(hw.new a ha).2;omega))]
   exact hx.block k hk hn1
def Told2 (w:World) (gs:Nat) (Q:Nat→Prop) (u:V) (s:Pg.S) (e:Ending) (w':World):Prop:=
 ∃kd Q',e= .returned (.tuple #[.agg kd.cells.toArray,.int .i64 0])∧kd.pk=u.kid∧kd.Ok w'∧Fsh w kd∧PL w' gs Q' s∧(∀k,Q' k→Q k∨w.heap.size≤k)∧Aw Q' kd∧Only Q w w'
theorem told_fin {B gs:Nat} {w w4 w5:World} {Q:Nat→Prop} {u:V} {s:Pg.S} {st:PK×Pg.S} {e:Ending} {b:Nat} (h:Told w4 gs B Q st e w5) (hst:st=(u.kid,s)) (hb:Below w.heap.size w w4) (hB:w.heap.size≤b∧b<B) (hB4:B≤w4.heap.size) (hQ:∀k,Q k→k<w.heap.size) (hbox:w4.heap[b]? =some (.cells kd0.cells.toArray 34 (0,0))):
  ∃kd:Kd,e= .returned (.agg kd.cells.toArray)∧kd.cells.length=37∧w5.heap[b]? =some (.cells kd0.cells.toArray 34 (0,0))∧Told2 w gs Q u s (.returned (.tuple #[.agg kd.cells.toArray,.int .i64 0])) (w5.setRow b kd.cells.toArray):=by
 subst hst
 obtain ⟨kd,Q',rfl,h1,h2,h3,h4,h5,h6,h7⟩:=h
 have ho:=only_setRow w5 b kd.cells.toArray
 have hbq:¬Q b:=fun e=>by have:=hQ b e;omega
 have hqb:¬Q' b:=fun e=>(h5 b e).elim hbq (fun e=>by omega)
 refine ⟨kd,rfl,Kd.cells_length h2.len,(h7.block b (by omega) (fun e=>e.elim hbq (fun e=>by omega))).trans hbox,kd,Q',rfl,h1,kd_keep h2 fun r hr x hx hR=>ho.block _ (rw_lt (kd_rows_ok h2 r hr) x hx hR) (by have:=h3 r hr x hx hR;omega),fun r hr x hx hR=>by have:=h3 r hr x hx hR;omega,h4.keep _ ho (fun k hk e=>hqb (e▸hk)),fun k hk=>(h5 k hk).imp id (fun e=>by omega),h6,?_⟩
 have hs4:=hb.size
 refine ⟨ho.os.trans (h7.os.trans hb.os),ho.tape.trans (h7.tape.trans hb.tape),ho.output.trans (h7.output.trans hb.output),Nat.le_trans hs4 (Nat.le_trans h7.size ho.size),fun k hk hn=>?_⟩
 have hs5:=h7.size
 rw [ho.block k (by omega) (by omega),h7.block k (by omega) (fun e=>e.elim hn (fun e=>by omega))]
 exact hb.block k hk
end Go.Proofs.YtinihaflmdihaaaGreat.Kt
