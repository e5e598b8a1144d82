/- KdDelV, KtBst, KtNew. -/
import Derived.Test.YtinihaflmdihaaaGreatK32
set_option maxRecDepth 100000
set_option maxHeartbeats 8000000
set_option linter.all false
namespace Go.Proofs.YtinihaflmdihaaaGreat.Kt
open Go.RowKit Go.Shelf Go.Proofs.YtinihaflmdihaaaGreat.Nd Go.Proofs.YtinihaflmdihaaaGreat.Dk Go.Proofs.YtinihaflmdihaaaGreat.Pg
def delV (d:Nat) (p:List Int) (u:V):Int ⊕ (V×List (List Nat)):=
 match wayV d p u 0 with
 | none=>.inl 21
 | some x=>if x.2.live=false then .inl 9
  else if u.kid.size≤2*(u.kid.live - 1) then .inr (raiseV x.1 (endV x.2 false),(endN x.2 false).bytes::raiseP x.1 (endV x.2 false))
  else if u.whole then .inr (V.of (lay (u.rows.filter fun y=> !decide (y=p)) 0),(lay (u.rows.filter fun y=> !decide (y=p)) 0).pages)
  else .inl 21
theorem way_mem {W:Pages} {d:Nat} {p:List Int} (hp:p.length=d):∀(u:V) (t:Nat),Sees W d u→∀L s,wayV d p u t=some (L,s)→s.live=true→p∈u.rows
 | .nil,t,_,L,s,h,hl=>by
  have h:some ([],(⟨p,false,.nil,.nil,false,.nil⟩:St))=some (L,s):=h
  simp only [Option.some.injEq,Prod.mk.injEq] at h
  obtain ⟨-,rfl⟩:=h
  cases hl
 | .bad k,t,_,L,s,h,hl=>by cases h
 | .fork q lv l r,t,hs,L,s,h,hl=>by
  have hrow:(V.fork q lv l r).rows=(if lv then [q] else [])++(l.rows++r.rows):=rfl
  have hw:wayV d p (.fork q lv l r) t=(if ordC (t%d) p q=0 then some ([],⟨q,lv,l,r,false,.fork q lv l r⟩)
   else if 0<ordC (t%d) p q then (wayV d p r (t+1)).map fun x=>(⟨q,lv,l,r,true,.fork q lv l r⟩::x.1,x.2)
   else (wayV d p l (t+1)).map fun x=>(⟨q,lv,l,r,false,.fork q lv l r⟩::x.1,x.2)):=rfl
  rw [hw] at h
  rw [hrow]
  split at h
  ·rename_i h0
   simp only [Option.some.injEq,Prod.mk.injEq] at h
   obtain ⟨-,rfl⟩:=h
   have hl:lv=true:=hl
   have e:=(ordC_zero (hp.trans (fork_len hs).symm)).1 h0
   rw [hl,e]
   simp
  ·split at h
   ·cases hwr:wayV d p r (t+1) with
    | none=>rw [hwr] at h;cases h
    | some x=>
     rw [hwr] at h
     simp only [Option.map_some,Option.some.injEq,Prod.mk.injEq] at h
     obtain ⟨-,rfl⟩:=h
     have:=way_mem hp r (t+1) hs.2.2.2 x.1 x.2 hwr hl
     simp [this]
   ·cases hwl:wayV d p l (t+1) with
    | none=>rw [hwl] at h;cases h
    | some x=>
     rw [hwl] at h
     simp only [Option.map_some,Option.some.injEq,Prod.mk.injEq] at h
     obtain ⟨-,rfl⟩:=h
     have:=way_mem hp l (t+1) hs.2.2.1 x.1 x.2 hwl hl
     simp [this]
theorem Delete_any {gs d:Nat} {Q:Nat→Prop} {s:Pg.S} (hd:1≤d∧d≤8) (hW:TextsK d s.W) (u:V) (k:Kd) (r:Rw) (w:World) (hp:PL w gs Q s) (hs:Sees s.W d u) (hk:k.Ok w) (he:k.pk=u.kid) (hr:r.Ok w) (hrd:r.n=d) (hz:u.kid.size≤900) (hka:Aw Q k) (hra:∀y,r.p=some y→r.R≠[]→¬Q y.block) (hsl:s.W.length≤60000):
  Calls Tryz.prog 17 #[.pointer (some ⟨gs,0,none⟩),.agg k.cells.toArray,r.val,.int .i64 d] w (ChgPost w gs Q s (delV d r.R u)):=by
 have hway:∀w',Below w.heap.size w w'→Calls Tryz.prog 53 #[.agg #[.pointer (some ⟨gs,0,none⟩),.int .i64 d],.agg k.cells.toArray,r.val] w' (WayRes w' Q (wayV d r.R u 0)):=fun w' hb=>way_any hd hW u k r w' (hp.keep (fun _=>False) (Only.of_below _ hb) (fun _ _ e=>e)) hs (hk.later hb) he (hr.later hb) hrd (by omega) hka hra
 have hrR:r.R.length=d:=by have:=hr.ints.size;omega
 cases hO:wayV d r.R u 0 with
 | none=>
  unfold delV
  rw [hO] at hway ⊢
  refine (Delete_err (some ⟨gs,0,none⟩) d k r 21 w hk (fun w' hb=>(hway w' hb).mono ?_) (by decide)).mono fun e w' h=>h
  rintro e w2 ⟨h1,h2,-⟩
  exact ⟨h2 rfl,h1⟩
 | some X=>
  obtain ⟨L,s'⟩:=X
  rw [hO] at hway
  obtain ⟨-,-,hln⟩:=way_settle u 0 hs L s' hO
  have hsteps:=way_steps (Z:=((u.kid.size.toNat:Nat):Int)) hrR (by omega) u 0 hs (by omega) L s' hO
  have hmem:=way_mem hrR u 0 hs L s' hO
  have hZ:u.kid.size.toNat≤900:=by omega
  have hnum:=sees_nums hs
  have hdel:delV d r.R u=if s'.live=false then .inl 9
    else if u.kid.size≤2*(u.kid.live - 1) then .inr (raiseV L (endV s' false),(endN s' false).bytes::raiseP L (endV s' false))
    else if u.whole then .inr (V.of (lay (u.rows.filter fun y=> !decide (y=r.R)) 0),(lay (u.rows.filter fun y=> !decide (y=r.R)) 0).pages)
    else .inl 21:=by
   unfold delV
   rw [hO]
  rw [hdel]
  clear hdel
  generalize hOUT:(if s'.live=false then (Sum.inl 9:Int ⊕ (V×List (List Nat))) else _)=OUT
  have HOUT:=yH hOUT
  clear hOUT
  obtain ⟨W,hW0,r0,rr,r1,b1⟩:=three_alloc w (.cells k.cells.toArray 34) (.cells #[r.val] 24) (.cells kd0.cells.toArray 34)
  have HWAY:=yH hway
  have HCL:=yH (Kd.cells_length hk.len)
  have R0:=yH r0
  have R1:=yH r1
  have RR:=yH rr
  have B1:=yH b1
  have HQL:=yH (show ∀k,Q k→k<w.heap.size from hp.lt)
  have HPL:=yH hp
  have HWT:=yH hW
  have HSE:=yH hs
  have HKO:=yH hk
  have HPK:=yH he
  have HDD:=yH hd
  have HRO:=yH hr
  have HRD:=yH hrd
  have HRA:=yH hra
  have HSL:=yH hsl
  have HLN:=yH hln
  have HSTP:=yH hsteps
  have HMEM:=yH hmem
  have HZB:=yH hZ
  have HZU:=yH (show u.kid.size≤900 from hz)
  have hkl:k.live=u.kid.live:=by rw [← he];rfl
  have hks:k.size=u.kid.size:=by rw [← he];rfl
  have HKL:=yH hkl
  have HKS:=yH hks
  have hkb:(0≤k.live∧k.live≤900)∧0≤k.size∧k.size≤900:=by omega
  obtain ⟨RV,hRV⟩:∃RV:Rw,RV=r:=⟨_,rfl⟩
  have HRV:=yH hRV
  clear hRV
  obtain ⟨rp,rn,rc,rR⟩:=r
  unfold Rw.val at HWAY RR hW0 ⊢
  simp only at HWAY RR hW0 hrR HOUT ⊢
  obtain ⟨du,hdu,hdr⟩:=UTr
  obtain ⟨dk,hdk,hdkr⟩:=UKd
  have HDU:=yH hdu
  have HDR:=yH hdr
  have HDK:=yH hdk
  have HDKR:=yH hdkr
  have HZK:=yH (zero_of_info kz)
  have hz0:=HZK.out.1
  have HRR:=yH hrR
  clear hd hW hp hs hk he hr hrd hz hka hra hsl hway hln hsteps hmem hZ hnum r0 rr r1 b1 hdu hdr hdk hdkr hO hrR hkl hks
  go_enter Tryz.func17,Tryz.ntmps17
  go_upto_region 1 with fail
  clear hW0
  go_upto_region 2 with (first
   | (refine wpList_build (cells:= #[.pointer (some ⟨gs,0,none⟩),.int .i64 d]) (by rfl) (by rfl) (by simp only [List.map_toArray,List.map_cons,List.map_nil];exact tr_built _ _) ?_)
   | (refine wpList_store_row (by rfl) 91 (.tmp 10) (.tmp 16) (by rfl) W.heap.size #[.pointer (some ⟨gs,0,none⟩),.int .i64 d] (by rfl) (by rfl) _ _ (heap_alloc_new W _) STr rfl (tr_one _ _) ?_;rw [setRow_alloc]))
  have hb2:Below W.heap.size W (W.alloc (.cells #[.pointer (some ⟨gs,0,none⟩),.int .i64 d] 91)):=(Below.refl _ _).alloc (Nat.le_refl _) _
  have hr2:=heap_alloc_new W (.cells #[.pointer (some ⟨gs,0,none⟩),.int .i64 d] 91)
  generalize W.alloc (.cells #[.pointer (some ⟨gs,0,none⟩),.int .i64 d] 91)=w2 at *
  obtain ⟨bt,hbt⟩:∃bt,bt=W.heap.size:=⟨_,rfl⟩
  rw [← hbt] at hr2 ⊢
  have HBT:=yH (show w.heap.size+3≤bt∧bt<w2.heap.size from ⟨by rw [hbt];exact (yL R1.out),(yL hr2)⟩)
  have T2:=yH hr2
  have R2:=yH (range_tr hr2)
  have RH2:=yH ((hb2.block _ (yL R0.out)).trans R0.out)
  have RK2:=yH (range_kd RH2.out)
  have RS2:=yH ((hb2.block _ (yL R1.out)).trans R1.out)
  have RR2:=yH ((hb2.block _ (yL RR.out)).trans RR.out)
  have cr:w2.cell? ⟨w.heap.size+1,0,none⟩=some (.slice rp rn rc):=cell_of_row w2 (w.heap.size+1) 0 _ _ _ RR2.out
  have B2:=yH (B1.out.trans (hb2.mono B1.out.size))
  clear hb2 hr2 hbt R0 R1 RR B1
  go_upto_region 3 with (first
   | (refine wpList_load_mid (by rfl) 91 _ (by rfl) bt 0 (by rfl) [.pointer (some ⟨gs,0,none⟩),.int .i64 d] du R2.out HDU.out HDR.out STr ?_)
   | (refine wpList_load_mid (by rfl) 34 _ (by rfl) w.heap.size 0 (by rfl) k.cells dk RK2.out HDK.out HDKR.out (by rw [HCL.out];exact SKd) ?_)
   | (go_at_call 53;refine (HWAY.out w2 B2.out).mono ?_;rintro _ w3 ⟨b3,-,hsm⟩;obtain ⟨q5,c5,A5,bw5,rfl,hws,hlk,hfq⟩:=hsm L s' rfl;have HWS:=yH hws;have HLK:=yH hlk;have HFQ:=yH hfq;have B23:=yH b3;have B3:=yH (B2.out.trans (b3.mono B2.out.size));clear b3 hsm hws hlk hfq))
  obtain ⟨n5,hn5⟩:∃n5,n5=A5.length:=⟨_,rfl⟩
  have HN5:=yH hn5
  obtain ⟨hgm,-⟩:=links_good HLK.out HSTP.out
  have HGM:=yH hgm
  have HN9:=yH (show n5≤901 by have h1:=HLN.out;have h2:=HLK.out.length;have h3:=HZU.out;rw [← h2,← hn5] at h1;omega)
  have HLV:=yH (show Calls Tryz.prog 54 #[.slice q5 n5 c5] w3 fun e w'=>e= .returned (.bool s'.live)∧w'=w3 from by
   obtain ⟨A0,m,hA,hl0,hlm⟩:=links_last HLK.out
   have hws:=HWS.out
   rw [hn5]
   rw [hA] at hws ⊢
   rw [hlm.live]
   refine live_any hws ?_
   have h1:=HN9.out
   rw [hn5,hA] at h1
   simp at h1
   omega)
  rw [← hn5]
  clear hn5 hgm HWAY R2 RK2 cr
  have RS3:=yH ((B23.out.block _ (yL RS2.out)).trans RS2.out)
  have T3:=yH ((B23.out.block _ (yL T2.out)).trans T2.out)
  have RH3:=yH ((B23.out.block _ (yL RH2.out)).trans RH2.out)
  have RR3:=yH ((B23.out.block _ (yL RR2.out)).trans RR2.out)
  go_upto_region 5 with fail
  generalize hlv:s'.live=lv at *
  have HLVE:=yH hlv
  clear hlv
  cases lv with
  | false=>
   have hout:=HOUT.out
   rw [if_pos rfl] at hout
   go_wp2_with (first
    | (go_at_call 54;refine HLV.out.mono ?_;rintro _ w4 ⟨rfl,e4⟩;obtain rfl:w3=w4:=e4.symm)
    | (refine wpList_build (by rfl) (by rfl) kd0_built ?_)
    | (refine wpList_store_row (by rfl) 34 _ _ (by rfl) (w.heap.size+2) kd0.cells.toArray (by rfl) (by rfl) _ _ RS3.out (by rw [List.size_toArray,kd0_size];exact SKd) rfl (all_oneCell_toArray Kd.one) ?_))
   refine ret_str2 8 9 (by kernel_rfl) (w.heap.size+2) _ kd0.cells.toArray _ HDK.out HDKR.out (by rw [List.size_toArray,kd0_size];exact SKd) (by rfl) (by rfl) (setRow_heap _ _ _ _ _ _ RS3.out) ?_
   rw [← hout]
   exact ⟨rfl,B3.out.trans (Below.setRow (Below.refl _ _) (by omega) _)⟩
  | true=>
   have hout:=HOUT.out
   rw [if_neg (fun e=>by cases e)] at hout
   have HOUT2:=yH hout
   clear hout HOUT
   have hKG:=kd_get35 k HKO.out.len
   have k34:w3.cell? ⟨w.heap.size,34,none⟩=some (.int .i64 k.live):=cell_of_lrow w3 w.heap.size 34 RH3.out hKG.1
   have k35:w3.cell? ⟨w.heap.size,35,none⟩=some (.int .i64 k.size):=cell_of_lrow w3 w.heap.size 35 RH3.out hKG.2
   have q1:IntKind.i64.wrap (k.live - 1)=k.live - 1:=IntWalk.i64_in _ (by omega)
   have q2:IntKind.i64.wrap (2*(k.live - 1))=2*(k.live - 1):=IntWalk.i64_in _ (by omega)
   have HS4:=yH (show w2.heap.size≤w3.heap.size from B23.out.size)
   have HPL4:=yH (HPL.out.keep (fun _=>False) (Only.of_below _ B3.out) (fun _ _ e=>e))
   have HQB:=yH (show ∀k,Q k→k<w2.heap.size from fun k hk=>by have:=HQL.out k hk;have:=B2.out.size;omega)
   clear hKG
   by_cases hc:k.size≤2*(k.live - 1)
   ·have hout:=HOUT2.out
    rw [if_pos (by rw [← HKL.out,← HKS.out];exact hc)] at hout
    have HOUT3:=yH hout
    have hge:2*(k.live - 1)≥k.size:=hc
    clear hout HOUT2
    have HTURN:=yH (show Calls Tryz.prog 56 #[.agg #[.pointer (some ⟨gs,0,none⟩),.int .i64 d],.slice q5 n5 c5,.bool false] w3 fun e w5=>∃kd:Kd,e= .returned (.agg kd.cells.toArray)∧kd.cells.length=37∧w5.heap[w.heap.size+2]? =some (.cells kd0.cells.toArray 34 (0,0))∧Told2 w gs Q (raiseV L (endV s' false)) (puts s ((endN s' false).bytes::raiseP L (endV s' false))) (.returned (.tuple #[.agg kd.cells.toArray,.int .i64 0])) (w5.setRow (w.heap.size+2) kd.cells.toArray) from by
     obtain ⟨A0,m,hA,hl0,hlm⟩:=links_last HLK.out
     have hws:=HWS.out
     have hfq:=HFQ.out
     have hgm:=HGM.out
     have h9:=HN9.out
     have hzb:=HZB.out
     rw [HN5.out] at h9 ⊢
     rw [hA] at hws hfq hgm h9 ⊢
     have hN:forkN m.row.R false m.k1.pk m.k2.pk=endN s' false:=by
      unfold endN
      rw [hlm.row,hlm.l,hlm.r]
     have hl9:A0.length≤900:=by simp at h9;omega
     have hmul:A0.length*(u.kid.size.toNat+1)≤900*901:=Nat.mul_le_mul hl9 (by omega)
     have ht:=kturn_any (B:=w2.heap.size) (Z:=u.kid.size.toNat) HDD.out hws HS4.out HQB.out hfq HPL4.out (by have:=HSL.out;omega) (by omega) hgm (by omega) false
     rw [hN] at ht
     refine ht.mono fun e w5 h5=>told_fin h5 ?_ B3.out ⟨by omega,by have:=HBT.out;omega⟩ HS4.out HQL.out RS3.out
     have hf:=foldR_raise hl0 (endV s' false) (s.put (endN s' false).bytes) A0.length (Nat.le_refl _)
     rw [Nat.sub_self,List.drop_zero] at hf
     exact hf)
    have R4:=yH (range_tr T3.out)
    go_wp2_with (first
     | (go_at_call 54;refine HLV.out.mono ?_;rintro _ w4 ⟨rfl,e4⟩;obtain rfl:w3=w4:=e4.symm)
     | (refine wpList_load_mid (by rfl) 91 _ (by rfl) bt 0 (by rfl) [.pointer (some ⟨gs,0,none⟩),.int .i64 d] du R4.out HDU.out HDR.out STr ?_)
     | (go_at_call 56;refine HTURN.out.mono ?_;rintro _ w5 ⟨kd,rfl,hl,hbx,htold⟩;have HL5:=yH hl;have HBX:=yH hbx;have HTOLD:=yH htold;clear hl hbx htold)
     | (refine wpList_store_row (by rfl) 34 _ _ (by rfl) (w.heap.size+2) kd.cells.toArray (by rfl) (by rfl) _ _ HBX.out (by rw [List.size_toArray,HL5.out];exact SKd) (by simp only [List.size_toArray,HL5.out,kd0_size]) (all_oneCell_toArray Kd.one) ?_))
    exact ret_str2 8 9 (by kernel_rfl) (w.heap.size+2) _ kd.cells.toArray _ HDK.out HDKR.out (by rw [List.size_toArray,HL5.out];exact SKd) (by rfl) (by rfl) (setRow_heap _ _ _ _ _ _ HBX.out) (by rw [← HOUT3.out];exact HTOLD.out)
   ·have hout:=HOUT2.out
    rw [if_neg (by rw [← HKL.out,← HKS.out];exact hc)] at hout
    have HOUT3:=yH hout
    have hge:¬2*(k.live - 1)≥k.size:=hc
    clear hout HOUT2
    have HROWS:=yH (show Calls Tryz.prog 57 #[.agg #[.pointer (some ⟨gs,0,none⟩),.int .i64 d],.agg k.cells.toArray] w3 (RowsPost w3 u) from rows_any HWT.out u k w3 HPL4.out HSE.out (HKO.out.later B3.out) HPK.out (by have:=HZU.out;omega))
    have R4:=yH (range_tr T3.out)
    have RK4:=yH (range_kd RH3.out)
    go_upto_region 10 with (first
     | (go_at_call 54;refine HLV.out.mono ?_;rintro _ w4 ⟨rfl,e4⟩;obtain rfl:w3=w4:=e4.symm)
     | (refine wpList_load_mid (by rfl) 91 _ (by rfl) bt 0 (by rfl) [.pointer (some ⟨gs,0,none⟩),.int .i64 d] du R4.out HDU.out HDR.out STr ?_)
     | (refine wpList_load_mid (by rfl) 34 _ (by rfl) w.heap.size 0 (by rfl) k.cells dk RK4.out HDK.out HDKR.out (by rw [HCL.out];exact SKd) ?_)
     | (go_at_call 57;refine HROWS.out.mono ?_;rintro _ w5 ⟨err,q6,c6,O,rfl,ho6,hok6,hw1,hw2,hlen6,hb6⟩;have HO6:=yH ho6;have HOK6:=yH hok6;have HW1:=yH hw1;have HW2:=yH hw2;have HL6:=yH hlen6;have HB6:=yH hb6;clear ho6 hok6 hw1 hw2 hlen6 hb6))
    have RS5:=yH ((HB6.out.block _ (yL RS3.out)).trans RS3.out)
    have T5:=yH ((HB6.out.block _ (yL T3.out)).trans T3.out)
    have RR5:=yH ((HB6.out.block _ (yL RR3.out)).trans RR3.out)
    have HB5:=yH (B3.out.trans (HB6.out.mono B3.out.size))
    clear k34 k35
    cases hwh:u.whole with
    | false=>
     have herr:err=21:=HW2.out hwh
     subst herr
     have hout:=HOUT3.out
     rw [hwh,if_neg Bool.false_ne_true] at hout
     have HOUT4:=yH hout
     clear hout HOUT3 hwh
     go_wp2_with (first
      | (refine wpList_build (by rfl) (by rfl) kd0_built ?_)
      | (refine wpList_store_row (by rfl) 34 _ _ (by rfl) (w.heap.size+2) kd0.cells.toArray (by rfl) (by rfl) _ _ RS5.out (by rw [List.size_toArray,kd0_size];exact SKd) rfl (all_oneCell_toArray Kd.one) ?_))
     refine ret_str2 8 9 (by kernel_rfl) (w.heap.size+2) _ kd0.cells.toArray _ HDK.out HDKR.out (by rw [List.size_toArray,kd0_size];exact SKd) (by rfl) (by rfl) (setRow_heap _ _ _ _ _ _ RS5.out) ?_
     rw [← HOUT4.out]
     exact ⟨rfl,HB5.out.trans (Below.setRow (Below.refl _ _) (by omega) _)⟩
    | true=>
     obtain ⟨herr,hare⟩:=HW1.out hwh
     subst herr
     have hout:=HOUT3.out
     rw [hwh,if_pos rfl] at hout
     have HOUT4:=yH hout
     have HARE:=yH hare
     have hO1:1≤O.length:=by
      have h1:=HMEM.out trivial
      rw [← hare] at h1
      obtain ⟨x,hx,-⟩:=List.mem_map.1 h1
      exact List.length_pos_iff.2 (fun e=>by rw [e] at hx;cases hx)
     clear hout HOUT3 hwh hare
     obtain ⟨g6,c6',hv6,-,hc6,hgl6,hgh6,hseg6⟩:=own_seg HO6.out hO1
     have hv6':=hv6
     simp only [Value.slice.injEq,true_and] at hv6
     obtain ⟨rfl,rfl⟩:=hv6
     have hlen9:O.length≤900:=by have h1:=HL6.out;have h2:=HZU.out;omega
     have HLEN:=yH hlen9
     have HROK:=yH (HRO.out.later HB5.out)
     have HAWP:=yH (show Away g6 ⟨rp,rn,rc,rR⟩ from fun x hx hR e=>by have h1:=rw_lt HRO.out x hx hR;have h2:=HB5.out.size;have h3:=B3.out.size;omega)
     have HAWO:=yH (show ∀x∈O,x.Ok w5∧Away g6 x from fun x hx=>⟨(HOK6.out x hx).1,fun y hy hR e=>((HOK6.out x hx).2 y hy hR).1 (by rw [e];rfl)⟩)
     obtain ⟨M,hM⟩:∃M:List Rw,M=O.filter fun x=> !decide (x.R=rR):=⟨_,rfl⟩
     have HM:=yH hM
     have hMR:M.map Rw.R=u.rows.filter fun y=> !decide (y=rR):=by
      rw [← HARE.out,hM,List.filter_map]
      rfl
     have HMR:=yH hMR
     have HML:=yH (show M.length≤O.length by rw [hM];exact List.length_filter_le _ _)
     have HMO:=yH (show ∀x∈M,x∈O from fun x hx=>by rw [hM] at hx;exact (List.mem_filter.1 hx).1)
     have HDF:=yH (show Calls Tryz.prog 62 #[.slice (some ⟨g6,0,none⟩) O.length c6,.func (.func 63) #[] #[.pointer (some ⟨w.heap.size+1,0,none⟩)]] w5 fun e w6=>e= .returned (.slice (some ⟨g6,0,none⟩) M.length c6)∧Seg w6 g6 0 M∧Only (fun k=>k=g6) w5 w6 from by
      rw [hM]
      exact deletef_any g6 0 c6 (w.heap.size+1) O ⟨rp,rn,rc,rR⟩ w5 hseg6 HAWO.out HROK.out HAWP.out (cell_of_row w5 (w.heap.size+1) 0 _ _ _ RR5.out) (by have h3:=B3.out.size;have h4:=(yL RR3.out);omega) hc6 (by omega))
     have HLAY:=yH (show ∀w6,Seg w6 g6 0 M→Only (fun k=>k=g6) w5 w6→(w6.heap[bt]? =some (.cells #[.pointer (some ⟨gs,0,none⟩),.int .i64 d] 91 (0,0)))∧Calls Tryz.prog 59 #[.agg #[.pointer (some ⟨gs,0,none⟩),.int .i64 d],.slice (some ⟨g6,0,none⟩) M.length c6,.int .i64 0] w6 fun e w7=>∃kd:Kd,e= .returned (.agg kd.cells.toArray)∧kd.cells.length=37∧w7.heap[w.heap.size+2]? =some (.cells kd0.cells.toArray 34 (0,0))∧ChgPost w gs Q s OUT (.returned (.tuple #[.agg kd.cells.toArray,.int .i64 0])) (w7.setRow (w.heap.size+2) kd.cells.toArray) from fun w6 hsg ho6=>by
      have hbt:=HBT.out
      have hs36:=HB6.out.size
      have hs56:=ho6.size
      have hs4:=HS4.out
      have hsw:=B3.out.size
      refine ⟨(ho6.block bt (yL T5.out) (by omega)).trans T5.out,?_⟩
      have hpl6:PL w6 gs Q s:=(HPL4.out.keep (fun _=>False) (Only.of_below _ HB6.out) (fun _ _ e=>e)).keep _ ho6 (fun k hk e=>by have:=HQB.out k hk;omega)
      have hrk:RowsOk w6 d g6 Q M:=fun x hx=>by
       obtain ⟨h1,h2⟩:=HAWO.out x (HMO.out x hx)
       refine ⟨Nd.rw_keep h1 fun y hy hR=>ho6.block _ (rw_lt h1 y hy hR) (h2 y hy hR),?_,h2,fun y hy hR e=>?_⟩
       ·have hl:x.R.length=d:=sees_dims HSE.out x.R (by rw [← HARE.out];exact List.mem_map_of_mem (HMO.out x hx))
        have:=h1.ints.size
        omega
       ·have:=HQB.out _ e
        have:=((HOK6.out x (HMO.out x hx)).2 y hy hR).2
        omega
      have hml:=HML.out
      have hl9:=HLEN.out
      have hlay:=lay_any HDD.out M.length M (some ⟨g6,0,none⟩) c6 0 g6 0 w6 Q s (Nat.le_refl _) (fun _=>rfl) (by omega) hsg hrk hpl6 (by omega) (fun e=>by have:=HQB.out _ e;omega) (by have:=HSL.out;omega) (by omega)
      refine hlay.mono ?_
      rintro e w7 ⟨kd,Q',rfl,e1,e2,e3,e4,e5⟩
      have hdim:(lay (M.map Rw.R) 0).dims d:=lay_dims fun x hx=>by
       obtain ⟨y,hy,rfl⟩:=List.mem_map.1 hx
       exact sees_dims HSE.out y.R (by rw [← HARE.out];exact List.mem_map_of_mem (HMO.out y hy))
      have hof:=of_kid (u:=lay (M.map Rw.R) 0) (by rw [lay_size,List.length_map];omega)
      have hout:=HOUT4.out
      rw [← HMR.out] at hout
      have hold:=e5.only
      have htold:Told w3 gs w3.heap.size Q ((V.of (lay (M.map Rw.R) 0)).kid,puts s (lay (M.map Rw.R) 0).pages) (.returned (.agg kd.cells.toArray)) w7:=by
       refine ⟨kd,Q',rfl,by rw [e1,hof],e2,fun r hr x hx hR=>by have:=e3 r hr x hx hR;omega,e5.st,fun k hk=>(e5.new k hk).imp id (fun e=>by omega),e4,?_⟩
       have hb:=HB6.out
       refine ⟨hold.os.trans (ho6.os.trans hb.os),hold.tape.trans (ho6.tape.trans hb.tape),hold.output.trans (ho6.output.trans hb.output),by have:=hold.size;omega,fun k hk hn=>?_⟩
       have hk6:k≠g6:=by omega
       rw [hold.block k (by omega) (fun e=>e.elim (fun e=>hn (Or.inl e)) hk6),ho6.block k (by omega) hk6]
       exact hb.block k hk
      obtain ⟨kd2,g1,g2,g3,g4⟩:=told_fin htold rfl B3.out (b:=w.heap.size+2) ⟨by omega,by omega⟩ (Nat.le_refl _) HQL.out RS3.out
      exact ⟨kd2,g1,g2,g3,by rw [← hout];exact g4⟩)
     clear hM hMR hseg6
     go_wp2_with (first
      | (go_at_call 62;refine HDF.out.mono ?_;rintro _ w6 ⟨rfl,hsg,ho6⟩;obtain ⟨ht6,hlay⟩:=HLAY.out w6 hsg ho6;have R6:=yH (range_tr ht6);have HL7:=yH hlay;clear hsg ho6 ht6 hlay)
      | (refine wpList_load_mid (by rfl) 91 _ (by rfl) bt 0 (by rfl) [.pointer (some ⟨gs,0,none⟩),.int .i64 d] du R6.out HDU.out HDR.out STr ?_)
      | (go_at_call 59;refine HL7.out.mono ?_;rintro _ w7 ⟨kd,rfl,hl,hbx,htold⟩;have HL8:=yH hl;have HBX:=yH hbx;have HTOLD:=yH htold;clear hl hbx htold)
      | (refine wpList_store_row (by rfl) 34 _ _ (by rfl) (w.heap.size+2) kd.cells.toArray (by rfl) (by rfl) _ _ HBX.out (by rw [List.size_toArray,HL8.out];exact SKd) (by simp only [List.size_toArray,HL8.out,kd0_size]) (all_oneCell_toArray Kd.one) ?_))
     exact ret_str2 8 9 (by kernel_rfl) (w.heap.size+2) _ kd.cells.toArray _ HDK.out HDKR.out (by rw [List.size_toArray,HL8.out];exact SKd) (by rfl) (by rfl) (setRow_heap _ _ _ _ _ _ HBX.out) HTOLD.out
end Go.Proofs.YtinihaflmdihaaaGreat.Kt
namespace Go.Proofs.YtinihaflmdihaaaGreat.Kt
open Go.RowKit Go.Proofs.YtinihaflmdihaaaGreat.Nd Go.Proofs.YtinihaflmdihaaaGreat.Pg
def T.ents:T→List (List Int)
 | .nil=>[]
 | .fork p _ l r=>p::(l.ents++r.ents)
def T.bst (d:Nat):T→Nat→Prop
 | .nil,_=>True
 | .fork p _ l r,t=>(∀x∈l.ents,lessP (t%d) x p=true)∧(∀x∈r.ents,lessP (t%d) p x=true)∧l.bst d (t+1)∧r.bst d (t+1)
theorem all_ents:∀(u:T),∀x∈u.all,x∈u.ents
 | .nil,x,h=>by cases h
 | .fork p v l r,x,h=>by
  unfold T.all at h
  unfold T.ents
  rcases List.mem_append.1 h with h | h
  ·rcases List.mem_append.1 h with h | h
   ·exact List.mem_cons_of_mem _ (List.mem_append_left _ (all_ents l x h))
   ·exact List.mem_cons_of_mem _ (List.mem_append_right _ (all_ents r x h))
  ·cases v with
   | true=>
    rw [if_pos rfl] at h
    rw [List.mem_singleton.1 h]
    exact List.mem_cons_self
   | false=>simp at h
theorem bst_nodup {d:Nat}:∀ {u:T} {t:Nat},u.bst d t→u.all.Nodup
 | .nil,_,_=>List.nodup_nil
 | .fork p v l r,t,h=>by
  obtain ⟨h1,h2,h3,h4⟩:=h
  unfold T.all
  have il:∀x∈l.all,lessP (t%d) x p=true:=fun x hx=>h1 x (all_ents l x hx)
  have ir:∀x∈r.all,lessP (t%d) p x=true:=fun x hx=>h2 x (all_ents r x hx)
  rw [List.nodup_append,List.nodup_append]
  refine ⟨⟨bst_nodup h3,bst_nodup h4,fun a ha b hb e=>?_⟩,?_,fun a ha b hb e=>?_⟩
  ·subst e
   have:=less_trans (il a ha) (ir a hb)
   rw [less_irrefl] at this
   cases this
  ·cases v<;>simp
  ·cases v with
   | true=>
    rw [if_pos rfl] at hb
    have hb:=List.mem_singleton.1 hb
    subst e hb
    rcases List.mem_append.1 ha with ha | ha
    ·have:=il a ha
     rw [less_irrefl] at this
     cases this
    ·have:=ir a ha
     rw [less_irrefl] at this
     cases this
   | false=>simp at hb
theorem layP_ents:∀(n:Nat) (L:List (List Int)) (t:Nat),L.length≤n→∀x∈(layP n L t).ents,x∈L
 | 0,L,t,h,x,hx=>by cases hx
 | n+1,L,t,h,x,hx=>by
  rw [layP] at hx
  by_cases hL:L=[]
  ·rw [if_pos hL] at hx
   cases hx
  ·rw [if_neg hL] at hx
   have hp:=List.length_pos_iff.2 hL
   have l1:((sortP (t%(L.headD []).length) L).take (L.length/2)).length≤n:=by rw [List.length_take,sortP_length];omega
   have l2:((sortP (t%(L.headD []).length) L).drop (L.length/2+1)).length≤n:=by rw [List.length_drop,sortP_length];omega
   have h1:=layP_ents n _ (t+1) l1
   have h2:=layP_ents n _ (t+1) l2
   refine (sortP_perm (t%(L.headD []).length) L).mem_iff.1 ?_
   unfold T.ents at hx
   rcases List.mem_cons.1 hx with rfl | hx
   ·rw [List.getD_eq_getElem?_getD,List.getElem?_eq_getElem (by rw [sortP_length];omega)]
    exact List.getElem_mem _
   ·rcases List.mem_append.1 hx with hx | hx
    ·exact List.mem_of_mem_take (h1 x hx)
    ·exact List.mem_of_mem_drop (h2 x hx)
theorem lay_ents {L:List (List Int)} {t:Nat}:∀x∈(lay L t).ents,x∈L:=layP_ents _ L t (Nat.le_refl _)
theorem layP_bst {d:Nat}:∀(n:Nat) (L:List (List Int)) (t:Nat),L.length≤n→(∀y∈L,y.length=d)→L.Nodup→(layP n L t).bst d t
 | 0,L,t,_,_,_=>trivial
 | n+1,L,t,h,hd,hn=>by
  rw [layP]
  by_cases hL:L=[]
  ·rw [if_pos hL]
   trivial
  ·rw [if_neg hL]
   have hp:=List.length_pos_iff.2 hL
   have he:(L.headD []).length=d:=by
    cases L with
    | nil=>exact absurd rfl hL
    | cons x K=>exact hd x (by simp)
   rw [he]
   have hperm:=sortP_perm (t%d) L
   have hs:=sortP_sorted (a:=t%d) hd
   have hlen:=sortP_length (t%d) L
   generalize sortP (t%d) L=S at *
   have hSd:∀y∈S,y.length=d:=fun y hy=>hd y (hperm.mem_iff.1 hy)
   have hSn:S.Nodup:=hperm.nodup_iff.2 hn
   have l1:(S.take (L.length/2)).length≤n:=by rw [List.length_take];omega
   have l2:(S.drop (L.length/2+1)).length≤n:=by rw [List.length_drop];omega
   have hm:L.length/2<S.length:=by omega
   have hget:S.getD (L.length/2) []=S[L.length/2]:=by rw [List.getD_eq_getElem?_getD,List.getElem?_eq_getElem hm];rfl
   have strict:∀i j (hi:i<S.length) (hj:j<S.length),i<j→lessP (t%d) S[i] S[j]=true:=fun i j hi hj hij=>by
    cases hc:lessP (t%d) S[i] S[j] with
    | true=>rfl
    | false=>
     have h1:=(List.pairwise_iff_getElem.1 hs) i j hi hj hij
     have e:=less_total ((hSd _ (List.getElem_mem hi)).trans (hSd _ (List.getElem_mem hj)).symm) hc h1
     exact absurd e ((List.pairwise_iff_getElem.1 hSn) i j hi hj hij)
   unfold T.bst
   rw [hget]
   refine ⟨fun x hx=>?_,fun x hx=>?_,layP_bst n _ (t+1) l1 (fun y hy=>hSd y (List.mem_of_mem_take hy)) (hSn.sublist (List.take_sublist _ _)),layP_bst n _ (t+1) l2 (fun y hy=>hSd y (List.mem_of_mem_drop hy)) (hSn.sublist (List.drop_sublist _ _))⟩
   ·obtain ⟨i,hi,rfl⟩:=List.getElem_of_mem (layP_ents n _ (t+1) l1 x hx)
    rw [List.length_take] at hi
    rw [List.getElem_take]
    exact strict i _ (by omega) hm (by omega)
   ·obtain ⟨i,hi,rfl⟩:=List.getElem_of_mem (layP_ents n _ (t+1) l2 x hx)
    rw [List.length_drop] at hi
    rw [List.getElem_drop]
    exact strict _ _ hm (by omega) (by omega)
theorem lay_bst {d:Nat} {L:List (List Int)} {t:Nat} (hd:∀y∈L,y.length=d) (hn:L.Nodup):(lay L t).bst d t:=layP_bst _ L t (Nat.le_refl _) hd hn
theorem light_bst {d:Nat} {u:T} {t:Nat} (hd:u.dims d) (h:u.bst d t):(light u t).bst d t∧∀x∈(light u t).ents,x∈u.ents:=by
 cases u with
 | nil=>exact ⟨trivial,fun x hx=>hx⟩
 | fork p v l r=>
  unfold light
  simp only
  split
  ·exact ⟨lay_bst (all_dims hd) (bst_nodup h),fun x hx=>all_ents _ x (lay_ents x hx)⟩
  ·exact ⟨h,fun x hx=>hx⟩
theorem insert_bst {d:Nat} {p:List Int} (hp:p.length=d):∀(u:T) (t:Nat),u.dims d→u.bst d t→(insertT u p t).1.bst d t∧∀x∈(insertT u p t).1.ents,x=p∨x∈u.ents
 | .nil,t,_,_=>⟨⟨(fun x hx=>by cases hx),(fun x hx=>by cases hx),trivial,trivial⟩,fun x hx=>Or.inl (List.mem_singleton.1 hx)⟩
 | .fork q v l r,t,hd,h=>by
  obtain ⟨h1,h2,h3,h4⟩:=h
  unfold insertT
  rw [hp]
  by_cases hq:q=p
  ·rw [if_pos hq]
   obtain ⟨k1,k2⟩:=light_bst (u:=.fork q true l r) (t:=t) ⟨hd.1,hd.2.1,hd.2.2⟩ ⟨h1,h2,h3,h4⟩
   exact ⟨k1,fun x hx=>Or.inr (k2 x hx)⟩
  ·rw [if_neg hq]
   by_cases hl:lessP (t%d) p q=true
   ·rw [if_pos hl]
    obtain ⟨i1,i2⟩:=insert_bst hp l (t+1) hd.2.1 h3
    obtain ⟨k1,k2⟩:=light_bst (u:=.fork q v (insertT l p (t+1)).1 r) (t:=t) ⟨hd.1,insert_dims hd.2.1 hp,hd.2.2⟩ ⟨fun x hx=>(i2 x hx).elim (fun e=>e▸hl) (h1 x),h2,i1,h4⟩
    refine ⟨k1,fun x hx=>?_⟩
    rcases List.mem_cons.1 (k2 x hx) with rfl | hx
    ·exact Or.inr List.mem_cons_self
    ·rcases List.mem_append.1 hx with hx | hx
     ·exact (i2 x hx).imp id fun h=>List.mem_cons_of_mem _ (List.mem_append_left _ h)
     ·exact Or.inr (List.mem_cons_of_mem _ (List.mem_append_right _ hx))
   ·rw [if_neg hl]
    have hg:lessP (t%d) q p=true:=by
     cases hc:lessP (t%d) q p with
     | true=>rfl
     | false=>exact absurd (less_total (hd.1.trans hp.symm) hc (by simpa using hl)) hq
    obtain ⟨i1,i2⟩:=insert_bst hp r (t+1) hd.2.2 h4
    obtain ⟨k1,k2⟩:=light_bst (u:=.fork q v l (insertT r p (t+1)).1) (t:=t) ⟨hd.1,hd.2.1,insert_dims hd.2.2 hp⟩ ⟨h1,fun x hx=>(i2 x hx).elim (fun e=>e▸hg) (h2 x),h3,i1⟩
    refine ⟨k1,fun x hx=>?_⟩
    rcases List.mem_cons.1 (k2 x hx) with rfl | hx
    ·exact Or.inr List.mem_cons_self
    ·rcases List.mem_append.1 hx with hx | hx
     ·exact Or.inr (List.mem_cons_of_mem _ (List.mem_append_left _ hx))
     ·exact (i2 x hx).imp id fun h=>List.mem_cons_of_mem _ (List.mem_append_right _ h)
theorem way_remove {d:Nat} {p:List Int} (hp:p.length=d):∀(u:T) (t:Nat),u.dims d→∃A s,wayV d p (V.of u) t=some (A,s)∧s.live=(removeT u p t).2∧(s.live=true→raiseV A (.fork s.row false s.l s.r)=V.of (removeT u p t).1)
 | .nil,t,_=>⟨[],_,rfl,rfl,fun h=>by cases h⟩
 | .fork q v l r,t,hd=>by
  have hl:p.length=q.length:=hp.trans hd.1.symm
  have hw:wayV d p (V.of (.fork q v l r)) t=(if ordC (t%d) p q=0 then some ([],⟨q,v,V.of l,V.of r,false,V.of (.fork q v l r)⟩)
   else if 0<ordC (t%d) p q then (wayV d p (V.of r) (t+1)).map fun x=>(⟨q,v,V.of l,V.of r,true,V.of (.fork q v l r)⟩::x.1,x.2)
   else (wayV d p (V.of l) (t+1)).map fun x=>(⟨q,v,V.of l,V.of r,false,V.of (.fork q v l r)⟩::x.1,x.2)):=rfl
  rw [hw]
  have hlt:=ordC_less (a:=t%d) hl
  unfold removeT
  rw [hp]
  by_cases h0:ordC (t%d) p q=0
  ·have hq:q=p:=((ordC_zero hl).1 h0).symm
   rw [if_pos h0,if_pos hq]
   exact ⟨[],_,rfl,rfl,fun _=>rfl⟩
  ·have hq:¬q=p:=fun e=>h0 ((ordC_zero hl).2 e.symm)
   rw [if_neg h0,if_neg hq]
   by_cases h1:0<ordC (t%d) p q
   ·rw [if_pos h1,if_neg (fun e=>by have:=hlt.2 e;omega)]
    obtain ⟨A,s,h2,h3,h4⟩:=way_remove hp r (t+1) hd.2.2
    refine ⟨_::A,s,by rw [h2];rfl,h3,fun hs=>?_⟩
    show V.fork q v (V.of l) (raiseV A _)=V.fork q v (V.of l) _
    rw [h4 hs]
   ·rw [if_neg h1,if_pos (hlt.1 (by omega))]
    obtain ⟨A,s,h2,h3,h4⟩:=way_remove hp l (t+1) hd.2.1
    refine ⟨_::A,s,by rw [h2];rfl,h3,fun hs=>?_⟩
    show V.fork q v (raiseV A _) (V.of r)=V.fork q v _ (V.of r)
    rw [h4 hs]
theorem remove_all:∀(u:T) (p:List Int) (t:Nat),(removeT u p t).2=true→u.all.Perm ((removeT u p t).1.all++[p])
 | .nil,p,t,h=>by cases h
 | .fork q v l r,p,t,h=>by
  unfold removeT at h ⊢
  by_cases hq:q=p
  ·rw [if_pos hq] at h ⊢
   have hv:v=true:=h
   subst hv hq
   show (l.all++r.all++[q]).Perm (l.all++r.all++[]++[q])
   rw [List.append_nil]
  ·rw [if_neg hq] at h ⊢
   by_cases hl:lessP (t%p.length) p q=true
   ·rw [if_pos hl] at h ⊢
    have ih:=remove_all l p (t+1) h
    show (l.all++r.all++if v then [q] else []).Perm ((removeT l p (t+1)).1.all++r.all++(if v then [q] else [])++[p])
    refine ((ih.append_right _).append_right _).trans ?_
    rw [List.append_assoc,List.append_assoc,List.append_assoc,List.append_assoc]
    refine List.Perm.append_left _ ?_
    rw [← List.append_assoc r.all]
    exact List.perm_append_comm
   ·rw [if_neg hl] at h ⊢
    have ih:=remove_all r p (t+1) h
    show (l.all++r.all++if v then [q] else []).Perm (l.all++(removeT r p (t+1)).1.all++(if v then [q] else [])++[p])
    rw [List.append_assoc,List.append_assoc,List.append_assoc]
    refine List.Perm.append_left _ ?_
    refine (ih.append_right _).trans ?_
    rw [List.append_assoc]
    refine List.Perm.append_left _ ?_
    exact List.perm_append_comm
theorem remove_ents:∀(u:T) (p:List Int) (t:Nat),(removeT u p t).1.ents=u.ents
 | .nil,p,t=>rfl
 | .fork q v l r,p,t=>by
  unfold removeT
  split
  ·rfl
  ·split
   ·show q::((removeT l p (t+1)).1.ents++r.ents)=_
    rw [remove_ents l]
    rfl
   ·show q::(l.ents++(removeT r p (t+1)).1.ents)=_
    rw [remove_ents r]
    rfl
theorem remove_bst {d:Nat}:∀(u:T) (p:List Int) (t:Nat),u.bst d t→(removeT u p t).1.bst d t
 | .nil,p,t,_=>trivial
 | .fork q v l r,p,t,h=>by
  obtain ⟨h1,h2,h3,h4⟩:=h
  unfold removeT
  split
  ·exact ⟨h1,h2,h3,h4⟩
  ·split
   ·exact ⟨by rw [remove_ents];exact h1,h2,remove_bst l p (t+1) h3,h4⟩
   ·exact ⟨h1,by rw [remove_ents];exact h2,h3,remove_bst r p (t+1) h4⟩
theorem delete_bst {d:Nat} {u:T} {p:List Int} (hd:u.dims d) (h:u.bst d 0):(deleteT u p).1.bst d 0:=by
 unfold deleteT
 split
 ·exact lay_bst (all_dims (remove_dims hd)) (bst_nodup (remove_bst u p 0 h))
 ·exact remove_bst u p 0 h
theorem rows_left {d:Nat} {u:T} {p:List Int} (h:u.bst d 0) (hr:(removeT u p 0).2=true):((V.of u).rows.filter fun x=> !decide (x=p)).Perm (removeT u p 0).1.all:=by
 have h1:=(rows_perm u).trans (remove_all u p 0 hr)
 have hn:=h1.nodup_iff.1 ((rows_perm u).nodup_iff.2 (bst_nodup h))
 refine (h1.filter _).trans ?_
 rw [List.filter_append,List.nodup_append] at *
 have e1:(removeT u p 0).1.all.filter (fun x=> !decide (x=p))=(removeT u p 0).1.all:=List.filter_eq_self.2 fun x hx=>by
  rw [decide_eq_false (fun e=>hn.2.2 x hx p (by simp) e)]
  rfl
 rw [e1]
 simp
theorem getD64 {R:List Int} (h:∀x∈R,In64 x) (i:Nat):In64 (R.getD i 0):=by
 rw [List.getD_eq_getElem?_getD]
 rcases Nat.lt_or_ge i R.length with hi | hi
 ·rw [List.getElem?_eq_getElem hi]
  exact h _ (List.getElem_mem _)
 ·rw [List.getElem?_eq_none hi]
  exact ⟨by decide,by decide⟩
theorem two64 {f:Int→Int→Int} (hf:∀x y,f x y=x∨f x y=y) {R T:List Int} (hR:∀x∈R,In64 x) (hT:∀x∈T,In64 x) (k:Nat):∀x∈two f R T k,In64 x:=fun x hx=>by
 unfold two at hx
 obtain ⟨i,-,rfl⟩:=List.mem_map.1 hx
 rcases hf (R.getD i 0) (T.getD i 0) with e | e
 ·rw [e];exact getD64 hR i
 ·rw [e];exact getD64 hT i
def Bx64 (b:List Int×List Int):Prop:=(∀x∈b.1,In64 x)∧∀x∈b.2,In64 x
theorem hull64 {A B:List Int×List Int} (hA:Bx64 A) (hB:Bx64 B):Bx64 (hull A B):=by
 unfold hull
 split
 ·exact hA
 ·split
  ·exact hB
  ·split
   ·exact ⟨fun x hx=>(by cases hx),fun x hx=>by cases hx⟩
   ·exact ⟨two64 (fun x y=>by rcases Int.le_total x y with h | h<;>omega) hA.1 hB.1 _,two64 (fun x y=>by rcases Int.le_total x y with h | h<;>omega) hA.2 hB.2 _⟩
theorem fork_nums {q:List Int} {v:Bool} {a b:PK} (hq:∀x∈q,In64 x) (ha:a.Nums) (hb:b.Nums):(forkN q v a b).Nums∧(forkN q v a b).says.Nums:=by
 have hn:(forkN q v a b).Nums:=⟨fun e he=>by
  have he:e∈[(⟨q,v⟩:PE)]:=he
  rw [List.mem_singleton.1 he]
  exact hq,fun k hk=>by
  have hk:k∈[a,b]:=hk
  simp only [List.mem_cons,List.not_mem_nil,or_false] at hk
  rcases hk with rfl | rfl
  ·exact ha
  ·exact hb⟩
 refine ⟨hn,sumOf_length _,sumOf_ok _,?_,?_,fun x hx=>by cases hx⟩
 all_goals
  have h0:Bx64 (([],[]):List Int×List Int):=⟨fun x hx=>(by cases hx),fun x hx=>by cases hx⟩
  have h1:Bx64 (boxE ([],[]) ⟨q,v⟩):=by
   unfold boxE
   split
   ·exact hull64 h0 ⟨hq,hq⟩
   ·exact h0
  have h2:Bx64 (forkN q v a b).box:=hull64 (hull64 h1 ⟨ha.2.2.1,ha.2.2.2.1⟩) ⟨hb.2.2.1,hb.2.2.2.1⟩
 ·exact h2.1
 ·exact h2.2
theorem none_nums:PK.none.Nums:=⟨by decide,zeros_ok 32,fun x hx=>(by cases hx),fun x hx=>(by cases hx),fun x hx=>by cases hx⟩
structure NewK (d:Nat) (a:PK):Prop where
 right:a.right d=true
 key:a.key=[]
 nums:a.Nums
theorem NewK.size {d:Nat} {a:PK} (h:NewK d a):0≤a.size:=(kid_zero h.right).1
theorem fork_new {d:Nat} (hd:1≤d∧d≤8) {q:List Int} {v:Bool} {a b:PK} (hl:q.length=d) (hq:∀x∈q,In64 x) (ha:NewK d a) (hb:NewK d b) (hz:a.size+b.size+1≤1048576):NewK d (forkN q v a b).says∧Txt d (forkN q v a b).bytes (forkN q v a b)∧(forkN q v a b).says.size=1+(a.size+b.size):=by
 have hf:=fork_size q v a b
 have h1:=ha.size
 have h2:=hb.size
 have hr:=fork_right (v:=v) hd hl ha.right hb.right ha.key hb.key
 have hn:=fork_nums (v:=v) hq ha.nums hb.nums
 exact ⟨⟨says_right hr (by omega) (by omega),rfl,hn.2⟩,txt_of hn.1 hr (by omega),hf⟩
theorem sees_fork {W:Pages} {d:Nat} {q:List Int} {v:Bool} {l r:V} (h:Sees W d (.fork q v l r)):q.length=d∧(∀x∈q,In64 x)∧NewK d l.kid∧NewK d r.kid:=by
 have hn:=h.1.nums
 refine ⟨fork_len h,hn.rows ⟨q,v⟩ (by simp [forkN]),⟨(sees_right h.2.2.1).1,(sees_right h.2.2.1).2,hn.kids l.kid (by simp [forkN])⟩,⟨(sees_right h.2.2.2).1,(sees_right h.2.2.2).2,hn.kids r.kid (by simp [forkN])⟩⟩
theorem rows64 {W:Pages} {d:Nat}:∀ {u:V},Sees W d u→∀y∈u.rows,∀x∈y,In64 x
 | .nil,_,y,hy=>by cases hy
 | .bad _,_,y,hy=>by cases hy
 | .fork p v l r,h,y,hy=>by
  have hy:y∈(if v then [p] else [])++(l.rows++r.rows):=hy
  rcases List.mem_append.1 hy with hy | hy
  ·have hy:y=p:=by cases v<;>simp at hy;exact hy
   rw [hy]
   exact (sees_fork h).2.1
  ·rcases List.mem_append.1 hy with hy | hy
   ·exact rows64 h.2.2.1 y hy
   ·exact rows64 h.2.2.2 y hy
theorem rows_size {W:Pages} {d:Nat}:∀ {u:V},Sees W d u→(u.rows.length:Int)≤u.kid.live∨u.whole=false
 | .nil,_=>Or.inl (by show (0:Int)≤0;omega)
 | .bad _,_=>Or.inr rfl
 | .fork p v l r,h=>by
  have hw:(V.fork p v l r).whole=(l.whole&&r.whole):=rfl
  rcases rows_size h.2.2.1 with h1 | h1
  ·rcases rows_size h.2.2.2 with h2 | h2
   ·left
    show (((if v then [p] else [])++(l.rows++r.rows)).length:Int)≤((if v then (1:Int) else 0)+0)+(l.kid.live+(r.kid.live+0))
    rw [List.length_append,List.length_append]
    cases v<;>simp<;>omega
   ·right
    rw [hw,h2,Bool.and_false]
  ·right
   rw [hw,h1,Bool.false_and]
theorem tree_new {d:Nat} (hd:1≤d∧d≤8):∀t:T,t.dims d→(∀y∈t.ents,∀x∈y,In64 x)→t.size≤1048576→NewK d (V.of t).kid∧(∀b∈t.pages,∃N,Txt d b N∧N.kind=1)∧(∀W',(∀b∈t.pages,textAt W' (sumOf b)=some b)→Sees W' d (V.of t))
 | .nil,_,_,_=>⟨⟨rfl,rfl,none_nums⟩,fun b hb=>(by cases hb),fun _ _=>trivial⟩
 | .fork p v l r,hdm,hn,hz=>by
  have hzz:(T.fork p v l r).size=1+l.size+r.size:=rfl
  obtain ⟨l1,l2,l3⟩:=tree_new hd l hdm.2.1 (fun y hy=>hn y (by show y∈p::(l.ents++r.ents);simp [hy])) (by omega)
  obtain ⟨r1,r2,r3⟩:=tree_new hd r hdm.2.2 (fun y hy=>hn y (by show y∈p::(l.ents++r.ents);simp [hy])) (by omega)
  have el:=of_kid (u:=l) (by omega)
  have er:=of_kid (u:=r) (by omega)
  have sl:=kid_size l (by omega)
  have sr:=kid_size r (by omega)
  have hf:=fork_new (v:=v) hd hdm.1 (hn p (by show p∈p::(l.ents++r.ents);simp)) l1 r1 (by rw [el,er,sl,sr];omega)
  have hpg:(T.fork p v l r).pages=l.pages++r.pages++[(forkN p v (V.of l).kid (V.of r).kid).bytes]:=by
   rw [el,er]
   rfl
  rw [hpg]
  refine ⟨hf.1,fun b hb=>?_,fun W' hW=>?_⟩
  ·rcases List.mem_append.1 hb with hb | hb
   ·rcases List.mem_append.1 hb with hb | hb
    ·exact l2 b hb
    ·exact r2 b hb
   ·rw [List.mem_singleton.1 hb]
    exact ⟨_,hf.2.1,rfl⟩
  ·exact ⟨hf.2.1,hW _ (by simp),l3 W' (fun b hb=>hW b (by simp [hb])),r3 W' (fun b hb=>hW b (by simp [hb]))⟩
inductive Path:V→List St→V→Prop
 | nil (u:V):Path u [] u
 | cons {q:List Int} {lv:Bool} {l r:V} {sd:Bool} {L:List St} {v:V} (h:Path (if sd then r else l) L v):Path (.fork q lv l r) (⟨q,lv,l,r,sd,.fork q lv l r⟩::L) v
def EndOk (p:List Int) (s:St):Prop:=(s.old= .nil∧s.l= .nil∧s.r= .nil∧s.row=p∧s.live=false)∨s.old= .fork s.row s.live s.l s.r
theorem way_path {d:Nat} {p:List Int}:∀(u:V) (t:Nat) (L:List St) (s:St),wayV d p u t=some (L,s)→EndOk p s∧Path u L s.old∧∀h,h<L.length→Path u (L.take h) (L.getD h s).old
 | .nil,t,L,s,h=>by
  have h:some ([],(⟨p,false,.nil,.nil,false,.nil⟩:St))=some (L,s):=h
  simp only [Option.some.injEq,Prod.mk.injEq] at h
  obtain ⟨rfl,rfl⟩:=h
  exact ⟨Or.inl ⟨rfl,rfl,rfl,rfl,rfl⟩,.nil _,fun h hh=>by cases hh⟩
 | .bad k,t,L,s,h=>by cases h
 | .fork q lv l r,t,L,s,h=>by
  have hw:wayV d p (.fork q lv l r) t=(if ordC (t%d) p q=0 then some ([],⟨q,lv,l,r,false,.fork q lv l r⟩)
   else if 0<ordC (t%d) p q then (wayV d p r (t+1)).map fun x=>(⟨q,lv,l,r,true,.fork q lv l r⟩::x.1,x.2)
   else (wayV d p l (t+1)).map fun x=>(⟨q,lv,l,r,false,.fork q lv l r⟩::x.1,x.2)):=rfl
  rw [hw] at h
  have key:∀(sd:Bool) (M:List St) (s:St),(EndOk p s∧Path (if sd then r else l) M s.old∧∀h,h<M.length→Path (if sd then r else l) (M.take h) (M.getD h s).old)→EndOk p s∧Path (.fork q lv l r) (⟨q,lv,l,r,sd,.fork q lv l r⟩::M) s.old∧∀h,h<((⟨q,lv,l,r,sd,.fork q lv l r⟩:St)::M).length→Path (.fork q lv l r) (((⟨q,lv,l,r,sd,.fork q lv l r⟩:St)::M).take h) (((⟨q,lv,l,r,sd,.fork q lv l r⟩:St)::M).getD h s).old:=fun sd M s ⟨h1,h2,h3⟩=>by
   refine ⟨h1,.cons h2,fun h hh=>?_⟩
   cases h with
   | zero=>exact .nil _
   | succ h=>exact .cons (h3 h (by simpa using hh))
  split at h
  ·simp only [Option.some.injEq,Prod.mk.injEq] at h
   obtain ⟨rfl,rfl⟩:=h
   exact ⟨Or.inr rfl,.nil _,fun h hh=>by cases hh⟩
  ·split at h
   ·cases hwr:wayV d p r (t+1) with
    | none=>rw [hwr] at h;cases h
    | some x=>
     rw [hwr] at h
     simp only [Option.map_some,Option.some.injEq,Prod.mk.injEq] at h
     obtain ⟨rfl,rfl⟩:=h
     exact key true x.1 x.2 (way_path r (t+1) x.1 x.2 hwr)
   ·cases hwl:wayV d p l (t+1) with
    | none=>rw [hwl] at h;cases h
    | some x=>
     rw [hwl] at h
     simp only [Option.map_some,Option.some.injEq,Prod.mk.injEq] at h
     obtain ⟨rfl,rfl⟩:=h
     exact key false x.1 x.2 (way_path l (t+1) x.1 x.2 hwl)
theorem path_raise {W:Pages} {d:Nat} (hd:1≤d∧d≤8) {u v:V} {L:List St} (hp:Path u L v):Sees W d u→∀k:V,NewK d k.kid→u.kid.size+(k.kid.size - v.kid.size)≤1048576→
  NewK d (raiseV L k).kid∧(raiseV L k).kid.size=u.kid.size+(k.kid.size - v.kid.size)∧v.kid.size≤u.kid.size∧(∀b∈raiseP L k,∃N,Txt d b N∧N.kind=1)∧(raiseP L k).length=L.length∧
  (∀W',(∀x t,textAt W x=some t→textAt W' x=some t)→(∀b∈raiseP L k,textAt W' (sumOf b)=some b)→u.whole=true→Sees W' d k→Sees W' d (raiseV L k)):=by
 induction hp with
 | nil u=>exact fun hs k hk hz=>⟨hk,by show k.kid.size=_;omega,Int.le_refl _,fun b hb=>(by cases hb),rfl,fun W' _ _ _ h=>h⟩
 | @cons q lv l r sd L v h ih=>
  intro hs k hk hz
  have hsz:(V.fork q lv l r).kid.size=1+(l.kid.size+r.kid.size):=fork_size q lv l.kid r.kid
  obtain ⟨hql,hqn,hl,hr⟩:=sees_fork hs
  have hl0:=hl.size
  have hr0:=hr.size
  have hwh:(V.fork q lv l r).whole=(l.whole&&r.whole):=rfl
  cases sd with
  | true=>
   obtain ⟨h1,h2,h3,h4,h5,h6⟩:=ih hs.2.2.2 k hk (by simp only [if_true];omega)
   simp only [if_true] at h2 h3 h6
   have hf:=fork_new (v:=lv) hd hql hqn hl h1 (by omega)
   have hz2:=hf.2.2
   refine ⟨hf.1,by show (forkN q lv l.kid (raiseV L k).kid).says.size=_;omega,by omega,fun b hb=>?_,by rw [raiseP,List.length_append,h5];rfl,fun W' hm hg hw hk'=>?_⟩
   ·rcases List.mem_append.1 hb with hb | hb
    ·exact h4 b hb
    ·rw [List.mem_singleton.1 hb]
     exact ⟨_,hf.2.1,rfl⟩
   ·rw [hwh,Bool.and_eq_true] at hw
    exact ⟨hf.2.1,hg _ (by rw [raiseP];simp),whole_stays hm hw.1 hs.2.2.1,h6 W' hm (fun b hb=>hg b (by rw [raiseP];simp [hb])) hw.2 hk'⟩
  | false=>
   obtain ⟨h1,h2,h3,h4,h5,h6⟩:=ih hs.2.2.1 k hk (by simp only [Bool.false_eq_true,if_false];omega)
   simp only [Bool.false_eq_true,if_false] at h2 h3 h6
   have hf:=fork_new (v:=lv) hd hql hqn h1 hr (by omega)
   have hz2:=hf.2.2
   refine ⟨hf.1,by show (forkN q lv (raiseV L k).kid r.kid).says.size=_;omega,by omega,fun b hb=>?_,by rw [raiseP,List.length_append,h5];rfl,fun W' hm hg hw hk'=>?_⟩
   ·rcases List.mem_append.1 hb with hb | hb
    ·exact h4 b hb
    ·rw [List.mem_singleton.1 hb]
     exact ⟨_,hf.2.1,rfl⟩
   ·rw [hwh,Bool.and_eq_true] at hw
    exact ⟨hf.2.1,hg _ (by rw [raiseP];simp),h6 W' hm (fun b hb=>hg b (by rw [raiseP];simp [hb])) hw.1 hk',whole_stays hm hw.2 hs.2.2.2⟩
end Go.Proofs.YtinihaflmdihaaaGreat.Kt
