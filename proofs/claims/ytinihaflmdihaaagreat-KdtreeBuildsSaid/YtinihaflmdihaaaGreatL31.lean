/- CodRefRow, NdBytes, ShaRefPre. -/
import Derived.Laws.AppendOwn
import Derived.Test.YtinihaflmdihaaaGreatL30
set_option maxRecDepth 100000
set_option maxHeartbeats 8000000
set_option linter.all false
namespace Go.Proofs.YtinihaflmdihaaaGreat
open Go.RowKit
def y3u (w:World) (R:List Int) (v i:Value) (wr:World):Prop:=
 ∃k:Nat,k≤R.length∧i= .int .i64 k∧wr.ownsRow w.heap.size 5 1 v (1+8*k) (vals (R.length%256::nums (R.take k)))∧Below w.heap.size w wr
theorem x2l (R:List Int) (p:Option Addr) (n c:Nat) (w:World) (hR:Ints w p n c R) (hn:n<1000000):
  Calls Tryz.prog 158 #[.slice p n c] w (x5P w (R.length%256::nums R)):=by
 have y:=yH hR
 have P:=yH hR.size
 have b:=yH hR.le
 obtain ⟨i5,W,O,Q,K⟩:=info_parts I5
 have HI:=yH W
 have g:=yH O
 have h:=yH Q
 have l:=yH K
 have hw:IntKind.u8.wrap (n:Int)=((n%256:Nat):Int):=by rw [IntKind.wrap_u8];omega
 clear W O Q K hR
 go_enter Tryz.func158,Tryz.ntmps158
 go_wp2_with fail
 have J:y3u w R (.slice (some ⟨w.heap.size,0,none⟩) 1 1) (.int .i64 0) (w.alloc (.cells #[.int .u8 ((n:Int)%256)] 5)):=by
  rw [show (n:Int)%256=((n%256:Nat):Int) from by omega]
  exact ⟨0,by omega,rfl,by rw [← P.out];exact x1b (L:=[n%256]) (heap_alloc_new w _) rfl (Nat.le_refl _) (by unfold maxLen;omega) (Nat.le_refl _),(Below.refl _ _).alloc (Nat.le_refl _) _⟩
 have HST:=yH J
 clear J hw
 go_loopw [3,4] (fun v i wr=>y3u w R v i wr) (fun _ i _=>n - (intOf i).toNat)
 case atStart=>exact HST.out
 case round=>
  obtain ⟨k,hk,rfl,A,s⟩:=hrel
  rw [← P.out] at hk
  have z:=yH A
  have U:=yH s
  clear A s HST
  by_cases hlt:k<n
  ·have B:k<R.length:=by rw [← P.out];exact hlt
   have Y:=y.out.get k hlt
   rcases y.out.at' with h0 | ⟨u,o,j,hc⟩
   ·rw [h0] at B;exact absurd B (by simp)
   ·subst j
    have G:=hc k B
    have C:wr.cell? ⟨u,o+k,none⟩=some (.int .i64 (R.getD k 0)):=(U.out.cell (p:=⟨u,o+k,none⟩) (block_lt_of_cell G)).trans G
    obtain ⟨x,E⟩:∃x,x=R.getD k 0:=⟨_,rfl⟩
    rw [← E] at C Y
    have X:=yH E
    have t:=yH Y
    clear hc G E Y
    have AA:=b.out
    go_wp2_with fail
    refine (x9y x t.out.1 t.out.2 wr).mono ?_
    rintro e w3 j
    obtain ⟨q3,c3,rfl,I,Z⟩:=j
    rw [Cm.num_length] at I ⊢
    obtain ⟨r,N⟩:=y2I I (by omega)
    rw [N] at I ⊢
    have H3:=yH I
    have T3:=yH (show Tx w3 (some r) 8 c3 (Cm.num x) from x0H I (Cm.num_ok x))
    have M:=yH (x3d z.out Z)
    have H:=yH (U.out.trans (Z.mono U.out.size))
    clear I Z N
    go_wp2_with (at_builtin;refine wpList_append_own _ (by rfl) (.tmp 15) (.tmp 20) 45 (by rfl) w.heap.size 5 i5 (.int .u8 0) 1 1 A22 HI.out g.out h.out l.out (by rfl) (by decide) _ (1+8*k) _ (by rfl) M.out r 8 c3 (vals (Cm.num x)) (by rfl) (by rw [x00,Nat.mul_one,Cm.num_length]) (T3.out.cells) (x0I _) (by unfold maxLen;omega) (by omega) H.out.size ?_;intro v4 w4 hown4 hgrow4 _;have f:=yH hown4;have a:=yH (H.out.grown hgrow4 H.out.size (fun i W=>(M.out.lt i W).1));clear hown4 hgrow4)
    go_wp2_with fail
    go_roundw
    case rel=>
     refine ⟨k+1,by omega,by go_num,?_,a.out⟩
     have A:=f.out
     rw [← x0p,X.out,List.cons_append,← x70 R k B,show 1+8*k+8=1+8*(k+1) from by omega] at A
     exact A
    case measure=>simp [intOf];omega
  ·obtain rfl:k=n:=by omega
   go_wp2_with fail
   go_ret
   have A:=z.out
   rw [List.take_of_length_le (by have:=P.out;omega)] at A
   obtain ⟨q,d,rfl⟩:=x1T A
   have e:1+8*k=(R.length%256::nums R).length:=by rw [List.length_cons,x2w,P.out];omega
   rw [e] at A
   exact ⟨q,d,congrArg (fun m=>Ending.returned (.slice q m d)) e,A,U.out⟩
theorem x7g (x:Bool) (w:World):
  Calls Tryz.prog 157 #[.bool x] w (x5P w [if x then 1 else 0]):=by
 cases x
 ·go_enter Tryz.func157,Tryz.ntmps157
  go_wp2_with fail
  go_ret
  exact ⟨_,1,rfl,x1b (L:=[0]) (heap_alloc_new w _) rfl (Nat.le_refl _) (by unfold maxLen;omega) (Nat.le_refl _),(Below.refl _ _).alloc (Nat.le_refl _) _⟩
 ·go_enter Tryz.func157,Tryz.ntmps157
  go_wp2_with fail
  go_ret
  exact ⟨_,1,rfl,x1b (L:=[1]) (heap_alloc_new w _) rfl (Nat.le_refl _) (by unfold maxLen;omega) (Nat.le_refl _),(Below.refl _ _).alloc (Nat.le_refl _) _⟩
end Go.Proofs.YtinihaflmdihaaaGreat
namespace Go.Proofs.YtinihaflmdihaaaGreat.Nd
open Go.RowKit Go.Proofs.YtinihaflmdihaaaGreat.Wl
def By2 (w1:World) (K:List Kd) (H:List Nat) (v i:Value) (wr:World):Prop:=∃k N:Nat,k≤K.length∧i= .int .i64 k∧N≤20103+1241*k∧Out w1 wr v N (H++(K.take k).flatMap fun e=>e.pk.bytes)
def By1 (w1:World) (E:List En) (H:List Nat) (v i:Value) (wr:World):Prop:=∃k N:Nat,k≤E.length∧i= .int .i64 k∧N≤2+402*k∧Out w1 wr v N (H++(E.take k).flatMap fun e=>e.pe.bytes)
theorem x9z (kind:Nat) (hkd:kind<256) (p:Option Addr) (n c:Nat) (q:Option Addr) (m f:Nat) (E:List En) (K:List Kd) (w:World) (hE:EntsIn w p n c E) (hK:KidsIn w q m f K) (hF:Few E K) (hL:∀k∈K,0≤k.live∧0≤k.size):
  Calls Tryz.prog 114 #[.agg #[.int .u8 kind,.slice p n c,.slice q m f]] w (x5P w (pnOf kind E K).bytes):=by
 obtain ⟨i5,hi,Al,Am,Ar⟩:=info_parts I5
 have HI:=yH hi
 have Y:=yH Al
 have Z:=yH Am
 have a:=yH Ar
 clear hi Al Am Ar
 have AC:Below w.heap.size w (w.alloc (.cells #[.int .u8 kind,.slice p n c,.slice q m f] 81)):=(Below.refl _ _).alloc (Nat.le_refl _) _
 have hn:=NodeAt.start w kind p n c q m f
 have Bm:n≤50:=by rw [hE.size];exact hF.rows
 have Bk:m≤50:=by rw [hK.size];exact hF.kids
 have A5:=yH hE.size
 have HE:=yH (hE.later AC)
 have HK:=yH (hK.later AC)
 have HB:=yH AC
 have HN:=yH hn
 have HF:=yH hF
 have HL:=yH hL
 clear hE hK AC hn hF hL
 have A6:=yH HK.out.size
 obtain ⟨du,Ak,Aj⟩:=UKd
 have HD:=yH Ak
 have BQ:=yH Aj
 have HZ:=yH (zero_of_info kz)
 clear Ak Aj
 have e8:IntKind.u8.wrap (n:Int)=(n:Nat):=by rw [IntKind.wrap_u8];omega
 have e9:IntKind.u8.wrap (m:Int)=(m:Nat):=by rw [IntKind.wrap_u8];omega
 go_enter Tryz.func114,Tryz.ntmps114
 go_upto_region 1 with fail
 generalize w.alloc (.cells #[.int .u8 kind,.slice p n c,.slice q m f] 81)=w1 at *
 obtain ⟨t0,t1,t2⟩:=HN.out.cells
 have HO0:=yH (show Out w1 (w1.alloc (.cells #[.int .u8 kind,.int .u8 n] 5)) (.slice (some ⟨w1.heap.size,0,Option.none⟩) 2 2) 2 [kind,n] from ⟨rfl,x1b (L:=[kind,n]) (heap_alloc_new w1 _) rfl (Nat.le_refl _) (by unfold maxLen;omega) (Nat.le_refl _),(fun x hx=>by simp at hx;omega),(Below.refl _ _).alloc (Nat.le_refl _) _⟩)
 go_upto_region 3 with fail
 generalize w1.alloc (.cells #[.int .u8 kind,.int .u8 n] 5)=w2 at *
 clear t0 t1 t2
 go_loopw [3,4] (fun v i wr=>By1 w1 E [kind,n] v i wr) (fun _ i _=>n - (intOf i).toNat)
 case atStart=>exact ⟨0,2,by omega,rfl,by omega,by simpa using HO0.out⟩
 case round=>
  obtain ⟨k,N,hk,rfl,hN,s⟩:=hrel
  have HO:=yH s
  clear s HO0
  obtain ⟨t0,t1,t2⟩:=(HN.out.later HO.out.low).cells
  obtain ⟨qv,cv,rfl⟩:=HO.out.form
  by_cases hlt:k<n
  ·obtain ⟨g,o,rfl,c1,c2,J⟩:=HE.out.get k hlt
   have i1:(0:Int)≤k∧(k:Int)<n:=by omega
   have d:k<E.length:=by rw [← A5.out];exact hlt
   have HS:=yH (x3I (fun e:En=>e.pe.bytes) E k d)
   have BN:=HF.out.row _ (getD_mem E k d)
   have As:(E.getD k default).row.R.length≤50:=by rw [← J.ints.size];exact BN
   have A4:=yH J
   clear J
   generalize E.getD k default=e at *
   simp only [Rw.val] at c1
   have e2:=(HO.out.low.cell (block_lt_of_cell c2)).trans c2
   go_upto_region 6 with (first
    | (go_at_call 157;refine (x7g e.live wr).mono ?_;rintro _ w4 ⟨q4,d4,rfl,o4,b4⟩;rw [show ([if e.live then 1 else 0]:List Nat).length=1 from rfl] at o4;rw [show ([if e.live then 1 else 0]:List Nat).length=1 from rfl];have A7:Sm.allB [if e.live then 1 else 0]:=(by intro x hx;simp at hx;subst hx;split<;>omega);have T4:=yH (x0H o4 A7);obtain ⟨a4,rfl⟩:=x2x T4.out (by simp);have AB:=yH (HO.out.later b4);have Ap:=yH A7;clear o4 b4 A7)
    | (at_builtin;refine wpList_append_own _ (by rfl) (.tmp 21) (.tmp 28) 45 (by rfl) w1.heap.size 5 i5 (.int .u8 0) 1 1 A22 HI.out Y.out Z.out a.out (by rfl) (by decide) _ N _ (by rfl) AB.out.own a4 1 d4 (vals [if e.live then 1 else 0]) (by rfl) (by rfl) T4.out.cells (x0I _) (by unfold maxLen;omega) (by omega) AB.out.low.size ?_;intro v5 w5 hown5 hgrow5 _;have HO5:=yH (AB.out.put Ap.out rfl hown5 hgrow5);clear hown5 hgrow5))
   clear t0 t1 t2 c2 e2 AB T4
   obtain ⟨t0,t1,t2⟩:=(HN.out.later HO5.out.low).cells
   have e1:=(HO5.out.low.cell (block_lt_of_cell c1)).trans c1
   have B5:=yH (A4.out.later HO5.out.low)
   obtain ⟨P,hP⟩:∃P,e.row.R.length%256::Go.Proofs.YtinihaflmdihaaaGreat.nums e.row.R=P:=⟨_,rfl⟩
   obtain ⟨ln,AY⟩:∃ln,P.length=ln:=⟨_,rfl⟩
   have C6:ln≤401:=by rw [← AY,← hP];have:=x0V e.row.R;have:=As;unfold rowBs at *;omega
   have HP:=yH hP
   have AE:=yH AY
   have Ah:=yH (show Sm.allB P from by rw [← hP];exact x0v e.row.R)
   clear hP AY
   go_wp2_with (first
    | (go_at_call 158;refine (x2l e.row.R _ _ _ w5 B5.out.ints (by omega)).mono ?_;rintro _ w6 ⟨q6,d6,rfl,Q,b⟩;rw [HP.out,AE.out] at Q;rw [HP.out,AE.out];have W:=yH (x0H Q Ah.out);obtain ⟨a6,rfl⟩:=x2x W.out (by rw [← HP.out];simp);have AS:=yH (HO5.out.later b);clear Q b)
    | (at_builtin;refine wpList_append_own _ (by rfl) (.tmp 30) (.tmp 37) 45 (by rfl) w1.heap.size 5 i5 (.int .u8 0) 1 1 A22 HI.out Y.out Z.out a.out (by rfl) (by decide) _ (N+1) _ (by rfl) AS.out.own a6 ln d6 (vals P) (by rfl) (by rw [x00,AE.out,Nat.mul_one]) W.out.cells (x0I _) (by unfold maxLen;omega) (by omega) AS.out.low.size ?_;intro v7 w7 hown7 hgrow7 _;have Bb:=yH (AS.out.put Ah.out AE.out hown7 hgrow7);clear hown7 hgrow7))
   go_roundw
   case rel=>
    refine ⟨k+1,N+1+ln,by rw [← A5.out];omega,by go_num,by omega,?_⟩
    have h:=Bb.out
    rw [← HP.out] at h
    have e0:(([kind,n]++(E.take k).flatMap fun e=>e.pe.bytes)++[if e.live then 1 else 0])++(e.row.R.length%256::Go.Proofs.YtinihaflmdihaaaGreat.nums e.row.R)=[kind,n]++(E.take (k+1)).flatMap fun e=>e.pe.bytes:=by
     rw [HS.out]
     cases AA:e.live<;>simp [PE.bytes,En.pe,rowBs,AA]
    rw [e0] at h
    exact h
   case measure=>simp [intOf];omega
  ·obtain rfl:n=k:=by have:=A5.out;omega
   have e0:E.take n=E:=List.take_of_length_le (by rw [← A5.out];exact Nat.le_refl _)
   rw [e0] at HO
   obtain ⟨HH,AT⟩:∃HH,([kind,n]++E.flatMap fun e=>e.pe.bytes)=HH:=⟨_,rfl⟩
   rw [AT] at HO
   have Ba:=yH AT
   have CA:N≤20102:=by omega
   clear hN hk AT hlt
   have N8:=yH (show ∀j u,(vals [m])[j]? =some u→(wr.alloc (.cells #[.int .u8 m] 5)).cell? ((⟨wr.heap.size,0,none⟩:Addr).add j)=some u from x0o (L:=[m]) (heap_alloc_new wr _))
   have A8:=yH (HO.out.later (show Below wr.heap.size wr (wr.alloc (.cells #[.int .u8 m] 5)) from (Below.refl _ _).alloc (Nat.le_refl _) _))
   go_upto_region 8 with (at_builtin;refine wpList_append_own _ (by rfl) (.tmp 39) (.tmp 44) 45 (by rfl) w1.heap.size 5 i5 (.int .u8 0) 1 1 A22 HI.out Y.out Z.out a.out (by rfl) (by decide) _ N _ (by rfl) A8.out.own ⟨wr.heap.size,0,none⟩ 1 1 (vals [m]) (by rfl) (by rfl) N8.out (x0I _) (by unfold maxLen;omega) (by omega) A8.out.low.size ?_;intro v5 w5 hown5 hgrow5 _;have HO5:=yH (A8.out.put (P:=[m]) (by intro x hx;simp at hx;omega) rfl hown5 hgrow5);clear hown5 hgrow5)
   clear t0 t1 t2 N8 A8
   obtain ⟨t0,t1,t2⟩:=(HN.out.later HO5.out.low).cells
   go_wp2_with fail
   go_loopw [3,5] (fun v i wr=>By2 w1 K (HH++[m]) v i wr) (fun _ i _=>m - (intOf i).toNat)
   case atStart=>exact ⟨0,N+1,by omega,rfl,by omega,by simpa using HO5.out⟩
   case round=>
    obtain ⟨z,N,hz,rfl,hN,s⟩:=hrel
    have HO:=yH s
    clear s HO5
    obtain ⟨t0,t1,t2⟩:=(HN.out.later HO.out.low).cells
    obtain ⟨qv,cv,rfl⟩:=HO.out.form
    by_cases hlt:z<m
    ·obtain ⟨g,o,rfl,Au,J⟩:=HK.out.get z hlt
     have i1:(0:Int)≤z∧(z:Int)<m:=by omega
     have d:z<K.length:=by rw [← A6.out];exact hlt
     have HS:=yH (x3I (fun e:Kd=>e.pk.bytes) K z d)
     have r:=getD_mem K z d
     have AJ:=HF.out.lo _ r
     have AN:=HF.out.hi _ r
     have AK:=HF.out.key _ r
     obtain ⟨BO,BI⟩:=HL.out _ r
     clear r
     generalize K.getD z default=kd at *
     have BJ:=J.lo.ints.size
     have BS:=J.hi.ints.size
     have BV:=J.key.ints.size
     have BG:=yH (show kd.lo.R.length≤50 from by omega)
     have BE:=yH (show kd.hi.R.length≤50 from by omega)
     have B8:=yH (show kd.key.R.length≤50 from by omega)
     have Af:=yH AJ
     have An:=yH AN
     have Ax:=yH AK
     have AP:=yH (Kd.cells_length J.len)
     have l:=yH J.len
     have BL:=yH J.ok
     have HR:=yH (x02 Au HO.out.low)
     have A4:=yH J
     obtain ⟨lv,AA⟩:∃lv:Nat,kd.live=lv:=⟨kd.live.toNat,by omega⟩
     obtain ⟨sv,Ag⟩:∃sv:Nat,kd.size=sv:=⟨kd.size.toNat,by omega⟩
     have Ab:=yH AA
     have Ac:=yH Ag
     have BW:=yH (show lv<9223372036854775808 from by have:=J.live.2;omega)
     have BT:=yH (show sv<9223372036854775808 from by have:=J.size.2;omega)
     clear BJ BS BV AJ AN AK Au J AA Ag BO BI
     have B9:=HZ.out.1
     go_upto_region 12 with (first
      | (refine wpList_load_mid (by rfl) 34 _ (by rfl) g (o+z*37) (by rfl) kd.cells du HR.out HD.out BQ.out (by rw [AP.out];exact SKd) ?_)
      | (refine wpList_store_row (by rfl) 34 (.tmp 6) (.tmp 57) (by rfl) wr.heap.size kd.cells.toArray (by rfl) (by rfl) _ _ (heap_alloc_new wr _) (by rw [List.size_toArray,AP.out];exact SKd) (by simp only [List.size_toArray,AP.out,x01]) (all_oneCell_toArray Kd.one) ?_;rw [x04]))
     have AU:=BySt.start (kd:=kd) HO.out
     obtain ⟨gx,Ao⟩:∃gx,gx=wr.heap.size:=⟨_,rfl⟩
     rw [← Ao] at AU ⊢
     generalize wr.alloc (.cells kd.cells.toArray 34)=wk at *
     have A2:=yH AU
     clear t0 t1 t2 AU B9 Ao
     obtain ⟨X,hX⟩:∃X,(HH++[m])++(K.take z).flatMap (fun e=>e.pk.bytes)=X:=⟨_,rfl⟩
     rw [hX] at A2
     have HX:=yH hX
     clear hX
     have K0:=yH (x0M A2.out.row l.out)
     have Bc:=fun w'=>x4p gx w'
     go_upto_region 13 with (at_builtin;refine wpList_append_own_at _ (by rfl) (.tmp 58) (.tmp 60) 45 (by rfl) w1.heap.size 5 i5 (.int .u8 0) 1 1 A22 HI.out Y.out Z.out a.out (by rfl) (by decide) _ N _ (by rfl) A2.out.out.own ⟨gx,0,none⟩ 32 32 (vals kd.sum) (by rfl) (by rw [x00,l.out]) (fun j u hu=>by have h9:=K0.out.sum j u hu;rw [Nat.zero_add] at h9;rw [Addr.add_mid,Nat.zero_add];exact h9) (x0I _) (by unfold maxLen;omega) (by omega) A2.out.out.low.size ?_;intro v11 w11 hown5 hgrow5 _ hat5;have Ai:=yH (A2.out.put BL.out l.out hown5 hgrow5 hat5);clear hown5 hgrow5 hat5)
     clear Bc K0
     have y:=(x0M Ai.out.row l.out).live
     rw [Nat.zero_add,Ab.out] at y
     have C:=Cm.be_length lv 3
     obtain ⟨M,A⟩:∃M,Cm.be lv 3=M:=⟨_,rfl⟩
     have I:=yH (x4O lv BW.out w11)
     have G:=yH (Cm.be_ok lv 3)
     rw [A] at I G C
     have AL:=yH A
     have B:=yH C
     clear A C
     go_upto_region 14 with (first
      | (go_at_call 159;refine I.out.mono ?_;rintro _ w6 ⟨q6,d6,rfl,Q,b⟩;rw [B.out] at Q;rw [B.out];have W:=yH (x0H Q G.out);obtain ⟨a6,rfl⟩:=x2x W.out (fun e=>by have h8:=B.out;rw [e] at h8;simp at h8);have H:=yH (Ai.out.later b);clear Q b)
      | (at_builtin;refine wpList_append_own_at _ (by rfl) (.tmp 62) (.tmp 65) 45 (by rfl) w1.heap.size 5 i5 (.int .u8 0) 1 1 A22 HI.out Y.out Z.out a.out (by rfl) (by decide) _ (N+32) _ (by rfl) H.out.out.own a6 3 d6 (vals M) (by rfl) (by rw [x00,B.out]) W.out.cells (x0I _) (by unfold maxLen;omega) (by omega) H.out.out.low.size ?_;intro v12 w12 hown5 hgrow5 _ hat5;have AR:=yH (H.out.put G.out B.out hown5 hgrow5 hat5);clear hown5 hgrow5 hat5))
     clear y W H I G B
     rw [← AL.out] at AR
     clear AL
     have y:=(x0M AR.out.row l.out).size
     rw [Nat.zero_add,Ac.out] at y
     have C:=Cm.be_length sv 3
     obtain ⟨M,A⟩:∃M,Cm.be sv 3=M:=⟨_,rfl⟩
     have I:=yH (x4O sv BT.out w12)
     have G:=yH (Cm.be_ok sv 3)
     rw [A] at I G C
     have AI:=yH A
     have B:=yH C
     clear A C
     go_upto_region 15 with (first
      | (go_at_call 159;refine I.out.mono ?_;rintro _ w6 ⟨q6,d6,rfl,Q,b⟩;rw [B.out] at Q;rw [B.out];have W:=yH (x0H Q G.out);obtain ⟨a6,rfl⟩:=x2x W.out (fun e=>by have h8:=B.out;rw [e] at h8;simp at h8);have H:=yH (AR.out.later b);clear Q b)
      | (at_builtin;refine wpList_append_own_at _ (by rfl) (.tmp 67) (.tmp 70) 45 (by rfl) w1.heap.size 5 i5 (.int .u8 0) 1 1 A22 HI.out Y.out Z.out a.out (by rfl) (by decide) _ (N+32+3) _ (by rfl) H.out.out.own a6 3 d6 (vals M) (by rfl) (by rw [x00,B.out]) W.out.cells (x0I _) (by unfold maxLen;omega) (by omega) H.out.out.low.size ?_;intro v13 w13 hown5 hgrow5 _ hat5;have AD:=yH (H.out.put G.out B.out hown5 hgrow5 hat5);clear hown5 hgrow5 hat5))
     clear y W H I G B
     rw [← AI.out] at AD
     clear AI
     have y:=(x0M AD.out.row l.out).lo
     rw [Nat.zero_add] at y
     simp only [Rw.val] at y
     have t:=yH (A4.out.later AD.out.out.low)
     obtain ⟨M,A⟩:∃M,rowBs kd.lo.R=M:=⟨_,rfl⟩
     obtain ⟨la,U⟩:∃la,M.length=la:=⟨_,rfl⟩
     have Bh:la≤401:=by rw [← U,← A,x0V];have:=BG.out;omega
     have I:=yH (x2l kd.lo.R _ _ _ w13 t.out.lo.ints (by have:=Af.out;omega))
     have G:=yH (x0v kd.lo.R)
     have C:M≠[]:=by rw [← A];simp [rowBs]
     rw [show kd.lo.R.length%256::Go.Proofs.YtinihaflmdihaaaGreat.nums kd.lo.R=M from A] at I
     rw [A] at G
     have BZ:=yH A
     have B:=yH U
     have O:=yH C
     clear A U C
     go_upto_region 16 with (first
      | (go_at_call 158;refine I.out.mono ?_;rintro _ w6 ⟨q6,d6,rfl,Q,b⟩;rw [B.out] at Q;rw [B.out];have W:=yH (x0H Q G.out);obtain ⟨a6,rfl⟩:=x2x W.out O.out;have H:=yH (AD.out.later b);clear Q b)
      | (at_builtin;refine wpList_append_own_at _ (by rfl) (.tmp 72) (.tmp 76) 45 (by rfl) w1.heap.size 5 i5 (.int .u8 0) 1 1 A22 HI.out Y.out Z.out a.out (by rfl) (by decide) _ (N+32+3+3) _ (by rfl) H.out.out.own a6 la d6 (vals M) (by rfl) (by rw [x00,B.out,Nat.mul_one]) W.out.cells (x0I _) (by unfold maxLen;omega) (by omega) H.out.out.low.size ?_;intro v14 w14 hown5 hgrow5 _ hat5;have AW:=yH (H.out.put G.out B.out hown5 hgrow5 hat5);clear hown5 hgrow5 hat5))
     clear y W H I G O t
     have y:=(x0M AW.out.row l.out).hi
     rw [Nat.zero_add] at y
     simp only [Rw.val] at y
     have t:=yH (A4.out.later AW.out.out.low)
     obtain ⟨M,A⟩:∃M,rowBs kd.hi.R=M:=⟨_,rfl⟩
     obtain ⟨lb,U⟩:∃lb,M.length=lb:=⟨_,rfl⟩
     have Bq:lb≤401:=by rw [← U,← A,x0V];have:=BE.out;omega
     have I:=yH (x2l kd.hi.R _ _ _ w14 t.out.hi.ints (by have:=An.out;omega))
     have G:=yH (x0v kd.hi.R)
     have C:M≠[]:=by rw [← A];simp [rowBs]
     rw [show kd.hi.R.length%256::Go.Proofs.YtinihaflmdihaaaGreat.nums kd.hi.R=M from A] at I
     rw [A] at G
     have B6:=yH A
     have B:=yH U
     have O:=yH C
     clear A U C
     go_upto_region 17 with (first
      | (go_at_call 158;refine I.out.mono ?_;rintro _ w6 ⟨q6,d6,rfl,Q,b⟩;rw [B.out] at Q;rw [B.out];have W:=yH (x0H Q G.out);obtain ⟨a6,rfl⟩:=x2x W.out O.out;have H:=yH (AW.out.later b);clear Q b)
      | (at_builtin;refine wpList_append_own_at _ (by rfl) (.tmp 78) (.tmp 82) 45 (by rfl) w1.heap.size 5 i5 (.int .u8 0) 1 1 A22 HI.out Y.out Z.out a.out (by rfl) (by decide) _ (N+32+3+3+la) _ (by rfl) H.out.out.own a6 lb d6 (vals M) (by rfl) (by rw [x00,B.out,Nat.mul_one]) W.out.cells (x0I _) (by unfold maxLen;omega) (by omega) H.out.out.low.size ?_;intro v15 w15 hown5 hgrow5 _ hat5;have AZ:=yH (H.out.put G.out B.out hown5 hgrow5 hat5);clear hown5 hgrow5 hat5))
     clear y W H I G O t
     have y:=(x0M AZ.out.row l.out).key
     rw [Nat.zero_add] at y
     simp only [Rw.val] at y
     have t:=yH (A4.out.later AZ.out.out.low)
     obtain ⟨M,A⟩:∃M,rowBs kd.key.R=M:=⟨_,rfl⟩
     obtain ⟨lc,U⟩:∃lc,M.length=lc:=⟨_,rfl⟩
     have Bp:lc≤401:=by rw [← U,← A,x0V];have:=B8.out;omega
     have I:=yH (x2l kd.key.R _ _ _ w15 t.out.key.ints (by have:=Ax.out;omega))
     have G:=yH (x0v kd.key.R)
     have C:M≠[]:=by rw [← A];simp [rowBs]
     rw [show kd.key.R.length%256::Go.Proofs.YtinihaflmdihaaaGreat.nums kd.key.R=M from A] at I
     rw [A] at G
     have BD:=yH A
     have B:=yH U
     have O:=yH C
     clear A U C
     go_wp2_with (first
      | (go_at_call 158;refine I.out.mono ?_;rintro _ w6 ⟨q6,d6,rfl,Q,b⟩;rw [B.out] at Q;rw [B.out];have W:=yH (x0H Q G.out);obtain ⟨a6,rfl⟩:=x2x W.out O.out;have H:=yH (AZ.out.later b);clear Q b)
      | (at_builtin;refine wpList_append_own_at _ (by rfl) (.tmp 84) (.tmp 87) 45 (by rfl) w1.heap.size 5 i5 (.int .u8 0) 1 1 A22 HI.out Y.out Z.out a.out (by rfl) (by decide) _ (N+32+3+3+la+lb) _ (by rfl) H.out.out.own a6 lc d6 (vals M) (by rfl) (by rw [x00,B.out,Nat.mul_one]) W.out.cells (x0I _) (by unfold maxLen;omega) (by omega) H.out.out.low.size ?_;intro v16 w16 hown5 hgrow5 _ hat5;have B7:=yH (H.out.put G.out B.out hown5 hgrow5 hat5);clear hown5 hgrow5 hat5))
     clear y W H I G O t
     go_roundw
     case rel=>
      refine ⟨z+1,N+32+3+3+la+lb+lc,by rw [← A6.out];omega,by go_num,by omega,?_⟩
      have h:=B7.out.out
      rw [← BZ.out,← B6.out,← BD.out,← HX.out] at h
      rw [HS.out]
      have e0:kd.pk.bytes=kd.sum++(Cm.be lv 3++(Cm.be sv 3++(rowBs kd.lo.R++(rowBs kd.hi.R++rowBs kd.key.R)))):=by
       show kd.sum++(Cm.be kd.live.toNat 3++(Cm.be kd.size.toNat 3++_))=_
       rw [Ab.out,Ac.out]
       rfl
      rw [e0]
      simp only [List.append_assoc] at h ⊢
      exact h
     case measure=>simp [intOf];omega
    ·obtain rfl:z=m:=by have:=A6.out;omega
     have e0:K.take z=K:=List.take_of_length_le (by rw [← A6.out];exact Nat.le_refl _)
     rw [e0] at HO
     go_wp2_with fail
     go_ret
     have h:=HO.out
     rw [← Ba.out] at h
     have e1:([kind,n]++E.flatMap fun e=>e.pe.bytes)++[z]++K.flatMap (fun e=>e.pk.bytes)=(pnOf kind E K).bytes:=by
      have BB:=A5.out
      have BA:=A6.out
      unfold PN.bytes pnOf
      simp only [List.length_map,List.flatMap_map]
      rw [← BB,← BA,Nat.mod_eq_of_lt (show n<256 by omega),Nat.mod_eq_of_lt (show z<256 by omega)]
      simp
     rw [e1] at h
     obtain ⟨q9,c9,e9⟩:=h.form
     refine ⟨q9,c9,?_,?_,HB.out.trans (h.low.mono HB.out.size)⟩
     ·rw [← h.len];exact congrArg Ending.returned e9
     ·have h8:=x6x h.own HB.out.size
      rw [← h.len,← e9]
      exact h8
end Go.Proofs.YtinihaflmdihaaaGreat.Nd
namespace Go.Proofs.YtinihaflmdihaaaGreat
open Go.RowKit
theorem y3v (n j:Nat) (hj:j<8):Sm.big n j=n/2^(56 - 8*j)%256:=by
 unfold Sm.big
 rw [show 8*(7 - j)=56 - 8*j from by omega]
theorem x7h (n j:Nat) (hj:j<8):(Sm.bigs n).take (j+1)=(Sm.bigs n).take j++[Sm.big n j]:=by
 match j,hj with
 | 0,_=>rfl
 | 1,_=>rfl
 | 2,_=>rfl
 | 3,_=>rfl
 | 4,_=>rfl
 | 5,_=>rfl
 | 6,_=>rfl
 | 7,_=>rfl
def y1v (w:World) (s:Nat) (P:List Nat) (n:Nat) (v i:Value) (wr:World):Prop:=
 ∃j:Nat,j≤8∧i= .int .i64 j∧wr.ownsRow w.heap.size 5 1 v (s+j) (vals (P++(Sm.bigs n).take j))∧Below w.heap.size w wr
theorem y00 (tag:Nat) (_htag:tag<256) (L:List (List Nat)) (p:Option Addr) (len cap:Nat) (w:World) (hL:Texts w p len cap L) (hl:tot L<1099511627776):
  Calls Tryz.prog 156 #[.int .u8 tag,.slice p len cap] w fun e w'=>∃q n c,e= .returned (.slice q n c)∧w'.ownsRow w.heap.size 5 1 (.slice q n c) n (vals (pre tag L))∧Below w.heap.size w w':=by
 have U:=hL.size
 have AI:=hL.le
 have AC:len<1099511627776:=by have:=x5k L;omega
 obtain ⟨i5,O,b,f,R⟩:=info_parts I5
 have HI:=yH O
 have Y:=yH b
 have Z:=yH f
 have h:=yH R
 clear O b f R
 have HL:=yH hL
 have B:=yH U
 clear hL U
 go_enter Tryz.func156,Tryz.ntmps156
 go_wp2_with fail
 have G:(w.alloc (.cells #[.int .u8 tag] 5)).ownsRow w.heap.size 5 1 (.slice (some ⟨w.heap.size,0,none⟩) 1 1) 1 (vals ([tag].take 1)):=x1b (L:=[tag]) (heap_alloc_new w _) rfl (Nat.le_refl _) (by unfold maxLen;omega) (Nat.le_refl _)
 have HO0:=yH G
 have HB0:=yH (show Below w.heap.size w (w.alloc (.cells #[.int .u8 tag] 5)) from (Below.refl _ _).alloc (Nat.le_refl _) _)
 clear G
 go_loopw [5,6] (fun v i wr=>y5F w tag len L v i wr) (fun _ i _=>len - (intOf i).toNat)
 case atStart=>exact ⟨0,by omega,rfl,HO0.out,HB0.out⟩
 case round=>
  obtain ⟨k,hk,rfl,ho,hb⟩:=hrel
  have HO:=yH ho
  have HB:=yH hb
  clear ho hb HO0 HB0
  by_cases hlt:k<len
  ·obtain ⟨g,o,hp,hx⟩:=HL.out.at' (by intro e;have:=B.out;rw [e] at this;simp at this;omega)
   obtain ⟨q,n,c,N,x⟩:=hx k (by have:=B.out;omega)
   subst hp
   have e1:=x8W L k (by have:=B.out;omega)
   have e2:=x4u L (k+1)
   have e3:n=(L.getD k []).length:=x.size
   have I:wr.cell? ⟨g,o+k,none⟩=some (.slice q n c):=(HB.out.cell (p:=⟨g,o+k,none⟩) (block_lt_of_cell N)).trans N
   have P:=yH N
   have W:=yH x
   obtain ⟨s,hs⟩:∃s,s=tot (L.take k):=⟨_,rfl⟩
   rw [← hs] at HO e1
   have AK:s+8+n<1099511627776:=by omega
   have E:=yH e3
   have J:=yH e1
   clear hx N x e1 e2 e3
   go_wp2_with fail
   go_loopw [5,8] (fun v i wr'=>y1v w s (pre tag (L.take k)) n v i wr') (fun _ i _=>8 - (intOf i).toNat)
   case atStart=>exact ⟨0,by omega,rfl,by rw [List.take_zero,List.append_nil];exact HO.out,HB.out⟩
   case round=>
    obtain ⟨j,hj,rfl,Q,a⟩:=hrel
    have K:=yH Q
    have A:=yH a
    clear Q a
    by_cases hj8:j<8
    ·obtain ⟨y,t⟩:∃y,y=n/2^(56 - 8*j):=⟨_,rfl⟩
     have AD:(n:Int)/2^(56 - 8*j)=(y:Int):=by rw [t,Int.natCast_ediv,Int.natCast_pow];rfl
     have z:=yH t
     clear t
     go_wp2_with (at_builtin;refine wpList_append_own _ (by rfl) (.tmp 27) (.tmp 36) 45 (by rfl) w.heap.size 5 i5 (.int .u8 0) 1 1 A22 HI.out Y.out Z.out h.out (by rfl) (by decide) _ (s+j) _ (by rfl) (K.out.alloc _) ⟨wr.heap.size,0,none⟩ 1 1 (vals [y%256]) (by rfl) (by rfl) (x0o (L:=[y%256]) (heap_alloc_new wr _)) (x0I _) (by unfold maxLen;omega) (by omega) (by have:=A.out.size;simp;omega) ?_;intro v4 w4 hown4 hgrow4 _)
     have l:Below w.heap.size w w4:=(A.out.alloc A.out.size _).grown hgrow4 (by have:=A.out.size;simp;omega) (fun i O=>((K.out.alloc (.cells (u8s [y%256]) 5)).lt i O).1)
     have e:w4.ownsRow w.heap.size 5 1 v4 (s+(j+1)) (vals (pre tag (L.take k)++(Sm.bigs n).take (j+1))):=by
      rw [x7h n j hj8,← List.append_assoc,x0p _ [Sm.big n j],y3v n j hj8,← z.out]
      exact hown4
     have HE:=yH e
     have HB4:=yH l
     clear hown4 hgrow4 e l
     go_wp2_with fail
     go_roundw
     case rel=>exact ⟨j+1,by omega,by go_num,HE.out,HB4.out⟩
     case measure=>simp [intOf];omega
    ·obtain rfl:j=8:=by omega
     have m:wr.cell? ⟨g,o+k,none⟩=some (.slice q n c):=(A.out.cell (p:=⟨g,o+k,none⟩) (block_lt_of_cell P.out)).trans P.out
     have M:=K.out
     rw [show (Sm.bigs n).take 8=Sm.bigs n from rfl] at M
     have C:=yH M
     clear M I
     obtain ⟨r,H⟩:∃r,r=L.getD k []:=⟨_,rfl⟩
     rw [← H] at W E J
     have X:=yH H
     clear H
     rcases W.out.at' with ⟨hq,hc⟩ | ⟨xt,hq,A3⟩
     ·subst hq
      subst hc
      obtain rfl:n=0:=by have:=W.out.le;omega
      go_wp2_with (at_builtin;refine wpList_append_own_none (by rfl) (.tmp 38) (.tmp 42) 45 (by rfl) w.heap.size 5 i5 1 A22 HI.out _ (s+8) _ (by rfl) C.out (by rfl) ?_)
      go_roundw
      case rel=>
       refine ⟨k+1,by omega,by go_num,?_,A.out⟩
       have e:=C.out
       have u:r=[]:=List.length_eq_zero_iff.1 E.out.symm
       rw [J.out,x4V tag L k (by have:=B.out;omega),← X.out,tpart,← E.out,u,List.append_nil]
       exact e
      case measure=>simp [intOf];omega
     ·subst hq
      clear A3
      go_wp2_with (at_builtin;refine wpList_append_own _ (by rfl) (.tmp 38) (.tmp 42) 45 (by rfl) w.heap.size 5 i5 (.int .u8 0) 1 1 A22 HI.out Y.out Z.out h.out (by rfl) (by decide) _ (s+8) _ (by rfl) C.out xt n c (vals r) (by rfl) (by rw [x00,Nat.mul_one];exact W.out.size.symm) ((W.out.later A.out).cells) (x0I _) (by unfold maxLen;omega) (by omega) A.out.size ?_;intro v5 w5 hown5 hgrow5 _)
      have d:Below w.heap.size w w5:=A.out.grown hgrow5 A.out.size (fun i O=>(C.out.lt i O).1)
      rw [← x0p] at hown5
      have A6:=yH hown5
      have A5:=yH d
      clear hown5 hgrow5 d
      go_wp2_with fail
      go_roundw
      case rel=>
       refine ⟨k+1,by omega,by go_num,?_,A5.out⟩
       have e:=A6.out
       rw [J.out,x4V tag L k (by have:=B.out;omega),← X.out,tpart,← E.out,← List.append_assoc]
       rw [show s+(8+n)=s+8+n from by omega]
       exact e
      case measure=>simp [intOf];omega
  ·obtain rfl:len=k:=by omega
   go_wp2_with fail
   go_ret
   have e:=HO.out
   have N:0<tot (L.take len):=by simp only [tot,pre,List.length_cons];omega
   obtain ⟨g,cp,rfl,_,_⟩:=e.form N
   rw [List.take_of_length_le (by have:=B.out;omega)] at e ⊢
   exact ⟨_,_,_,rfl,e,HB.out⟩
end Go.Proofs.YtinihaflmdihaaaGreat
