/- KdInsV, KdDelLay, KdDelFn, KdDelV, KtBst, KtNew, KtChg, KlFns, KlBound, KtFine, KlAliveP. -/
import Derived.Shelf.SlicesE.DeleteFunc
import Derived.Lib.MinMax
import Derived.Test.YtinihaflmdihaaaGreatL26
import Derived.Test.YtinihaflmdihaaaGreatL28
set_option maxRecDepth 100000
set_option maxHeartbeats 8000000
set_option linter.all false
namespace Go.Proofs.YtinihaflmdihaaaGreat.Kt
open Go.RowKit Go.Shelf Go.Proofs.YtinihaflmdihaaaGreat.Nd Go.Proofs.YtinihaflmdihaaaGreat.Dk Go.Proofs.YtinihaflmdihaaaGreat.Pg
open List renaming setIfInBounds_toArray → yA, set_cons_zero → yB, set_cons_succ → yC
theorem y4v {s:Pg.S} {L:List (List Nat)} (h:L≠[]):(puts s L).W≠[]:=by
 obtain ⟨M,b,rfl⟩:∃M b,L=M++[b]:=⟨L.dropLast,L.getLast h,(List.dropLast_concat_getLast h).symm⟩
 rw [x0q]
 exact x91 (puts s M) b
def endV (s:St) (lv:Bool):V:=.fork s.row lv s.l s.r
def endN (s:St) (lv:Bool):PN:=forkN s.row lv s.l.kid s.r.kid
def insV (d:Nat) (p:List Int) (u:V):Int ⊕ (V×List (List Nat)):=
 match wayV d p u 0 with
 | none=>.inl 21
 | some x=>if x.2.live then .inl 8
  else if (x0G 0 (x.1++[x.2])).1=x.1.length+1 then .inr (x1P x.1 (endV x.2 true),(endN x.2 true).bytes::x4L x.1 (endV x.2 true))
  else if ((x.1++[x.2]).getD (x0G 0 (x.1++[x.2])).1 x.2).old.whole then
   .inr (x1P ((x.1++[x.2]).take (x0G 0 (x.1++[x.2])).1) (V.of (lay (((x.1++[x.2]).getD (x0G 0 (x.1++[x.2])).1 x.2).old.rows++[p]) (x0G 0 (x.1++[x.2])).1)),
    (lay (((x.1++[x.2]).getD (x0G 0 (x.1++[x.2])).1 x.2).old.rows++[p]) (x0G 0 (x.1++[x.2])).1).pages++x4L ((x.1++[x.2]).take (x0G 0 (x.1++[x.2])).1) (V.of (lay (((x.1++[x.2]).getD (x0G 0 (x.1++[x.2])).1 x.2).old.rows++[p]) (x0G 0 (x.1++[x.2])).1)))
  else .inl 21
def y1l (w:World) (gs:Nat) (Q:Nat→Prop) (s:Pg.S) (o:Int ⊕ (V×List (List Nat))) (e:Ending) (w':World):Prop:=
 match o with
 | .inl err=>e= .returned (.tuple #[.agg kd0.cells.toArray,.int .i64 err])∧Below w.heap.size w w'
 | .inr x=>Told2 w gs Q x.1 (puts s x.2) e w'
theorem x9w {A:List MSt} {L:List St} (h:Links A L) (i:Nat) (hi:i<A.length) (x:St):Link (A.getD i default) (L.getD i x):=by
 have E:=h.length
 have e:=List.getElem?_eq_getElem (l:=L) (i:=i) (by omega)
 obtain ⟨m,B,C⟩:=h.get i _ e
 rw [List.getD_eq_getElem?_getD,List.getD_eq_getElem?_getD,B,e]
 exact C
theorem y1m {w:World} {b o:Nat} {m:MSt} (h:w.rangeAt b o m.cells):w.rangeAt b o m.kid.cells:=fun j v hv=>h j v (by
 unfold MSt.cells
 rw [List.getElem?_append_left (List.getElem?_eq_some_iff.1 hv).1]
 exact hv)
theorem x9x {gs d:Nat} {Q:Nat→Prop} {s:Pg.S} (hd:1≤d∧d≤8) (hW:x4J d s.W) (u:V) (k:Kd) (r:Rw) (w:World) (hp:PL w gs Q s) (hs:Sees s.W d u) (hk:k.Ok w) (he:k.pk=u.kid) (hr:r.Ok w) (hrd:r.n=d) (hz:u.kid.size≤900) (hka:Aw Q k) (hra:∀y,r.p=some y→r.R≠[]→¬Q y.block) (hsl:s.W.length≤60000):
  Calls Tryz.prog 15 #[.pointer (some ⟨gs,0,none⟩),.agg k.cells.toArray,r.val,.int .i64 d] w (y1l w gs Q s (insV d r.R u)):=by
 have A1:∀w',Below w.heap.size w w'→Calls Tryz.prog 53 #[.agg #[.pointer (some ⟨gs,0,none⟩),.int .i64 d],.agg k.cells.toArray,r.val] w' (y3r w' Q (wayV d r.R u 0)):=fun w' hb=>y4p hd hW u k r w' (hp.keep (fun _=>False) (Only.of_below _ hb) (fun _ _ e=>e)) hs (hk.later hb) he (hr.later hb) hrd (by omega) hka hra
 have Ax:r.R.length=d:=by have:=hr.ints.size;omega
 cases hO:wayV d r.R u 0 with
 | none=>
  unfold insV
  rw [hO] at A1 ⊢
  refine (x9o (some ⟨gs,0,none⟩) d k r 21 w hk (fun w' hb=>(A1 w' hb).mono ?_) (by decide)).mono fun e w' h=>h
  rintro e w2 ⟨I,h2,-⟩
  exact ⟨h2 rfl,I⟩
 | some X=>
  obtain ⟨L,G⟩:=X
  rw [hO] at A1
  obtain ⟨⟨Bk,By,-⟩,AK,CC⟩:=x46 u 0 hs L G hO
  have AE:=x5L (Z:=((u.kid.size.toNat:Nat):Int)) Ax (by omega) u 0 hs (by omega) L G hO
  have hZ:u.kid.size.toNat≤900:=by omega
  have Bq:=x1F hs
  have B8:=x7V (L++[G]) 0
  obtain ⟨E,Av⟩:∃E,E=(x0G 0 (L++[G])).1:=⟨_,rfl⟩
  have B0:insV d r.R u=if G.live then .inl 8
    else if E=L.length+1 then .inr (x1P L (endV G true),(endN G true).bytes::x4L L (endV G true))
    else if ((L++[G]).getD E G).old.whole then
     .inr (x1P ((L++[G]).take E) (V.of (lay (((L++[G]).getD E G).old.rows++[r.R]) E)),(lay (((L++[G]).getD E G).old.rows++[r.R]) E).pages++x4L ((L++[G]).take E) (V.of (lay (((L++[G]).getD E G).old.rows++[r.R]) E)))
    else .inl 21:=by
   unfold insV
   rw [hO,Av]
  rw [B0]
  clear B0
  generalize hOUT:(if G.live then (Sum.inl 8:Int ⊕ (V×List (List Nat))) else _)=OUT
  have AG:=yH hOUT
  clear hOUT
  obtain ⟨W,Cy,r0,r1,b1⟩:=x0u w (.cells k.cells.toArray 34) (.cells kd0.cells.toArray 34)
  have AI:=yH A1
  have CX:=yH (Kd.cells_length hk.len)
  have R0:=yH r0
  have R1:=yH r1
  have B1:=yH b1
  have AS:=yH (show ∀k,Q k→k<w.heap.size from hp.lt)
  have Cp:=yH hp
  have DJ:=yH hW
  have An:=yH hd
  have Bg:=yH hr
  have Ck:=yH hrd
  have Ct:=yH hra
  have BL:=yH hsl
  have C6:=yH AK
  have D8:=yH CC
  have BE:=yH AE
  have BJ:=yH hZ
  have Cj:=yH (show u.kid.size≤900 from hz)
  have Bo:=yH (show E≤L.length+1 by rw [Av];have:=B8.2;simp at this;omega)
  have Cc:=yH Av
  obtain ⟨sz,BP⟩:∃sz,sz=(x0G 0 (L++[G])).2.1:=⟨_,rfl⟩
  have Bi:=yH BP
  have DO:0≤sz∧sz≤901:=by rw [BP];omega
  have DL:¬sz>1048576:=by omega
  obtain ⟨rp,rn,rc,rR⟩:=r
  unfold Rw.val at AI ⊢
  simp only at AI Ax AG ⊢
  obtain ⟨du,C1,Bv⟩:=UTr
  obtain ⟨dk,CH,B7⟩:=UKd
  have Ag:=yH C1
  have Aa:=yH Bv
  have AL:=yH CH
  have U:=yH B7
  have D0:=yH (zero_of_info kz)
  have Da:=D0.out.1
  have Ce:=yH Ax
  clear hd hW hp hs hk he hr hrd hz hka hra hsl A1 Bk By AK CC AE hZ Bq B8 Av r0 r1 b1 BP C1 Bv CH B7 hO Ax
  go_enter Tryz.func15,Tryz.ntmps15
  go_upto_region 1 with fail
  clear Cy
  go_upto_region 2 with (first
   | (refine x07 (cells:= #[.pointer (some ⟨gs,0,none⟩),.int .i64 d]) (by rfl) (by rfl) (by simp only [List.map_toArray,List.map_cons,List.map_nil];exact x3Z _ _) ?_)
   | (refine wpList_store_row (by rfl) 91 (.tmp 10) (.tmp 18) (by rfl) W.heap.size #[.pointer (some ⟨gs,0,none⟩),.int .i64 d] (by rfl) (by rfl) _ _ (heap_alloc_new W _) STr rfl (x7X _ _) ?_;rw [x04]))
  have Ar:Below W.heap.size W (W.alloc (.cells #[.pointer (some ⟨gs,0,none⟩),.int .i64 d] 91)):=(Below.refl _ _).alloc (Nat.le_refl _) _
  have Ai:=heap_alloc_new W (.cells #[.pointer (some ⟨gs,0,none⟩),.int .i64 d] 91)
  generalize W.alloc (.cells #[.pointer (some ⟨gs,0,none⟩),.int .i64 d] 91)=w2 at *
  obtain ⟨P,Ap⟩:∃P,P=W.heap.size:=⟨_,rfl⟩
  rw [← Ap] at Ai ⊢
  have AY:=yH (show w.heap.size+2≤P∧P<w2.heap.size from ⟨by rw [Ap];exact (yL R1.out),(yL Ai)⟩)
  have T2:=yH Ai
  have R2:=yH (x09 Ai)
  have C4:=yH (x0E (yK Ar R0.out))
  have Cs:=yH (yK Ar R1.out)
  have B2:=yH (B1.out.trans (Ar.mono B1.out.size))
  clear Ar Ai Ap R0 R1 B1
  go_upto_region 3 with (first
   | (refine wpList_load_mid (by rfl) 91 _ (by rfl) P 0 (by rfl) [.pointer (some ⟨gs,0,none⟩),.int .i64 d] du R2.out Ag.out Aa.out STr ?_)
   | (refine wpList_load_mid (by rfl) 34 _ (by rfl) w.heap.size 0 (by rfl) k.cells dk C4.out AL.out U.out (by rw [CX.out];exact SKd) ?_)
   | (go_at_call 53;refine (AI.out w2 B2.out).mono ?_;rintro _ w3 ⟨b3,-,C2⟩;obtain ⟨q5,c5,A5,Dh,rfl,A3,CK,Ad⟩:=C2 L G rfl;have Ay:=yH A3;have Y:=yH CK;have BV:=yH Ad;have Ba:=yH b3;have B3:=yH (B2.out.trans (b3.mono B2.out.size));clear b3 C2 A3 CK Ad))
  obtain ⟨n5,A4⟩:∃n5,n5=A5.length:=⟨_,rfl⟩
  have f:=yH A4
  have Au:=yH (show n5=L.length+1 by rw [A4,Y.out.length];simp)
  obtain ⟨Ah,BB⟩:=x9v Y.out BE.out
  have Bb:=yH Ah
  have AD:=yH (show n5≤901 by have I:=D8.out;have h2:=Au.out;have h3:=Cj.out;rw [List.length_append] at I;simp at I;omega)
  have Be:=yH (show Calls Tryz.prog 54 #[.slice q5 n5 c5] w3 fun e w'=>e= .returned (.bool G.live)∧w'=w3 from by
   obtain ⟨A0,m,hA,C9,Ac⟩:=x67 Y.out
   have A3:=Ay.out
   rw [A4]
   rw [hA] at A3 ⊢
   rw [Ac.live]
   refine y36 A3 ?_
   have I:=AD.out
   rw [A4,hA] at I
   simp at I
   omega)
  have DI:=yH (show Calls Tryz.prog 55 #[.slice q5 n5 c5] w3 fun e w'=>e= .returned (.tuple #[.int .i64 (E:Int),.int .i64 sz])∧Below w3.heap.size w3 w' from by
   rw [Cc.out,Bi.out,A4]
   exact x9p Ay.out Y.out (by have:=AD.out;omega) BB C6.out)
  rw [← A4]
  clear A4 Ah BB AI R2 C4 C6
  have BZ:=yH (yK Ba.out Cs.out)
  have T3:=yH (yK Ba.out T2.out)
  go_upto_region 5 with fail
  generalize hlv:G.live=lv at *
  have DT:=yH hlv
  clear hlv
  cases lv with
  | true=>
   have C:=AG.out
   rw [if_pos rfl] at C
   go_wp2_with (first
    | (go_at_call 54;refine Be.out.mono ?_;rintro _ w4 ⟨rfl,rfl⟩)
    | (refine x07 (by rfl) (by rfl) x0T ?_)
    | (refine wpList_store_row (by rfl) 34 _ _ (by rfl) (w.heap.size+1) kd0.cells.toArray (by rfl) (by rfl) _ _ BZ.out (by rw [List.size_toArray,x01];exact SKd) rfl (all_oneCell_toArray Kd.one) ?_))
   refine x0F 8 9 (by kernel_rfl) (w.heap.size+1) _ kd0.cells.toArray _ AL.out U.out (by rw [List.size_toArray,x01];exact SKd) (by rfl) (by rfl) (setRow_heap _ _ _ _ _ _ BZ.out) ?_
   rw [← C]
   exact ⟨rfl,B3.out.trans (Below.setRow (Below.refl _ _) (by omega) _)⟩
  | false=>
   have C:=AG.out
   rw [if_neg Bool.false_ne_true] at C
   have j:=yH C
   clear C AG
   go_upto_region 10 with (first
    | (go_at_call 54;refine Be.out.mono ?_;rintro _ w4 ⟨rfl,rfl⟩)
    | (go_at_call 55;refine DI.out.mono ?_;rintro _ w4 ⟨rfl,b4⟩;have Ab:=yH b4;clear b4))
   have J:=yH (Ay.out.later Ab.out)
   have o:=yH (B3.out.trans (Ab.out.mono B3.out.size))
   have A2:=yH (show w2.heap.size≤w4.heap.size from Nat.le_trans Ba.out.size Ab.out.size)
   have AJ:=yH (Cp.out.keep (fun _=>False) (Only.of_below _ o.out) (fun _ _ e=>e))
   have BG:=yH (yK Ab.out BZ.out)
   have T4:=yH (yK Ab.out T3.out)
   have As:=yH (show ∀k,Q k→k<w2.heap.size from fun k hk=>by have:=AS.out k hk;have:=B2.out.size;omega)
   by_cases hc:E=n5
   ·have HC:=yH hc
    have DE:((E:Int)==(n5:Int))=true:=by rw [hc];simp
    have DF:(E:Int)=(n5:Int):=by rw [hc]
    have C:=j.out
    rw [if_pos (by rw [hc,Au.out])] at C
    have H:=yH C
    clear C j
    have BS:=yH (show Calls Tryz.prog 56 #[.agg #[.pointer (some ⟨gs,0,none⟩),.int .i64 d],.slice q5 n5 c5,.bool true] w4 fun e w5=>∃kd:Kd,e= .returned (.agg kd.cells.toArray)∧kd.cells.length=37∧w5.heap[w.heap.size+1]? =some (.cells kd0.cells.toArray 34 (0,0))∧Told2 w gs Q (x1P L (endV G true)) (puts s ((endN G true).bytes::x4L L (endV G true))) (.returned (.tuple #[.agg kd.cells.toArray,.int .i64 0])) (w5.setRow (w.heap.size+1) kd.cells.toArray) from by
     obtain ⟨A0,m,hA,C9,Ac⟩:=x67 Y.out
     have A3:=J.out
     have Ad:=BV.out
     have Ah:=Bb.out
     have h9:=AD.out
     have Db:=BJ.out
     rw [f.out] at h9 ⊢
     rw [hA] at A3 Ad Ah h9 ⊢
     have hN:forkN m.row.R true m.k1.pk m.k2.pk=endN G true:=by
      unfold endN
      rw [Ac.row,Ac.l,Ac.r]
     have DD:A0.length≤900:=by simp at h9;omega
     have CI:A0.length*(u.kid.size.toNat+1)≤900*901:=Nat.mul_le_mul DD (by omega)
     have ht:=y1e (B:=w2.heap.size) (Z:=u.kid.size.toNat) An.out A3 A2.out As.out Ad AJ.out (by have:=BL.out;omega) (by omega) Ah (by omega) true
     rw [hN] at ht
     refine ht.mono fun e w5 h5=>x92 h5 ?_ o.out ⟨Nat.le_succ _,by have:=AY.out;omega⟩ A2.out AS.out BG.out
     have hf:=x3A C9 (endV G true) (s.put (endN G true).bytes) A0.length (Nat.le_refl _)
     rw [Nat.sub_self,List.drop_zero] at hf
     exact hf)
    clear J AJ Bb BV Y Ay
    have R4:=yH (x09 T4.out)
    go_wp2_with (first
     | (refine wpList_load_mid (by rfl) 91 _ (by rfl) P 0 (by rfl) [.pointer (some ⟨gs,0,none⟩),.int .i64 d] du R4.out Ag.out Aa.out STr ?_)
     | (go_at_call 56;refine BS.out.mono ?_;rintro _ w5 ⟨kd,rfl,hl,Aj,M⟩;have BI:=yH hl;have AV:=yH Aj;have A8:=yH M;clear hl Aj M)
     | (refine wpList_store_row (by rfl) 34 _ _ (by rfl) (w.heap.size+1) kd.cells.toArray (by rfl) (by rfl) _ _ AV.out (by rw [List.size_toArray,BI.out];exact SKd) (by simp only [List.size_toArray,BI.out,x01]) (all_oneCell_toArray Kd.one) ?_))
    exact x0F 8 9 (by kernel_rfl) (w.heap.size+1) _ kd.cells.toArray _ AL.out U.out (by rw [List.size_toArray,BI.out];exact SKd) (by rfl) (by rfl) (setRow_heap _ _ _ _ _ _ AV.out) (by rw [← H.out];exact A8.out)
   ·have AQ:E<n5:=by have I:=Bo.out;have h2:=Au.out;omega
    have Cf:¬E=L.length+1:=by rw [← Au.out];exact hc
    have DE:((E:Int)==(n5:Int))=false:=by simp;omega
    have DF:¬(E:Int)=(n5:Int):=by omega
    have C:=j.out
    rw [if_neg Cf] at C
    have H:=yH C
    clear C j
    obtain ⟨g5,Cr,CO,BN⟩:=x3a J.out (fun e=>by have I:=f.out;rw [e] at I;simp at I;omega)
    subst Cr
    have Cx:=yH BN
    have Cm:=yH CO
    have Bu:=yH (show w2.heap.size≤g5∧g5<w4.heap.size from J.out.own.lt g5 rfl)
    obtain ⟨m,hm⟩:∃m,m=A5.getD E default:=⟨_,rfl⟩
    obtain ⟨st,At⟩:∃st,st=(L++[G]).getD E G:=⟨_,rfl⟩
    rw [← At] at H
    have B4:Link m st:=by rw [hm,At];exact x9w Y.out E (by rw [← f.out];exact AQ) G
    have C0:m∈A5:=by
     rw [hm,List.getD_eq_getElem?_getD,List.getElem?_eq_getElem (by rw [← f.out];exact AQ)]
     exact List.getElem_mem _
    have B5:st∈L++[G]:=by
     rw [At,List.getD_eq_getElem?_getD,List.getElem?_eq_getElem (by have:=Y.out.length;rw [← this,← f.out];exact AQ)]
     exact List.getElem_mem _
    have BO:=J.out.way.each m C0
    have AK:=BE.out st B5
    have AT:=yH AK.old
    have CL:=yH (show st.old.kid.size≤900 from by have I:=AK.zo;have h2:=BJ.out;omega)
    have D3:=yH (show w4.rangeAt g5 (E*41) m.kid.cells from by
     have I:=BN E (by rw [← f.out];exact AQ)
     rw [← hm] at I
     exact y1m I)
    have Co:=yH (Kd.cells_length BO.kid.len)
    have BU:=yH (show ∀x,Below w4.heap.size w4 x→Calls Tryz.prog 57 #[.agg #[.pointer (some ⟨gs,0,none⟩),.int .i64 d],.agg m.kid.cells.toArray] x (x93 x st.old) from fun x z=>y3E DJ.out st.old m.kid x (AJ.out.keep (fun _=>False) (Only.of_below _ z) (fun _ _ e=>e)) AT.out (BO.kid.later z) B4.old.symm (by have:=CL.out;omega))
    have i1:(0:Int)≤(E:Int)∧(E:Int)<(n5:Int):=by omega
    have A7:=yH AQ
    clear hm At B4 C0 B5 BO AK BN CO
    go_upto_region 12 with fail
    refine wp_region_held_drew (S:=fun w'=>Below w4.heap.size w4 w') (by kernel_rfl) ((Below.refl _ _).drew) (fun hHeld=>?_)
    generalize w4.drew=x0 at *
    refine tQ 0 ?_ ?_ ?_
    rotate_left
    ·intro w' hSw
     refine Eq.trans (b:=Result.ok (Next.value (.agg #[.pointer (some ⟨gs,0,none⟩),.int .i64 d])) w') ?_ ?_
     ·exact x0A 91 (.tmp 10) (by rfl) P 0 (by rfl) [.pointer (some ⟨gs,0,none⟩),.int .i64 d] du (x02 (x09 T4.out) hSw) Ag.out Aa.out STr
     ·with_reducible rfl
    refine tK 1 ?_
    refine tK 2 ?_
    refine tK 3 ?_
    refine tK 4 ?_
    refine tQ 5 ?_ ?_ ?_
    rotate_left
    ·intro w' hSw
     refine Eq.trans (b:=Result.ok (Next.value (.agg m.kid.cells.toArray)) w') ?_ ?_
     ·exact x0A 34 (.tmp 53) (by rfl) g5 (E*41) (by rfl) m.kid.cells dk (x02 D3.out hSw) AL.out U.out (by rw [Co.out];exact SKd)
     ·with_reducible rfl
    refine rO 6 fun K hK=>?_
    go_simp
    refine (BU.out x0 hHeld).mono ?_
    rintro _ x1 ⟨DC,q6,c6,O,rfl,Bh,B9,Bz,CJ,AW,BQ⟩
    have Bn:=yH Bh
    have CF:=yH B9
    have Cq:=yH Bz
    have Cu:=yH CJ
    have DK:=yH AW
    have Cd:=yH BQ
    have D4:=yH hHeld
    have BK:=hHeld.trans (BQ.mono hHeld.size)
    clear Bh B9 Bz CJ AW BQ
    try go_wp2_with fail
    refine hK.out _ _ BK (fun hHeld=>?_)
    clear hK K
    try simp only [Act.put,yA,yB,yC]
    refine tK 7 ?_
    refine tK 8 ?_
    refine tK 9 ?_
    refine tK 10 ?_
    refine tK 11 ?_
    refine wpAnyH_done (by kernel_rfl) ?_ _
    have AX:=yH hHeld
    clear hHeld
    have Bl:=yH (yK AX.out BG.out)
    have T5:=yH (yK AX.out T4.out)
    cases hwh:st.old.whole with
    | false=>
     have AU:DC=21:=Cu.out hwh
     subst AU
     have C:=H.out
     rw [hwh,if_neg Bool.false_ne_true] at C
     have AA:=yH C
     clear C H hwh
     go_wp2_with (first
      | (refine x07 (by rfl) (by rfl) x0T ?_)
      | (refine wpList_store_row (by rfl) 34 _ _ (by rfl) (w.heap.size+1) kd0.cells.toArray (by rfl) (by rfl) _ _ Bl.out (by rw [List.size_toArray,x01];exact SKd) rfl (all_oneCell_toArray Kd.one) ?_))
     refine x0F 8 9 (by kernel_rfl) (w.heap.size+1) _ kd0.cells.toArray _ AL.out U.out (by rw [List.size_toArray,x01];exact SKd) (by rfl) (by rfl) (setRow_heap _ _ _ _ _ _ Bl.out) ?_
     rw [← AA.out]
     exact ⟨rfl,(o.out.trans (AX.out.mono o.out.size)).trans (Below.setRow (Below.refl _ _) (by omega) _)⟩
    | true=>
     obtain ⟨AU,BA⟩:=Cq.out hwh
     subst AU
     have C:=H.out
     rw [hwh,if_pos rfl] at C
     have AA:=yH C
     have BC:=yH BA
     clear C H hwh BA
     go_upto_region 15 with fail
     have Am:=yH (show Below x1.heap.size x1 x1.drew from (Below.refl _ _).drew)
     have D5:=yH (show x1.drew.heap[P]? =some (.cells #[.pointer (some ⟨gs,0,none⟩),.int .i64 d] 91 (0,0)) from T5.out)
     refine wp_region_held_drew (S:=fun w'=>w'.heap[P]? =some (.cells #[.pointer (some ⟨gs,0,none⟩),.int .i64 d] 91 (0,0))) (by kernel_rfl) (D5.out) (fun hHeld=>?_)
     generalize x1.drew=y0 at *
     have BM:=yH (AX.out.trans (Am.out.mono AX.out.size))
     have Aq:=yH (show y0.ownsRow x0.heap.size 24 1 (.slice q6 O.length c6) O.length (hds O) from ⟨Bn.out.1,Bn.out.2.imp id (by
      rintro ⟨g,D2,D1,hv,hg,Bj,e⟩
      exact ⟨g,D2,D1,hv,hg,(Am.out.block _ (yL Bj)).trans Bj,e⟩)⟩)
     have CY:=yH (AJ.out.keep (fun _=>False) (Only.of_below _ BM.out) (fun _ _ e=>e))
     have N:=yH (show w4.heap.size≤x0.heap.size∧x0.heap.size≤x1.heap.size∧x1.heap.size≤y0.heap.size from ⟨D4.out.size,Cd.out.size,Am.out.size⟩)
     have Cl:=yH (Bg.out.later (o.out.trans (BM.out.mono o.out.size)))
     have Ch:=yH (show ∀x∈O++[(⟨rp,rn,rc,rR⟩:Rw)],x.Ok y0∧x.n=d∧∀y,x.p=some y→x.R≠[]→(Value.slice q6 O.length c6).ownBlock≠some y.block∧¬Q y.block from fun x z=>by
      rcases List.mem_append.1 z with z | z
      ·obtain ⟨I,h2⟩:=CF.out x z
       refine ⟨I.later Am.out,?_,fun y hy hR=>⟨(h2 y hy hR).1,fun e=>by have:=As.out _ e;have:=(h2 y hy hR).2;have:=N.out.1;have:=A2.out;omega⟩⟩
       have hl:x.R.length=d:=x3c AT.out x.R (by rw [← BC.out];exact List.mem_map_of_mem z)
       have:=I.ints.size
       omega
      ·rw [List.mem_singleton.1 z]
       refine ⟨Cl.out,Ck.out,fun y hy hR=>⟨fun e=>?_,Ct.out y hy hR⟩⟩
       have I:=(Aq.out.lt _ e).1
       have h2:=rw_lt Bg.out y hy hR
       have h3:=N.out.1
       have h4:=o.out.size
       omega)
     have AZ:O.length≤900:=by have I:=DK.out;have h2:=CL.out;omega
     have AH:=yH AZ
     have Bw:E≤c5:=by have I:=Cm.out;rw [← f.out] at I;have:=A7.out;omega
     clear AZ
     have BX:=yH (show ∀(y2:World) (g7 c7:Nat) (y3:World) (v:Kd) (Q1:Nat→Prop),AppR x0.heap.size gs d Q s y0 (.slice q6 O.length c6) (O++[(⟨rp,rn,rc,rR⟩:Rw)]) g7 c7 y2→v.pk=(lay ((O++[(⟨rp,rn,rc,rR⟩:Rw)]).map Rw.R) E).kid→v.Ok y3→Fsh y2 v→Aw Q1 v→LayR y2 y3 gs Q Q1 (puts s (lay ((O++[(⟨rp,rn,rc,rR⟩:Rw)]).map Rw.R) E).pages) g7 0 (O++[(⟨rp,rn,rc,rR⟩:Rw)]).length→
       Calls Tryz.prog 58 #[.agg #[.pointer (some ⟨gs,0,none⟩),.int .i64 d],.slice (some ⟨g5,0,none⟩) E c5,.agg v.cells.toArray] y3 fun e y4=>∃kd:Kd,e= .returned (.agg kd.cells.toArray)∧kd.cells.length=37∧y4.heap[w.heap.size+1]? =some (.cells kd0.cells.toArray 34 (0,0))∧y4.heap[P]? =some (.cells #[.pointer (some ⟨gs,0,none⟩),.int .i64 d] 91 (0,0))∧y1l w gs Q s OUT (.returned (.tuple #[.agg kd.cells.toArray,.int .i64 0])) (y4.setRow (w.heap.size+1) kd.cells.toArray) from fun y2 g7 c7 y3 v Q1 hap e1 e2 e3 e4 e5=>by
      have Ae:(O++[(⟨rp,rn,rc,rR⟩:Rw)]).map Rw.R=st.old.rows++[rR]:=by rw [List.map_append,BC.out];rfl
      rw [Ae] at e1 e5
      obtain ⟨t,ht⟩:∃t,t=lay (st.old.rows++[rR]) E:=⟨_,rfl⟩
      have Dl:=AH.out
      have Bp:t.dims d:=by
       rw [ht]
       refine x6E fun x z=>?_
       rcases List.mem_append.1 z with z | z
       ·exact x3c AT.out x z
       ·rw [List.mem_singleton.1 z];exact Ce.out
      have DZ:t.size=O.length+1:=by
       rw [ht,x2c,← Ae]
       simp
      have C:=AA.out
      rw [← ht] at e1 e5 C
      have Br:=x1C An.out t Bp
      have C7:=x0n t (by omega)
      have Bs:=x0S t
      have DW:=N.out
      have DU:=hap.only.size
      have Ao:=e5.only.size
      have Dd:g7=g7:=rfl
      have DB:Only Q w4 y3:=by
       have a1:=BM.out
       have a2:=hap.only
       have a3:=e5.only
       refine ⟨a3.os.trans (a2.os.trans a1.os),a3.tape.trans (a2.tape.trans a1.tape),a3.output.trans (a2.output.trans a1.output),by omega,fun k hk hn=>?_⟩
       have Ca:k≠g7:=fun e=>by have:=hap.low;omega
       rw [a3.block k (by omega) (fun e=>e.elim hn Ca),a2.block k (by omega) (fun e=>by have:=(Aq.out.lt k e).1;omega)]
       exact a1.block k hk
      have A6:(A5.take E).length=E:=by rw [List.length_take,← f.out];have:=A7.out;omega
      have CI:E*(u.kid.size.toNat+1)≤900*901:=Nat.mul_le_mul (by have I:=A7.out;have h2:=AD.out;omega) (by have:=BJ.out;omega)
      have Do:=x1V t.pages s
      have hr:=x9t (B:=w2.heap.size) (gs:=gs) (d:=d) (Z:=u.kid.size.toNat) (g:=g5) (w:=w4) (x:=y3) (q:=some ⟨g5,0,none⟩) (c:=c5) (A:=A5.take E) (Q:=Q) (Q1:=Q1) (s1:=puts s t.pages) (kd:=v) An.out A2.out As.out
       (fun _=>⟨rfl,by rw [A6];exact Bw,Bu.out.2,Bu.out.1,fun i hi=>by
        rw [A6] at hi
        have I:=Cx.out i (by rw [← f.out];have:=A7.out;omega)
        rw [show (A5.take E).getD i default=A5.getD i default from by rw [List.getD_eq_getElem?_getD,List.getD_eq_getElem?_getD,List.getElem?_take_of_lt hi]]
        exact I⟩)
       (J.out.way.take E) (fun a ha k hk=>⟨fun e=>(J.out.aside a (List.mem_of_mem_take ha) k hk).2 (by rw [e];rfl),BV.out a (List.mem_of_mem_take ha) k hk⟩) DB (by rw [A6];have I:=A7.out;have h2:=AD.out;omega) e2 (fun r hr x z hR=>by have:=e3 r hr x z hR;omega) e4 e5.st (fun k hk=>(e5.new k hk).imp id (fun e=>by omega)) (y4v (fun e=>by rw [e] at Bs;simp at Bs;omega)) (by rw [A6];have I:=A7.out;have h2:=AD.out;have h3:=BL.out;omega)
       ⟨by rw [e1];exact Br.1,by rw [e1];exact Br.2,by rw [e1,C7];omega⟩ (fun a ha=>Bb.out a (List.mem_of_mem_take ha)) (by rw [e1,C7,A6];omega)
      rw [A6,e1] at hr
      refine hr.mono fun e y4 h4=>?_
      have D6:=x2r (u:=t) (by omega)
      have hf:=x3A (Y.out.take E) (V.of t) (puts s t.pages) (A5.take E).length (Nat.le_refl _)
      rw [Nat.sub_self,List.drop_zero,A6,D6,← x0q] at hf
      have BT:∃(kd:Kd) (Q2:Nat→Prop),e= .returned (.agg kd.cells.toArray)∧Only (fun k=>Q k∨w2.heap.size≤k) w4 y4:=by
       obtain ⟨kd,Q',I,_,_,_,_,_,_,h8⟩:=h4
       exact ⟨kd,Q',I,h8⟩
      obtain ⟨_,_,_,BT⟩:=BT
      have Ap:=AY.out
      obtain ⟨kd,g1,g2,g3,g4⟩:=x92 h4 hf o.out (b:=w.heap.size+1) ⟨Nat.le_succ _,by omega⟩ A2.out AS.out BG.out
      refine ⟨kd,g1,g2,g3,(BT.block P (yL T4.out) (fun e=>e.elim (fun e=>by have:=AS.out P e;omega) (fun e=>by omega))).trans T4.out,?_⟩
      rw [← C]
      exact g4)
     refine tQ 0 ?_ ?_ ?_
     rotate_left
     ·intro w' hSw
      refine Eq.trans (b:=Result.ok (Next.value (.agg #[.pointer (some ⟨gs,0,none⟩),.int .i64 d])) w') ?_ ?_
      ·exact x0A 91 (.tmp 10) (by rfl) P 0 (by rfl) [.pointer (some ⟨gs,0,none⟩),.int .i64 d] du (x09 hSw) Ag.out Aa.out STr
      ·with_reducible rfl
     refine tK 1 ?_
     refine tK 2 ?_
     refine tQ 3 ?_ ?_ ?_
     rotate_left
     ·intro w' hSw
      refine Eq.trans (b:=Result.ok (Next.value (.slice (some ⟨g5,0,none⟩) E c5)) w') ?_ ?_
      ·exact x90 (x:=.tmp 63) (hi:=.tmp 64) (n:=n5) (c:=c5) (k:=E) (g:=g5) (i:=0) (by rfl) (by rfl) (by rfl) Bw
      ·with_reducible rfl
     refine tQ 4 ?_ ?_ ?_
     rotate_left
     ·intro w' hSw
      refine Eq.trans (b:=Result.ok (Next.value (.agg #[.pointer (some ⟨gs,0,none⟩),.int .i64 d])) w') ?_ ?_
      ·exact x0A 91 (.tmp 10) (by rfl) P 0 (by rfl) [.pointer (some ⟨gs,0,none⟩),.int .i64 d] du (x09 hSw) Ag.out Aa.out STr
      ·with_reducible rfl
     refine tK 5 ?_
     refine tK 6 ?_
     refine tK 9 ?_
     refine rO 7 fun K hK=>?_
     refine x9u (.tmp 68) (by rfl) (by rfl) ?_
     have BK:(y0.alloc (.cells #[.slice rp rn rc] 24)).heap[P]? =some (.cells #[.pointer (some ⟨gs,0,none⟩),.int .i64 d] 91 (0,0)):=(((Below.refl y0.heap.size y0).alloc (Nat.le_refl _) (.cells #[.slice rp rn rc] 24)).block _ (yL hHeld)).trans hHeld
     have CM:=yH hHeld
     refine hK.out _ _ BK (fun hHeld=>?_)
     clear hK K
     try simp only [Act.put,yA,yB,yC]
     refine rO 8 fun K hK=>?_
     refine y4u (r:=(⟨rp,rn,rc,rR⟩:Rw)) Aq.out (by have:=N.out;omega) Ch.out (fun k hk=>by have:=As.out k hk;have:=N.out.1;have:=A2.out;omega) CY.out (.tmp 67) (.tmp 69) (by rfl) (by rfl) (by rfl) (by have:=AH.out;omega) ?_
     intro g7 c7 y2 hap
     have CN:=yH hap
     have Ci:y2.heap[P]? =some (.cells #[.pointer (some ⟨gs,0,none⟩),.int .i64 d] 91 (0,0)):=(hap.only.block P (yL CM.out) (fun e=>by have I:=(Aq.out.lt P e).1;have h2:=N.out.1;have h3:=A2.out;have h4:=AY.out.2;omega)).trans CM.out
     have Bf:=yH (show Calls Tryz.prog 59 #[.agg #[.pointer (some ⟨gs,0,none⟩),.int .i64 d],.slice (some ⟨g7,0,none⟩) (O.length+1) c7,.int .i64 (E:Int)] y2 (x29 y2 gs Q s g7 0 (O++[(⟨rp,rn,rc,rR⟩:Rw)]) E) from by
      have hl:(O++[(⟨rp,rn,rc,rR⟩:Rw)]).length=O.length+1:=by simp
      have h:=y1g An.out (O.length+1) (O++[(⟨rp,rn,rc,rR⟩:Rw)]) (some ⟨g7,0,none⟩) c7 E g7 0 y2 Q s (Nat.le_of_eq hl) (fun _=>rfl) hap.cap hap.seg hap.ok hap.st hap.lt hap.notq (by rw [hl];have:=BL.out;have:=AH.out;omega) (by rw [hl];have:=A7.out;have:=AD.out;have:=AH.out;omega)
      rw [hl] at h
      exact h)
     clear hap
     refine hK.out _ _ Ci (fun hHeld=>?_)
     clear hK K
     try simp only [Act.put,yA,yB,yC]
     refine rO 10 fun K hK=>?_
     go_simp
     refine Bf.out.mono ?_
     rintro _ y3 ⟨v,Q1,rfl,CA,Bt,Bm,C3,Ao⟩
     have Cb:y3.heap[P]? =some (.cells #[.pointer (some ⟨gs,0,none⟩),.int .i64 d] 91 (0,0)):=(Ao.only.block P (yL hHeld) (fun e=>by
      have I:=AY.out
      have h2:=CN.out.low
      have h3:=N.out.1
      have h4:=A2.out
      rcases e with e | e
      ·have:=AS.out P e;have:=o.out.size;omega
      ·omega)).trans hHeld
     have DH:=yH (BX.out y2 g7 c7 y3 v Q1 CN.out CA Bt Bm C3 Ao)
     clear CA Bt Bm C3 Ao
     try go_wp2_with fail
     refine hK.out _ _ Cb (fun hHeld=>?_)
     clear hK K
     try simp only [Act.put,yA,yB,yC]
     refine rO 11 fun K hK=>?_
     go_simp
     refine DH.out.mono ?_
     rintro _ y4 ⟨kd,rfl,hl,Aj,Cg,M⟩
     have BY:=yH hl
     have AV:=yH Aj
     have A8:=yH M
     clear hl Aj M
     try go_wp2_with fail
     refine hK.out _ _ Cg (fun hHeld=>?_)
     clear hK K
     try simp only [Act.put,yA,yB,yC]
     refine rO 12 fun K hK=>?_
     refine wp_store_row 34 (.tmp 8) (.tmp 73) (by rfl) (w.heap.size+1) kd.cells.toArray (by rfl) (by rfl) _ _ AV.out (by rw [List.size_toArray,BY.out];exact SKd) (by simp only [List.size_toArray,BY.out,x01]) (all_oneCell_toArray Kd.one) ?_
     have Cn:(y4.setRow (w.heap.size+1) kd.cells.toArray).heap[P]? =some (.cells #[.pointer (some ⟨gs,0,none⟩),.int .i64 d] 91 (0,0)):=(setRow_other _ _ _ _ (by have:=AY.out.1;omega)).trans hHeld
     refine hK.out _ _ Cn (fun hHeld=>?_)
     clear hK K
     try simp only [Act.put,yA,yB,yC]
     refine tK 13 ?_
     refine wpAnyH_done (by kernel_rfl) ?_ _
     go_wp2_with fail
     exact x0F 8 9 (by kernel_rfl) (w.heap.size+1) _ kd.cells.toArray _ AL.out U.out (by rw [List.size_toArray,BY.out];exact SKd) (by rfl) (by rfl) (setRow_heap _ _ _ _ _ _ AV.out) A8.out
end Go.Proofs.YtinihaflmdihaaaGreat.Kt
namespace Go.Proofs.YtinihaflmdihaaaGreat.Kt
open Go.Proofs Go.Shelf
end Go.Proofs.YtinihaflmdihaaaGreat.Kt
namespace Go.Proofs.YtinihaflmdihaaaGreat.Kt
open Go.Proofs Go.RowKit Go.Sort Go.Shelf Go.Proofs.YtinihaflmdihaaaGreat.Nd
abbrev RwZ (w:World) (g:Nat):={r:Rw//r.Ok w∧Away g r}
section
variable {w:World} {g:Nat}
def rwz0:RwZ w g:=⟨⟨none,0,0,[]⟩,x4k w,fun x hx=>by cases hx⟩
instance:Inhabited (RwZ w g):=⟨rwz0⟩
end
end Go.Proofs.YtinihaflmdihaaaGreat.Kt
namespace Go.Proofs.YtinihaflmdihaaaGreat.Kt
open Go.RowKit Go.Shelf Go.Proofs.YtinihaflmdihaaaGreat.Nd Go.Proofs.YtinihaflmdihaaaGreat.Dk Go.Proofs.YtinihaflmdihaaaGreat.Pg
end Go.Proofs.YtinihaflmdihaaaGreat.Kt
namespace Go.Proofs.YtinihaflmdihaaaGreat.Kt
open Go.RowKit Go.Proofs.YtinihaflmdihaaaGreat.Nd Go.Proofs.YtinihaflmdihaaaGreat.Pg
def T.ents:T→List (List Int)
 | .nil=>[]
 | .fork p _ l r=>p::(l.ents++r.ents)
def T.bst (d:Nat):T→Nat→Prop
 | .nil,_=>True
 | .fork p _ l r,t=>(∀x∈l.ents,lessP (t%d) x p=true)∧(∀x∈r.ents,lessP (t%d) p x=true)∧l.bst d (t+1)∧r.bst d (t+1)
theorem x5N:∀(n:Nat) (L:List (List Int)) (t:Nat),L.length≤n→∀x∈(layP n L t).ents,x∈L
 | 0,L,t,h,x,hx=>by cases hx
 | n+1,L,t,h,x,hx=>by
  rw [layP] at hx
  by_cases hL:L=[]
  ·rw [if_pos hL] at hx
   cases hx
  ·rw [if_neg hL] at hx
   have hp:=List.length_pos_iff.2 hL
   have l1:((sortP (t%(L.headD []).length) L).take (L.length/2)).length≤n:=by rw [List.length_take,x0g];omega
   have A:((sortP (t%(L.headD []).length) L).drop (L.length/2+1)).length≤n:=by rw [List.length_drop,x0g];omega
   have C:=x5N n _ (t+1) l1
   have B:=x5N n _ (t+1) A
   refine (x1Y (t%(L.headD []).length) L).mem_iff.1 ?_
   unfold T.ents at hx
   rcases List.mem_cons.1 hx with rfl | hx
   ·rw [List.getD_eq_getElem?_getD,List.getElem?_eq_getElem (by rw [x0g];omega)]
    exact List.getElem_mem _
   ·rcases List.mem_append.1 hx with hx | hx
    ·exact List.mem_of_mem_take (C x hx)
    ·exact List.mem_of_mem_drop (B x hx)
theorem y3F {L:List (List Int)} {t:Nat}:∀x∈(lay L t).ents,x∈L:=x5N _ L t (Nat.le_refl _)
theorem y3s {R:List Int} (h:∀x∈R,In64 x) (i:Nat):In64 (R.getD i 0):=by
 rw [List.getD_eq_getElem?_getD]
 rcases Nat.lt_or_ge i R.length with A | A
 ·rw [List.getElem?_eq_getElem A]
  exact h _ (List.getElem_mem _)
 ·rw [List.getElem?_eq_none A]
  exact ⟨by decide,by decide⟩
theorem two64 {f:Int→Int→Int} (hf:∀x y,f x y=x∨f x y=y) {R T:List Int} (hR:∀x∈R,In64 x) (hT:∀x∈T,In64 x) (k:Nat):∀x∈two f R T k,In64 x:=fun x hx=>by
 unfold two at hx
 obtain ⟨i,-,rfl⟩:=List.mem_map.1 hx
 rcases hf (R.getD i 0) (T.getD i 0) with e | e
 ·rw [e];exact y3s hR i
 ·rw [e];exact y3s hT i
def Bx64 (b:List Int×List Int):Prop:=(∀x∈b.1,In64 x)∧∀x∈b.2,In64 x
theorem y1n {A B:List Int×List Int} (hA:Bx64 A) (hB:Bx64 B):Bx64 (hull A B):=by
 unfold hull
 split
 ·exact hA
 ·split
  ·exact hB
  ·split
   ·exact ⟨fun x hx=>(by cases hx),fun x hx=>by cases hx⟩
   ·exact ⟨two64 (fun x y=>by rcases Int.le_total x y with h | h<;>omega) hA.1 hB.1 _,two64 (fun x y=>by rcases Int.le_total x y with h | h<;>omega) hA.2 hB.2 _⟩
theorem y1o {q:List Int} {v:Bool} {a b:PK} (hq:∀x∈q,In64 x) (ha:a.Nums) (hb:b.Nums):(forkN q v a b).Nums∧(forkN q v a b).says.Nums:=by
 have H:(forkN q v a b).Nums:=⟨fun e B=>by
  have B:e∈[(⟨q,v⟩:PE)]:=B
  rw [List.mem_singleton.1 B]
  exact hq,fun k A=>by
  have A:k∈[a,b]:=A
  simp only [List.mem_cons,List.not_mem_nil,or_false] at A
  rcases A with rfl | rfl
  ·exact ha
  ·exact hb⟩
 refine ⟨H,x79 _,x3N _,?_,?_,fun x hx=>by cases hx⟩
 all_goals
  have E:Bx64 (([],[]):List Int×List Int):=⟨fun x hx=>(by cases hx),fun x hx=>by cases hx⟩
  have G:Bx64 (boxE ([],[]) ⟨q,v⟩):=by
   unfold boxE
   split
   ·exact y1n E ⟨hq,hq⟩
   ·exact E
  have C:Bx64 (forkN q v a b).box:=y1n (y1n G ⟨ha.2.2.1,ha.2.2.2.1⟩) ⟨hb.2.2.1,hb.2.2.2.1⟩
 ·exact C.1
 ·exact C.2
theorem y1p:PK.none.Nums:=⟨by decide,x1l 32,fun x hx=>(by cases hx),fun x hx=>(by cases hx),fun x hx=>by cases hx⟩
structure NewK (d:Nat) (a:PK):Prop where
 right:a.right d=true
 key:a.key=[]
 nums:a.Nums
theorem NewK.size {d:Nat} {a:PK} (h:NewK d a):0≤a.size:=(x2e h.right).1
theorem y3G {d:Nat} (hd:1≤d∧d≤8) {q:List Int} {v:Bool} {a b:PK} (hl:q.length=d) (hq:∀x∈q,In64 x) (ha:NewK d a) (hb:NewK d b) (hz:a.size+b.size+1≤1048576):NewK d (forkN q v a b).says∧Txt d (forkN q v a b).bytes (forkN q v a b)∧(forkN q v a b).says.size=1+(a.size+b.size):=by
 have C:=x0Z q v a b
 have G:=ha.size
 have E:=hb.size
 have B:=x1H (v:=v) hd hl ha.right hb.right ha.key hb.key
 have A:=y1o (v:=v) hq ha.nums hb.nums
 exact ⟨⟨x1w B (by omega) (by omega),rfl,A.2⟩,y5R A.1 B (by omega),C⟩
theorem x2j {d:Nat} (hd:1≤d∧d≤8):∀t:T,t.dims d→(∀y∈t.ents,∀x∈y,In64 x)→t.size≤1048576→NewK d (V.of t).kid∧(∀b∈t.pages,∃N,Txt d b N∧N.kind=1)∧(∀W',(∀b∈t.pages,x0O W' (sumOf b)=some b)→Sees W' d (V.of t))
 | .nil,_,_,_=>⟨⟨rfl,rfl,y1p⟩,fun b hb=>(by cases hb),fun _ _=>trivial⟩
 | .fork p v l r,hdm,hn,hz=>by
  have hzz:(T.fork p v l r).size=1+l.size+r.size:=rfl
  obtain ⟨l1,l2,l3⟩:=x2j hd l hdm.2.1 (fun y hy=>hn y (by show y∈p::(l.ents++r.ents);simp [hy])) (by omega)
  obtain ⟨r1,r2,r3⟩:=x2j hd r hdm.2.2 (fun y hy=>hn y (by show y∈p::(l.ents++r.ents);simp [hy])) (by omega)
  have el:=x2r (u:=l) (by omega)
  have er:=x2r (u:=r) (by omega)
  have sl:=x0n l (by omega)
  have sr:=x0n r (by omega)
  have hf:=y3G (v:=v) hd hdm.1 (hn p (by show p∈p::(l.ents++r.ents);simp)) l1 r1 (by rw [el,er,sl,sr];omega)
  have hpg:(T.fork p v l r).pages=l.pages++r.pages++[(forkN p v (V.of l).kid (V.of r).kid).bytes]:=by
   rw [el,er]
   rfl
  rw [hpg]
  refine ⟨hf.1,fun b hb=>?_,fun W' hW=>?_⟩
  ·rcases List.mem_append.1 hb with hb | hb
   ·rcases List.mem_append.1 hb with hb | hb
    ·exact l2 b hb
    ·exact r2 b hb
   ·rw [List.mem_singleton.1 hb]
    exact ⟨_,hf.2.1,rfl⟩
  ·exact ⟨hf.2.1,hW _ (by simp),l3 W' (fun b hb=>hW b (by simp [hb])),r3 W' (fun b hb=>hW b (by simp [hb]))⟩
inductive Path:V→List St→V→Prop
 | nil (u:V):Path u [] u
 | cons {q:List Int} {lv:Bool} {l r:V} {sd:Bool} {L:List St} {v:V} (h:Path (if sd then r else l) L v):Path (.fork q lv l r) (⟨q,lv,l,r,sd,.fork q lv l r⟩::L) v
structure NewV (W:Pages) (d:Nat) (u u':V) (P:List (List Nat)):Prop where
 kid:NewK d u'.kid
 size:u'.kid.size≤u.kid.size+1
 forks:∀b∈P,∃N,Txt d b N∧N.kind=1
 few:(P.length:Int)≤2*u.kid.size+2
 sees:∀W',(∀x t,x0O W x=some t→x0O W' x=some t)→(∀b∈P,x0O W' (sumOf b)=some b)→u.whole=true→Sees W' d u'
end Go.Proofs.YtinihaflmdihaaaGreat.Kt
namespace Go.Proofs.YtinihaflmdihaaaGreat.Kt
open Go.RowKit Go.Proofs.YtinihaflmdihaaaGreat.Nd Go.Proofs.YtinihaflmdihaaaGreat.Mo
def dimsP (d:Nat):Nat:=1+d%5
theorem y3H (d:Nat) (hd:d<256) (w:World):Calls Tryz.prog 12 #[.int .u8 d] w fun e w'=>e= .returned (.int .i64 (dimsP d))∧w'=w:=by
 have G:(d:Int).tmod 5=((d%5:Nat):Int):=by rw [Int.tmod_eq_emod_of_nonneg (by omega)];rfl
 have C:d%5<5:=Nat.mod_lt _ (by omega)
 have A:=yH (show dimsP d=1+d%5 from rfl)
 generalize hx:d%5=x at *
 clear hx
 have E:IntKind.i64.wrap (x:Int)=x:=IntWalk.i64_in _ (by omega)
 have B:IntKind.i64.wrap (1+(x:Int))=1+(x:Int):=IntWalk.i64_in _ (by omega)
 go_enter Tryz.func12,Tryz.ntmps12
 go_wp2_with fail
 go_ret
 refine ⟨?_,rfl⟩
 rw [A.out]
 first | rfl | (congr 2;omega) | (simp)
def fitP (R:List Int) (d:Nat):List Int:=(List.range d).map fun i=>R.getD i 0
def partP (R:List Int) (d k:Nat):List Int:=(List.range d).map fun i=>if i<k then R.getD i 0 else 0
theorem x5O (R:List Int) (d:Nat):(fitP R d).length=d:=by simp [fitP]
theorem x7b (R:List Int) (d k:Nat):(partP R d k).length=d:=by simp [partP]
theorem x48 (R:List Int) (d:Nat):partP R d 0=List.replicate d 0:=by
 unfold partP
 apply List.ext_getElem
 ·simp
 ·intro i h1 h2
  simp
theorem y1q (R:List Int) (d k:Nat) (hk:k<d):(partP R d k).set k (R.getD k 0)=partP R d (k+1):=by
 unfold partP
 apply List.ext_getElem
 ·simp
 ·intro i h1 h2
  rw [List.getElem_set]
  simp only [List.getElem_map,List.getElem_range]
  by_cases hi:k=i
  ·subst hi
   simp
  ·rw [if_neg hi]
   by_cases hik:i<k
   ·rw [if_pos hik,if_pos (by omega)]
   ·rw [if_neg hik,if_neg (by omega)]
theorem x7c (R:List Int) (d k:Nat) (h:R.length≤k∨d≤k):partP R d k=fitP R d:=by
 unfold partP fitP
 apply List.map_congr_left
 intro i hi
 have A:=List.mem_range.1 hi
 split
 ·rfl
 ·rw [List.getD_eq_getElem?_getD,List.getElem?_eq_none (by omega)]
  rfl
theorem y1r {R:List Int} {d:Nat} (h:∀x∈R,-9223372036854775808≤x∧x≤9223372036854775807):∀x∈fitP R d,-9223372036854775808≤x∧x≤9223372036854775807:=fun x hx=>by
 obtain ⟨i,_,rfl⟩:=List.mem_map.1 hx
 rw [List.getD_eq_getElem?_getD]
 cases hr:R[i]? with
 | none=>simp
 | some y=>exact h y (List.mem_of_getElem? hr)
def FtRel (w:World) (X:Nat) (R:List Int) (n d:Nat) (i:Value) (wr:World):Prop:=∃k:Nat,k≤n∧k≤d∧i= .int .i64 k∧wr.heap[X]? =some (.cells (Mo.i64s (partP R d k)) 2 (0,0))∧Below w.heap.size w wr
def y1s (w:World) (R:List Int) (d:Nat) (e:Ending) (w':World):Prop:=∃r:Rw,e= .returned r.val∧r.R=fitP R d∧r.n=d∧FrRw w' w.heap.size r∧Below w.heap.size w w'
theorem y4w (p:Option Addr) (n c:Nat) (R:List Int) (d:Nat) (w:World) (h:Ints w p n c R) (hn:n≤9223372036854775807) (hd:d≤8):
  Calls Tryz.prog 14 #[.slice p n c,.int .i64 d] w (y1s w R d):=by
 have U:=Mo.make_row d (by omega) w
 have C:Below w.heap.size w (w.alloc (.cells (Mo.i64s (List.replicate d 0)) 2)):=(Below.refl _ _).alloc (Nat.le_refl _) _
 have H:=heap_alloc_new w (.cells (Mo.i64s (List.replicate d 0)) 2)
 rw [← x48 R d] at H
 have HB1:=yH C
 have R1:=yH H
 have P:=yH h
 have W:=yH h.size
 have L:=yH h.ok
 clear h C H
 go_enter Tryz.func14,Tryz.ntmps14
 go_upto_region 3 with fail
 rw [x48 R d] at R1
 generalize w.alloc (.cells (Mo.i64s (List.replicate d 0)) 2)=w1 at *
 rw [← x48 R d] at R1
 clear U
 go_wp2_with fail
 go_loopw [6] (fun i wr=>FtRel w w.heap.size R n d i wr) (fun i _=>d - (intOf i).toNat)
 case atStart=>exact ⟨0,by omega,by omega,rfl,R1.out,HB1.out⟩
 case round=>
  obtain ⟨k,N,X,rfl,A,K⟩:=hrel
  have E:=yH A
  have G:=yH K
  clear A K
  by_cases hln:k<n
  ·have Q:(k:Int)<n:=by omega
   by_cases hld:k<d
   ·have M:(k:Int)<d:=by omega
    obtain ⟨g,o,rfl,b⟩:=(P.out.later G.out).cell k hln
    have Y:(0:Int)≤k∧(k:Int)<n:=by omega
    have a:(0:Int)≤k∧(k:Int)<d:=by omega
    have e:IntKind.i64.wrap ((k:Int)+1)=(k:Int)+1:=IntWalk.i64_in _ (by omega)
    have Z:=frozen_of_row wr w.heap.size k _ _ E.out
    have O:=cell_of_row wr w.heap.size k _ _ _ E.out
    rw [Mo.i64s_get _ _ (by rw [x7b];exact hld)] at O
    have I:=heap_setCell_same wr w.heap.size k _ _ (.int .i64 (R.getD k 0)) E.out
    rw [Mo.i64s_put,y1q R d k hld] at I
    have R9:=yH I
    have B9:=yH (show Below w.heap.size w (wr.setCell ⟨w.heap.size,k,none⟩ (.int .i64 (R.getD k 0))) from G.out.setCell (p:=⟨w.heap.size,k,none⟩) (Nat.le_refl _) _)
    generalize R.getD k 0=x at *
    clear I
    go_wp2_with fail
    go_roundw
    case rel=>exact ⟨k+1,by omega,by omega,by go_num,R9.out,B9.out⟩
    case measure=>simp [intOf];omega
   ·have M:¬(k:Int)<d:=by omega
    have J:=yH (x7c R d k (Or.inr (by omega)))
    go_wp2_with fail
    go_ret
    have B:=E.out
    rw [J.out] at B
    exact ⟨⟨some ⟨w.heap.size,0,none⟩,d,d,fitP R d⟩,rfl,rfl,rfl,⟨⟨by have:=Mo.i64s_ints B (y1r L.out);rwa [x5O] at this,by show d≤_;omega⟩,fun y hy _=>by
     obtain rfl:y=⟨w.heap.size,0,none⟩:=by simpa using hy.symm
     exact Nat.le_refl _⟩,G.out⟩
  ·have Q:¬(k:Int)<n:=by omega
   have J:=yH (x7c R d k (Or.inl (by rw [← W.out];omega)))
   go_wp2_with fail
   go_ret
   have B:=E.out
   rw [J.out] at B
   exact ⟨⟨some ⟨w.heap.size,0,none⟩,d,d,fitP R d⟩,rfl,rfl,rfl,⟨⟨by have:=Mo.i64s_ints B (y1r L.out);rwa [x5O] at this,by show d≤_;omega⟩,fun y hy _=>by
    obtain rfl:y=⟨w.heap.size,0,none⟩:=by simpa using hy.symm
    exact Nat.le_refl _⟩,G.out⟩
end Go.Proofs.YtinihaflmdihaaaGreat.Kt
namespace Go.Proofs.YtinihaflmdihaaaGreat.Kt
open Go.RowKit
end Go.Proofs.YtinihaflmdihaaaGreat.Kt
namespace Go.Proofs.YtinihaflmdihaaaGreat.Kt
open Go.RowKit Go.Proofs.YtinihaflmdihaaaGreat.Nd Go.Proofs.YtinihaflmdihaaaGreat.Pg
def T.bal:T→Prop
 | .nil=>True
 | .fork _ _ l r=>max l.size r.size≤2*(1+l.size+r.size)/3+1∧l.bal∧r.bal
structure Fine (d:Nat) (u:T):Prop where
 dims:u.dims d
 bst:u.bst d 0
 bal:u.bal
 few:u.size≤2*u.all.length
 nums:∀y∈u.ents,∀x∈y,In64 x
end Go.Proofs.YtinihaflmdihaaaGreat.Kt
namespace Go.Proofs.YtinihaflmdihaaaGreat.Kt
open Go.RowKit Go.Proofs.YtinihaflmdihaaaGreat.Nd Go.Proofs.YtinihaflmdihaaaGreat.Dk Go.Proofs.YtinihaflmdihaaaGreat.Pg
def exs:Nat→T
 | 0=>.nil
 | 1=>ex4
 | 2=>ex5
 | _=>ex6
def exPg:Nat→List (List Nat)
 | 0=>[]
 | 1=>ex4.pages
 | 2=>ex4.pages++ex5.pages
 | _=>ex4.pages++ex5.pages++ex6.pages
def exS (j:Nat):Pg.S:=puts (puts ⟨[],none⟩ exT.pages) (exPg j)
theorem y5Y (j:Nat) (hj:j<3):insV 1 [((4+j:Nat):Int)] (V.of (exs j))= .inr (V.of (exs (j+1)),(exs (j+1)).pages):=by
 match j,hj with
 | 0,_=>rfl
 | 1,_=>rfl
 | 2,_=>rfl
theorem x94 (j:Nat) (hj:j<3):puts (exS j) (exs (j+1)).pages=exS (j+1):=by
 unfold exS
 generalize puts ⟨[],none⟩ exT.pages=s
 match j,hj with
 | 0,_=>rfl
 | 1,_=>exact (x0q s ex4.pages ex5.pages).symm
 | 2,_=>exact (x0q s (ex4.pages++ex5.pages) ex6.pages).symm
theorem x7d (j:Nat) (hj:j≤3):(exS j).cl=none:=by
 have B:(exS 3).cl=none:=by
  have h:=y2l
  unfold y17 at h
  rw [x0q] at h
  exact h
 have A:∀j,j<3→(exS (j+1)).cl=none→(exS j).cl=none:=fun j hj h=>by
  rw [← x94 j hj] at h
  exact x40 _ h
 match j,hj with
 | 3,_=>exact B
 | 2,_=>exact A 2 (by omega) B
 | 1,_=>exact A 1 (by omega) (A 2 (by omega) B)
 | 0,_=>exact A 0 (by omega) (A 1 (by omega) (A 2 (by omega) B))
theorem in64s {x:Int} (h0:0≤x) (h1:x≤100):In64 x:=⟨by omega,by omega⟩
theorem x1W (j:Nat):(exs j).dims 1∧(∀y∈(exs j).ents,∀x∈y,In64 x)∧(exs j).size≤3:=by
 have A:∀t:T,t.dims 1→(t.ents.all fun y=>y.all fun x=>decide (0≤x)&&decide (x≤100))=true→t.size≤3→t.dims 1∧(∀y∈t.ents,∀x∈y,In64 x)∧t.size≤3:=fun t h1 h2 h3=>⟨h1,fun y hy x hx=>by
  have:=List.all_eq_true.1 (List.all_eq_true.1 h2 y hy) x hx
  rw [Bool.and_eq_true,decide_eq_true_eq,decide_eq_true_eq] at this
  exact in64s this.1 this.2,h3⟩
 match j with
 | 0=>exact A _ trivial rfl (by decide)
 | 1=>exact A _ ⟨rfl,trivial,trivial⟩ rfl (by decide)
 | 2=>exact A _ ⟨rfl,trivial,rfl,trivial,trivial⟩ rfl (by decide)
 | j+3=>exact A ex6 ⟨rfl,trivial,rfl,trivial,rfl,trivial,trivial⟩ rfl (by decide)
theorem x2k:exT.dims 1∧(∀y∈exT.ents,∀x∈y,In64 x)∧exT.size≤3:=by
 refine ⟨⟨rfl,⟨rfl,trivial,trivial⟩,rfl,trivial,trivial⟩,fun y hy x hx=>?_,by decide⟩
 have A:(exT.ents.all fun y=>y.all fun x=>decide (0≤x)&&decide (x≤100))=true:=rfl
 have:=List.all_eq_true.1 (List.all_eq_true.1 A y hy) x hx
 rw [Bool.and_eq_true,decide_eq_true_eq,decide_eq_true_eq] at this
 exact in64s this.1 this.2
theorem y1t {s:Pg.S} {L:List (List Nat)} (h:(puts s L).cl=none):∀b∈L,x0O (puts s L).W (sumOf b)=some b:=x6i L h
theorem x6A (s:Pg.S):puts s (exPg 0)=s:=rfl
theorem x7e {t:T} (h1:t.dims 1) (h2:∀y∈t.ents,∀x∈y,In64 x) (h3:t.size≤3) {s:Pg.S} {L:List (List Nat)} (hc:(puts s L).cl=none) (hL:∀b∈t.pages,b∈L):Sees (puts s L).W 1 (V.of t):=
 (x2j (d:=1) (by omega) t h1 h2 (by omega)).2.2 _ fun b hb=>y1t hc b (hL b hb)
theorem y3I:Sees (exS 0).W 1 (V.of exT):=by
 have A:=x7d 0 (by omega)
 unfold exS at A ⊢
 rw [x6A] at A ⊢
 exact x7e x2k.1 x2k.2.1 x2k.2.2 A (fun b hb=>hb)
theorem y5Z (j:Nat) (hj:j≤3):∀b∈(exs j).pages,b∈exPg j:=fun b hb=>by
 match j,hj with
 | 0,_=>cases hb
 | 1,_=>exact hb
 | 2,_=>exact List.mem_append_right _ hb
 | 3,_=>exact List.mem_append_right _ hb
theorem x95 (j:Nat) (hj:j≤3):Sees (exS j).W 1 (V.of (exs j)):=by
 have A:=x7d j hj
 unfold exS at A ⊢
 exact x7e (x1W j).1 (x1W j).2.1 (x1W j).2.2 A (y5Z j hj)
theorem x7f (j:Nat):Forks 1 (exS j).W:=by
 have B:∀j,∀b∈(exs j).pages,∃N,Txt 1 b N∧N.kind=1:=fun j=>(x2j (d:=1) (by omega) (exs j) (x1W j).1 (x1W j).2.1 (by have:=(x1W j).2.2;omega)).2.1
 have C:∀b∈exT.pages,∃N,Txt 1 b N∧N.kind=1:=(x2j (d:=1) (by omega) exT x2k.1 x2k.2.1 (by have:=x2k.2.2;omega)).2.1
 refine x2f _ (x2f _ (fun x hx=>by cases hx) C) fun b A=>?_
 match j with
 | 0=>cases A
 | 1=>exact B 1 b A
 | 2=>
  rcases List.mem_append.1 A with A | A
  ·exact B 1 b A
  ·exact B 2 b A
 | j+3=>
  rcases List.mem_append.1 A with A | A
  ·rcases List.mem_append.1 A with A | A
   ·exact B 1 b A
   ·exact B 2 b A
  ·exact B 3 b A
theorem y3J (j:Nat):(exPg j).length≤6:=by
 have B:ex4.pages.length=1:=x0S ex4
 have C:ex5.pages.length=2:=x0S ex5
 have A:ex6.pages.length=3:=x0S ex6
 unfold exPg
 generalize ex4.pages=p4 at *
 generalize ex5.pages=p5 at *
 generalize ex6.pages=p6 at *
 split
 ·exact Nat.zero_le _
 ·omega
 ·rw [List.length_append];omega
 ·rw [List.length_append,List.length_append];omega
theorem y4x (j:Nat):(exS j).W.length≤20:=by
 have B:=x1V exT.pages ⟨[],none⟩
 have A:=x1V (exPg j) (puts ⟨[],none⟩ exT.pages)
 have I:exT.pages.length=3:=x0S exT
 have H:ex4.pages.length=1:=x0S ex4
 have C:ex5.pages.length=2:=x0S ex5
 have E:ex6.pages.length=3:=x0S ex6
 have G:(⟨[],none⟩:Pg.S).W.length=0:=rfl
 unfold exS
 generalize ex4.pages=p4 at *
 generalize ex5.pages=p5 at *
 generalize ex6.pages=p6 at *
 generalize puts ⟨[],none⟩ exT.pages=s at *
 have e:(exPg j).length≤6:=y3J j
 omega
theorem x96 (j:Nat):(V.of (exs j)).kid.size≤3:=by
 rw [x2r (by have:=(x1W j).2.2;omega),x0n _ (by have:=(x1W j).2.2;omega)]
 have:=(x1W j).2.2
 omega
end Go.Proofs.YtinihaflmdihaaaGreat.Kt
