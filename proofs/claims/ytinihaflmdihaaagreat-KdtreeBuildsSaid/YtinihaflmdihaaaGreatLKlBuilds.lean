/- Proved: whatever number and list of rows it is handed, the Go function indenturelaw11.KdtreeBuilds returns true (the tree that is laid of any rows is the document's, or the store has clashed; of rows two of which are the same there is none), and each argument reads afterwards as it read before. Conditions: none beyond the given row's own. -/
import Derived.Test.YtinihaflmdihaaaGreatL34
set_option maxRecDepth 100000
set_option maxHeartbeats 8000000
set_option linter.all false
namespace Go.Proofs.YtinihaflmdihaaaGreat.Kt
open Go.RowKit Go.Proofs.YtinihaflmdihaaaGreat.Nd Go.Proofs.YtinihaflmdihaaaGreat.Dk Go.Proofs.YtinihaflmdihaaaGreat.Pg
open List renaming setIfInBounds_toArray → yA, set_cons_zero → yB, set_cons_succ → yC
def ptsP (L:List Rw) (d k:Nat):List (List Int):=(L.take k).map fun r=>fitP r.R d
theorem y3d (L:List Rw) (d k:Nat) (h:k<L.length):ptsP L d (k+1)=ptsP L d k++[fitP (L.getD k default).R d]:=by
 unfold ptsP
 rw [List.take_succ_eq_append_getElem h,List.map_append,List.getD_eq_getElem?_getD,List.getElem?_eq_getElem h]
 rfl
theorem y04 (M:List (List Int)) (p:List Int):(!decide (M++[p]).Nodup)=((!decide M.Nodup)||decide (p∈M)):=by
 have e:(M++[p]).Nodup↔M.Nodup∧p∉M:=by
  rw [List.nodup_append]
  simp
  intro _
  exact ⟨fun h e=>h p e rfl,fun h a ha e=>h (e▸ha)⟩
 by_cases h1:M.Nodup<;>by_cases h2:p∈M<;>simp [e,h1,h2]
theorem x6o (M:List (List Int)) (p:List Int) (j:Nat) (h:j<M.length):decide (p∈M.take (j+1))=(decide (p∈M.take j)||decide (M.getD j []=p)):=by
 rw [List.take_succ_eq_append_getElem h,List.getD_eq_getElem?_getD,List.getElem?_eq_getElem h]
 simp only [Option.getD_some,List.mem_append,List.mem_singleton]
 by_cases h1:p∈M.take j
 ·simp [h1]
 ·by_cases h2:M[j]=p
  ·simp [h1,h2]
  ·have A:¬p=M[j]:=fun e=>h2 e.symm
   simp [h1,h2,A]
theorem y05 {w:World} {gs:Nat} {Q:Nat→Prop} {s:Pg.S} {L:List Rw} {e:Ending} {w':World} (h:x20 w gs Q s L e w'):∃(kd:Kd) (eb:Int),e= .returned (.tuple #[.agg kd.cells.toArray,.int .i64 eb])∧kd.cells.length=37:=by
 rcases h with ⟨-,h,-⟩ | ⟨-,kd,B,h,-,A,-⟩
 ·exact ⟨kd0,8,h,rfl⟩
 ·exact ⟨kd,0,h,Kd.cells_length A.len⟩
theorem x3B:∀u:T,u.height≤u.size
 | .nil=>Nat.le_refl _
 | .fork p v l r=>by
  have h1:=x3B l
  have h2:=x3B r
  show 1+max l.height r.height≤1+l.size+r.size
  omega
def B1 (w0:World) (d n:Nat) (L:List Rw) (v tw i:Value) (wr:World):Prop:=∃(k:Nat) (O:List Rw),k≤40∧k≤n∧tw= .bool (!decide (ptsP L d k).Nodup)∧i= .int .i64 k∧Mine w0.heap.size d wr v O∧O.map Rw.R=ptsP L d k∧O.length=k∧(k=0→v= .slice none 0 0)∧Below w0.heap.size w0 wr
def B2 (y:World) (M:List (List Int)) (p:List Int) (b0:Bool) (tw i:Value) (wr:World):Prop:=∃j jj:Nat,j≤M.length∧tw= .bool (b0||decide (p∈M.take j))∧i= .int .i64 j∧wr=y.drewN jj
theorem builds_any (dd:Nat) (hdd:dd<256) (p:Option Addr) (n c:Nat) (L:List Rw) (w:World) (hL:RowsIn w p n c L) (hn:n≤9223372036854775807):
  Calls Tryz.prog 4 #[.int .u8 dd,.slice p n c] w fun e w'=>e= .returned (.bool true)∧Below w.heap.size w w':=by
 have HL:=yH hL
 have Bd:=yH hL.size
 have HZ:=yH (zero_of_info kz)
 have Cn:=HZ.out.1
 obtain ⟨du,BL,BK⟩:=UKd
 have AF:=yH BL
 have AB:=yH BK
 have Bf:=yH (y3H dd hdd)
 obtain ⟨d,hd⟩:∃d,d=dimsP dd:=⟨_,rfl⟩
 have HD:=yH (show 1≤d∧d≤5 by rw [hd];unfold dimsP;omega)
 rw [← hd] at Bf
 clear hL BL BK hd hdd
 go_enter Tryz.func4,Tryz.ntmps4
 go_wp2_with fail
 refine (y1u w).mono ?_
 rintro _ w1 ⟨rfl,b1⟩
 have HB1:=yH b1
 clear b1
 go_upto_region 7 with (go_at_call 12;refine (Bf.out w1).mono ?_;rintro _ Cw ⟨rfl,CA⟩;subst CA)
 go_loopw [6,7,8,9,10] (fun v6 v7 v8 _ _ wr=>B1 w d n L v6 v7 v8 wr) (fun _ _ v8 _ _ _=>40 - (intOf v8).toNat)
 case atStart=>exact ⟨0,[],by omega,Nat.zero_le _,rfl,rfl,y3N _ _ _,rfl,rfl,fun _=>rfl,HB1.out⟩
 case round=>
  obtain ⟨k,O,BN,Cu,rfl,rfl,hm,hO,hl,BG,A⟩:=hrel
  have HM:=yH hm
  have HO:=yH hO
  have HLN:=yH hl
  have AA:=yH BG
  have HB:=yH A
  obtain ⟨q,f,BD,A4⟩:=hm.rows
  have I:=yH A4
  have Ag:=yH BD
  subst BD
  obtain ⟨T0,J⟩:∃b,b=(!decide (ptsP L d k).Nodup):=⟨_,rfl⟩
  have A7:=yH J
  rw [← J]
  clear hm hO BG A A4 HB1 J
  rw [hl]
  rw [hl] at I Ag HM AA
  by_cases hlt:k<n∧k<40
  ·obtain ⟨CX,CU⟩:=hlt
   have l1:(k:Int)<n:=by omega
   have l2:(k:Int)<40:=by omega
   have i1:(0:Int)≤k∧(k:Int)<n:=by omega
   have E:k<L.length:=by have:=Bd.out;omega
   have P:=yH (y3d L d k E)
   obtain ⟨go,oo,rfl,hx⟩:=HL.out.at'.resolve_left (by intro e;rw [e] at E;simp at E)
   have H:=hx k E
   have AW:=HL.out.each _ (x2C E)
   obtain ⟨y,t⟩:∃y,y=L.getD k default:=⟨_,rfl⟩
   rw [← t] at H P AW
   have c1:=(HB.out.cell (block_lt_of_cell H)).trans H
   have AT:=yH (AW.later HB.out)
   clear hx H t E AW
   obtain ⟨yp,yn,yc,yR⟩:=y
   unfold Rw.val at c1
   simp only at c1
   have AJ:=yH (show Calls Tryz.prog 14 #[.slice yp yn yc,.int .i64 d] wr (y1s wr yR d) from y4w yp yn yc yR d wr AT.out.ints AT.out.top (by have:=HD.out;omega))
   go_upto_region 10 with (go_at_call 14;refine AJ.out.mono ?_;rintro _ y1 ⟨⟨rp,rn,rc,rR⟩,rfl,Ba,Bi,Ai,A⟩;have HR:=yH (show (⟨rp,rn,rc,rR⟩:Rw).Ok y1∧rn=d∧rR=fitP yR d∧∀y,rp=some y→rR≠[]→wr.heap.size≤y.block from ⟨Ai.ok,Bi,Ba,fun y t hR=>Ai.lo y t hR⟩);have BY:=yH A;unfold Rw.val;simp only;clear Ba Bi Ai A)
   clear c1 AJ AT
   have A2:=yH (I.out.later BY.out)
   have B3:=yH (HM.out.later BY.out)
   have Af:=yH (HB.out.trans (BY.out.mono HB.out.size))
   go_upto_region 11 with fail
   go_loopw [7,10] (fun v7 v10 x=>B2 y1 (ptsP L d k) rR T0 v7 v10 x) (fun _ v10 _=>40 - (intOf v10).toNat)
   case atStart=>exact ⟨0,0,Nat.zero_le _,by simp,rfl,rfl⟩
   case round=>
    obtain ⟨j,jj,hj,rfl,rfl,i⟩:=hrel
    rw [i]
    clear i
    have HPL:=yH (show (ptsP L d k).length=k from by rw [← HO.out,List.length_map,HLN.out])
    have a:=yH (Below.drewN (Below.refl y1.heap.size y1) jj)
    obtain ⟨x0,H⟩:∃x,x=y1.drewN jj:=⟨_,rfl⟩
    have HX0:=yH H
    rw [← H] at a ⊢
    clear H
    obtain ⟨Bl,o⟩:∃b,b=(T0||decide (rR∈(ptsP L d k).take j)):=⟨_,rfl⟩
    have HACC:=yH o
    rw [← o]
    clear o
    by_cases hj2:j<k
    ·have l3:(j:Int)<k:=by omega
     have i3:(0:Int)≤j∧(j:Int)<k:=by omega
     have Y:j<O.length:=by have:=HLN.out;omega
     have HMS:=yH (x6o (ptsP L d k) rR j (by have:=HPL.out;omega))
     obtain ⟨gq,oq,hq,Ay⟩:=A2.out.at'.resolve_left (by intro e;rw [e] at Y;simp at Y)
     have AG:=Ay j Y
     have U:=A2.out.each _ (x2C Y)
     have AC:=x5Z Y
     rw [HO.out] at AC
     obtain ⟨z,hz⟩:∃z,z=O.getD j default:=⟨_,rfl⟩
     rw [← hz] at AG U AC
     have c2:=(a.out.cell (block_lt_of_cell AG)).trans AG
     have BA:=yH (U.later a.out)
     have HGD:=yH AC
     subst hq
     clear Ay AG U AC hz Y
     obtain ⟨zp,zn,zc,zR⟩:=z
     unfold Rw.val at c2
     simp only at c2
     cases Bl with
     | true=>
      go_wp2_with fail
      go_roundw
      case rel=>exact ⟨j+1,jj,by have:=HPL.out;omega,by rw [HMS.out,← Bool.or_assoc,← HACC.out];rfl,by go_num,HX0.out⟩
      case measure=>simp [intOf];omega
     | false=>
      have CJ:=yH (show Calls Tryz.prog 28 #[.slice zp zn zc,.slice rp rn rc] x0 _ from x1e zp rp zn zc rn rc zR rR x0 BA.out.ints (HR.out.1.later a.out).ints BA.out.top)
      go_wp2_with (go_at_call 28;refine CJ.out.mono ?_;rintro _ x1 ⟨rfl,m1,Az⟩;have HX1:=yH Az;clear Az)
      go_roundw
      case rel=>exact ⟨j+1,jj+m1,by have:=HPL.out;omega,by rw [HMS.out,← Bool.or_assoc,← HACC.out,HGD.out];rfl,by go_num,by rw [HX1.out,HX0.out,World.drewN_drewN]⟩
      case measure=>simp [intOf];omega
    ·obtain rfl:j=k:=by have:=HPL.out;omega
     have HTW:=yH (show Bl=(!decide (ptsP L d (j+1)).Nodup) from by
      have h:=HPL.out
      rw [HACC.out,P.out]
      show _= !decide (ptsP L d j++[fitP yR d]).Nodup
      rw [y04,← A7.out,← HR.out.2.2.1]
      congr 2
      rw [List.take_of_length_le (by omega)])
     have CL:=yH (B3.out.later a.out)
     have BB:=yH (Af.out.trans (a.out.mono Af.out.size))
     have C9:=yH (show (⟨rp,rn,rc,rR⟩:Rw).Ok x0∧rn=d∧∀y,rp=some y→rR≠[]→(Value.slice q j f).ownBlock≠some y.block∧w.heap.size≤y.block from ⟨HR.out.1.later a.out,HR.out.2.1,fun y t hR=>by
      have h1:=HR.out.2.2.2 y t hR
      exact ⟨fun e=>by have:=(HM.out.1.lt _ e).2;omega,Nat.le_trans HB.out.size h1⟩⟩)
     have HMR:=yH (show (O++[(⟨rp,rn,rc,rR⟩:Rw)]).map Rw.R=ptsP L d (j+1) from by
      rw [List.map_append,HO.out,P.out]
      show _++[rR]=_
      rw [HR.out.2.2.1])
     clear B3 Af HACC HPL HX0 a A2 P A7 HM I AA Ag hj2
     go_wp2_with (first
      | (refine wpList_plain (by rfl) fun _ hK=>y4y (B:=w.heap.size) (d:=d) (v:=.slice q j f) (O:=O) (r:=⟨rp,rn,rc,rR⟩) CL.out C9.out BB.out.size (.tmp 55) (.tmp 57) (by rfl) (by rfl) (by rfl) (by rw [HLN.out];omega) fun v' x2 hm' hb'=>hK _ _ ?_;have HM2:=yH hm';have HB2:=yH (BB.out.trans hb');clear hm' hb' hK))
     go_roundw
     case rel=>exact ⟨j+1,O++[⟨rp,rn,rc,rR⟩],by omega,by omega,congrArg Value.bool HTW.out,by go_num,HM2.out,HMR.out,by rw [List.length_append,HLN.out];rfl,fun e=>by omega,HB2.out⟩
     case measure=>simp [intOf];omega
  ·have AS:=yH hlt
   clear hlt
   go_upto_region 7 with fail
   go_cut [31] from 24 to 31 (fun s31 wx=>s31= .bool false∧wx=wr)
   case first=>
    by_cases h1:k<n
    ·have l1:(k:Int)<n:=by omega
     have l2:¬(k:Int)<40:=by have:=AS.out;omega
     go_wp2_with fail
     go_meet
     exact ⟨rfl,rfl⟩
    ·have l1:¬(k:Int)<n:=by omega
     go_wp2_with fail
     go_meet
     exact ⟨rfl,rfl⟩
   case rest=>
    obtain ⟨rfl,i⟩:=hcut
    rw [i]
    clear i AS HL Bd
    have BC:=yH BN
    go_upto_region 16 with (go_at_call 13;refine (Pg.new_any _).mono ?_;rintro _ w5 ⟨g,Q,rfl,p5,q5,b5⟩;have P5:=yH p5;have Q5:=yH q5;have A6:=yH b5;clear p5 q5 b5)
    have AO:=yH (I.out.later A6.out)
    have A0:=yH (HB.out.trans (A6.out.mono HB.out.size))
    have BP:=yH (show ∀r∈O,∀x,r.p=some x→r.R≠[]→¬Q x.block from fun r Z x hx hR e=>by
     have h1:=Q5.out _ e
     have h2:=rw_lt (I.out.each r Z) x hx hR
     omega)
    have Ah:=yH (show ∀r∈O,r.n=d∧∀x∈r.R,In64 x from fun r Z=>⟨(HM.out.2 r Z).2.1,fun x hx=>(HM.out.2 r Z).1.ints.ok x hx⟩)
    have AR:=yH (show Calls Tryz.prog 32 #[.pointer (some ⟨g,0,none⟩),.slice q k f,.int .i64 d] w5 (x20 w5 g Q ⟨[],none⟩ O) from by
     by_cases h0:k=0
     ·have hv:=AA.out h0
      obtain rfl:O=[]:=List.length_eq_zero_iff.1 (by rw [HLN.out,h0])
      rw [hv]
      exact y1k (by have:=HD.out;omega) w5 P5.out
     ·exact x69 (by have:=HD.out;omega) q k f O w5 AO.out (by omega) (fun r Z=>(HM.out.2 r Z).2.1) BP.out P5.out (by show 0+k<100000;omega))
    obtain ⟨NB,AZ⟩:∃b:Bool,b=decide (ptsP L d k).Nodup:=⟨_,rfl⟩
    have AY:=yH AZ
    have J:=A7.out
    rw [← AZ] at J
    have Ae:=yH J
    clear AZ J A7 HM AA Ag
    go_upto_region 17 with (first
     | (go_at_call 32;refine AR.out.mono ?_;rintro eB w6 C;have AU:=yH C;obtain ⟨kd,eb,rfl,E⟩:=y05 C;have An:=yH E;clear C E)
     | (refine wpList_store_row (by rfl) 34 (.tmp 12) (.tmp 65) (by rfl) w6.heap.size kd.cells.toArray (by rfl) (by rfl) _ _ (heap_alloc_new w6 _) (by rw [List.size_toArray,An.out];exact SKd) (by simp only [List.size_toArray,An.out,x01]) (all_oneCell_toArray Kd.one) ?_;rw [x04]))
    have Bc:Below w6.heap.size w6 (w6.alloc (.cells kd.cells.toArray 34)):=(Below.refl _ _).alloc (Nat.le_refl _) _
    have Ac:=heap_alloc_new w6 (.cells kd.cells.toArray 34)
    generalize w6.alloc (.cells kd.cells.toArray 34)=w7 at *
    obtain ⟨bX,BM⟩:∃b,b=w6.heap.size:=⟨_,rfl⟩
    rw [← BM] at Ac ⊢
    have B7:=yH Bc
    have X:=yH (x0E Ac)
    clear Bc Ac BM AR
    have C:=AU.out
    unfold x20 at C
    rw [HO.out] at C
    rcases C with ⟨l,G,Aa⟩ | ⟨l,kx,Q',G,h1,h2,-,h4,h5,h6,h7⟩
    ·obtain ⟨A1,rfl⟩:kd.cells=kd0.cells∧eb=8:=by
      simp only [Ending.returned.injEq,Value.tuple.injEq,Array.mk.injEq,List.cons.injEq,Value.agg.injEq,Value.int.injEq,and_true,true_and] at G
      exact ⟨by have:=G.1;simpa using this,G.2⟩
     have hT:T0=true:=by rw [Ae.out,AY.out,decide_eq_false l];rfl
     subst hT
     have BR:=yH (Aa.trans (B7.out.mono Aa.size))
     have P7:=yH (P5.out.keep (fun _=>False) (Only.of_below _ BR.out) (fun _ _ e=>e))
     have B0:=yH (A0.out.trans (BR.out.mono A0.out.size))
     rw [A1] at X
     have CG:=yH (show Calls Tryz.prog 20 #[.agg kd0.cells.toArray] w7 fun e w'=>e= .returned (.bool true)∧Below w7.heap.size w7 w' from x1a kd0 w7 (x1u _))
     clear A1 G Aa l AU
     go_wp2_with (first
      | (refine x0k (by rfl) 34 _ (by rfl) bX 0 (by rfl) kd0.cells du X.out AF.out AB.out (by rw [x01];exact SKd) ?_)
      | (refine wpList_load_mid (by rfl) 34 _ (by rfl) bX 0 (by rfl) kd0.cells du X.out AF.out AB.out (by rw [x01];exact SKd) ?_)
      | (go_at_call 20;refine CG.out.mono ?_;rintro _ w8 ⟨rfl,Ab⟩;have P8:=yH (P7.out.keep (fun _=>False) (Only.of_below _ Ab) (fun _ _ e=>e));have BO:=yH (B0.out.trans (Ab.mono B0.out.size));clear Ab)
      | (go_at_call 33;refine (Pg.len_any P8.out).mono ?_;rintro _ w9 ⟨rfl,Bh⟩;have CB:=yH (BO.out.trans (Bh.mono BO.out.size));clear Bh))
     go_ret
     exact ⟨rfl,CB.out⟩
    ·obtain ⟨A1,rfl⟩:kd.cells=kx.cells∧eb=0:=by
      simp only [Ending.returned.injEq,Value.tuple.injEq,Array.mk.injEq,List.cons.injEq,Value.agg.injEq,Value.int.injEq,and_true,true_and] at G
      exact ⟨by have:=G.1;simpa using this,G.2⟩
     have hT:T0=false:=by rw [Ae.out,AY.out,decide_eq_true l];rfl
     subst hT
     obtain ⟨u,hu⟩:∃u,u=lay (ptsP L d k) 0:=⟨_,rfl⟩
     rw [← hu] at h1 h5
     have At:u.size=k:=by rw [hu,x2c,← HO.out,List.length_map,HLN.out]
     have Al:u.dims d:=by
      rw [hu,← HO.out]
      refine x6E fun y t=>?_
      obtain ⟨r,Z,rfl⟩:=List.mem_map.1 t
      have e1:=(I.out.each r Z).ints.size
      have e2:=(Ah.out r Z).1
      omega
     have BE:∀y∈u.ents,∀x∈y,In64 x:=fun y t=>by
      rw [hu,← HO.out] at t
      obtain ⟨r,Z,rfl⟩:=List.mem_map.1 (y3F y t)
      exact (Ah.out r Z).2
     have HU:=yH hu
     have BJ:=yH At
     have BI:=yH Al
     have AX:=x2j (by have:=HD.out;omega) u Al BE (by omega)
     have Aj:=x2r (u:=u) (by omega)
     obtain ⟨sB,A8⟩:∃s,s=puts ⟨[],none⟩ u.pages:=⟨_,rfl⟩
     rw [← A8] at h5
     have Ax:=yH (show Forks d sB.W from by rw [A8];exact x2f _ (fun x hx=>by cases hx) AX.2.1)
     have Bm:=yH (show sB.cl=none→Sees sB.W d (V.of u) from fun e=>by
      rw [A8] at e ⊢
      exact AX.2.2 _ fun b A=>x6i _ e b A)
     have Av:=yH (show kx.pk=(V.of u).kid from by rw [h1,Aj])
     have C4:=yH h1
     have Bk:=yH (show (V.of u).kid.size≤40 from by rw [Aj,x0n u (by omega)];omega)
     have Ad:=yH (A6.out.trans (h7.below A6.out.size Q5.out))
     have N:=yH (Ad.out.trans (B7.out.mono Ad.out.size))
     have P7:=yH (h5.keep (fun _=>False) (Only.of_below _ B7.out) (fun _ _ e=>e))
     have AM:=yH (h2.later B7.out)
     have BW:=yH (Kd.cells_length h2.len)
     rw [A1] at X
     clear A1 G l AU hu At Al BE AX Aj A8 h1 h2 h4 h5 h6 h7 Ae AY B7 An P5 Q5 AO A0 BP A6 NB
     cases hcl:sB.cl with
     | some xy=>
      obtain ⟨x,y⟩:=xy
      have AH:=yH hcl
      clear hcl
      go_wp2_with (go_at_call 19;refine (Pg.clash_any x y P7.out AH.out).mono ?_;rintro _ z2 ⟨p1,n1,c1,p2,n2,c2,rfl,-,-,-,-,A⟩;have CE:=yH (N.out.trans (A.mono N.out.size));clear A)
      go_ret
      exact ⟨rfl,HB.out.trans (CE.out.mono HB.out.size)⟩
     | none=>
      have AH:=yH hcl
      have BS:=yH (Bm.out hcl)
      clear hcl
      go_upto_region 22 with (go_at_call 19;refine (Pg.clash_no P7.out AH.out).mono ?_;rintro _ w8 ⟨p1,c1,p2,c2,rfl,A⟩;have Au:=yH (N.out.trans (A.mono N.out.size));have B8:=yH A;clear A)
      have AL:=yH (show Calls Tryz.prog 34 #[.slice q k f,.int .i64 0] w8 _ from y29 (F:=fun _=>True) 40 k q f 0 d O w8 (by have:=BC.out;omega) (I.out.later Au.out) (fun r Z=>⟨(Ah.out r Z).1,fun _ _ _=>trivial⟩) (by have:=HD.out;omega) (by omega) (by omega))
      go_upto_region 23 with (go_at_call 34;refine AL.out.mono ?_;rintro _ w9 ⟨tp,rfl,ht,A⟩;rw [HO.out,← HU.out] at ht;have HT:=yH ht;have B9:=yH (B8.out.trans (A.mono B8.out.size));clear ht A)
      have P9:=yH (P7.out.keep (fun _=>False) (Only.of_below _ B9.out) (fun _ _ e=>e))
      have Ak:=yH (x02 X.out B9.out)
      have m:=yH (AM.out.later B9.out)
      have hh:=x68 (gs:=g) (d:=d) (by have:=HD.out;omega) Ax.out.texts (V.of u) kx w9 P9.out BS.out m.out Av.out (by have:=Bk.out;omega)
      have B4:=yH (show Calls Tryz.prog 24 #[.pointer (some ⟨g,0,none⟩),.agg kx.cells.toArray,.int .i64 d] w9 fun e w'=>e= .returned (.tuple #[.int .i64 (u.height:Nat),.int .i64 0])∧Below w9.heap.size w9 w' from hh.mono fun e w' ⟨k1,k2,_⟩=>⟨by
       have h:=k2 (x4b u)
       rw [x2i u 1 (by omega)] at h
       rw [h]
       split
       ·rename_i h0
        rw [h0]
       ·rw [show 1 - 1+u.height=u.height by omega],k1⟩)
      clear hh AL
      go_upto_region 24 with (first
       | (refine wpList_load_mid (by rfl) 34 _ (by rfl) bX 0 (by rfl) kx.cells du Ak.out AF.out AB.out (by rw [BW.out];exact SKd) ?_)
       | (go_at_call 24;refine B4.out.mono ?_;rintro _ M ⟨rfl,A⟩;have A5:=yH A;clear A))
      have C3:=yH (x02 Ak.out A5.out)
      have B5:=yH (HT.out.later A5.out)
      have Bb:=yH (m.out.later A5.out)
      have Bg:=yH (HB.out.trans ((N.out.trans ((B9.out.trans (A5.out.mono B9.out.size)).mono N.out.size)).mono HB.out.size))
      have Be:=yH (show ∀x,Below M.heap.size M x→Calls Tryz.prog 22 #[.pointer tp] x (y0f _ x u.kid) from fun x A=>y3c (by have:=HD.out;omega) u BI.out _ tp x (B5.out.later A))
      have B6:=yH (show ∀x,Below M.heap.size M x→Calls Tryz.prog 30 #[.pointer tp] x fun e w'=>e= .returned (.int .i64 u.height)∧Below x.heap.size x w' from fun x A=>x8F u tp x (B5.out.later A) (by have h1:=x3B u;have:=BJ.out;omega))
      clear A5 Ak HT m Au B8 B9 P9 B4 BS AH Ax Bm P7 X AM Av Bk HU BI BJ N Ad
      refine wp_region_held_drew (S:=fun w'=>Below M.heap.size M w') (by kernel_rfl) (Below.refl _ _).drew (fun hHeld=>?_)
      have a:=yH hHeld
      generalize M.drew=x0 at *
      refine tK 0 ?_
      refine tK 1 ?_
      refine tK 2 ?_
      refine tQ 3 ?_ ?_ ?_
      rotate_left
      ·intro w' hSw
       refine Eq.trans (b:=Result.ok (Next.value (.agg kx.cells.toArray)) w') ?_ ?_
       ·exact x0A 34 (.tmp 12) (by rfl) bX 0 (by rfl) kx.cells du (x02 C3.out hSw) AF.out AB.out (by rw [BW.out];exact SKd)
       ·with_reducible rfl
      refine tK 4 ?_
      refine rO 5 fun K hK=>?_
      go_simp
      refine (Be.out _ a.out).mono ?_
      rintro _ y1 ⟨kr,rfl,BV,U,-,A⟩
      have CF:=yH (show kx.pk=kr.pk from C4.out.trans BV.symm)
      have CH:=yH U
      have BY:=yH (a.out.trans (A.mono a.out.size))
      clear BV U A
      try go_wp2_with fail
      refine hK.out _ _ BY.out (fun hHeld=>?_)
      clear hK K
      try simp only [Act.put,yA,yB,yC]
      refine rO 6 fun K hK=>?_
      go_simp
      refine (y0L kx kr y1 (Bb.out.later BY.out) CH.out).mono ?_
      rintro _ y2 ⟨rfl,A⟩
      rw [decide_eq_true CF.out]
      have BZ:=yH (BY.out.trans (A.mono BY.out.size))
      clear A
      try go_wp2_with fail
      refine hK.out _ _ BZ.out (fun hHeld=>?_)
      clear hK K
      try simp only [Act.put,yA,yB,yC]
      refine tK 7 ?_
      refine tK 8 ?_
      refine tK 9 ?_
      refine tK 10 ?_
      refine tK 11 ?_
      refine tK 12 ?_
      refine tK 13 ?_
      refine tK 14 ?_
      refine rO 15 fun K hK=>?_
      go_simp
      refine (B6.out _ BZ.out).mono ?_
      rintro _ y3 ⟨rfl,A⟩
      have BU:=yH (BZ.out.trans (A.mono BZ.out.size))
      clear A
      try go_wp2_with fail
      refine hK.out _ _ BU.out (fun hHeld=>?_)
      clear hK K
      try simp only [Act.put,yA,yB,yC]
      refine tK 16 ?_
      refine tK 17 ?_
      refine tK 18 ?_
      refine wpAnyH_done (by kernel_rfl) ?_ _
      go_wp2_with fail
      go_ret
      exact ⟨rfl,Bg.out.trans (BU.out.mono Bg.out.size)⟩
end Go.Proofs.YtinihaflmdihaaaGreat.Kt
namespace Go.Proofs.YtinihaflmdihaaaGreat
open Go.ChangeShapes Go.WideShapes Go.ChangeAt Go.RowKit Go.Deep
theorem klbuilds_lifted (os:Os) (started:os.Started) (H:Type) (enc:TypeId×Value→H):
  ReturnsInHanded {} Tryz.checked os 4 .any (Rows.kdtreeBuildsSpec.pre6 enc Tryz.prog Tryz.f4 Rows.kdtreeBuildsRow.domain false) (Rows.kdtreeBuildsSpec.post enc Tryz.prog Tryz.f4 false true false false):=by
 refine returnsInHanded_of_change (C:=Tryz.checked) y3w started (by kernel_rfl) Tryz.func4
  (ChangeSpec.witness6 (enc:=enc) (C:=Tryz.checked) false ⟨#[],#[.int .u8 0,.slice none 0 0],[]⟩ 8 (by kernel_rfl) (by kernel_rfl) (by kernel_rfl) (by kernel_rfl)) ?_
 intro W base args ds gs before hval0 hW _ _
 have B:∀(j:Nat) t v,Tryz.f4.params[j]? =some t→args[j]? =some v→Value.okWide Tryz.prog W .any base t v:=hval0
 have M:=hW
 obtain ⟨p,q,G,y,rfl,_,_⟩:=hW
 have a:DataW.TrodAll enc Tryz.prog W 0 (fun _=>true) true Tryz.f4.params.toList args.toList ds p:=G
 rw [Tryz.params4] at a B
 obtain ⟨Z,r,d0,f,p0,q0,P,rfl,rfl,U,n⟩:=trodAll_cons a
 obtain ⟨Q,i,d1,w,o,q1,rfl,rfl,rfl,Y,s⟩:=trodAll_cons n
 obtain ⟨rfl,rfl,rfl⟩:=trodAll_nil s
 obtain rfl:args= #[Z,Q]:=by cases args;simp_all
 obtain ⟨rfl,rfl⟩:=trodVars_none y
 obtain ⟨X,rfl,rfl,rfl,J⟩:=open_int Tryz.underlying5 (B 0 5 Z rfl rfl) U
 obtain ⟨N,A,E,rfl⟩:=okWide_slice Tryz.underlying51 (B 1 51 Q rfl rfl)
 have c:=U
 have b:=Y
 have K:∀x∈o,x.block<W.heap.size:=by obtain ⟨m,g⟩:=b;exact DataW.trod_lt m _ _ _ g
 have u:=bounds_u8 J
 obtain ⟨k,rfl⟩:∃m:Nat,X=m:=⟨X.toNat,by omega⟩
 obtain ⟨⟨d,I,z⟩,O⟩:(∃L,RowsIn W N A E L∧(N=none→E=0))∧A≤9223372036854775807:=by
  obtain ⟨R,l⟩:=Y
  exact Kt.open_rowsK l
 clear G hval0
 refine (Kt.builds_any k (by omega) N A E d W I O).mono fun e W' ⟨he,bel⟩=>?_
 subst he
 exact ⟨_,rfl,_,_,_,[],_,[],M,trodAll_mk1 (shut_bool Tryz.underlying4 _),
  (trodAll_cons_mk (Below.trod x4h (by kernel_rfl) (of_decide_eq_true (by kernel_rfl)) c bel (fun x hx=>by cases hx)) (trodAll_cons_mk (Below.trod x4h (by kernel_rfl) (of_decide_eq_true (by kernel_rfl)) b bel K) trodAll_mk0)),rfl,bel.frame _,fun h=>by cases h⟩
theorem klbuilds_holds:Rows.KdtreeBuildsSaid:=
 OpenClaim.holds_of_wide 4 Tryz.f4 rfl rfl rfl rfl rfl rfl rfl ⟨rfl,rfl,rfl,rfl,rfl⟩ rfl rfl rfl rfl rfl (by kernel_rfl) Tryz.func4 (by kernel_rfl)
  (of_decide_eq_true (by kernel_rfl)) (by unfold Func.isWrapper;first | (rw [if_pos (by decide+kernel)];kernel_rfl) | (rw [if_neg (by decide+kernel)];exact ⟨rfl,rfl⟩))
  (fun os started H enc _=>klbuilds_lifted os started H enc)
end Go.Proofs.YtinihaflmdihaaaGreat
