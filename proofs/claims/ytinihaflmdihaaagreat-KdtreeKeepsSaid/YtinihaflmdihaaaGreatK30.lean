/- KdLay. -/
import Derived.BigRegion
import Derived.Deep.DeepCutAuto
import Derived.Test.YtinihaflmdihaaaGreatK23
set_option maxRecDepth 100000
set_option maxHeartbeats 8000000
set_option linter.all false
namespace Go.Proofs.YtinihaflmdihaaaGreat.Kt
open Go.RowKit Go.Proofs.YtinihaflmdihaaaGreat.Nd Go.Proofs.YtinihaflmdihaaaGreat.Dk Go.Proofs.YtinihaflmdihaaaGreat.Pg
open List renaming setIfInBounds_toArray → yA, set_cons_zero → yB, set_cons_succ → yC
def LaidPost (w:World) (gs:Nat) (Q:Nat→Prop) (s:Pg.S) (g o:Nat) (L:List Rw) (t:Nat) (e:Ending) (w':World):Prop:=
 ∃(kd:Kd) (Q':Nat→Prop),e= .returned (.agg kd.cells.toArray)∧kd.pk=(lay (L.map Rw.R) t).kid∧kd.Ok w'∧Fsh w kd∧Aw Q' kd∧LayR w w' gs Q Q' (puts s (lay (L.map Rw.R) t).pages) g o L.length
def RowsOk (w:World) (d g:Nat) (Q:Nat→Prop) (L:List Rw):Prop:=∀r∈L,r.Ok w∧r.n=d∧Away g r∧∀x,r.p=some x→r.R≠[]→¬Q x.block
theorem RowsOk.after {w w':World} {d g:Nat} {gs:Nat} {Q Q':Nat→Prop} {s':Pg.S} {L:List Rw} {o n:Nat} (h:RowsOk w d g Q L) (hl:LayR w w' gs Q Q' s' g o n):RowsOk w' d g Q' L:=fun r hr=>by
 obtain ⟨h1,h2,h3,h4⟩:=h r hr
 refine ⟨Nd.rw_keep h1 fun y hy hR=>hl.only.block _ (rw_lt h1 y hy hR) (fun e=>e.elim (h4 y hy hR) (h3 y hy hR)),h2,h3,fun x hx hR e=>?_⟩
 rcases hl.new _ e with e | e
 ·exact h4 x hx hR e
 ·have:=rw_lt h1 x hx hR
  omega
theorem kd0_fsh (w:World):Fsh w kd0:=fun r hr x hx hR=>by
 simp only [Kd.rows,kd0,List.mem_cons,List.not_mem_nil,or_false] at hr
 rcases hr with rfl | rfl | rfl<;>cases hx
theorem kd0_aw (Q:Nat→Prop):Aw Q kd0:=fun r hr x hx hR=>by
 simp only [Kd.rows,kd0,List.mem_cons,List.not_mem_nil,or_false] at hr
 rcases hr with rfl | rfl | rfl<;>cases hx
theorem Seg.take {w:World} {g o:Nat} {L:List Rw} (h:Seg w g o L) (k:Nat):Seg w g o (L.take k):=fun j hj=>by
 rw [List.length_take] at hj
 have:=h j (by omega)
 rw [List.getD_eq_getElem?_getD,List.getElem?_take_of_lt (by omega),← List.getD_eq_getElem?_getD]
 exact this
theorem Seg.drop {w:World} {g o:Nat} {L:List Rw} (h:Seg w g o L) (k:Nat):Seg w g (o+k) (L.drop k):=fun j hj=>by
 rw [List.length_drop] at hj
 have:=h (k+j) (by omega)
 rw [List.getD_eq_getElem?_getD,List.getElem?_drop,← List.getD_eq_getElem?_getD,Nat.add_assoc]
 exact this
theorem ent_built (p:Option Addr) (n c:Nat) (b:Bool):Tryz.prog.built 85 [(0,.slice p n c),(1,.bool b)]=some #[.slice p n c,.bool b]:=by kernel_rfl
theorem URSe:Tryz.prog.underlying 51=some (.slice (Tryz.prog.elem 51)):=by kernel_rfl
theorem SRSe:(Tryz.prog.info? (Tryz.prog.elem 51)).map (·.size)=some 1:=by kernel_rfl
theorem lay_none {gs:Nat} {Q:Nat→Prop} {s:Pg.S} (d:Int) (p:Option Addr) (c t g o:Nat) (w:World) (hp:PL w gs Q s) (hg:g<w.heap.size):
  Calls Tryz.prog 59 #[.agg #[.pointer (some ⟨gs,0,none⟩),.int .i64 d],.slice p 0 c,.int .i64 t] w (LaidPost w gs Q s g o [] t):=by
 obtain ⟨W,hW,r0,r1,b1⟩:=two_alloc w (.cells #[.pointer (some ⟨gs,0,none⟩),.int .i64 d] 91) (.cells kd0.cells.toArray 34)
 have R1:=yH r1
 have B1:=yH b1
 have HP:=yH hp
 have HG:=yH hg
 obtain ⟨dk,hdk,hdkr⟩:=UKd
 have HDK:=yH hdk
 have HDKR:=yH hdkr
 have HZ:=yH (zero_of_info kz)
 have hz0:=HZ.out.1
 clear hp hg r0 r1 b1 hdk hdkr
 go_enter Tryz.func59,Tryz.ntmps59
 go_upto_region 1 with fail
 clear hW
 go_wp2_with (first
  | (refine wpList_build (by rfl) (by rfl) kd0_built ?_)
  | (refine wpList_store_row (by rfl) 34 _ _ (by rfl) (w.heap.size+1) kd0.cells.toArray (by rfl) (by rfl) _ _ R1.out (by rw [List.size_toArray,kd0_size];exact SKd) rfl (all_oneCell_toArray Kd.one) ?_))
 refine ret_str 6 (by kernel_rfl) (w.heap.size+1) _ kd0.cells.toArray HDK.out HDKR.out (by rw [List.size_toArray,kd0_size];exact SKd) (by rfl) (setRow_heap _ _ _ _ _ _ R1.out) ?_
 exact ⟨kd0,Q,rfl,rfl,kd0_ok _,kd0_fsh _,kd0_aw _,(LayR.of_below HP.out B1.out HG.out).set (by omega) HG.out (fun e=>by have:=HP.out.lt _ e;omega) _⟩
def CutL (w:World) (gs:Nat) (Q:Nat→Prop) (s:Pg.S) (g o n m:Nat) (k1 k2:PK) (v8 v9:Value) (x:World):Prop:=∃(b8 b9:Nat) (kd1 kd2:Kd) (Q2:Nat→Prop),v8= .pointer (some ⟨b8,0,none⟩)∧v9= .pointer (some ⟨b9,0,none⟩)∧
 LyS w x gs Q Q2 s g o n m [b8,b9] [kd1,kd2]∧x.heap[b8]? =some (.cells kd1.cells.toArray 34 (0,0))∧x.heap[b9]? =some (.cells kd2.cells.toArray 34 (0,0))∧kd1.pk=k1∧kd2.pk=k2
theorem puts_len (L:List Rw) (t:Nat) (s:Pg.S):(puts s (lay (L.map Rw.R) t).pages).W.length≤s.W.length+L.length:=by
 have h:=puts_few (lay (L.map Rw.R) t).pages s
 rw [pages_length,lay_size,List.length_map] at h
 exact h
theorem op_tail' {ρ:Operand→Value} {o:Oper} {w:World} {x lo:Operand} (ho:o.op= .slice 51 x (some lo) none none) {g i n c k:Nat} {q:Option Addr} (hx:ρ x= .slice (some ⟨g,i,none⟩) n c) (hl:ρ lo= .int .i64 ((k:Nat):Int)) (hk:k≤n) (hq:q=if c=k then some ⟨g,i,none⟩ else some ⟨g,i+k,none⟩):
  (execOp ρ o).run Tryz.prog w= .ok (.value (.slice q (n - k) (c - k))) w:=by
 rw [op_tail ho URSe 1 SRSe hx hl hk,hq]
 congr 2
 congr 1
 split
 ·rfl
 ·rw [Nat.mul_one]
  by_cases h0:k=0
  ·subst h0
   rfl
  ·simp [Addr.add,h0]
theorem op_head' {ρ:Operand→Value} {o:Oper} {w:World} {x hi:Operand} (ho:o.op= .slice 51 x none (some hi) none) {g i n c k:Nat} (hx:ρ x= .slice (some ⟨g,i,none⟩) n c) (hl:ρ hi= .int .i64 ((k:Nat):Int)) (hk:k≤c):
  (execOp ρ o).run Tryz.prog w= .ok (.value (.slice (some ⟨g,i,none⟩) k c)) w:=by
 rw [op_head ho URSe 1 SRSe hx hl hk]
 congr 2
 congr 1
 split<;>rfl
theorem tr_there {w x:World} {gs b g o n m:Nat} {Q Qx:Nat→Prop} {s:Pg.S} {bs:List Nat} {ks:List Kd} {a c:Value} (h:LyS w x gs Q Qx s g o n m bs ks) (hr:w.heap[b]? =some (.cells #[a,c] 91 (0,0))) (hq:¬Q b) (hg:b≠g):x.rangeAt b 0 [a,c]:=
 range_tr ((h.r.only.block b (yL hr) (fun e=>e.elim hq hg)).trans hr)
theorem lay_any {gs d:Nat} (hd:1≤d∧d≤8):∀(N:Nat) (L:List Rw) (p:Option Addr) (c t g o:Nat) (w:World) (Q:Nat→Prop) (s:Pg.S),L.length≤N→(L≠[]→p=some ⟨g,o,none⟩)→L.length≤c→Seg w g o L→RowsOk w d g Q L→PL w gs Q s→g<w.heap.size→¬Q g→s.W.length+L.length<100000→t+L.length≤100000000→
  Calls Tryz.prog 59 #[.agg #[.pointer (some ⟨gs,0,none⟩),.int .i64 d],.slice p L.length c,.int .i64 t] w (LaidPost w gs Q s g o L t):=by
 intro N
 induction N with
 | zero=>
  intro L p c t g o w Q s hN _ _ _ _ hp hg _ _ _
  obtain rfl:L=[]:=List.length_eq_zero_iff.1 (by omega)
  exact lay_none d p c t g o w hp hg
 | succ N ih=>
  intro L p c t g o w Q s hN hpa hc hS hok hp hg hqg hsl ht
  by_cases hne:L=[]
  ·subst hne
   exact lay_none d p c t g o w hp hg
  obtain rfl:=hpa hne
  clear hpa
  have hpos:=List.length_pos_iff.2 hne
  obtain ⟨W,hW,r0,r1,b1⟩:=two_alloc w (.cells #[.pointer (some ⟨gs,0,none⟩),.int .i64 d] 91) (.cells kd0.cells.toArray 34)
  have HSO:=yH (tsort_any (some ⟨gs,0,none⟩) d t g o c L W hne (hS.later b1 hg) (fun r hr=>⟨(hok r hr).1.later b1,(hok r hr).2.1,(hok r hr).2.2.1⟩) (by omega) (by omega) (Nat.lt_of_lt_of_le hg b1.size) (by omega))
  have hgo:=lay_go (t:=t) (L:=L.map Rw.R) (fun e=>hne (List.map_eq_nil_iff.1 e))
  have hhd:((L.map Rw.R).headD []).length=d:=by
   cases L with
   | nil=>exact absurd rfl hne
   | cons r K=>
    have:=hok r (by simp)
    exact this.1.ints.size.symm.trans this.2.1
  rw [hhd,List.length_map] at hgo
  have HGO:=yH hgo
  have HNE:=yH hne
  have HOK:=yH hok
  have HP:=yH hp
  have HG:=yH hg
  have HQG:=yH hqg
  have HSL:=yH hsl
  have HT:=yH ht
  have HN:=yH hN
  have HCC:=yH hc
  have IH:=yH ih
  have HDD:=yH hd
  have HTD:=yH (show (lay (L.map Rw.R) t).dims d from lay_dims fun y hy=>by
   obtain ⟨r,hr,rfl⟩:=List.mem_map.1 hy
   exact (hok r hr).1.ints.size.symm.trans (hok r hr).2.1)
  have HTS:=yH (show (lay (L.map Rw.R) t).size=L.length from by rw [lay_size,List.length_map])
  obtain ⟨n,hn⟩:∃n,n=L.length:=⟨_,rfl⟩
  rw [← hn] at HSO HGO HSL HT HN HCC HTS hpos ⊢
  have HLN:=yH hn
  have R0:=yH r0
  have R1:=yH r1
  have B1:=yH b1
  have hb0:((n:Int)==0)=false:=by simp;omega
  obtain ⟨du,hdu,hdr⟩:=UTr
  obtain ⟨dk,hdk,hdkr⟩:=UKd
  have HDU:=yH hdu
  have HDR:=yH hdr
  have HDK:=yH hdk
  have HDKR:=yH hdkr
  have HZ:=yH (zero_of_info kz)
  have hz0:=HZ.out.1
  have HR0:=yH (range_tr r0)
  clear hd hn hN hc hS hok hp hg hqg hsl ht hne hgo hhd ih r0 r1 b1 hdu hdr hdk hdkr
  go_enter Tryz.func59,Tryz.ntmps59
  go_upto_region 1 with fail
  clear hW
  go_upto_region 5 with (first
   | (refine wpList_load_mid (by rfl) 91 _ (by rfl) w.heap.size 0 (by rfl) [.pointer (some ⟨gs,0,none⟩),.int .i64 d] du HR0.out HDU.out HDR.out STr ?_)
   | (go_at_call 73;refine HSO.out.mono ?_;rintro _ w3 ⟨rfl,M,hM1,hM2,hM3,hM4⟩;have HM1:=yH hM1;have HM2:=yH hM2;have HM3:=yH hM3;have HM4:=yH hM4;clear hM1 hM2 hM3 hM4))
  obtain ⟨m,hm⟩:∃m,n/2=m:=⟨_,rfl⟩
  rw [show (n:Int)/2=(m:Int) from by omega]
  have hmn:m<n:=by omega
  rw [show wrap64 (m:Int)=(m:Int) from by have:=HSL.out;unfold wrap64;omega]
  have HMM:=yH (show m+m≤n by omega)
  have HML:=yH (show M.length=n from HM1.out.length_eq.trans HLN.out.symm)
  rw [hm] at HGO
  clear hm
  have hLR:LayR w w3 gs Q Q s g o n:=((LayR.of_below (n:=n) (o:=o) HP.out B1.out HG.out).trans (o2:=o) (n2:=n) (LayR.of_turned (HP.out.keep (fun _=>False) (Only.of_below _ B1.out) (fun _ _ e=>e)) (HLN.out▸HM4.out) (Nat.lt_of_lt_of_le HG.out B1.out.size) HQG.out) ⟨Nat.le_refl _,Nat.le_refl _⟩ ⟨Nat.le_refl _,Nat.le_refl _⟩)
  have HLR:=yH hLR
  have HG3:=yH (show g<w3.heap.size from Nat.lt_of_lt_of_le HG.out hLR.only.size)
  have HT3:=yH (show w3.heap[w.heap.size]? =some (.cells #[.pointer (some ⟨gs,0,none⟩),.int .i64 d] 91 (0,0)) from (HM4.out.only.block _ (yL R0.out) (by have:=HG.out;omega)).trans R0.out)
  have HK3:=yH (show w3.heap[w.heap.size+1]? =some (.cells kd0.cells.toArray 34 (0,0)) from (HM4.out.only.block _ (yL R1.out) (by have:=HG.out;omega)).trans R1.out)
  have HNQ:=yH (show (∀k,Q k→k<w.heap.size) from HP.out.lt)
  have HRO:=yH (show RowsOk w3 d g Q M from fun r hr=>by
   have h:=(HOK.out).after hLR r (HM1.out.mem_iff.1 hr)
   exact h)
  have HP3:=yH hLR.st
  clear hLR HM4 HSO R0 R1 HR0 HP
  obtain ⟨q2,hq2⟩:∃q2:Option Addr,q2=if c=m+1 then some ⟨g,o,none⟩ else some ⟨g,o+(m+1),none⟩:=⟨_,rfl⟩
  have HQ2:=yH hq2
  have HQN:=yH (show M.drop (m+1)≠[]→q2=some ⟨g,o+(m+1),none⟩ from fun h=>by
   have h2:=List.length_pos_iff.2 h
   rw [List.length_drop,HML.out] at h2
   rw [hq2,if_neg (by have:=HCC.out;omega)])
  clear hq2
  have HSG1:=yH (show Seg w3 g o (M.take m) from HM3.out.take m)
  have HSG2:=yH (show Seg w3 g (o+(m+1)) (M.drop (m+1)) from HM3.out.drop (m+1))
  have HL1:=yH (show (M.take m).length=m from by rw [List.length_take,HML.out];omega)
  have HL2:=yH (show (M.drop (m+1)).length=n - (m+1) from by rw [List.length_drop,HML.out])
  obtain ⟨P1,hP1⟩:∃P1,P1=(lay ((M.take m).map Rw.R) (t+1)):=⟨_,rfl⟩
  obtain ⟨P2,hP2⟩:∃P2,P2=(lay ((M.drop (m+1)).map Rw.R) (t+1)):=⟨_,rfl⟩
  have HC1:=yH (show ∀(x:World) (Qx:Nat→Prop) (bs:List Nat),LyS w3 x gs Q Qx s g o n m bs []→Seg x g o (M.take m)→Calls Tryz.prog 59 #[.agg #[.pointer (some ⟨gs,0,none⟩),.int .i64 d],.slice (some ⟨g,o,none⟩) m c,.int .i64 ((t+1:Nat):Int)] x (fun e x'=>∃(kd:Kd) (Q':Nat→Prop),e= .returned (.agg kd.cells.toArray)∧kd.pk=P1.kid∧kd.Ok x'∧Fsh x kd∧Aw Q' kd∧LayR x x' gs Qx Q' (puts s P1.pages) g o m) from fun x Qx bs hl hsg=>by
   have h:=IH.out (M.take m) (some ⟨g,o,none⟩) c (t+1) g o x Qx s (by have:=HL1.out;have:=HN.out;have:=HMM.out;omega) (fun _=>rfl) (by have:=HL1.out;have:=HCC.out;omega) hsg (fun r hr=>HRO.out.after hl.r r (List.mem_of_mem_take hr)) hl.r.st (hl.glt HG3.out) (fun e=>(hl.r.new g e).elim HQG.out (fun e=>by have:=HG3.out;omega)) (by have:=HL1.out;have:=HSL.out;omega) (by have:=HL1.out;have:=HT.out;omega)
   unfold LaidPost at h
   rw [HL1.out,← hP1] at h
   exact h)
  have HC2:=yH (show ∀(x:World) (Qx:Nat→Prop) (bs:List Nat) (ks:List Kd),LyS w3 x gs Q Qx (puts s P1.pages) g o n m bs ks→Seg x g (o+(m+1)) (M.drop (m+1))→Calls Tryz.prog 59 #[.agg #[.pointer (some ⟨gs,0,none⟩),.int .i64 d],.slice q2 (n - (m+1)) (c - (m+1)),.int .i64 ((t+1:Nat):Int)] x (fun e x'=>∃(kd:Kd) (Q':Nat→Prop),e= .returned (.agg kd.cells.toArray)∧kd.pk=P2.kid∧kd.Ok x'∧Fsh x kd∧Aw Q' kd∧LayR x x' gs Qx Q' (puts (puts s P1.pages) P2.pages) g (o+(m+1)) (n - (m+1))) from fun x Qx bs ks hl hsg=>by
   have hpl:=puts_len (M.take m) (t+1) s
   rw [← hP1,HL1.out] at hpl
   have h:=IH.out (M.drop (m+1)) q2 (c - (m+1)) (t+1) g (o+(m+1)) x Qx (puts s P1.pages) (by have:=HL2.out;have:=HN.out;omega) HQN.out (by have:=HL2.out;have:=HCC.out;omega) hsg (fun r hr=>HRO.out.after hl.r r (List.mem_of_mem_drop hr)) hl.r.st (hl.glt HG3.out) (fun e=>(hl.r.new g e).elim HQG.out (fun e=>by have:=HG3.out;omega)) (by have:=HL2.out;have:=HSL.out;omega) (by have:=HL2.out;have:=HT.out;omega)
   unfold LaidPost at h
   rw [HL2.out,← hP2] at h
   exact h)
  obtain ⟨gm,hgm⟩:∃r:Rw,r=M.getD m default:=⟨_,rfl⟩
  have hmid:=(HM3.out m (by have:=HML.out;omega)).1
  rw [← hgm] at hmid
  have HMID:=yH hmid
  have hin:gm∈M:=by rw [hgm];exact getD_in (by have:=HML.out;omega)
  have HGM:=yH (HRO.out gm hin)
  have HTR:=yH (show lay (L.map Rw.R) t= .fork gm.R true P1 P2 from by
   rw [HGO.out,← HM2.out,hP1,hP2,hgm,← List.map_take,← List.map_drop,getD_R (by have:=HML.out;omega)])
  have HZ1:=yH (show P1.size=m from by rw [hP1,lay_size,List.length_map,HL1.out])
  have HZ2:=yH (show P2.size=n - (m+1) from by rw [hP2,lay_size,List.length_map,HL2.out])
  have HPL:=yH (show (puts (puts s P1.pages) P2.pages).W.length<100000 from by
   have h1:=puts_few P1.pages s
   have h2:=puts_few P2.pages (puts s P1.pages)
   rw [pages_length] at h1 h2
   have:=HZ1.out
   have:=HZ2.out
   have:=HSL.out
   omega)
  clear hgm hmid hin hP1 hP2 IH HGO HM1 HM2 HM3
  have q3:IntKind.i64.wrap ((t:Int)+1)=((t+1:Nat):Int):=by rw [IntWalk.i64_in _ (by have:=HT.out;omega)];rfl
  have q4:IntKind.i64.wrap ((m:Int)+1)=((m+1:Nat):Int):=by rw [IntWalk.i64_in _ (by have:=HSL.out;omega)];rfl
  have hmc:m≤c:=by have:=HCC.out;omega
  go_cut [8,9] from 8 to 36 (fun v8 v9 wx=>CutL w3 gs Q (puts (puts s P1.pages) P2.pages) g o n m P1.kid P2.kid v8 v9 wx)
  case first=>
   have HS0:=yH (LyS.start (m:=m) (n:=n) (o:=o) HP3.out HG3.out)
   have SA:=yH (show Seg w3.drew g o (M.take m)∧Seg w3.drew g (o+(m+1)) (M.drop (m+1)) from ⟨HSG1.out,HSG2.out⟩)
   refine wp_region_held_drew (S:=fun w'=>w'.rangeAt w.heap.size 0 [.pointer (some ⟨gs,0,none⟩),.int .i64 d]) (by kernel_rfl) (range_tr HT3.out) (fun hHeld=>?_)
   generalize w3.drew=x0 at *
   refine tQ 0 ?_ ?_ ?_
   rotate_left
   ·intro w' hSw
    refine Eq.trans (b:=Result.ok (Next.value (.agg #[.pointer (some ⟨gs,0,none⟩),.int .i64 d])) w') ?_ ?_
    ·exact op_load_mid 91 (.tmp 3) (by rfl) w.heap.size 0 (by rfl) [.pointer (some ⟨gs,0,none⟩),.int .i64 d] du hSw HDU.out HDR.out STr
    ·with_reducible rfl
   refine tK 1 ?_
   refine tK 2 ?_
   refine tQ 3 ?_ ?_ ?_
   rotate_left
   ·intro w' hSw
    refine Eq.trans (b:=Result.ok (Next.value (.slice (some ⟨g,o,none⟩) m c)) w') ?_ ?_
    ·exact op_head' (x:=.tmp 22) (hi:=.tmp 23) (n:=n) (c:=c) (k:=m) (g:=g) (i:=o) (by rfl) (by rfl) (by rfl) hmc
    ·with_reducible rfl
   refine tK 4 ?_
   refine tK 5 ?_
   refine tQ 7 ?_ ?_ ?_
   rotate_left
   ·intro w' hSw
    refine Eq.trans (b:=Result.ok (Next.value (.agg #[.pointer (some ⟨gs,0,none⟩),.int .i64 d])) w') ?_ ?_
    ·exact op_load_mid 91 (.tmp 3) (by rfl) w.heap.size 0 (by rfl) [.pointer (some ⟨gs,0,none⟩),.int .i64 d] du hSw HDU.out HDR.out STr
    ·with_reducible rfl
   refine tK 8 ?_
   refine tK 9 ?_
   refine tK 10 ?_
   refine tQ 11 ?_ ?_ ?_
   rotate_left
   ·intro w' hSw
    refine Eq.trans (b:=Result.ok (Next.value (.slice q2 (n - (m+1)) (c - (m+1)))) w') ?_ ?_
    ·exact op_tail' (x:=.tmp 29) (lo:=.tmp 31) (n:=n) (c:=c) (k:=m+1) (g:=g) (i:=o) (q:=q2) (by rfl) (by rfl) (by rfl) (by omega) HQ2.out
    ·with_reducible rfl
   refine tK 12 ?_
   refine tK 13 ?_
   refine rY [6,15,16] ?_
   refine rC (fun K hK=>?_) (rC (fun K hK=>?_) (rC (fun K hK=>?_) AllReadyH.nil))
   ·
    go_simp
    refine (HC1.out _ _ _ HS0.out SA.out.1).mono ?_
    rintro _ x1 ⟨kd1,Q1,rfl,hpk1,hok1,hfs1,haw1,hlr1⟩
    obtain ⟨hs1,hbx1⟩:=HS0.out.call HG3.out hlr1 ⟨Nat.le_refl _,by omega⟩ (Or.inr (Nat.le_refl _)) hok1 hfs1 haw1 (fun k hk=>by cases hk)
    have SB:=yH (show Seg x1 g (o+(m+1)) (M.drop (m+1)) from fun j hj=>⟨(hlr1.cell _ (Or.inr (by omega))).trans (SA.out.2 j hj).1,(hlr1.frozen _).trans (SA.out.2 j hj).2⟩)
    have HPK1:=yH hpk1
    have HCL1:=yH (Kd.cells_length hok1.len)
    have HS1:=yH hs1
    have hR1:=tr_there HS1.out HT3.out (fun e=>by have:=HNQ.out _ e;omega) (by have:=HG.out;omega)
    clear hs1 hbx1 hpk1 hok1 hfs1 haw1 hlr1 SA
    try go_wp2_with fail
    refine hK.out _ _ hR1 (fun hHeld=>?_)
    clear hK K
    try simp only [Act.put,yA,yB,yC]
    have SA:=yH (show True∧Seg x1 g (o+(m+1)) (M.drop (m+1)) from ⟨trivial,SB.out⟩)
    clear SB
    refine rY [14,15,16] ?_
    refine rC (fun K hK=>?_) (rC (fun K hK=>?_) (rC (fun K hK=>?_) AllReadyH.nil))
    ·
     go_simp
     refine (HC2.out _ _ _ _ HS1.out SA.out.2).mono ?_
     rintro _ x2 ⟨kd2,Q2,rfl,hpk2,hok2,hfs2,haw2,hlr2⟩
     obtain ⟨hs2,hbx2⟩:=HS1.out.call HG3.out hlr2 ⟨by omega,by omega⟩ (Or.inl (by omega)) hok2 hfs2 haw2 (fun k hk r hr y hy hR=>by have h:=(HS1.out.kid k hk).2.2 r hr y hy hR;have:=HG3.out;omega)
     have HPK2:=yH hpk2
     have HCL2:=yH (Kd.cells_length hok2.len)
     have HS2:=yH hs2
     have hR2:=tr_there HS2.out HT3.out (fun e=>by have:=HNQ.out _ e;omega) (by have:=HG.out;omega)
     clear hs2 hbx2 hpk2 hok2 hfs2 haw2 hlr2
     try go_wp2_with fail
     refine hK.out _ _ hR2 (fun hHeld=>?_)
     clear hK K
     try simp only [Act.put,yA,yB,yC]
     refine rY [15,16] ?_
     refine rC (fun K hK=>?_) (rC (fun K hK=>?_) AllReadyH.nil)
     ·
      go_simp
      have ba:Below x2.heap.size x2 (x2.alloc (.cells kd0.cells.toArray 34)):=(Below.refl _ _).alloc (Nat.le_refl _) _
      have HS3:=yH (HS2.out.alloc HG3.out (.cells kd0.cells.toArray 34))
      have RB8_3:=yH (heap_alloc_new x2 (.cells kd0.cells.toArray 34))
      have hR3:=range_later hHeld ba
      clear ba
      try go_wp2_with fail
      refine hK.out _ _ hR3 (fun hHeld=>?_)
      clear hK K
      try simp only [Act.put,yA,yB,yC]
      generalize x2.alloc (.cells kd0.cells.toArray 34)=x3 at *
      obtain ⟨b8,hb8⟩:∃b,x2.heap.size=b:=⟨_,rfl⟩
      rw [hb8] at HS3 RB8_3 ⊢
      clear hb8
      refine rY [16] ?_
      refine rC (fun K hK=>?_) AllReadyH.nil
      go_simp
      have ba:Below x3.heap.size x3 (x3.alloc (.cells kd0.cells.toArray 34)):=(Below.refl _ _).alloc (Nat.le_refl _) _
      have HS4:=yH (HS3.out.alloc HG3.out (.cells kd0.cells.toArray 34))
      have RB9_4:=yH (heap_alloc_new x3 (.cells kd0.cells.toArray 34))
      have RB8_4:=yH ((ba.block _ (yL RB8_3.out)).trans RB8_3.out)
      have hR4:=range_later hHeld ba
      clear ba
      try go_wp2_with fail
      refine hK.out _ _ hR4 (fun hHeld=>?_)
      clear hK K
      try simp only [Act.put,yA,yB,yC]
      generalize x3.alloc (.cells kd0.cells.toArray 34)=x4 at *
      obtain ⟨b9,hb9⟩:∃b,x3.heap.size=b:=⟨_,rfl⟩
      rw [hb9] at HS4 RB9_4 ⊢
      have HNE89:=yH (show b8≠b9 from by have:=(HS3.out.box b8 (by simp)).2.1;omega)
      clear hb9
      refine rY [17] ?_
      refine rC (fun K hK=>?_) AllReadyH.nil
      refine wp_store_row 34 (.tmp 8) (.tmp 27) (by rfl) b8 kd1.cells.toArray (by rfl) (by rfl) _ _ RB8_4.out (by rw [List.size_toArray,HCL1.out];exact SKd) (by simp only [List.size_toArray,HCL1.out,kd0_size]) (all_oneCell_toArray Kd.one) ?_
      have HS5:=yH (HS4.out.set HG3.out (b:=b8) (by simp) kd1.cells.toArray)
      have RB8_5:=yH (setRow_heap _ _ _ kd1.cells.toArray _ _ RB8_4.out)
      have RB9_5:=yH ((setRow_other x4 b8 b9 kd1.cells.toArray (by have:=HNE89.out;omega)).trans RB9_4.out)
      have hR5:=tr_there HS5.out HT3.out (fun e=>by have:=HNQ.out _ e;omega) (by have:=HG.out;omega)
      refine hK.out _ _ hR5 (fun hHeld=>?_)
      clear hK K
      try simp only [Act.put,yA,yB,yC]
      generalize x4.setRow b8 kd1.cells.toArray=x5 at *
      refine rY [18] ?_
      refine rC (fun K hK=>?_) AllReadyH.nil
      refine wp_store_row 34 (.tmp 9) (.tmp 35) (by rfl) b9 kd2.cells.toArray (by rfl) (by rfl) _ _ RB9_5.out (by rw [List.size_toArray,HCL2.out];exact SKd) (by simp only [List.size_toArray,HCL2.out,kd0_size]) (all_oneCell_toArray Kd.one) ?_
      have HS6:=yH (HS5.out.set HG3.out (b:=b9) (by simp) kd2.cells.toArray)
      have RB9_6:=yH (setRow_heap _ _ _ kd2.cells.toArray _ _ RB9_5.out)
      have RB8_6:=yH ((setRow_other x5 b9 b8 kd2.cells.toArray (by have:=HNE89.out;omega)).trans RB8_5.out)
      have hR6:=tr_there HS6.out HT3.out (fun e=>by have:=HNQ.out _ e;omega) (by have:=HG.out;omega)
      refine hK.out _ _ hR6 (fun hHeld=>?_)
      clear hK K
      try simp only [Act.put,yA,yB,yC]
      generalize x5.setRow b9 kd2.cells.toArray=x6 at *
      refine wpAnyH_done (by kernel_rfl) ?_ _
      go_wp2_with fail
      go_meet
      exact ⟨b8,b9,kd1,kd2,Q2,rfl,rfl,HS6.out.less (fun b hb=>by simp only [List.mem_cons,List.not_mem_nil,or_false] at hb ⊢;omega) (fun k hk=>by simp only [List.mem_cons,List.not_mem_nil,or_false] at hk ⊢;exact hk.symm),RB8_6.out,RB9_6.out,HPK1.out,HPK2.out⟩
     ·
      go_simp
      have ba:Below x2.heap.size x2 (x2.alloc (.cells kd0.cells.toArray 34)):=(Below.refl _ _).alloc (Nat.le_refl _) _
      have HS3:=yH (HS2.out.alloc HG3.out (.cells kd0.cells.toArray 34))
      have RB9_3:=yH (heap_alloc_new x2 (.cells kd0.cells.toArray 34))
      have hR3:=range_later hHeld ba
      clear ba
      try go_wp2_with fail
      refine hK.out _ _ hR3 (fun hHeld=>?_)
      clear hK K
      try simp only [Act.put,yA,yB,yC]
      generalize x2.alloc (.cells kd0.cells.toArray 34)=x3 at *
      obtain ⟨b9,hb9⟩:∃b,x2.heap.size=b:=⟨_,rfl⟩
      rw [hb9] at HS3 RB9_3 ⊢
      clear hb9
      refine rY [15] ?_
      refine rC (fun K hK=>?_) AllReadyH.nil
      go_simp
      have ba:Below x3.heap.size x3 (x3.alloc (.cells kd0.cells.toArray 34)):=(Below.refl _ _).alloc (Nat.le_refl _) _
      have HS4:=yH (HS3.out.alloc HG3.out (.cells kd0.cells.toArray 34))
      have RB8_4:=yH (heap_alloc_new x3 (.cells kd0.cells.toArray 34))
      have RB9_4:=yH ((ba.block _ (yL RB9_3.out)).trans RB9_3.out)
      have hR4:=range_later hHeld ba
      clear ba
      try go_wp2_with fail
      refine hK.out _ _ hR4 (fun hHeld=>?_)
      clear hK K
      try simp only [Act.put,yA,yB,yC]
      generalize x3.alloc (.cells kd0.cells.toArray 34)=x4 at *
      obtain ⟨b8,hb8⟩:∃b,x3.heap.size=b:=⟨_,rfl⟩
      rw [hb8] at HS4 RB8_4 ⊢
      have HNE89:=yH (show b8≠b9 from by have:=(HS3.out.box b9 (by simp)).2.1;omega)
      clear hb8
      refine rY [17] ?_
      refine rC (fun K hK=>?_) AllReadyH.nil
      refine wp_store_row 34 (.tmp 8) (.tmp 27) (by rfl) b8 kd1.cells.toArray (by rfl) (by rfl) _ _ RB8_4.out (by rw [List.size_toArray,HCL1.out];exact SKd) (by simp only [List.size_toArray,HCL1.out,kd0_size]) (all_oneCell_toArray Kd.one) ?_
      have HS5:=yH (HS4.out.set HG3.out (b:=b8) (by simp) kd1.cells.toArray)
      have RB8_5:=yH (setRow_heap _ _ _ kd1.cells.toArray _ _ RB8_4.out)
      have RB9_5:=yH ((setRow_other x4 b8 b9 kd1.cells.toArray (by have:=HNE89.out;omega)).trans RB9_4.out)
      have hR5:=tr_there HS5.out HT3.out (fun e=>by have:=HNQ.out _ e;omega) (by have:=HG.out;omega)
      refine hK.out _ _ hR5 (fun hHeld=>?_)
      clear hK K
      try simp only [Act.put,yA,yB,yC]
      generalize x4.setRow b8 kd1.cells.toArray=x5 at *
      refine rY [18] ?_
      refine rC (fun K hK=>?_) AllReadyH.nil
      refine wp_store_row 34 (.tmp 9) (.tmp 35) (by rfl) b9 kd2.cells.toArray (by rfl) (by rfl) _ _ RB9_5.out (by rw [List.size_toArray,HCL2.out];exact SKd) (by simp only [List.size_toArray,HCL2.out,kd0_size]) (all_oneCell_toArray Kd.one) ?_
      have HS6:=yH (HS5.out.set HG3.out (b:=b9) (by simp) kd2.cells.toArray)
      have RB9_6:=yH (setRow_heap _ _ _ kd2.cells.toArray _ _ RB9_5.out)
      have RB8_6:=yH ((setRow_other x5 b9 b8 kd2.cells.toArray (by have:=HNE89.out;omega)).trans RB8_5.out)
      have hR6:=tr_there HS6.out HT3.out (fun e=>by have:=HNQ.out _ e;omega) (by have:=HG.out;omega)
      refine hK.out _ _ hR6 (fun hHeld=>?_)
      clear hK K
      try simp only [Act.put,yA,yB,yC]
      generalize x5.setRow b9 kd2.cells.toArray=x6 at *
      refine wpAnyH_done (by kernel_rfl) ?_ _
      go_wp2_with fail
      go_meet
      exact ⟨b8,b9,kd1,kd2,Q2,rfl,rfl,HS6.out.less (fun b hb=>by simp only [List.mem_cons,List.not_mem_nil,or_false] at hb ⊢;omega) (fun k hk=>by simp only [List.mem_cons,List.not_mem_nil,or_false] at hk ⊢;exact hk.symm),RB8_6.out,RB9_6.out,HPK1.out,HPK2.out⟩
    ·
     go_simp
     have ba:Below x1.heap.size x1 (x1.alloc (.cells kd0.cells.toArray 34)):=(Below.refl _ _).alloc (Nat.le_refl _) _
     have HS2:=yH (HS1.out.alloc HG3.out (.cells kd0.cells.toArray 34))
     have RB8_2:=yH (heap_alloc_new x1 (.cells kd0.cells.toArray 34))
     have SB:=yH (show True∧Seg (x1.alloc (.cells kd0.cells.toArray 34)) g (o+(m+1)) (M.drop (m+1)) from ⟨trivial,SA.out.2.later ba (HS1.out.glt HG3.out)⟩)
     have hR2:=range_later hHeld ba
     clear ba SA
     try go_wp2_with fail
     refine hK.out _ _ hR2 (fun hHeld=>?_)
     clear hK K
     try simp only [Act.put,yA,yB,yC]
     generalize x1.alloc (.cells kd0.cells.toArray 34)=x2 at *
     obtain ⟨b8,hb8⟩:∃b,x1.heap.size=b:=⟨_,rfl⟩
     rw [hb8] at HS2 RB8_2 ⊢
     clear hb8
     have SA:=yH SB.out
     clear SB
     refine rY [14,16] ?_
     refine rC (fun K hK=>?_) (rC (fun K hK=>?_) AllReadyH.nil)
     ·
      go_simp
      refine (HC2.out _ _ _ _ HS2.out SA.out.2).mono ?_
      rintro _ x3 ⟨kd2,Q2,rfl,hpk2,hok2,hfs2,haw2,hlr2⟩
      obtain ⟨hs3,hbx3⟩:=HS2.out.call HG3.out hlr2 ⟨by omega,by omega⟩ (Or.inl (by omega)) hok2 hfs2 haw2 (fun k hk r hr y hy hR=>by have h:=(HS2.out.kid k hk).2.2 r hr y hy hR;have:=HG3.out;omega)
      have RB8_3:=yH ((hbx3 b8 (by simp)).trans RB8_2.out)
      have HPK2:=yH hpk2
      have HCL2:=yH (Kd.cells_length hok2.len)
      have HS3:=yH hs3
      have hR3:=tr_there HS3.out HT3.out (fun e=>by have:=HNQ.out _ e;omega) (by have:=HG.out;omega)
      clear hs3 hbx3 hpk2 hok2 hfs2 haw2 hlr2
      try go_wp2_with fail
      refine hK.out _ _ hR3 (fun hHeld=>?_)
      clear hK K
      try simp only [Act.put,yA,yB,yC]
      refine rY [16] ?_
      refine rC (fun K hK=>?_) AllReadyH.nil
      go_simp
      have ba:Below x3.heap.size x3 (x3.alloc (.cells kd0.cells.toArray 34)):=(Below.refl _ _).alloc (Nat.le_refl _) _
      have HS4:=yH (HS3.out.alloc HG3.out (.cells kd0.cells.toArray 34))
      have RB9_4:=yH (heap_alloc_new x3 (.cells kd0.cells.toArray 34))
      have RB8_4:=yH ((ba.block _ (yL RB8_3.out)).trans RB8_3.out)
      have hR4:=range_later hHeld ba
      clear ba
      try go_wp2_with fail
      refine hK.out _ _ hR4 (fun hHeld=>?_)
      clear hK K
      try simp only [Act.put,yA,yB,yC]
      generalize x3.alloc (.cells kd0.cells.toArray 34)=x4 at *
      obtain ⟨b9,hb9⟩:∃b,x3.heap.size=b:=⟨_,rfl⟩
      rw [hb9] at HS4 RB9_4 ⊢
      have HNE89:=yH (show b8≠b9 from by have:=(HS3.out.box b8 (by simp)).2.1;omega)
      clear hb9
      refine rY [17] ?_
      refine rC (fun K hK=>?_) AllReadyH.nil
      refine wp_store_row 34 (.tmp 8) (.tmp 27) (by rfl) b8 kd1.cells.toArray (by rfl) (by rfl) _ _ RB8_4.out (by rw [List.size_toArray,HCL1.out];exact SKd) (by simp only [List.size_toArray,HCL1.out,kd0_size]) (all_oneCell_toArray Kd.one) ?_
      have HS5:=yH (HS4.out.set HG3.out (b:=b8) (by simp) kd1.cells.toArray)
      have RB8_5:=yH (setRow_heap _ _ _ kd1.cells.toArray _ _ RB8_4.out)
      have RB9_5:=yH ((setRow_other x4 b8 b9 kd1.cells.toArray (by have:=HNE89.out;omega)).trans RB9_4.out)
      have hR5:=tr_there HS5.out HT3.out (fun e=>by have:=HNQ.out _ e;omega) (by have:=HG.out;omega)
      refine hK.out _ _ hR5 (fun hHeld=>?_)
      clear hK K
      try simp only [Act.put,yA,yB,yC]
      generalize x4.setRow b8 kd1.cells.toArray=x5 at *
      refine rY [18] ?_
      refine rC (fun K hK=>?_) AllReadyH.nil
      refine wp_store_row 34 (.tmp 9) (.tmp 35) (by rfl) b9 kd2.cells.toArray (by rfl) (by rfl) _ _ RB9_5.out (by rw [List.size_toArray,HCL2.out];exact SKd) (by simp only [List.size_toArray,HCL2.out,kd0_size]) (all_oneCell_toArray Kd.one) ?_
      have HS6:=yH (HS5.out.set HG3.out (b:=b9) (by simp) kd2.cells.toArray)
      have RB9_6:=yH (setRow_heap _ _ _ kd2.cells.toArray _ _ RB9_5.out)
      have RB8_6:=yH ((setRow_other x5 b9 b8 kd2.cells.toArray (by have:=HNE89.out;omega)).trans RB8_5.out)
      have hR6:=tr_there HS6.out HT3.out (fun e=>by have:=HNQ.out _ e;omega) (by have:=HG.out;omega)
      refine hK.out _ _ hR6 (fun hHeld=>?_)
      clear hK K
      try simp only [Act.put,yA,yB,yC]
      generalize x5.setRow b9 kd2.cells.toArray=x6 at *
      refine wpAnyH_done (by kernel_rfl) ?_ _
      go_wp2_with fail
      go_meet
      exact ⟨b8,b9,kd1,kd2,Q2,rfl,rfl,HS6.out.less (fun b hb=>by simp only [List.mem_cons,List.not_mem_nil,or_false] at hb ⊢;omega) (fun k hk=>by simp only [List.mem_cons,List.not_mem_nil,or_false] at hk ⊢;exact hk.symm),RB8_6.out,RB9_6.out,HPK1.out,HPK2.out⟩
     ·
      go_simp
      have ba:Below x2.heap.size x2 (x2.alloc (.cells kd0.cells.toArray 34)):=(Below.refl _ _).alloc (Nat.le_refl _) _
      have HS3:=yH (HS2.out.alloc HG3.out (.cells kd0.cells.toArray 34))
      have RB9_3:=yH (heap_alloc_new x2 (.cells kd0.cells.toArray 34))
      have RB8_3:=yH ((ba.block _ (yL RB8_2.out)).trans RB8_2.out)
      have SB:=yH (show True∧Seg (x2.alloc (.cells kd0.cells.toArray 34)) g (o+(m+1)) (M.drop (m+1)) from ⟨trivial,SA.out.2.later ba (HS2.out.glt HG3.out)⟩)
      have hR3:=range_later hHeld ba
      clear ba SA
      try go_wp2_with fail
      refine hK.out _ _ hR3 (fun hHeld=>?_)
      clear hK K
      try simp only [Act.put,yA,yB,yC]
      generalize x2.alloc (.cells kd0.cells.toArray 34)=x3 at *
      obtain ⟨b9,hb9⟩:∃b,x2.heap.size=b:=⟨_,rfl⟩
      rw [hb9] at HS3 RB9_3 ⊢
      have HNE89:=yH (show b8≠b9 from by have:=(HS2.out.box b8 (by simp)).2.1;omega)
      clear hb9
      have SA:=yH SB.out
      clear SB
      refine rY [14] ?_
      refine rC (fun K hK=>?_) AllReadyH.nil
      go_simp
      refine (HC2.out _ _ _ _ HS3.out SA.out.2).mono ?_
      rintro _ x4 ⟨kd2,Q2,rfl,hpk2,hok2,hfs2,haw2,hlr2⟩
      obtain ⟨hs4,hbx4⟩:=HS3.out.call HG3.out hlr2 ⟨by omega,by omega⟩ (Or.inl (by omega)) hok2 hfs2 haw2 (fun k hk r hr y hy hR=>by have h:=(HS3.out.kid k hk).2.2 r hr y hy hR;have:=HG3.out;omega)
      have RB9_4:=yH ((hbx4 b9 (by simp)).trans RB9_3.out)
      have RB8_4:=yH ((hbx4 b8 (by simp)).trans RB8_3.out)
      have HPK2:=yH hpk2
      have HCL2:=yH (Kd.cells_length hok2.len)
      have HS4:=yH hs4
      have hR4:=tr_there HS4.out HT3.out (fun e=>by have:=HNQ.out _ e;omega) (by have:=HG.out;omega)
      clear hs4 hbx4 hpk2 hok2 hfs2 haw2 hlr2
      try go_wp2_with fail
      refine hK.out _ _ hR4 (fun hHeld=>?_)
      clear hK K
      try simp only [Act.put,yA,yB,yC]
      refine rY [17] ?_
      refine rC (fun K hK=>?_) AllReadyH.nil
      refine wp_store_row 34 (.tmp 8) (.tmp 27) (by rfl) b8 kd1.cells.toArray (by rfl) (by rfl) _ _ RB8_4.out (by rw [List.size_toArray,HCL1.out];exact SKd) (by simp only [List.size_toArray,HCL1.out,kd0_size]) (all_oneCell_toArray Kd.one) ?_
      have HS5:=yH (HS4.out.set HG3.out (b:=b8) (by simp) kd1.cells.toArray)
      have RB8_5:=yH (setRow_heap _ _ _ kd1.cells.toArray _ _ RB8_4.out)
      have RB9_5:=yH ((setRow_other x4 b8 b9 kd1.cells.toArray (by have:=HNE89.out;omega)).trans RB9_4.out)
      have hR5:=tr_there HS5.out HT3.out (fun e=>by have:=HNQ.out _ e;omega) (by have:=HG.out;omega)
      refine hK.out _ _ hR5 (fun hHeld=>?_)
      clear hK K
      try simp only [Act.put,yA,yB,yC]
      generalize x4.setRow b8 kd1.cells.toArray=x5 at *
      refine rY [18] ?_
      refine rC (fun K hK=>?_) AllReadyH.nil
      refine wp_store_row 34 (.tmp 9) (.tmp 35) (by rfl) b9 kd2.cells.toArray (by rfl) (by rfl) _ _ RB9_5.out (by rw [List.size_toArray,HCL2.out];exact SKd) (by simp only [List.size_toArray,HCL2.out,kd0_size]) (all_oneCell_toArray Kd.one) ?_
      have HS6:=yH (HS5.out.set HG3.out (b:=b9) (by simp) kd2.cells.toArray)
      have RB9_6:=yH (setRow_heap _ _ _ kd2.cells.toArray _ _ RB9_5.out)
      have RB8_6:=yH ((setRow_other x5 b9 b8 kd2.cells.toArray (by have:=HNE89.out;omega)).trans RB8_5.out)
      have hR6:=tr_there HS6.out HT3.out (fun e=>by have:=HNQ.out _ e;omega) (by have:=HG.out;omega)
      refine hK.out _ _ hR6 (fun hHeld=>?_)
      clear hK K
      try simp only [Act.put,yA,yB,yC]
      generalize x5.setRow b9 kd2.cells.toArray=x6 at *
      refine wpAnyH_done (by kernel_rfl) ?_ _
      go_wp2_with fail
      go_meet
      exact ⟨b8,b9,kd1,kd2,Q2,rfl,rfl,HS6.out.less (fun b hb=>by simp only [List.mem_cons,List.not_mem_nil,or_false] at hb ⊢;omega) (fun k hk=>by simp only [List.mem_cons,List.not_mem_nil,or_false] at hk ⊢;exact hk.symm),RB8_6.out,RB9_6.out,HPK1.out,HPK2.out⟩
    ·
     go_simp
     have ba:Below x1.heap.size x1 (x1.alloc (.cells kd0.cells.toArray 34)):=(Below.refl _ _).alloc (Nat.le_refl _) _
     have HS2:=yH (HS1.out.alloc HG3.out (.cells kd0.cells.toArray 34))
     have RB9_2:=yH (heap_alloc_new x1 (.cells kd0.cells.toArray 34))
     have SB:=yH (show True∧Seg (x1.alloc (.cells kd0.cells.toArray 34)) g (o+(m+1)) (M.drop (m+1)) from ⟨trivial,SA.out.2.later ba (HS1.out.glt HG3.out)⟩)
     have hR2:=range_later hHeld ba
     clear ba SA
     try go_wp2_with fail
     refine hK.out _ _ hR2 (fun hHeld=>?_)
     clear hK K
     try simp only [Act.put,yA,yB,yC]
     generalize x1.alloc (.cells kd0.cells.toArray 34)=x2 at *
     obtain ⟨b9,hb9⟩:∃b,x1.heap.size=b:=⟨_,rfl⟩
     rw [hb9] at HS2 RB9_2 ⊢
     clear hb9
     have SA:=yH SB.out
     clear SB
     refine rY [14,15] ?_
     refine rC (fun K hK=>?_) (rC (fun K hK=>?_) AllReadyH.nil)
     ·
      go_simp
      refine (HC2.out _ _ _ _ HS2.out SA.out.2).mono ?_
      rintro _ x3 ⟨kd2,Q2,rfl,hpk2,hok2,hfs2,haw2,hlr2⟩
      obtain ⟨hs3,hbx3⟩:=HS2.out.call HG3.out hlr2 ⟨by omega,by omega⟩ (Or.inl (by omega)) hok2 hfs2 haw2 (fun k hk r hr y hy hR=>by have h:=(HS2.out.kid k hk).2.2 r hr y hy hR;have:=HG3.out;omega)
      have RB9_3:=yH ((hbx3 b9 (by simp)).trans RB9_2.out)
      have HPK2:=yH hpk2
      have HCL2:=yH (Kd.cells_length hok2.len)
      have HS3:=yH hs3
      have hR3:=tr_there HS3.out HT3.out (fun e=>by have:=HNQ.out _ e;omega) (by have:=HG.out;omega)
      clear hs3 hbx3 hpk2 hok2 hfs2 haw2 hlr2
      try go_wp2_with fail
      refine hK.out _ _ hR3 (fun hHeld=>?_)
      clear hK K
      try simp only [Act.put,yA,yB,yC]
      refine rY [15] ?_
      refine rC (fun K hK=>?_) AllReadyH.nil
      go_simp
      have ba:Below x3.heap.size x3 (x3.alloc (.cells kd0.cells.toArray 34)):=(Below.refl _ _).alloc (Nat.le_refl _) _
      have HS4:=yH (HS3.out.alloc HG3.out (.cells kd0.cells.toArray 34))
      have RB8_4:=yH (heap_alloc_new x3 (.cells kd0.cells.toArray 34))
      have RB9_4:=yH ((ba.block _ (yL RB9_3.out)).trans RB9_3.out)
      have hR4:=range_later hHeld ba
      clear ba
      try go_wp2_with fail
      refine hK.out _ _ hR4 (fun hHeld=>?_)
      clear hK K
      try simp only [Act.put,yA,yB,yC]
      generalize x3.alloc (.cells kd0.cells.toArray 34)=x4 at *
      obtain ⟨b8,hb8⟩:∃b,x3.heap.size=b:=⟨_,rfl⟩
      rw [hb8] at HS4 RB8_4 ⊢
      have HNE89:=yH (show b8≠b9 from by have:=(HS3.out.box b9 (by simp)).2.1;omega)
      clear hb8
      refine rY [17] ?_
      refine rC (fun K hK=>?_) AllReadyH.nil
      refine wp_store_row 34 (.tmp 8) (.tmp 27) (by rfl) b8 kd1.cells.toArray (by rfl) (by rfl) _ _ RB8_4.out (by rw [List.size_toArray,HCL1.out];exact SKd) (by simp only [List.size_toArray,HCL1.out,kd0_size]) (all_oneCell_toArray Kd.one) ?_
      have HS5:=yH (HS4.out.set HG3.out (b:=b8) (by simp) kd1.cells.toArray)
      have RB8_5:=yH (setRow_heap _ _ _ kd1.cells.toArray _ _ RB8_4.out)
      have RB9_5:=yH ((setRow_other x4 b8 b9 kd1.cells.toArray (by have:=HNE89.out;omega)).trans RB9_4.out)
      have hR5:=tr_there HS5.out HT3.out (fun e=>by have:=HNQ.out _ e;omega) (by have:=HG.out;omega)
      refine hK.out _ _ hR5 (fun hHeld=>?_)
      clear hK K
      try simp only [Act.put,yA,yB,yC]
      generalize x4.setRow b8 kd1.cells.toArray=x5 at *
      refine rY [18] ?_
      refine rC (fun K hK=>?_) AllReadyH.nil
      refine wp_store_row 34 (.tmp 9) (.tmp 35) (by rfl) b9 kd2.cells.toArray (by rfl) (by rfl) _ _ RB9_5.out (by rw [List.size_toArray,HCL2.out];exact SKd) (by simp only [List.size_toArray,HCL2.out,kd0_size]) (all_oneCell_toArray Kd.one) ?_
      have HS6:=yH (HS5.out.set HG3.out (b:=b9) (by simp) kd2.cells.toArray)
      have RB9_6:=yH (setRow_heap _ _ _ kd2.cells.toArray _ _ RB9_5.out)
      have RB8_6:=yH ((setRow_other x5 b9 b8 kd2.cells.toArray (by have:=HNE89.out;omega)).trans RB8_5.out)
      have hR6:=tr_there HS6.out HT3.out (fun e=>by have:=HNQ.out _ e;omega) (by have:=HG.out;omega)
      refine hK.out _ _ hR6 (fun hHeld=>?_)
      clear hK K
      try simp only [Act.put,yA,yB,yC]
      generalize x5.setRow b9 kd2.cells.toArray=x6 at *
      refine wpAnyH_done (by kernel_rfl) ?_ _
      go_wp2_with fail
      go_meet
      exact ⟨b8,b9,kd1,kd2,Q2,rfl,rfl,HS6.out.less (fun b hb=>by simp only [List.mem_cons,List.not_mem_nil,or_false] at hb ⊢;omega) (fun k hk=>by simp only [List.mem_cons,List.not_mem_nil,or_false] at hk ⊢;exact hk.symm),RB8_6.out,RB9_6.out,HPK1.out,HPK2.out⟩
     ·
      go_simp
      have ba:Below x2.heap.size x2 (x2.alloc (.cells kd0.cells.toArray 34)):=(Below.refl _ _).alloc (Nat.le_refl _) _
      have HS3:=yH (HS2.out.alloc HG3.out (.cells kd0.cells.toArray 34))
      have RB8_3:=yH (heap_alloc_new x2 (.cells kd0.cells.toArray 34))
      have RB9_3:=yH ((ba.block _ (yL RB9_2.out)).trans RB9_2.out)
      have SB:=yH (show True∧Seg (x2.alloc (.cells kd0.cells.toArray 34)) g (o+(m+1)) (M.drop (m+1)) from ⟨trivial,SA.out.2.later ba (HS2.out.glt HG3.out)⟩)
      have hR3:=range_later hHeld ba
      clear ba SA
      try go_wp2_with fail
      refine hK.out _ _ hR3 (fun hHeld=>?_)
      clear hK K
      try simp only [Act.put,yA,yB,yC]
      generalize x2.alloc (.cells kd0.cells.toArray 34)=x3 at *
      obtain ⟨b8,hb8⟩:∃b,x2.heap.size=b:=⟨_,rfl⟩
      rw [hb8] at HS3 RB8_3 ⊢
      have HNE89:=yH (show b8≠b9 from by have:=(HS2.out.box b9 (by simp)).2.1;omega)
      clear hb8
      have SA:=yH SB.out
      clear SB
      refine rY [14] ?_
      refine rC (fun K hK=>?_) AllReadyH.nil
      go_simp
      refine (HC2.out _ _ _ _ HS3.out SA.out.2).mono ?_
      rintro _ x4 ⟨kd2,Q2,rfl,hpk2,hok2,hfs2,haw2,hlr2⟩
      obtain ⟨hs4,hbx4⟩:=HS3.out.call HG3.out hlr2 ⟨by omega,by omega⟩ (Or.inl (by omega)) hok2 hfs2 haw2 (fun k hk r hr y hy hR=>by have h:=(HS3.out.kid k hk).2.2 r hr y hy hR;have:=HG3.out;omega)
      have RB8_4:=yH ((hbx4 b8 (by simp)).trans RB8_3.out)
      have RB9_4:=yH ((hbx4 b9 (by simp)).trans RB9_3.out)
      have HPK2:=yH hpk2
      have HCL2:=yH (Kd.cells_length hok2.len)
      have HS4:=yH hs4
      have hR4:=tr_there HS4.out HT3.out (fun e=>by have:=HNQ.out _ e;omega) (by have:=HG.out;omega)
      clear hs4 hbx4 hpk2 hok2 hfs2 haw2 hlr2
      try go_wp2_with fail
      refine hK.out _ _ hR4 (fun hHeld=>?_)
      clear hK K
      try simp only [Act.put,yA,yB,yC]
      refine rY [17] ?_
      refine rC (fun K hK=>?_) AllReadyH.nil
      refine wp_store_row 34 (.tmp 8) (.tmp 27) (by rfl) b8 kd1.cells.toArray (by rfl) (by rfl) _ _ RB8_4.out (by rw [List.size_toArray,HCL1.out];exact SKd) (by simp only [List.size_toArray,HCL1.out,kd0_size]) (all_oneCell_toArray Kd.one) ?_
      have HS5:=yH (HS4.out.set HG3.out (b:=b8) (by simp) kd1.cells.toArray)
      have RB8_5:=yH (setRow_heap _ _ _ kd1.cells.toArray _ _ RB8_4.out)
      have RB9_5:=yH ((setRow_other x4 b8 b9 kd1.cells.toArray (by have:=HNE89.out;omega)).trans RB9_4.out)
      have hR5:=tr_there HS5.out HT3.out (fun e=>by have:=HNQ.out _ e;omega) (by have:=HG.out;omega)
      refine hK.out _ _ hR5 (fun hHeld=>?_)
      clear hK K
      try simp only [Act.put,yA,yB,yC]
      generalize x4.setRow b8 kd1.cells.toArray=x5 at *
      refine rY [18] ?_
      refine rC (fun K hK=>?_) AllReadyH.nil
      refine wp_store_row 34 (.tmp 9) (.tmp 35) (by rfl) b9 kd2.cells.toArray (by rfl) (by rfl) _ _ RB9_5.out (by rw [List.size_toArray,HCL2.out];exact SKd) (by simp only [List.size_toArray,HCL2.out,kd0_size]) (all_oneCell_toArray Kd.one) ?_
      have HS6:=yH (HS5.out.set HG3.out (b:=b9) (by simp) kd2.cells.toArray)
      have RB9_6:=yH (setRow_heap _ _ _ kd2.cells.toArray _ _ RB9_5.out)
      have RB8_6:=yH ((setRow_other x5 b9 b8 kd2.cells.toArray (by have:=HNE89.out;omega)).trans RB8_5.out)
      have hR6:=tr_there HS6.out HT3.out (fun e=>by have:=HNQ.out _ e;omega) (by have:=HG.out;omega)
      refine hK.out _ _ hR6 (fun hHeld=>?_)
      clear hK K
      try simp only [Act.put,yA,yB,yC]
      generalize x5.setRow b9 kd2.cells.toArray=x6 at *
      refine wpAnyH_done (by kernel_rfl) ?_ _
      go_wp2_with fail
      go_meet
      exact ⟨b8,b9,kd1,kd2,Q2,rfl,rfl,HS6.out.less (fun b hb=>by simp only [List.mem_cons,List.not_mem_nil,or_false] at hb ⊢;omega) (fun k hk=>by simp only [List.mem_cons,List.not_mem_nil,or_false] at hk ⊢;exact hk.symm),RB8_6.out,RB9_6.out,HPK1.out,HPK2.out⟩
   ·
    go_simp
    have ba:Below x0.heap.size x0 (x0.alloc (.cells kd0.cells.toArray 34)):=(Below.refl _ _).alloc (Nat.le_refl _) _
    have HS1:=yH (HS0.out.alloc HG3.out (.cells kd0.cells.toArray 34))
    have RB8_1:=yH (heap_alloc_new x0 (.cells kd0.cells.toArray 34))
    have SB:=yH (show Seg (x0.alloc (.cells kd0.cells.toArray 34)) g o (M.take m)∧Seg (x0.alloc (.cells kd0.cells.toArray 34)) g (o+(m+1)) (M.drop (m+1)) from ⟨SA.out.1.later ba (HS0.out.glt HG3.out),SA.out.2.later ba (HS0.out.glt HG3.out)⟩)
    have hR1:=range_later hHeld ba
    clear ba SA
    try go_wp2_with fail
    refine hK.out _ _ hR1 (fun hHeld=>?_)
    clear hK K
    try simp only [Act.put,yA,yB,yC]
    generalize x0.alloc (.cells kd0.cells.toArray 34)=x1 at *
    obtain ⟨b8,hb8⟩:∃b,x0.heap.size=b:=⟨_,rfl⟩
    rw [hb8] at HS1 RB8_1 ⊢
    clear hb8
    have SA:=yH SB.out
    clear SB
    refine rY [6,16] ?_
    refine rC (fun K hK=>?_) (rC (fun K hK=>?_) AllReadyH.nil)
    ·
     go_simp
     refine (HC1.out _ _ _ HS1.out SA.out.1).mono ?_
     rintro _ x2 ⟨kd1,Q1,rfl,hpk1,hok1,hfs1,haw1,hlr1⟩
     obtain ⟨hs2,hbx2⟩:=HS1.out.call HG3.out hlr1 ⟨Nat.le_refl _,by omega⟩ (Or.inr (Nat.le_refl _)) hok1 hfs1 haw1 (fun k hk=>by cases hk)
     have RB8_2:=yH ((hbx2 b8 (by simp)).trans RB8_1.out)
     have SB:=yH (show Seg x2 g (o+(m+1)) (M.drop (m+1)) from fun j hj=>⟨(hlr1.cell _ (Or.inr (by omega))).trans (SA.out.2 j hj).1,(hlr1.frozen _).trans (SA.out.2 j hj).2⟩)
     have HPK1:=yH hpk1
     have HCL1:=yH (Kd.cells_length hok1.len)
     have HS2:=yH hs2
     have hR2:=tr_there HS2.out HT3.out (fun e=>by have:=HNQ.out _ e;omega) (by have:=HG.out;omega)
     clear hs2 hbx2 hpk1 hok1 hfs1 haw1 hlr1 SA
     try go_wp2_with fail
     refine hK.out _ _ hR2 (fun hHeld=>?_)
     clear hK K
     try simp only [Act.put,yA,yB,yC]
     have SA:=yH (show True∧Seg x2 g (o+(m+1)) (M.drop (m+1)) from ⟨trivial,SB.out⟩)
     clear SB
     refine rY [14,16] ?_
     refine rC (fun K hK=>?_) (rC (fun K hK=>?_) AllReadyH.nil)
     ·
      go_simp
      refine (HC2.out _ _ _ _ HS2.out SA.out.2).mono ?_
      rintro _ x3 ⟨kd2,Q2,rfl,hpk2,hok2,hfs2,haw2,hlr2⟩
      obtain ⟨hs3,hbx3⟩:=HS2.out.call HG3.out hlr2 ⟨by omega,by omega⟩ (Or.inl (by omega)) hok2 hfs2 haw2 (fun k hk r hr y hy hR=>by have h:=(HS2.out.kid k hk).2.2 r hr y hy hR;have:=HG3.out;omega)
      have RB8_3:=yH ((hbx3 b8 (by simp)).trans RB8_2.out)
      have HPK2:=yH hpk2
      have HCL2:=yH (Kd.cells_length hok2.len)
      have HS3:=yH hs3
      have hR3:=tr_there HS3.out HT3.out (fun e=>by have:=HNQ.out _ e;omega) (by have:=HG.out;omega)
      clear hs3 hbx3 hpk2 hok2 hfs2 haw2 hlr2
      try go_wp2_with fail
      refine hK.out _ _ hR3 (fun hHeld=>?_)
      clear hK K
      try simp only [Act.put,yA,yB,yC]
      refine rY [16] ?_
      refine rC (fun K hK=>?_) AllReadyH.nil
      go_simp
      have ba:Below x3.heap.size x3 (x3.alloc (.cells kd0.cells.toArray 34)):=(Below.refl _ _).alloc (Nat.le_refl _) _
      have HS4:=yH (HS3.out.alloc HG3.out (.cells kd0.cells.toArray 34))
      have RB9_4:=yH (heap_alloc_new x3 (.cells kd0.cells.toArray 34))
      have RB8_4:=yH ((ba.block _ (yL RB8_3.out)).trans RB8_3.out)
      have hR4:=range_later hHeld ba
      clear ba
      try go_wp2_with fail
      refine hK.out _ _ hR4 (fun hHeld=>?_)
      clear hK K
      try simp only [Act.put,yA,yB,yC]
      generalize x3.alloc (.cells kd0.cells.toArray 34)=x4 at *
      obtain ⟨b9,hb9⟩:∃b,x3.heap.size=b:=⟨_,rfl⟩
      rw [hb9] at HS4 RB9_4 ⊢
      have HNE89:=yH (show b8≠b9 from by have:=(HS3.out.box b8 (by simp)).2.1;omega)
      clear hb9
      refine rY [17] ?_
      refine rC (fun K hK=>?_) AllReadyH.nil
      refine wp_store_row 34 (.tmp 8) (.tmp 27) (by rfl) b8 kd1.cells.toArray (by rfl) (by rfl) _ _ RB8_4.out (by rw [List.size_toArray,HCL1.out];exact SKd) (by simp only [List.size_toArray,HCL1.out,kd0_size]) (all_oneCell_toArray Kd.one) ?_
      have HS5:=yH (HS4.out.set HG3.out (b:=b8) (by simp) kd1.cells.toArray)
      have RB8_5:=yH (setRow_heap _ _ _ kd1.cells.toArray _ _ RB8_4.out)
      have RB9_5:=yH ((setRow_other x4 b8 b9 kd1.cells.toArray (by have:=HNE89.out;omega)).trans RB9_4.out)
      have hR5:=tr_there HS5.out HT3.out (fun e=>by have:=HNQ.out _ e;omega) (by have:=HG.out;omega)
      refine hK.out _ _ hR5 (fun hHeld=>?_)
      clear hK K
      try simp only [Act.put,yA,yB,yC]
      generalize x4.setRow b8 kd1.cells.toArray=x5 at *
      refine rY [18] ?_
      refine rC (fun K hK=>?_) AllReadyH.nil
      refine wp_store_row 34 (.tmp 9) (.tmp 35) (by rfl) b9 kd2.cells.toArray (by rfl) (by rfl) _ _ RB9_5.out (by rw [List.size_toArray,HCL2.out];exact SKd) (by simp only [List.size_toArray,HCL2.out,kd0_size]) (all_oneCell_toArray Kd.one) ?_
      have HS6:=yH (HS5.out.set HG3.out (b:=b9) (by simp) kd2.cells.toArray)
      have RB9_6:=yH (setRow_heap _ _ _ kd2.cells.toArray _ _ RB9_5.out)
      have RB8_6:=yH ((setRow_other x5 b9 b8 kd2.cells.toArray (by have:=HNE89.out;omega)).trans RB8_5.out)
      have hR6:=tr_there HS6.out HT3.out (fun e=>by have:=HNQ.out _ e;omega) (by have:=HG.out;omega)
      refine hK.out _ _ hR6 (fun hHeld=>?_)
      clear hK K
      try simp only [Act.put,yA,yB,yC]
      generalize x5.setRow b9 kd2.cells.toArray=x6 at *
      refine wpAnyH_done (by kernel_rfl) ?_ _
      go_wp2_with fail
      go_meet
      exact ⟨b8,b9,kd1,kd2,Q2,rfl,rfl,HS6.out.less (fun b hb=>by simp only [List.mem_cons,List.not_mem_nil,or_false] at hb ⊢;omega) (fun k hk=>by simp only [List.mem_cons,List.not_mem_nil,or_false] at hk ⊢;exact hk.symm),RB8_6.out,RB9_6.out,HPK1.out,HPK2.out⟩
     ·
      go_simp
      have ba:Below x2.heap.size x2 (x2.alloc (.cells kd0.cells.toArray 34)):=(Below.refl _ _).alloc (Nat.le_refl _) _
      have HS3:=yH (HS2.out.alloc HG3.out (.cells kd0.cells.toArray 34))
      have RB9_3:=yH (heap_alloc_new x2 (.cells kd0.cells.toArray 34))
      have RB8_3:=yH ((ba.block _ (yL RB8_2.out)).trans RB8_2.out)
      have SB:=yH (show True∧Seg (x2.alloc (.cells kd0.cells.toArray 34)) g (o+(m+1)) (M.drop (m+1)) from ⟨trivial,SA.out.2.later ba (HS2.out.glt HG3.out)⟩)
      have hR3:=range_later hHeld ba
      clear ba SA
      try go_wp2_with fail
      refine hK.out _ _ hR3 (fun hHeld=>?_)
      clear hK K
      try simp only [Act.put,yA,yB,yC]
      generalize x2.alloc (.cells kd0.cells.toArray 34)=x3 at *
      obtain ⟨b9,hb9⟩:∃b,x2.heap.size=b:=⟨_,rfl⟩
      rw [hb9] at HS3 RB9_3 ⊢
      have HNE89:=yH (show b8≠b9 from by have:=(HS2.out.box b8 (by simp)).2.1;omega)
      clear hb9
      have SA:=yH SB.out
      clear SB
      refine rY [14] ?_
      refine rC (fun K hK=>?_) AllReadyH.nil
      go_simp
      refine (HC2.out _ _ _ _ HS3.out SA.out.2).mono ?_
      rintro _ x4 ⟨kd2,Q2,rfl,hpk2,hok2,hfs2,haw2,hlr2⟩
      obtain ⟨hs4,hbx4⟩:=HS3.out.call HG3.out hlr2 ⟨by omega,by omega⟩ (Or.inl (by omega)) hok2 hfs2 haw2 (fun k hk r hr y hy hR=>by have h:=(HS3.out.kid k hk).2.2 r hr y hy hR;have:=HG3.out;omega)
      have RB9_4:=yH ((hbx4 b9 (by simp)).trans RB9_3.out)
      have RB8_4:=yH ((hbx4 b8 (by simp)).trans RB8_3.out)
      have HPK2:=yH hpk2
      have HCL2:=yH (Kd.cells_length hok2.len)
      have HS4:=yH hs4
      have hR4:=tr_there HS4.out HT3.out (fun e=>by have:=HNQ.out _ e;omega) (by have:=HG.out;omega)
      clear hs4 hbx4 hpk2 hok2 hfs2 haw2 hlr2
      try go_wp2_with fail
      refine hK.out _ _ hR4 (fun hHeld=>?_)
      clear hK K
      try simp only [Act.put,yA,yB,yC]
      refine rY [17] ?_
      refine rC (fun K hK=>?_) AllReadyH.nil
      refine wp_store_row 34 (.tmp 8) (.tmp 27) (by rfl) b8 kd1.cells.toArray (by rfl) (by rfl) _ _ RB8_4.out (by rw [List.size_toArray,HCL1.out];exact SKd) (by simp only [List.size_toArray,HCL1.out,kd0_size]) (all_oneCell_toArray Kd.one) ?_
      have HS5:=yH (HS4.out.set HG3.out (b:=b8) (by simp) kd1.cells.toArray)
      have RB8_5:=yH (setRow_heap _ _ _ kd1.cells.toArray _ _ RB8_4.out)
      have RB9_5:=yH ((setRow_other x4 b8 b9 kd1.cells.toArray (by have:=HNE89.out;omega)).trans RB9_4.out)
      have hR5:=tr_there HS5.out HT3.out (fun e=>by have:=HNQ.out _ e;omega) (by have:=HG.out;omega)
      refine hK.out _ _ hR5 (fun hHeld=>?_)
      clear hK K
      try simp only [Act.put,yA,yB,yC]
      generalize x4.setRow b8 kd1.cells.toArray=x5 at *
      refine rY [18] ?_
      refine rC (fun K hK=>?_) AllReadyH.nil
      refine wp_store_row 34 (.tmp 9) (.tmp 35) (by rfl) b9 kd2.cells.toArray (by rfl) (by rfl) _ _ RB9_5.out (by rw [List.size_toArray,HCL2.out];exact SKd) (by simp only [List.size_toArray,HCL2.out,kd0_size]) (all_oneCell_toArray Kd.one) ?_
      have HS6:=yH (HS5.out.set HG3.out (b:=b9) (by simp) kd2.cells.toArray)
      have RB9_6:=yH (setRow_heap _ _ _ kd2.cells.toArray _ _ RB9_5.out)
      have RB8_6:=yH ((setRow_other x5 b9 b8 kd2.cells.toArray (by have:=HNE89.out;omega)).trans RB8_5.out)
      have hR6:=tr_there HS6.out HT3.out (fun e=>by have:=HNQ.out _ e;omega) (by have:=HG.out;omega)
      refine hK.out _ _ hR6 (fun hHeld=>?_)
      clear hK K
      try simp only [Act.put,yA,yB,yC]
      generalize x5.setRow b9 kd2.cells.toArray=x6 at *
      refine wpAnyH_done (by kernel_rfl) ?_ _
      go_wp2_with fail
      go_meet
      exact ⟨b8,b9,kd1,kd2,Q2,rfl,rfl,HS6.out.less (fun b hb=>by simp only [List.mem_cons,List.not_mem_nil,or_false] at hb ⊢;omega) (fun k hk=>by simp only [List.mem_cons,List.not_mem_nil,or_false] at hk ⊢;exact hk.symm),RB8_6.out,RB9_6.out,HPK1.out,HPK2.out⟩
    ·
     go_simp
     have ba:Below x1.heap.size x1 (x1.alloc (.cells kd0.cells.toArray 34)):=(Below.refl _ _).alloc (Nat.le_refl _) _
     have HS2:=yH (HS1.out.alloc HG3.out (.cells kd0.cells.toArray 34))
     have RB9_2:=yH (heap_alloc_new x1 (.cells kd0.cells.toArray 34))
     have RB8_2:=yH ((ba.block _ (yL RB8_1.out)).trans RB8_1.out)
     have SB:=yH (show Seg (x1.alloc (.cells kd0.cells.toArray 34)) g o (M.take m)∧Seg (x1.alloc (.cells kd0.cells.toArray 34)) g (o+(m+1)) (M.drop (m+1)) from ⟨SA.out.1.later ba (HS1.out.glt HG3.out),SA.out.2.later ba (HS1.out.glt HG3.out)⟩)
     have hR2:=range_later hHeld ba
     clear ba SA
     try go_wp2_with fail
     refine hK.out _ _ hR2 (fun hHeld=>?_)
     clear hK K
     try simp only [Act.put,yA,yB,yC]
     generalize x1.alloc (.cells kd0.cells.toArray 34)=x2 at *
     obtain ⟨b9,hb9⟩:∃b,x1.heap.size=b:=⟨_,rfl⟩
     rw [hb9] at HS2 RB9_2 ⊢
     have HNE89:=yH (show b8≠b9 from by have:=(HS1.out.box b8 (by simp)).2.1;omega)
     clear hb9
     have SA:=yH SB.out
     clear SB
     refine rY [6] ?_
     refine rC (fun K hK=>?_) AllReadyH.nil
     go_simp
     refine (HC1.out _ _ _ HS2.out SA.out.1).mono ?_
     rintro _ x3 ⟨kd1,Q1,rfl,hpk1,hok1,hfs1,haw1,hlr1⟩
     obtain ⟨hs3,hbx3⟩:=HS2.out.call HG3.out hlr1 ⟨Nat.le_refl _,by omega⟩ (Or.inr (Nat.le_refl _)) hok1 hfs1 haw1 (fun k hk=>by cases hk)
     have RB9_3:=yH ((hbx3 b9 (by simp)).trans RB9_2.out)
     have RB8_3:=yH ((hbx3 b8 (by simp)).trans RB8_2.out)
     have SB:=yH (show Seg x3 g (o+(m+1)) (M.drop (m+1)) from fun j hj=>⟨(hlr1.cell _ (Or.inr (by omega))).trans (SA.out.2 j hj).1,(hlr1.frozen _).trans (SA.out.2 j hj).2⟩)
     have HPK1:=yH hpk1
     have HCL1:=yH (Kd.cells_length hok1.len)
     have HS3:=yH hs3
     have hR3:=tr_there HS3.out HT3.out (fun e=>by have:=HNQ.out _ e;omega) (by have:=HG.out;omega)
     clear hs3 hbx3 hpk1 hok1 hfs1 haw1 hlr1 SA
     try go_wp2_with fail
     refine hK.out _ _ hR3 (fun hHeld=>?_)
     clear hK K
     try simp only [Act.put,yA,yB,yC]
     have SA:=yH (show True∧Seg x3 g (o+(m+1)) (M.drop (m+1)) from ⟨trivial,SB.out⟩)
     clear SB
     refine rY [14] ?_
     refine rC (fun K hK=>?_) AllReadyH.nil
     go_simp
     refine (HC2.out _ _ _ _ HS3.out SA.out.2).mono ?_
     rintro _ x4 ⟨kd2,Q2,rfl,hpk2,hok2,hfs2,haw2,hlr2⟩
     obtain ⟨hs4,hbx4⟩:=HS3.out.call HG3.out hlr2 ⟨by omega,by omega⟩ (Or.inl (by omega)) hok2 hfs2 haw2 (fun k hk r hr y hy hR=>by have h:=(HS3.out.kid k hk).2.2 r hr y hy hR;have:=HG3.out;omega)
     have RB9_4:=yH ((hbx4 b9 (by simp)).trans RB9_3.out)
     have RB8_4:=yH ((hbx4 b8 (by simp)).trans RB8_3.out)
     have HPK2:=yH hpk2
     have HCL2:=yH (Kd.cells_length hok2.len)
     have HS4:=yH hs4
     have hR4:=tr_there HS4.out HT3.out (fun e=>by have:=HNQ.out _ e;omega) (by have:=HG.out;omega)
     clear hs4 hbx4 hpk2 hok2 hfs2 haw2 hlr2
     try go_wp2_with fail
     refine hK.out _ _ hR4 (fun hHeld=>?_)
     clear hK K
     try simp only [Act.put,yA,yB,yC]
     refine rY [17] ?_
     refine rC (fun K hK=>?_) AllReadyH.nil
     refine wp_store_row 34 (.tmp 8) (.tmp 27) (by rfl) b8 kd1.cells.toArray (by rfl) (by rfl) _ _ RB8_4.out (by rw [List.size_toArray,HCL1.out];exact SKd) (by simp only [List.size_toArray,HCL1.out,kd0_size]) (all_oneCell_toArray Kd.one) ?_
     have HS5:=yH (HS4.out.set HG3.out (b:=b8) (by simp) kd1.cells.toArray)
     have RB8_5:=yH (setRow_heap _ _ _ kd1.cells.toArray _ _ RB8_4.out)
     have RB9_5:=yH ((setRow_other x4 b8 b9 kd1.cells.toArray (by have:=HNE89.out;omega)).trans RB9_4.out)
     have hR5:=tr_there HS5.out HT3.out (fun e=>by have:=HNQ.out _ e;omega) (by have:=HG.out;omega)
     refine hK.out _ _ hR5 (fun hHeld=>?_)
     clear hK K
     try simp only [Act.put,yA,yB,yC]
     generalize x4.setRow b8 kd1.cells.toArray=x5 at *
     refine rY [18] ?_
     refine rC (fun K hK=>?_) AllReadyH.nil
     refine wp_store_row 34 (.tmp 9) (.tmp 35) (by rfl) b9 kd2.cells.toArray (by rfl) (by rfl) _ _ RB9_5.out (by rw [List.size_toArray,HCL2.out];exact SKd) (by simp only [List.size_toArray,HCL2.out,kd0_size]) (all_oneCell_toArray Kd.one) ?_
     have HS6:=yH (HS5.out.set HG3.out (b:=b9) (by simp) kd2.cells.toArray)
     have RB9_6:=yH (setRow_heap _ _ _ kd2.cells.toArray _ _ RB9_5.out)
     have RB8_6:=yH ((setRow_other x5 b9 b8 kd2.cells.toArray (by have:=HNE89.out;omega)).trans RB8_5.out)
     have hR6:=tr_there HS6.out HT3.out (fun e=>by have:=HNQ.out _ e;omega) (by have:=HG.out;omega)
     refine hK.out _ _ hR6 (fun hHeld=>?_)
     clear hK K
     try simp only [Act.put,yA,yB,yC]
     generalize x5.setRow b9 kd2.cells.toArray=x6 at *
     refine wpAnyH_done (by kernel_rfl) ?_ _
     go_wp2_with fail
     go_meet
     exact ⟨b8,b9,kd1,kd2,Q2,rfl,rfl,HS6.out.less (fun b hb=>by simp only [List.mem_cons,List.not_mem_nil,or_false] at hb ⊢;omega) (fun k hk=>by simp only [List.mem_cons,List.not_mem_nil,or_false] at hk ⊢;exact hk.symm),RB8_6.out,RB9_6.out,HPK1.out,HPK2.out⟩
   ·
    go_simp
    have ba:Below x0.heap.size x0 (x0.alloc (.cells kd0.cells.toArray 34)):=(Below.refl _ _).alloc (Nat.le_refl _) _
    have HS1:=yH (HS0.out.alloc HG3.out (.cells kd0.cells.toArray 34))
    have RB9_1:=yH (heap_alloc_new x0 (.cells kd0.cells.toArray 34))
    have SB:=yH (show Seg (x0.alloc (.cells kd0.cells.toArray 34)) g o (M.take m)∧Seg (x0.alloc (.cells kd0.cells.toArray 34)) g (o+(m+1)) (M.drop (m+1)) from ⟨SA.out.1.later ba (HS0.out.glt HG3.out),SA.out.2.later ba (HS0.out.glt HG3.out)⟩)
    have hR1:=range_later hHeld ba
    clear ba SA
    try go_wp2_with fail
    refine hK.out _ _ hR1 (fun hHeld=>?_)
    clear hK K
    try simp only [Act.put,yA,yB,yC]
    generalize x0.alloc (.cells kd0.cells.toArray 34)=x1 at *
    obtain ⟨b9,hb9⟩:∃b,x0.heap.size=b:=⟨_,rfl⟩
    rw [hb9] at HS1 RB9_1 ⊢
    clear hb9
    have SA:=yH SB.out
    clear SB
    refine rY [6,15] ?_
    refine rC (fun K hK=>?_) (rC (fun K hK=>?_) AllReadyH.nil)
    ·
     go_simp
     refine (HC1.out _ _ _ HS1.out SA.out.1).mono ?_
     rintro _ x2 ⟨kd1,Q1,rfl,hpk1,hok1,hfs1,haw1,hlr1⟩
     obtain ⟨hs2,hbx2⟩:=HS1.out.call HG3.out hlr1 ⟨Nat.le_refl _,by omega⟩ (Or.inr (Nat.le_refl _)) hok1 hfs1 haw1 (fun k hk=>by cases hk)
     have RB9_2:=yH ((hbx2 b9 (by simp)).trans RB9_1.out)
     have SB:=yH (show Seg x2 g (o+(m+1)) (M.drop (m+1)) from fun j hj=>⟨(hlr1.cell _ (Or.inr (by omega))).trans (SA.out.2 j hj).1,(hlr1.frozen _).trans (SA.out.2 j hj).2⟩)
     have HPK1:=yH hpk1
     have HCL1:=yH (Kd.cells_length hok1.len)
     have HS2:=yH hs2
     have hR2:=tr_there HS2.out HT3.out (fun e=>by have:=HNQ.out _ e;omega) (by have:=HG.out;omega)
     clear hs2 hbx2 hpk1 hok1 hfs1 haw1 hlr1 SA
     try go_wp2_with fail
     refine hK.out _ _ hR2 (fun hHeld=>?_)
     clear hK K
     try simp only [Act.put,yA,yB,yC]
     have SA:=yH (show True∧Seg x2 g (o+(m+1)) (M.drop (m+1)) from ⟨trivial,SB.out⟩)
     clear SB
     refine rY [14,15] ?_
     refine rC (fun K hK=>?_) (rC (fun K hK=>?_) AllReadyH.nil)
     ·
      go_simp
      refine (HC2.out _ _ _ _ HS2.out SA.out.2).mono ?_
      rintro _ x3 ⟨kd2,Q2,rfl,hpk2,hok2,hfs2,haw2,hlr2⟩
      obtain ⟨hs3,hbx3⟩:=HS2.out.call HG3.out hlr2 ⟨by omega,by omega⟩ (Or.inl (by omega)) hok2 hfs2 haw2 (fun k hk r hr y hy hR=>by have h:=(HS2.out.kid k hk).2.2 r hr y hy hR;have:=HG3.out;omega)
      have RB9_3:=yH ((hbx3 b9 (by simp)).trans RB9_2.out)
      have HPK2:=yH hpk2
      have HCL2:=yH (Kd.cells_length hok2.len)
      have HS3:=yH hs3
      have hR3:=tr_there HS3.out HT3.out (fun e=>by have:=HNQ.out _ e;omega) (by have:=HG.out;omega)
      clear hs3 hbx3 hpk2 hok2 hfs2 haw2 hlr2
      try go_wp2_with fail
      refine hK.out _ _ hR3 (fun hHeld=>?_)
      clear hK K
      try simp only [Act.put,yA,yB,yC]
      refine rY [15] ?_
      refine rC (fun K hK=>?_) AllReadyH.nil
      go_simp
      have ba:Below x3.heap.size x3 (x3.alloc (.cells kd0.cells.toArray 34)):=(Below.refl _ _).alloc (Nat.le_refl _) _
      have HS4:=yH (HS3.out.alloc HG3.out (.cells kd0.cells.toArray 34))
      have RB8_4:=yH (heap_alloc_new x3 (.cells kd0.cells.toArray 34))
      have RB9_4:=yH ((ba.block _ (yL RB9_3.out)).trans RB9_3.out)
      have hR4:=range_later hHeld ba
      clear ba
      try go_wp2_with fail
      refine hK.out _ _ hR4 (fun hHeld=>?_)
      clear hK K
      try simp only [Act.put,yA,yB,yC]
      generalize x3.alloc (.cells kd0.cells.toArray 34)=x4 at *
      obtain ⟨b8,hb8⟩:∃b,x3.heap.size=b:=⟨_,rfl⟩
      rw [hb8] at HS4 RB8_4 ⊢
      have HNE89:=yH (show b8≠b9 from by have:=(HS3.out.box b9 (by simp)).2.1;omega)
      clear hb8
      refine rY [17] ?_
      refine rC (fun K hK=>?_) AllReadyH.nil
      refine wp_store_row 34 (.tmp 8) (.tmp 27) (by rfl) b8 kd1.cells.toArray (by rfl) (by rfl) _ _ RB8_4.out (by rw [List.size_toArray,HCL1.out];exact SKd) (by simp only [List.size_toArray,HCL1.out,kd0_size]) (all_oneCell_toArray Kd.one) ?_
      have HS5:=yH (HS4.out.set HG3.out (b:=b8) (by simp) kd1.cells.toArray)
      have RB8_5:=yH (setRow_heap _ _ _ kd1.cells.toArray _ _ RB8_4.out)
      have RB9_5:=yH ((setRow_other x4 b8 b9 kd1.cells.toArray (by have:=HNE89.out;omega)).trans RB9_4.out)
      have hR5:=tr_there HS5.out HT3.out (fun e=>by have:=HNQ.out _ e;omega) (by have:=HG.out;omega)
      refine hK.out _ _ hR5 (fun hHeld=>?_)
      clear hK K
      try simp only [Act.put,yA,yB,yC]
      generalize x4.setRow b8 kd1.cells.toArray=x5 at *
      refine rY [18] ?_
      refine rC (fun K hK=>?_) AllReadyH.nil
      refine wp_store_row 34 (.tmp 9) (.tmp 35) (by rfl) b9 kd2.cells.toArray (by rfl) (by rfl) _ _ RB9_5.out (by rw [List.size_toArray,HCL2.out];exact SKd) (by simp only [List.size_toArray,HCL2.out,kd0_size]) (all_oneCell_toArray Kd.one) ?_
      have HS6:=yH (HS5.out.set HG3.out (b:=b9) (by simp) kd2.cells.toArray)
      have RB9_6:=yH (setRow_heap _ _ _ kd2.cells.toArray _ _ RB9_5.out)
      have RB8_6:=yH ((setRow_other x5 b9 b8 kd2.cells.toArray (by have:=HNE89.out;omega)).trans RB8_5.out)
      have hR6:=tr_there HS6.out HT3.out (fun e=>by have:=HNQ.out _ e;omega) (by have:=HG.out;omega)
      refine hK.out _ _ hR6 (fun hHeld=>?_)
      clear hK K
      try simp only [Act.put,yA,yB,yC]
      generalize x5.setRow b9 kd2.cells.toArray=x6 at *
      refine wpAnyH_done (by kernel_rfl) ?_ _
      go_wp2_with fail
      go_meet
      exact ⟨b8,b9,kd1,kd2,Q2,rfl,rfl,HS6.out.less (fun b hb=>by simp only [List.mem_cons,List.not_mem_nil,or_false] at hb ⊢;omega) (fun k hk=>by simp only [List.mem_cons,List.not_mem_nil,or_false] at hk ⊢;exact hk.symm),RB8_6.out,RB9_6.out,HPK1.out,HPK2.out⟩
     ·
      go_simp
      have ba:Below x2.heap.size x2 (x2.alloc (.cells kd0.cells.toArray 34)):=(Below.refl _ _).alloc (Nat.le_refl _) _
      have HS3:=yH (HS2.out.alloc HG3.out (.cells kd0.cells.toArray 34))
      have RB8_3:=yH (heap_alloc_new x2 (.cells kd0.cells.toArray 34))
      have RB9_3:=yH ((ba.block _ (yL RB9_2.out)).trans RB9_2.out)
      have SB:=yH (show True∧Seg (x2.alloc (.cells kd0.cells.toArray 34)) g (o+(m+1)) (M.drop (m+1)) from ⟨trivial,SA.out.2.later ba (HS2.out.glt HG3.out)⟩)
      have hR3:=range_later hHeld ba
      clear ba SA
      try go_wp2_with fail
      refine hK.out _ _ hR3 (fun hHeld=>?_)
      clear hK K
      try simp only [Act.put,yA,yB,yC]
      generalize x2.alloc (.cells kd0.cells.toArray 34)=x3 at *
      obtain ⟨b8,hb8⟩:∃b,x2.heap.size=b:=⟨_,rfl⟩
      rw [hb8] at HS3 RB8_3 ⊢
      have HNE89:=yH (show b8≠b9 from by have:=(HS2.out.box b9 (by simp)).2.1;omega)
      clear hb8
      have SA:=yH SB.out
      clear SB
      refine rY [14] ?_
      refine rC (fun K hK=>?_) AllReadyH.nil
      go_simp
      refine (HC2.out _ _ _ _ HS3.out SA.out.2).mono ?_
      rintro _ x4 ⟨kd2,Q2,rfl,hpk2,hok2,hfs2,haw2,hlr2⟩
      obtain ⟨hs4,hbx4⟩:=HS3.out.call HG3.out hlr2 ⟨by omega,by omega⟩ (Or.inl (by omega)) hok2 hfs2 haw2 (fun k hk r hr y hy hR=>by have h:=(HS3.out.kid k hk).2.2 r hr y hy hR;have:=HG3.out;omega)
      have RB8_4:=yH ((hbx4 b8 (by simp)).trans RB8_3.out)
      have RB9_4:=yH ((hbx4 b9 (by simp)).trans RB9_3.out)
      have HPK2:=yH hpk2
      have HCL2:=yH (Kd.cells_length hok2.len)
      have HS4:=yH hs4
      have hR4:=tr_there HS4.out HT3.out (fun e=>by have:=HNQ.out _ e;omega) (by have:=HG.out;omega)
      clear hs4 hbx4 hpk2 hok2 hfs2 haw2 hlr2
      try go_wp2_with fail
      refine hK.out _ _ hR4 (fun hHeld=>?_)
      clear hK K
      try simp only [Act.put,yA,yB,yC]
      refine rY [17] ?_
      refine rC (fun K hK=>?_) AllReadyH.nil
      refine wp_store_row 34 (.tmp 8) (.tmp 27) (by rfl) b8 kd1.cells.toArray (by rfl) (by rfl) _ _ RB8_4.out (by rw [List.size_toArray,HCL1.out];exact SKd) (by simp only [List.size_toArray,HCL1.out,kd0_size]) (all_oneCell_toArray Kd.one) ?_
      have HS5:=yH (HS4.out.set HG3.out (b:=b8) (by simp) kd1.cells.toArray)
      have RB8_5:=yH (setRow_heap _ _ _ kd1.cells.toArray _ _ RB8_4.out)
      have RB9_5:=yH ((setRow_other x4 b8 b9 kd1.cells.toArray (by have:=HNE89.out;omega)).trans RB9_4.out)
      have hR5:=tr_there HS5.out HT3.out (fun e=>by have:=HNQ.out _ e;omega) (by have:=HG.out;omega)
      refine hK.out _ _ hR5 (fun hHeld=>?_)
      clear hK K
      try simp only [Act.put,yA,yB,yC]
      generalize x4.setRow b8 kd1.cells.toArray=x5 at *
      refine rY [18] ?_
      refine rC (fun K hK=>?_) AllReadyH.nil
      refine wp_store_row 34 (.tmp 9) (.tmp 35) (by rfl) b9 kd2.cells.toArray (by rfl) (by rfl) _ _ RB9_5.out (by rw [List.size_toArray,HCL2.out];exact SKd) (by simp only [List.size_toArray,HCL2.out,kd0_size]) (all_oneCell_toArray Kd.one) ?_
      have HS6:=yH (HS5.out.set HG3.out (b:=b9) (by simp) kd2.cells.toArray)
      have RB9_6:=yH (setRow_heap _ _ _ kd2.cells.toArray _ _ RB9_5.out)
      have RB8_6:=yH ((setRow_other x5 b9 b8 kd2.cells.toArray (by have:=HNE89.out;omega)).trans RB8_5.out)
      have hR6:=tr_there HS6.out HT3.out (fun e=>by have:=HNQ.out _ e;omega) (by have:=HG.out;omega)
      refine hK.out _ _ hR6 (fun hHeld=>?_)
      clear hK K
      try simp only [Act.put,yA,yB,yC]
      generalize x5.setRow b9 kd2.cells.toArray=x6 at *
      refine wpAnyH_done (by kernel_rfl) ?_ _
      go_wp2_with fail
      go_meet
      exact ⟨b8,b9,kd1,kd2,Q2,rfl,rfl,HS6.out.less (fun b hb=>by simp only [List.mem_cons,List.not_mem_nil,or_false] at hb ⊢;omega) (fun k hk=>by simp only [List.mem_cons,List.not_mem_nil,or_false] at hk ⊢;exact hk.symm),RB8_6.out,RB9_6.out,HPK1.out,HPK2.out⟩
    ·
     go_simp
     have ba:Below x1.heap.size x1 (x1.alloc (.cells kd0.cells.toArray 34)):=(Below.refl _ _).alloc (Nat.le_refl _) _
     have HS2:=yH (HS1.out.alloc HG3.out (.cells kd0.cells.toArray 34))
     have RB8_2:=yH (heap_alloc_new x1 (.cells kd0.cells.toArray 34))
     have RB9_2:=yH ((ba.block _ (yL RB9_1.out)).trans RB9_1.out)
     have SB:=yH (show Seg (x1.alloc (.cells kd0.cells.toArray 34)) g o (M.take m)∧Seg (x1.alloc (.cells kd0.cells.toArray 34)) g (o+(m+1)) (M.drop (m+1)) from ⟨SA.out.1.later ba (HS1.out.glt HG3.out),SA.out.2.later ba (HS1.out.glt HG3.out)⟩)
     have hR2:=range_later hHeld ba
     clear ba SA
     try go_wp2_with fail
     refine hK.out _ _ hR2 (fun hHeld=>?_)
     clear hK K
     try simp only [Act.put,yA,yB,yC]
     generalize x1.alloc (.cells kd0.cells.toArray 34)=x2 at *
     obtain ⟨b8,hb8⟩:∃b,x1.heap.size=b:=⟨_,rfl⟩
     rw [hb8] at HS2 RB8_2 ⊢
     have HNE89:=yH (show b8≠b9 from by have:=(HS1.out.box b9 (by simp)).2.1;omega)
     clear hb8
     have SA:=yH SB.out
     clear SB
     refine rY [6] ?_
     refine rC (fun K hK=>?_) AllReadyH.nil
     go_simp
     refine (HC1.out _ _ _ HS2.out SA.out.1).mono ?_
     rintro _ x3 ⟨kd1,Q1,rfl,hpk1,hok1,hfs1,haw1,hlr1⟩
     obtain ⟨hs3,hbx3⟩:=HS2.out.call HG3.out hlr1 ⟨Nat.le_refl _,by omega⟩ (Or.inr (Nat.le_refl _)) hok1 hfs1 haw1 (fun k hk=>by cases hk)
     have RB8_3:=yH ((hbx3 b8 (by simp)).trans RB8_2.out)
     have RB9_3:=yH ((hbx3 b9 (by simp)).trans RB9_2.out)
     have SB:=yH (show Seg x3 g (o+(m+1)) (M.drop (m+1)) from fun j hj=>⟨(hlr1.cell _ (Or.inr (by omega))).trans (SA.out.2 j hj).1,(hlr1.frozen _).trans (SA.out.2 j hj).2⟩)
     have HPK1:=yH hpk1
     have HCL1:=yH (Kd.cells_length hok1.len)
     have HS3:=yH hs3
     have hR3:=tr_there HS3.out HT3.out (fun e=>by have:=HNQ.out _ e;omega) (by have:=HG.out;omega)
     clear hs3 hbx3 hpk1 hok1 hfs1 haw1 hlr1 SA
     try go_wp2_with fail
     refine hK.out _ _ hR3 (fun hHeld=>?_)
     clear hK K
     try simp only [Act.put,yA,yB,yC]
     have SA:=yH (show True∧Seg x3 g (o+(m+1)) (M.drop (m+1)) from ⟨trivial,SB.out⟩)
     clear SB
     refine rY [14] ?_
     refine rC (fun K hK=>?_) AllReadyH.nil
     go_simp
     refine (HC2.out _ _ _ _ HS3.out SA.out.2).mono ?_
     rintro _ x4 ⟨kd2,Q2,rfl,hpk2,hok2,hfs2,haw2,hlr2⟩
     obtain ⟨hs4,hbx4⟩:=HS3.out.call HG3.out hlr2 ⟨by omega,by omega⟩ (Or.inl (by omega)) hok2 hfs2 haw2 (fun k hk r hr y hy hR=>by have h:=(HS3.out.kid k hk).2.2 r hr y hy hR;have:=HG3.out;omega)
     have RB8_4:=yH ((hbx4 b8 (by simp)).trans RB8_3.out)
     have RB9_4:=yH ((hbx4 b9 (by simp)).trans RB9_3.out)
     have HPK2:=yH hpk2
     have HCL2:=yH (Kd.cells_length hok2.len)
     have HS4:=yH hs4
     have hR4:=tr_there HS4.out HT3.out (fun e=>by have:=HNQ.out _ e;omega) (by have:=HG.out;omega)
     clear hs4 hbx4 hpk2 hok2 hfs2 haw2 hlr2
     try go_wp2_with fail
     refine hK.out _ _ hR4 (fun hHeld=>?_)
     clear hK K
     try simp only [Act.put,yA,yB,yC]
     refine rY [17] ?_
     refine rC (fun K hK=>?_) AllReadyH.nil
     refine wp_store_row 34 (.tmp 8) (.tmp 27) (by rfl) b8 kd1.cells.toArray (by rfl) (by rfl) _ _ RB8_4.out (by rw [List.size_toArray,HCL1.out];exact SKd) (by simp only [List.size_toArray,HCL1.out,kd0_size]) (all_oneCell_toArray Kd.one) ?_
     have HS5:=yH (HS4.out.set HG3.out (b:=b8) (by simp) kd1.cells.toArray)
     have RB8_5:=yH (setRow_heap _ _ _ kd1.cells.toArray _ _ RB8_4.out)
     have RB9_5:=yH ((setRow_other x4 b8 b9 kd1.cells.toArray (by have:=HNE89.out;omega)).trans RB9_4.out)
     have hR5:=tr_there HS5.out HT3.out (fun e=>by have:=HNQ.out _ e;omega) (by have:=HG.out;omega)
     refine hK.out _ _ hR5 (fun hHeld=>?_)
     clear hK K
     try simp only [Act.put,yA,yB,yC]
     generalize x4.setRow b8 kd1.cells.toArray=x5 at *
     refine rY [18] ?_
     refine rC (fun K hK=>?_) AllReadyH.nil
     refine wp_store_row 34 (.tmp 9) (.tmp 35) (by rfl) b9 kd2.cells.toArray (by rfl) (by rfl) _ _ RB9_5.out (by rw [List.size_toArray,HCL2.out];exact SKd) (by simp only [List.size_toArray,HCL2.out,kd0_size]) (all_oneCell_toArray Kd.one) ?_
     have HS6:=yH (HS5.out.set HG3.out (b:=b9) (by simp) kd2.cells.toArray)
     have RB9_6:=yH (setRow_heap _ _ _ kd2.cells.toArray _ _ RB9_5.out)
     have RB8_6:=yH ((setRow_other x5 b9 b8 kd2.cells.toArray (by have:=HNE89.out;omega)).trans RB8_5.out)
     have hR6:=tr_there HS6.out HT3.out (fun e=>by have:=HNQ.out _ e;omega) (by have:=HG.out;omega)
     refine hK.out _ _ hR6 (fun hHeld=>?_)
     clear hK K
     try simp only [Act.put,yA,yB,yC]
     generalize x5.setRow b9 kd2.cells.toArray=x6 at *
     refine wpAnyH_done (by kernel_rfl) ?_ _
     go_wp2_with fail
     go_meet
     exact ⟨b8,b9,kd1,kd2,Q2,rfl,rfl,HS6.out.less (fun b hb=>by simp only [List.mem_cons,List.not_mem_nil,or_false] at hb ⊢;omega) (fun k hk=>by simp only [List.mem_cons,List.not_mem_nil,or_false] at hk ⊢;exact hk.symm),RB8_6.out,RB9_6.out,HPK1.out,HPK2.out⟩
  case rest=>
   obtain ⟨b8,b9,kd1,kd2,Q2,rfl,rfl,hls,h8,h9,hk1,hk2⟩:=hcut
   obtain ⟨rp,rn,rc,rR⟩:=gm
   unfold Rw.val at HMID
   simp only at HMID HTR
   have hsz:=hls.r.only.size
   have hb0:w.heap.size<w3.heap.size:=(yL HT3.out)
   have hb1:w.heap.size+1<w3.heap.size:=(yL HK3.out)
   have hn0:∀k,w.heap.size≤k→k<w3.heap.size→¬Q2 k:=fun k h1 h2 h=>(hls.r.new k h).elim (fun e=>by have:=HNQ.out k e;omega) (fun e=>by omega)
   have HTX:=yH (show wc.heap[w.heap.size]? =_ from (hls.r.only.block _ hb0 (fun e=>e.elim (fun e=>by have:=HNQ.out _ e;omega) (fun e=>by have:=HG.out;omega))).trans HT3.out)
   have HKX:=yH (show wc.heap[w.heap.size+1]? =_ from (hls.r.only.block _ hb1 (fun e=>e.elim (fun e=>by have:=HNQ.out _ e;omega) (fun e=>by have:=HG.out;omega))).trans HK3.out)
   have HMX:=yH (hls.mid.trans HMID.out)
   have HRX:=yH (show (⟨rp,rn,rc,rR⟩:Rw).Ok wc from (HGM.out.1.later (Below.refl _ _) |> fun h=>Nd.rw_keep h fun y hy hR=>hls.r.only.block _ (rw_lt HGM.out.1 y hy hR) (fun e=>e.elim (HGM.out.2.2.2 y hy hR) (HGM.out.2.2.1 y hy hR))))
   have HK1:=yH (hls.kid kd1 (by simp)).1
   have HK2:=yH (hls.kid kd2 (by simp)).1
   have HX8:=yH (show wc.heap[b8]? =_∧b8<wc.heap.size∧¬Q2 b8∧w3.heap.size≤b8 from ⟨h8,(hls.box b8 (by simp)).2.1,(hls.box b8 (by simp)).2.2,(hls.box b8 (by simp)).1⟩)
   have HX9:=yH (show wc.heap[b9]? =_∧b9<wc.heap.size∧¬Q2 b9∧w3.heap.size≤b9 from ⟨h9,(hls.box b9 (by simp)).2.1,(hls.box b9 (by simp)).2.2,(hls.box b9 (by simp)).1⟩)
   have HSZ:=yH (show w.heap.size+1<w3.heap.size∧w3.heap.size≤wc.heap.size∧g<w.heap.size from ⟨hb1,hsz,HG.out⟩)
   have HN0:=yH hn0
   have HGQ:=yH (show ¬Q2 g from fun e=>(hls.r.new g e).elim HQG.out (fun e=>by have:=HG3.out;omega))
   have HLS:=yH hls.r
   have HPK1:=yH hk1
   have HPK2:=yH hk2
   have HCL1:=yH (Kd.cells_length HK1.out.len)
   have HCL2:=yH (Kd.cells_length HK2.out.len)
   have i1:(0:Int)≤m∧(m:Int)<n:=by omega
   clear hls h8 h9 hk1 hk2 hsz hb0 hb1 hn0 q3 q4 hmc HC1 HC2 HSG1 HSG2
   go_upto_region 6 with fail
   refine wp_region_held_drew (S:=fun w'=>∀k,k<wc.heap.size→¬Q2 k→k≠w.heap.size+1→w'.heap[k]? =wc.heap[k]?) (by kernel_rfl) (fun k _ _ _=>rfl) (fun hHeld=>?_)
   have HB0:=yH (show Below wc.heap.size wc wc.drew from (Below.refl _ _).drew)
   generalize wc.drew=x0 at *
   refine tQ 0 ?_ ?_ ?_
   rotate_left
   ·intro w' hSw
    refine Eq.trans (b:=Result.ok (Next.value (.agg #[.pointer (some ⟨gs,0,none⟩),.int .i64 d])) w') ?_ ?_
    ·exact op_load_mid 91 (.tmp 3) (by rfl) w.heap.size 0 (by rfl) [.pointer (some ⟨gs,0,none⟩),.int .i64 d] du (range_tr ((hSw w.heap.size (by have:=HSZ.out;omega) (HN0.out _ (by omega) (by have:=HSZ.out;omega)) (by omega)).trans HTX.out)) HDU.out HDR.out STr
    ·with_reducible rfl
   refine tK 1 ?_
   refine tK 2 ?_
   refine tK 3 ?_
   refine tQ 4 ?_ ?_ ?_
   rotate_left
   ·intro w' hSw
    have y:w'.cell? ⟨g,o+m,none⟩=some (.slice rp rn rc):=(World.cell?_of_block (hSw g (by have:=HSZ.out;omega) HGQ.out (by have:=HSZ.out;omega))).trans HMX.out
    go_simp
    try with_reducible rfl
   refine tQ 5 ?_ ?_ ?_
   rotate_left
   ·intro w' hSw
    refine Eq.trans (b:=Result.ok (Next.value (.agg #[.slice rp rn rc,.bool true])) w') ?_ ?_
    ·apply op_buildN (t:=85) (parts:= #[(0,.tmp 40),(1,.const (.bool true))])
     ·rfl
     ·simp only [List.map_toArray,List.map_cons,List.map_nil]
      exact ent_built _ _ _ _
    ·with_reducible rfl
   refine tQ 6 ?_ ?_ ?_
   rotate_left
   ·intro w' hSw
    refine Eq.trans (b:=Result.ok (Next.value (.agg kd1.cells.toArray)) w') ?_ ?_
    ·exact op_load_mid 34 (.tmp 8) (by rfl) b8 0 (by rfl) kd1.cells dk (range_kd ((hSw b8 HX8.out.2.1 HX8.out.2.2.1 (by have:=HX8.out;have:=HSZ.out;omega)).trans HX8.out.1)) HDK.out HDKR.out (by rw [HCL1.out];exact SKd)
    ·with_reducible rfl
   refine tQ 7 ?_ ?_ ?_
   rotate_left
   ·intro w' hSw
    refine Eq.trans (b:=Result.ok (Next.value (.agg kd2.cells.toArray)) w') ?_ ?_
    ·exact op_load_mid 34 (.tmp 9) (by rfl) b9 0 (by rfl) kd2.cells dk (range_kd ((hSw b9 HX9.out.2.1 HX9.out.2.2.1 (by have:=HX9.out;have:=HSZ.out;omega)).trans HX9.out.1)) HDK.out HDKR.out (by rw [HCL2.out];exact SKd)
    ·with_reducible rfl
   refine rY [8] ?_
   refine rC (fun K hK=>?_) AllReadyH.nil
   go_simp
   refine (fork_any ⟨rp,rn,rc,rR⟩ true kd1 kd2 x0 (HRX.out.later HB0.out) (HK1.out.later HB0.out) (HK2.out.later HB0.out)).mono ?_
   rintro _ y1 ⟨pe,pk,rfl,hE,hK,hb,-⟩
   have HB1:=yH (HB0.out.trans (hb.mono HB0.out.size))
   have hS1:∀k,k<wc.heap.size→¬Q2 k→k≠w.heap.size+1→y1.heap[k]? =wc.heap[k]? :=fun k h1 _ _=>HB1.out.block k h1
   have HP1:=yH (HLS.out.st.keep (fun _=>False) (Only.of_below _ HB1.out) (fun _ _ e=>e))
   have HPUT:=yH (kput_any 1 (by omega) (some ⟨pe,0,none⟩) 1 1 (some ⟨pk,0,none⟩) 2 2 [⟨⟨rp,rn,rc,rR⟩,true⟩] [kd1,kd2] d y1 hE hK HP1.out HPL.out (by
    have h:=fork_good (v:=true) HDD.out (HTR.out▸HTD.out) (by rw [← HTR.out,HTS.out];have:=HSL.out;omega)
    rw [← HPK1.out,← HPK2.out] at h
    exact h))
   clear hE hK hb
   try go_wp2_with fail
   refine hK.out _ _ hS1 (fun hHeld=>?_)
   clear hK K
   try simp only [Act.put,yA,yB,yC]
   refine rY [9] ?_
   refine rC (fun K hK=>?_) AllReadyH.nil
   go_simp
   refine HPUT.out.mono ?_
   rintro _ y2 ⟨kd,rfl,hpk,hok,hfs,⟨Q3,hp3,hq3,haw⟩,ho,-⟩
   have HO:=yH ho
   have HS1:=yH HB1.out.size
   have hS2:∀k,k<wc.heap.size→¬Q2 k→k≠w.heap.size+1→y2.heap[k]? =wc.heap[k]? :=fun k h1 h2 _=>(HO.out.block k (by have:=HS1.out;omega) h2).trans (HB1.out.block k h1)
   have RK:=yH ((HO.out.block (w.heap.size+1) (by have:=HS1.out;have:=HSZ.out;omega) (HN0.out _ (by omega) (by have:=HSZ.out;omega))).trans ((HB1.out.block _ (by have:=HSZ.out;omega)).trans HKX.out))
   have HPK:=yH hpk
   have HOKK:=yH hok
   have HFS:=yH hfs
   have HP3:=yH hp3
   have HQ3:=yH hq3
   have HAW:=yH haw
   have HCK:=yH (Kd.cells_length hok.len)
   clear hpk hok hfs hp3 hq3 haw ho HPUT
   try go_wp2_with fail
   refine hK.out _ _ hS2 (fun hHeld=>?_)
   clear hK K
   try simp only [Act.put,yA,yB,yC]
   refine rY [10] ?_
   refine rC (fun K hK=>?_) AllReadyH.nil
   refine wp_store_row 34 (.tmp 6) (.tmp 45) (by rfl) (w.heap.size+1) kd.cells.toArray (by rfl) (by rfl) _ _ RK.out (by rw [List.size_toArray,HCK.out];exact SKd) (by simp only [List.size_toArray,HCK.out,kd0_size]) (all_oneCell_toArray Kd.one) ?_
   have hS3:∀k,k<wc.heap.size→¬Q2 k→k≠w.heap.size+1→(y2.setRow (w.heap.size+1) kd.cells.toArray).heap[k]? =wc.heap[k]? :=fun k h1 h2 h3=>(setRow_other y2 (w.heap.size+1) k kd.cells.toArray h3).trans ((HO.out.block k (by have:=HS1.out;omega) h2).trans (HB1.out.block k h1))
   refine hK.out _ _ hS3 (fun hHeld=>?_)
   clear hK K
   try simp only [Act.put,yA,yB,yC]
   refine wpAnyH_done (by kernel_rfl) ?_ _
   go_wp2_with fail
   refine ret_str 6 (by kernel_rfl) (w.heap.size+1) _ kd.cells.toArray HDK.out HDKR.out (by rw [List.size_toArray,HCK.out];exact SKd) (by rfl) (setRow_heap _ _ _ _ _ _ RK.out) ?_
   have hz:=HSZ.out
   have hz1:=HS1.out
   have ho3:=only_setRow y2 (w.heap.size+1) kd.cells.toArray
   have hrow:∀r∈kd.rows,r.Ok (y2.setRow (w.heap.size+1) kd.cells.toArray):=fun r hr=>Nd.rw_keep (kd_rows_ok HOKK.out r hr) (fun x hx hR=>ho3.block _ (rw_lt (kd_rows_ok HOKK.out r hr) x hx hR) (by have:=HFS.out r hr x hx hR;omega))
   have hput:LayR y1 y2 gs Q2 Q3 _ g o n:=LayR.of_put HP3.out HQ3.out HO.out (by omega) HGQ.out
   have hall:LayR w y2 gs Q Q3 _ g o n:=((HLR.out.trans HLS.out ⟨Nat.le_refl _,Nat.le_refl _⟩ ⟨Nat.le_refl _,Nat.le_refl _⟩).trans (LayR.of_below (n:=n) (o:=o) HLS.out.st HB1.out (by omega)) ⟨Nat.le_refl _,Nat.le_refl _⟩ ⟨Nat.le_refl _,Nat.le_refl _⟩).trans hput ⟨Nat.le_refl _,Nat.le_refl _⟩ ⟨Nat.le_refl _,Nat.le_refl _⟩
   have hq3b:¬Q3 (w.heap.size+1):=fun e=>(HQ3.out _ e).elim (HN0.out _ (by omega) (by omega)) (fun e=>by omega)
   have hbig:(T.fork rR true P1 P2).size≤1048576:=by rw [← HTR.out,HTS.out];have:=HSL.out;omega
   have hN:pnOf 1 [⟨⟨rp,rn,rc,rR⟩,true⟩] [kd1,kd2]=forkN rR true P1.kid P2.kid:=by rw [← HPK1.out,← HPK2.out];rfl
   unfold LaidPost
   rw [HTR.out,fork_kid hbig,pages_fork,← hN,← HLN.out]
   exact ⟨kd,Q3,rfl,HPK.out,⟨HOKK.out.len,HOKK.out.ok,hrow _ (by simp [Kd.rows]),hrow _ (by simp [Kd.rows]),hrow _ (by simp [Kd.rows]),HOKK.out.live,HOKK.out.size⟩,(fun r hr x hx hR=>by have:=HFS.out r hr x hx hR;omega),HAW.out,hall.set (by omega) hz.2.2 hq3b _⟩
end Go.Proofs.YtinihaflmdihaaaGreat.Kt
