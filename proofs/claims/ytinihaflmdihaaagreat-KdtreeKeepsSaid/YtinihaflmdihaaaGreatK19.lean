/- GenOps, NdLow, NlReadEnt, CodRNew, CodREnd. -/
import Derived.Deep.MidRow
import Derived.Test.YtinihaflmdihaaaGreatK7
set_option maxRecDepth 100000
set_option maxHeartbeats 8000000
set_option linter.all false
namespace Go.Proofs.YtinihaflmdihaaaGreat
open Go.RowKit
theorem op_load_mid {P:Program} {ρ:Operand→Value} {o:Oper} {w:World} (ty:TypeId) (x:Operand) (ho:o.op= .load ty x)
  (b i:Nat) (hx:ρ x= .pointer (some ⟨b,i,none⟩)) (cs:List Value) (d:TypeDesc) (hc:w.rangeAt b i cs)
  (hu:P.underlying ty=some d) (hd:d.isRow=true) (hi:(P.info? ty).map (·.size)=some cs.length):
  (execOp ρ o).run P w= .ok (.value (.agg cs.toArray)) w:=by
 unfold execOp
 simp only [ho,hx,Instr.loadAt,Instr.sureAddr,Sem.run_bind,Sem.run_pure,Result.andThen_ok,run_loadVar_mid w b i ty cs d hc hu hd hi]
theorem op_tail {P:Program} {ρ:Operand→Value} {o:Oper} {w:World} {ty:TypeId} {x lo:Operand} (ho:o.op= .slice ty x (some lo) none none)
  (ht:P.underlying ty=some (.slice (P.elem ty))) (sz:Nat) (hs:(P.info? (P.elem ty)).map (·.size)=some sz) {p:Option Addr} {n c k:Nat} (hx:ρ x= .slice p n c) (hl:ρ lo= .int .i64 (k:Int)) (hk:k≤n):
  (execOp ρ o).run P w= .ok (.value (.slice (if c=k then p else p.map (·.add (k*sz))) (n - k) (c - k))) w:=by
 have h2:(sizeOf (P.elem ty)).run P w= .ok sz w:=by
  generalize he:P.elem ty=el at hs
  cases hj:P.info? el with
  | none=>rw [hj] at hs;cases hs
  | some i=>
   rw [hj] at hs
   have hs:i.size=sz:=by simpa using hs
   simp [sizeOf,run_typeInfo w hj,hs]
 unfold execOp
 simp only [ho,hx,hl,Option.map_some,Option.map_none,Sem.run_bind]
 rw [run_sliceAt_slice _ _ _ _ _ _ ht,run_slice_l _ _ _ _ _ ht .i64 (k:Int) (by omega) (by omega),h2]
 simp [Result.andThen,sliced]
theorem op_head {P:Program} {ρ:Operand→Value} {o:Oper} {w:World} {ty:TypeId} {x hi:Operand} (ho:o.op= .slice ty x none (some hi) none)
  (ht:P.underlying ty=some (.slice (P.elem ty))) (sz:Nat) (hs:(P.info? (P.elem ty)).map (·.size)=some sz) {p:Option Addr} {n c k:Nat} (hx:ρ x= .slice p n c) (hl:ρ hi= .int .i64 (k:Int)) (hk:k≤c):
  (execOp ρ o).run P w= .ok (.value (.slice (if c=0 then p else p.map (·.add 0)) k c)) w:=by
 have h2:(sizeOf (P.elem ty)).run P w= .ok sz w:=by
  generalize he:P.elem ty=el at hs
  cases hj:P.info? el with
  | none=>rw [hj] at hs;cases hs
  | some i=>
   rw [hj] at hs
   have hs:i.size=sz:=by simpa using hs
   simp [sizeOf,run_typeInfo w hj,hs]
 unfold execOp
 simp only [ho,hx,hl,Option.map_some,Option.map_none,Sem.run_bind]
 rw [run_sliceAt_slice _ _ _ _ _ _ ht,run_slice_h _ _ _ _ _ ht .i64 (k:Int) (by omega) (by omega),h2]
 simp [Result.andThen,sliced]
end Go.Proofs.YtinihaflmdihaaaGreat
namespace Go.Proofs.YtinihaflmdihaaaGreat.Nd
open Go.RowKit
def LowL {α:Type} (rows:α→List Rw) (mid:Nat) (v:Value) (L:List α):Prop:=(∀x,v.ownBlock=some x→x<mid)∧∀e∈L,∀r∈rows e,∀x,r.p=some x→r.R≠[]→x.block<mid
section
variable {α:Type} {t:TypeId} {sz:Nat} {cells:α→List Value} {rows:α→List Rw} {B B':Nat} {w w':World} {v:Value} {n mid:Nat} {L:List α}
theorem Lst.low (h:Lst t sz cells rows B w v n L):LowL rows w.heap.size v L:=⟨fun x hx=>(h.own.lt x hx).2,fun e he r hr x hx hR=>(h.each e he r hr).1.lt x hx hR⟩
theorem Lst.base (h:Lst t sz cells rows B w v n L) (hB:B'≤B):Lst t sz cells rows B' w v n L:=
 ⟨h.len,⟨h.own.1,h.own.2.imp id fun ⟨g,cap,cur,hv,hg,r⟩=>⟨g,cap,cur,hv,Nat.le_trans hB hg,r⟩⟩,fun e he r hr=>⟨(h.each e he r hr).1.base hB,(h.each e he r hr).2⟩⟩
theorem Lst.keepIn (h:Lst t sz cells rows B w v n L) (hl:LowL rows mid v L) (hk:∀k,B≤k→k<mid→k<w.heap.size→w'.heap[k]? =w.heap[k]?):Lst t sz cells rows B w' v n L:=by
 refine ⟨h.len,⟨h.own.1,h.own.2.imp id ?_⟩,fun e he r hr=>⟨⟨rw_keep (h.each e he r hr).1.ok fun x hx hR=>hk x.block ((h.each e he r hr).1.lo x hx hR) (hl.2 e he r hr x hx hR) ((h.each e he r hr).1.lt x hx hR),(h.each e he r hr).1.lo⟩,(h.each e he r hr).2⟩⟩
 rintro ⟨g,cap,cur,hv,hg,hh,r⟩
 exact ⟨g,cap,cur,hv,hg,(hk g hg (hl.1 g (by rw [hv];rfl)) (yL hh)).trans hh,r⟩
theorem LowL.mono {mid':Nat} (h:LowL rows mid v L) (hm:mid≤mid'):LowL rows mid' v L:=⟨fun x hx=>Nat.lt_of_lt_of_le (h.1 x hx) hm,fun e he r hr x hx hR=>Nat.lt_of_lt_of_le (h.2 e he r hr x hx hR) hm⟩
end
theorem Kds.low {B:Nat} {w:World} {v:Value} {n:Nat} {K:List Kd} (h:Kds B w v n K):LowL Kd.rows w.heap.size v K:=h.lst.low
theorem Kds.keepIn {B mid:Nat} {w w':World} {v:Value} {n:Nat} {K:List Kd} (h:Kds B w v n K) (hl:LowL Kd.rows mid v K) (hk:∀k,B≤k→k<mid→k<w.heap.size→w'.heap[k]? =w.heap[k]?):Kds B w' v n K:=⟨h.lst.keepIn hl hk,h.good⟩
theorem Kds.keep {B:Nat} {w w':World} {v:Value} {n:Nat} {K:List Kd} (h:Kds B w v n K) (hk:∀k,B≤k→k<w.heap.size→w'.heap[k]? =w.heap[k]?):Kds B w' v n K:=⟨h.lst.keep hk,h.good⟩
theorem Kds.base {B B':Nat} {w:World} {v:Value} {n:Nat} {K:List Kd} (h:Kds B w v n K) (hB:B'≤B):Kds B' w v n K:=⟨h.lst.base hB,h.good⟩
structure Fresh (B mid:Nat) (w:World) (p:Option Addr) (n c:Nat) (q:Option Addr) (m f:Nat) (E:List En) (K:List Kd):Prop where
 base:B≤mid
 ents:Ens B w (.slice p n c) n E
 low:LowL En.rows mid (.slice p n c) E
 kids:Kds mid w (.slice q m f) m K
theorem Fresh.keep {B mid:Nat} {w w':World} {p:Option Addr} {n c:Nat} {q:Option Addr} {m f:Nat} {E:List En} {K:List Kd} (h:Fresh B mid w p n c q m f E K) (hk:∀k,B≤k→k<w.heap.size→w'.heap[k]? =w.heap[k]?):Fresh B mid w' p n c q m f E K:=
 ⟨h.base,h.ents.keep hk,h.low,h.kids.keep fun k hk1=>hk k (Nat.le_trans h.base hk1)⟩
theorem Fresh.later {B mid:Nat} {w w':World} {p:Option Addr} {n c:Nat} {q:Option Addr} {m f:Nat} {E:List En} {K:List Kd} (h:Fresh B mid w p n c q m f E K) (hb:Below w.heap.size w w'):Fresh B mid w' p n c q m f E K:=h.keep fun k _ hk=>hb.block k hk
theorem Fresh.keepIn {B mid hi:Nat} {w w':World} {p:Option Addr} {n c:Nat} {q:Option Addr} {m f:Nat} {E:List En} {K:List Kd} (h:Fresh B mid w p n c q m f E K) (hE:LowL En.rows hi (.slice p n c) E) (hK:LowL Kd.rows hi (.slice q m f) K) (hk:∀k,B≤k→k<hi→k<w.heap.size→w'.heap[k]? =w.heap[k]?):Fresh B mid w' p n c q m f E K:=
 ⟨h.base,h.ents.keepIn hE hk,h.low,h.kids.keepIn hK fun k hk1=>hk k (Nat.le_trans h.base hk1)⟩
theorem Fresh.ents_in {B mid:Nat} {w:World} {p:Option Addr} {n c:Nat} {q:Option Addr} {m f:Nat} {E:List En} {K:List Kd} (h:Fresh B mid w p n c q m f E K) (hn:n≤9223372036854775807):EntsIn w p n c E:=h.ents.ents hn
theorem Fresh.kids_in {B mid:Nat} {w:World} {p:Option Addr} {n c:Nat} {q:Option Addr} {m f:Nat} {E:List En} {K:List Kd} (h:Fresh B mid w p n c q m f E K) (hn:m≤9223372036854775807):KidsIn w q m f K:=h.kids.kids hn
theorem Fresh.down {B B' mid:Nat} {w:World} {p:Option Addr} {n c:Nat} {q:Option Addr} {m f:Nat} {E:List En} {K:List Kd} (h:Fresh B mid w p n c q m f E K) (hB:B'≤B):Fresh B' mid w p n c q m f E K:=
 ⟨Nat.le_trans hB h.base,h.ents.base hB,h.low,h.kids⟩
def REnt (w:World) (g:Nat) (R:List Int) (live:Bool) (s:Rd) (e:Ending) (w':World):Prop:=
 ∃r:Rw,e= .returned (.agg #[.slice r.p r.n r.c,.bool live])∧r.R=R∧FrRw w' w.heap.size r∧RSx w' g s∧w.grownBy w' (some g)
theorem readEnt_any (s:Rd) (g:Nat) (w:World) (hs:RSx w g s) (hl:s.R.length<1099511627776):
  Calls Tryz.prog 146 #[.pointer (some ⟨g,0,none⟩)] w (REnt w g (s.truth.rowV 8) s.truthV (s.entN 8)):=by
 have e5:s.entN 8=(s.truth.row 8).2:=rfl
 rw [e5]
 clear e5
 have hok:Sm.allB s.R:=by obtain ⟨p,n,c,h⟩:=hs;exact h.tx.ok
 have hg:g<w.heap.size:=hs.lt
 have hb1:Below w.heap.size w (w.alloc (.cells #[.slice none 0 0,.bool false] 85)):=(Below.refl _ _).alloc (Nat.le_refl _) _
 have r1:=heap_alloc_new w (.cells #[.slice none 0 0,.bool false] 85)
 have z1:(w.alloc (.cells #[.slice none 0 0,.bool false] 85)).heap.size=w.heap.size+1:=by simp
 go_enter Tryz.func146,Tryz.ntmps146
 go_upto_region 1 with fail
 generalize w.alloc (.cells #[.slice none 0 0,.bool false] 85)=w1 at *
 have hb2:Below w1.heap.size w1 (w1.alloc (.cells #[.slice none 0 0,.bool false] 85)):=(Below.refl _ _).alloc (Nat.le_refl _) _
 have r2:=heap_alloc_new w1 (.cells #[.slice none 0 0,.bool false] 85)
 rw [z1] at r2
 go_upto_region 2 with fail
 generalize w1.alloc (.cells #[.slice none 0 0,.bool false] 85)=w2 at *
 have hb12:Below w.heap.size w w2:=hb1.trans (hb2.mono (by omega))
 have R1:=yH ((hb2.block w.heap.size (by omega)).trans r1)
 have R2:=yH r2
 have B2:=yH hb12
 have HT:=yH (ltruth_any s g w2 (hs.later hb12) hl)
 have hto:=truth_R hok
 have HTO:=yH hto.1
 have HTL:=yH (Nat.lt_of_le_of_lt hto.2 hl)
 have hri:=rowV_in (m:=8) hto.1
 have hrl:=rowV_len (m:=8) hto.1
 clear r1 r2 hb1 hb2 hb12 z1 hs hok hto hl
 clear w1
 generalize s.truthV=lv at *
 generalize s.truth=s1 at *
 obtain ⟨gx,hgx⟩:∃gx,gx=w.heap.size:=⟨_,rfl⟩
 rw [← hgx] at R1 R2 hg ⊢
 have HGX:=yH hgx
 clear hgx
 go_upto_region 3 with (go_at_call 194;refine HT.out.mono ?_;rintro e w3 hp;obtain ⟨rfl,h3,k3⟩:=hp;have R13:=yH ((k3.block gx (yL R1.out) (by simp;omega)).trans R1.out);have R23:=yH ((k3.block (gx+1) (yL R2.out) (by simp;omega)).trans R2.out);have c1:=cell_of_row w3 (gx+1) 1 _ _ _ R23.out;have f1:=frozen_of_row w3 (gx+1) 1 _ _ R23.out;have H3:=yH h3;have G3:=yH (grown_twice (grown_of_below B2.out (some g)) k3);clear h3 k3)
 have r4:=heap_setCell_same w3 (gx+1) 1 _ _ (.bool lv) R23.out
 have hb4:Below (gx+1) w3 (w3.setCell ⟨gx+1,1,none⟩ (.bool lv)):=(Below.refl _ _).setCell (p:=⟨gx+1,1,none⟩) (Nat.le_refl _) _
 have z4:(w3.setCell ⟨gx+1,1,none⟩ (.bool lv)).heap.size=w3.heap.size:=by simp [World.setCell]
 have HR4:=yH (H3.out.low (hb4.mono (by omega)))
 have R14:=yH ((hb4.block gx (by omega)).trans R13.out)
 have R24:=yH r4
 have G4:=yH (grown_new G3.out (show w.heap.size≤gx+1 by have:=HGX.out;omega) hb4 (by omega))
 clear r4 hb4 z4 c1 f1 R13 R23 H3 G3
 generalize w3.setCell ⟨gx+1,1,none⟩ (.bool lv)=w4 at *
 have HW:=yH (lrow_any s1 g w4 HR4.out HTL.out)
 have HRI:=yH hri
 have HRL:=yH hrl
 clear hri hrl
 generalize s1.rowV 8=R at *
 generalize (s1.row 8).2=s2 at *
 go_upto_region 4 with (go_at_call 195;refine HW.out.mono ?_;rintro e w5 hp;obtain ⟨v5,rfl,o5,h5,k5⟩:=hp;obtain ⟨r5,rfl,hrR,-,hfr⟩:=fr_of_own o5 HRI.out (by have:=HRL.out;omega);have HFR:=yH hfr;have HRR:=yH hrR;have R15:=yH ((k5.block gx (yL R14.out) (by simp;omega)).trans R14.out);have R25:=yH ((k5.block (gx+1) (yL R24.out) (by simp;omega)).trans R24.out);have c0:=cell_of_row w5 (gx+1) 0 _ _ _ R25.out;have f0:=frozen_of_row w5 (gx+1) 0 _ _ R25.out;have H5:=yH h5;have G5:=yH (grown_twice G4.out k5);have Z4:=yH (show gx+1<w4.heap.size from (yL R24.out));clear o5 h5 k5 hfr hrR;unfold Rw.val)
 have r6:=heap_setCell_same w5 (gx+1) 0 _ _ (.slice r5.p r5.n r5.c) R25.out
 have hb6:Below (gx+1) w5 (w5.setCell ⟨gx+1,0,none⟩ (.slice r5.p r5.n r5.c)):=(Below.refl _ _).setCell (p:=⟨gx+1,0,none⟩) (Nat.le_refl _) _
 have z6:(w5.setCell ⟨gx+1,0,none⟩ (.slice r5.p r5.n r5.c)).heap.size=w5.heap.size:=by simp [World.setCell]
 have HR6:=yH (H5.out.low (hb6.mono (by omega)))
 have R16:=yH ((hb6.block gx (by omega)).trans R15.out)
 have R26:=yH r6
 have G6:=yH (grown_new G5.out (show w.heap.size≤gx+1 by have:=HGX.out;omega) hb6 (by omega))
 have F6:=yH (HFR.out.keep (w':=w5.setCell ⟨gx+1,0,none⟩ (.slice r5.p r5.n r5.c)) (fun k hk _=>heap_setCell_other _ _ _ _ (by show k≠gx+1;have:=Z4.out;omega)))
 clear r6 hb6 z6 c0 f0 R15 R25 H5 G5 HFR
 generalize w5.setCell ⟨gx+1,0,none⟩ (.slice r5.p r5.n r5.c)=w6 at *
 have c0:=cell_of_row w6 (gx+1) 0 _ _ _ R26.out
 have c1:=cell_of_row w6 (gx+1) 1 _ _ _ R26.out
 have a0:=cell_of_row w6 gx 0 _ _ _ R16.out
 have a1:=cell_of_row w6 gx 1 _ _ _ R16.out
 have f0:=frozen_of_row w6 gx 0 _ _ R16.out
 have f1:=frozen_of_row w6 gx 1 _ _ R16.out
 obtain ⟨du,hdu,hdr⟩:=UEn
 have HD:=yH hdu
 have HDR:=yH hdr
 clear hdu hdr
 go_wp2_with fail
 have r7:=heap_setCell_same w6 gx 0 _ _ (.slice r5.p r5.n r5.c) R16.out
 have r8:=heap_setCell_same _ gx 1 _ _ (.bool lv) r7
 have hb8:Below gx w6 ((w6.setCell ⟨gx,0,none⟩ (.slice r5.p r5.n r5.c)).setCell ⟨gx,1,none⟩ (.bool lv)):=((Below.refl _ _).setCell (p:=⟨gx,0,none⟩) (Nat.le_refl _) _).setCell (p:=⟨gx,1,none⟩) (Nat.le_refl _) _
 have z8:((w6.setCell ⟨gx,0,none⟩ (.slice r5.p r5.n r5.c)).setCell ⟨gx,1,none⟩ (.bool lv)).heap.size=w6.heap.size:=by simp [World.setCell]
 refine ret_str 2 (by kernel_rfl) gx _ #[.slice r5.p r5.n r5.c,.bool lv] HD.out HDR.out SEn (by rfl) r8 ?_
 refine ⟨r5,rfl,HRR.out,?_,HR6.out.low (hb8.mono (by omega)),grown_new G6.out (show w.heap.size≤gx by have:=HGX.out;omega) hb8 (by omega)⟩
 refine (F6.out.keep (fun k hk _=>?_)).base (by have:=Z4.out;have:=HGX.out;omega)
 have hne:k≠gx:=by have:=Z4.out;omega
 rw [heap_setCell_other _ _ _ _ (by exact hne),heap_setCell_other _ _ _ _ (by exact hne)]
end Go.Proofs.YtinihaflmdihaaaGreat.Nd
namespace Go.Proofs.YtinihaflmdihaaaGreat
open Go.RowKit
def NewPost (w:World) (B:List Nat) (e:Ending) (w':World):Prop:=∃g,e= .returned (.pointer (some ⟨g,0,none⟩))∧w.heap.size≤g∧RSx w' g ⟨B,0⟩∧Below w.heap.size w w'
theorem rnew_any (B:List Nat) (p:Option Addr) (n c:Nat) (w:World) (hB:Tx w p n c B) (hl:n<1099511627776):
  Calls Tryz.prog 144 #[.slice p n c] w (NewPost w B):=by
 have HB:=yH hB
 clear hB
 go_enter Tryz.func144,Tryz.ntmps144
 go_wp2_with fail
 refine (clone_any B p n c _ HB.out hl).mono ?_
 rintro e w1 hp
 obtain ⟨q,m,rfl,h1,h2⟩:=hp
 have H1:=yH h1
 have H2:=yH h2
 clear h1 h2
 go_wp2_with fail
 go_ret
 exact ⟨w1.heap.size,rfl,H2.out.size,⟨q,B.length,m,heap_alloc_new w1 _,(tx_of_owns H1.out HB.out.ok).later ((Below.refl _ _).alloc (Nat.le_refl _) _),fun x hx h=>by
  subst hx
  exact (H1.out.lt x.block (by
   rcases H1.out.2 with ⟨h1,_⟩ | ⟨k,cap,cur,h1,_⟩
   ·simp at h1
   ·simp only [Value.slice.injEq,Option.some.injEq] at h1;rw [h1.1];rfl)).2⟩,H2.out.alloc H2.out.size _⟩
def Rd.end (s:Rd):Rd:=if s.R=[] then s else s.refuse 22
theorem rend_any (s:Rd) (g:Nat) (w:World) (hs:RSx w g s):
  Calls Tryz.prog 148 #[.pointer (some ⟨g,0,none⟩)] w (RPost w g (.int .i64 s.end.e) s.end):=by
 obtain ⟨p,n,c,hs⟩:=hs
 have h0:=hs.rest
 have h1:=hs.err
 have hn:=hs.tx.size
 have HS:=yH hs
 have HN:=yH hn
 clear hs hn
 unfold Rd.end
 by_cases h:s.R=[]
 ·rw [if_pos h]
  obtain rfl:n=0:=by rw [HN.out,h];rfl
  clear h
  go_enter Tryz.func148,Tryz.ntmps148
  go_wp2_with fail
  go_ret
  exact ⟨rfl,⟨p,0,c,HS.out⟩,grown_same _ _⟩
 ·rw [if_neg h]
  have b1:(0:Int)<n:=by have:=List.length_pos_iff.2 h;have:=HN.out;omega
  clear h h1
  go_enter Tryz.func148,Tryz.ntmps148
  go_wp2_with fail
  refine (rrefuse_any s 22 g _ ⟨p,n,c,HS.out⟩).mono ?_
  rintro e w1 hp
  obtain ⟨rfl,⟨p1,n1,c1,h2⟩,h3⟩:=hp
  have h4:=h2.err
  have H2:=yH h2
  have H3:=yH h3
  clear h2 h3
  go_wp2_with fail
  go_ret
  exact ⟨rfl,⟨p1,n1,c1,H2.out⟩,H3.out⟩
end Go.Proofs.YtinihaflmdihaaaGreat
