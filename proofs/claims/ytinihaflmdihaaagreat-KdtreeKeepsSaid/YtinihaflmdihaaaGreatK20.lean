/- NlDecode. -/
import Derived.BigRegion
import Derived.Test.YtinihaflmdihaaaGreatK18
import Derived.Test.YtinihaflmdihaaaGreatK19
set_option maxRecDepth 100000
set_option maxHeartbeats 8000000
set_option linter.all false
namespace Go.Proofs.YtinihaflmdihaaaGreat.Nd
open Go.RowKit Go.Proofs.YtinihaflmdihaaaGreat.Dk
open List renaming setIfInBounds_toArray → yA, set_cons_zero → yB, set_cons_succ → yC
theorem UNo0:(Tryz.prog.underlying 81).map (·.isRow)=some true:=by kernel_rfl
theorem UNo:∃d,Tryz.prog.underlying 81=some d∧d.isRow=true:=by
 have h:=UNo0
 revert h
 cases Tryz.prog.underlying 81 with
 | none=>intro h;cases h
 | some d=>intro h;exact ⟨d,rfl,by simpa using h⟩
theorem SNo:(Tryz.prog.info? 81).map (·.size)=some 3:=by kernel_rfl
theorem lst_form {w:World} {base e size n:Nat} {v:Value} {xs:List Value} (h:w.ownsRow base e size v n xs):∃q c,v= .slice q n c:=by
 rcases h.2 with ⟨rfl,h0⟩ | ⟨g,cap,cur,rfl,_⟩
 ·exact ⟨none,0,by rw [h0]⟩
 ·exact ⟨_,cap,rfl⟩
structure De1 (wL:World) (gn g kind n1:Nat) (T:List PE×Rd) (k:Nat) (E:List En) (v:Value) (s:Rd) (wr:World):Prop where
 le:k≤n1
 row:wr.heap[gn]? =some (.cells #[.int .u8 kind,v,.slice none 0 0] 81 (0,0))
 ents:Ens wL.heap.size wr v k E
 rd:RSx wr g s
 only:Only (fun j=>j=gn∨j=g) wL wr
 run:readE 8 (n1 - k) s (E.map En.pe)=T
 len:s.R.length<1099511627776
def De1R (wL:World) (gn g kind n1:Nat) (T:List PE×Rd) (i:Value) (wr:World):Prop:=∃k E v s,i= .int .u8 (k:Nat)∧De1 wL gn g kind n1 T k E v s wr
structure De2 (wL:World) (gn g kind n2:Nat) (v1:Value) (T:List PK×Rd) (k:Nat) (K:List Kd) (v:Value) (s:Rd) (wr:World):Prop where
 le:k≤n2
 row:wr.heap[gn]? =some (.cells #[.int .u8 kind,v1,v] 81 (0,0))
 kids:Kds wL.heap.size wr v k K
 rd:RSx wr g s
 only:Only (fun j=>j=gn∨j=g) wL wr
 run:readK 8 (n2 - k) s (K.map Kd.pk)=T
 len:s.R.length<1099511627776
def De2R (wL:World) (gn g kind n2:Nat) (v1:Value) (T:List PK×Rd) (i:Value) (wr:World):Prop:=∃k K v s,i= .int .u8 (k:Nat)∧De2 wL gn g kind n2 v1 T k K v s wr
theorem De1.step {wL wr w5 w7:World} {gn g kind n1:Nat} {T:List PE×Rd} {k:Nat} {E:List En} {v v7:Value} {s:Rd} (h:De1 wL gn g kind n1 T k E v s wr) (hk:k<n1) (hgn:gn<wL.heap.size) (hg:g<gn) {r:Rw} {lv:Bool}
  (hr:r.R=s.truth.rowV 8) (hlv:lv=s.truthV) (hfr:FrRw w5 wr.heap.size r) (h5:RSx w5 g (s.entN 8)) (k5:wr.grownBy w5 (some g)) {o:Obj}
  (hown:w7.ownsRow wL.heap.size 85 2 v7 (k+1) (E.flatMap En.cells++En.cells ⟨r,lv⟩)) (hgr:(w5.alloc o).grownBy w7 v.ownBlock) (hat:v7.ownBlock=v.ownBlock∨v7.ownBlock=some (w5.alloc o).heap.size) (hl:(s.entN 8).R.length<1099511627776):
  De1 wL gn g kind n1 T (k+1) (E++[⟨r,lv⟩]) v7 (s.entN 8) (w7.setCell ⟨gn,1,none⟩ v7):=by
 have hv:=fun x e=>h.ents.own.lt x e
 have hz6:(w5.alloc o).heap.size=w5.heap.size+1:=by simp
 have hb6:Below w5.heap.size w5 (w5.alloc o):=(Below.refl _ _).alloc (Nat.le_refl _) _
 have e5:=h.ents.grown k5 (by omega)
 have e6:=e5.later hb6
 have hsz:=h.only.size
 have hnew:∀q∈En.rows ⟨r,lv⟩,FrRw (w5.alloc o) wL.heap.size q∧∀x,q.p=some x→q.R≠[]→v.ownBlock≠some x.block:=fun q hq=>by
  obtain rfl:q=r:=by simpa [En.rows] using hq
  refine ⟨(hfr.later hb6).base hsz,fun x hx hR e=>?_⟩
  have h1:=hfr.lo x hx hR
  have h2:=(hv _ e).2
  omega
 have e7:=e6.put hnew hown hgr hat
 have row5:=(k5.block gn (yL h.row) (by simp;omega)).trans h.row
 have row6:=(hb6.block gn (yL row5)).trans row5
 have row7:=(hgr.block gn (yL row6) (fun e=>by have:=(hv _ e.symm).1;omega)).trans row6
 have row8:=heap_setCell_same w7 gn 1 _ _ v7 row7
 have hb7:Below (g+1) (w5.alloc o) w7:=⟨hgr.os,hgr.tape,hgr.output,hgr.size,fun j hj=>hgr.block j (by have:=k5.size;omega) (fun e=>by have:=(hv _ e.symm).1;omega)⟩
 have hb8:Below (g+1) w7 (w7.setCell ⟨gn,1,none⟩ v7):=(Below.refl _ _).setCell (p:=⟨gn,1,none⟩) (by show g+1≤gn;omega) _
 refine ⟨hk,row8,e7.keep (fun j hj _=>heap_setCell_other _ _ _ _ (by show j≠gn;omega)),((h5.later hb6).low hb7).low hb8,?_,?_,hl⟩
 ·refine ⟨hgr.os.trans (k5.os.trans h.only.os),hgr.tape.trans (k5.tape.trans h.only.tape),hgr.output.trans (k5.output.trans h.only.output),?_,fun j hj hn=>?_⟩
  ·have:=hgr.size;have:=k5.size;simp only [World.setCell] at *;simp;omega
  ·rw [heap_setCell_other _ _ _ _ (by show j≠gn;intro e;exact hn (Or.inl e))]
   have hjr:j<wr.heap.size:=by omega
   have hj5:j<w5.heap.size:=by have:=k5.size;omega
   rw [hgr.block j (by omega) (fun e=>by have:=(hv _ e.symm).1;omega),hb6.block j hj5,k5.block j hjr (by simp;intro e;exact hn (Or.inr e))]
   exact h.only.block j hj hn
 ·rw [List.map_append,show n1 - (k+1)=n1 - k - 1 by omega]
  have:=h.run
  rw [readE_go (by omega)] at this
  rw [← this]
  show readE 8 (n1 - k - 1) (s.entN 8) (E.map En.pe++[⟨r.R,lv⟩])=_
  rw [hr,hlv]
  rfl
theorem De2.step {wL wr w5 w7:World} {gn g kind n2:Nat} {v1:Value} {T:List PK×Rd} {k:Nat} {K:List Kd} {v v7:Value} {s:Rd} (h:De2 wL gn g kind n2 v1 T k K v s wr) (hk:k<n2) (hgn:gn<wL.heap.size) (hg:g<gn) {kd:Kd}
  (hpk:kd.pk=s.kidV 8) (hok:kd.Ok w5) (f1:FrRw w5 wr.heap.size kd.lo) (f2:FrRw w5 wr.heap.size kd.hi) (f3:FrRw w5 wr.heap.size kd.key) (h5:RSx w5 g (s.kidN 8)) (k5:wr.grownBy w5 (some g)) {o:Obj}
  (hown:w7.ownsRow wL.heap.size 34 37 v7 (k+1) (K.flatMap Kd.cells++kd.cells)) (hgr:(w5.alloc o).grownBy w7 v.ownBlock) (hat:v7.ownBlock=v.ownBlock∨v7.ownBlock=some (w5.alloc o).heap.size) (hl:(s.kidN 8).R.length<1099511627776):
  De2 wL gn g kind n2 v1 T (k+1) (K++[kd]) v7 (s.kidN 8) (w7.setCell ⟨gn,2,none⟩ v7):=by
 have hv:=fun x e=>h.kids.lst.own.lt x e
 have hz6:(w5.alloc o).heap.size=w5.heap.size+1:=by simp
 have hb6:Below w5.heap.size w5 (w5.alloc o):=(Below.refl _ _).alloc (Nat.le_refl _) _
 have e5:=h.kids.lst.grown k5 (by omega)
 have e6:=e5.later hb6
 have hsz:=h.only.size
 have hnew:∀q∈Kd.rows kd,FrRw (w5.alloc o) wL.heap.size q∧∀x,q.p=some x→q.R≠[]→v.ownBlock≠some x.block:=fun q hq=>by
  have hq5:FrRw w5 wr.heap.size q:=by
   simp only [Kd.rows,List.mem_cons,List.not_mem_nil,or_false] at hq
   rcases hq with rfl | rfl | rfl<;>assumption
  refine ⟨(hq5.later hb6).base hsz,fun x hx hR e=>?_⟩
  have h1:=hq5.lo x hx hR
  have h2:=(hv _ e).2
  omega
 have e7:=e6.put hnew hown hgr hat
 have row5:=(k5.block gn (yL h.row) (by simp;omega)).trans h.row
 have row6:=(hb6.block gn (yL row5)).trans row5
 have row7:=(hgr.block gn (yL row6) (fun e=>by have:=(hv _ e.symm).1;omega)).trans row6
 have row8:=heap_setCell_same w7 gn 2 _ _ v7 row7
 have hb7:Below (g+1) (w5.alloc o) w7:=⟨hgr.os,hgr.tape,hgr.output,hgr.size,fun j hj=>hgr.block j (by have:=k5.size;omega) (fun e=>by have:=(hv _ e.symm).1;omega)⟩
 have hb8:Below (g+1) w7 (w7.setCell ⟨gn,2,none⟩ v7):=(Below.refl _ _).setCell (p:=⟨gn,2,none⟩) (by show g+1≤gn;omega) _
 refine ⟨hk,row8,⟨e7.keep (fun j hj _=>heap_setCell_other _ _ _ _ (by show j≠gn;omega)),fun x hx=>?_⟩,((h5.later hb6).low hb7).low hb8,?_,?_,hl⟩
 ·rcases List.mem_append.1 hx with hx | hx
  ·exact h.kids.good x hx
  ·obtain rfl:x=kd:=by simpa using hx
   exact ⟨hok.len,hok.ok,hok.live,hok.size⟩
 ·refine ⟨hgr.os.trans (k5.os.trans h.only.os),hgr.tape.trans (k5.tape.trans h.only.tape),hgr.output.trans (k5.output.trans h.only.output),?_,fun j hj hn=>?_⟩
  ·have:=hgr.size;have:=k5.size;simp only [World.setCell] at *;simp;omega
  ·rw [heap_setCell_other _ _ _ _ (by show j≠gn;intro e;exact hn (Or.inl e))]
   have hjr:j<wr.heap.size:=by omega
   have hj5:j<w5.heap.size:=by have:=k5.size;omega
   rw [hgr.block j (by omega) (fun e=>by have:=(hv _ e.symm).1;omega),hb6.block j hj5,k5.block j hjr (by simp;intro e;exact hn (Or.inr e))]
   exact h.only.block j hj hn
 ·rw [List.map_append,show n2 - (k+1)=n2 - k - 1 by omega]
  have:=h.run
  rw [readK_go (by omega)] at this
  rw [← this,← hpk]
  rfl
theorem res_set {w:World} {g:Nat} {a b c a' b' c':Value} (h:w.heap[g]? =some (.cells #[a,b,c] 81 (0,0))):(((w.setCell ⟨g,0,none⟩ a').setCell ⟨g,1,none⟩ b').setCell ⟨g,2,none⟩ c').heap[g]? =some (.cells #[a',b',c'] 81 (0,0))∧Only (fun j=>j=g) w (((w.setCell ⟨g,0,none⟩ a').setCell ⟨g,1,none⟩ b').setCell ⟨g,2,none⟩ c'):=by
 have h1:=heap_setCell_same w g 0 _ _ a' h
 have h2:=heap_setCell_same _ g 1 _ _ b' h1
 have h3:=heap_setCell_same _ g 2 _ _ c' h2
 exact ⟨h3,((Only.setCell (P:=fun j=>j=g) w (a:=⟨g,0,none⟩) rfl a').trans (Only.setCell (P:=fun j=>j=g) _ (a:=⟨g,1,none⟩) rfl b')).trans (Only.setCell (P:=fun j=>j=g) _ (a:=⟨g,2,none⟩) rfl c')⟩
theorem end_e {s:Rd}:s.end.e=0↔s.e=0∧s.R=[]:=by
 unfold Rd.end Rd.refuse
 by_cases h:s.R=[]
 ·rw [if_pos h];simp [h]
 ·rw [if_neg h]
  split
  ·rename_i k;simp [h]
  ·rename_i k;simp [h,k]
def DecPost (w:World) (B:List Nat) (d:Int) (e:Ending) (w':World):Prop:=
 Below w.heap.size w w'∧
 (((rdN 8 B).good d∧∃kind p n c q m f E K,e= .returned (.tuple #[.agg #[.int .u8 (kind:Nat),.slice p n c,.slice q m f],.int .i64 0])∧(∀w'':World,(∀k,w.heap.size≤k→k<w'.heap.size→w''.heap[k]? =w'.heap[k]?)→EntsIn w'' p n c E∧KidsIn w'' q m f K)∧pnOf kind E K=(rdN 8 B).node∧kind<256∧∃mid,Fresh w.heap.size mid w' p n c q m f E K)∨
  (¬(rdN 8 B).good d∧e= .returned (.tuple #[.agg #[.int .u8 0,.slice none 0 0,.slice none 0 0],.int .i64 21])))
theorem decode_any (B:List Nat) (p:Option Addr) (n c:Nat) (d:Int) (w:World) (hB:Tx w p n c B) (hl:n<1099511627776):
  Calls Tryz.prog 104 #[.slice p n c,.int .i64 d] w (DecPost w B d):=by
 have hbd:=rdN_bounds (m:=8) hB.ok
 have hBl:B.length<1099511627776:=by rw [← hB.size];exact hl
 have hx0:rdN 8 B=⟨Cm.val ((Rd.mk B 0).part 1),Cm.val (((Rd.mk B 0).past 1).part 1),(((Rd.mk B 0).past 1).past 1),readE 8 (Cm.val (((Rd.mk B 0).past 1).part 1)) (((Rd.mk B 0).past 1).past 1) [],Cm.val ((readE 8 (Cm.val (((Rd.mk B 0).past 1).part 1)) (((Rd.mk B 0).past 1).past 1) []).2.part 1),(readE 8 (Cm.val (((Rd.mk B 0).past 1).part 1)) (((Rd.mk B 0).past 1).past 1) []).2.past 1,readK 8 (Cm.val ((readE 8 (Cm.val (((Rd.mk B 0).past 1).part 1)) (((Rd.mk B 0).past 1).past 1) []).2.part 1)) ((readE 8 (Cm.val (((Rd.mk B 0).past 1).part 1)) (((Rd.mk B 0).past 1).past 1) []).2.past 1) []⟩:=rfl
 have HA0:=yH (fun w1 g (h:RSx w1 g ⟨B,0⟩)=>rbyte_any ⟨B,0⟩ g w1 h hBl)
 have HA1:=yH (fun w1 g (h:RSx w1 g ((Rd.mk B 0).past 1))=>rbyte_any ((Rd.mk B 0).past 1) g w1 h (Nat.lt_of_le_of_lt hbd.2.2.2.2.2.2.2.2.2 hBl))
 generalize hxx:rdN 8 B=x at *
 have hk0:Cm.val ((Rd.mk B 0).part 1)=x.kind:=by rw [hx0]
 have hk1:Cm.val (((Rd.mk B 0).past 1).part 1)=x.n1:=by rw [hx0]
 have hk2:(((Rd.mk B 0).past 1).past 1)=x.s2:=by rw [hx0]
 have hk3:readE 8 x.n1 x.s2 []=x.T1:=by rw [hx0]
 have hk4:Cm.val (x.T1.2.part 1)=x.n2:=by rw [hx0]
 have hk5:x.T1.2.past 1=x.s4:=by rw [hx0]
 have hk6:readK 8 x.n2 x.s4 []=x.T2:=by rw [hx0]
 rw [hk0] at HA0
 rw [hk1,hk2] at HA1
 generalize (Rd.mk B 0).past 1=s1 at *
 have HBD:=yH hbd
 have HBL:=yH hBl
 have HK3:=yH hk3
 have HK4:=yH hk4
 have HK5:=yH hk5
 have HK6:=yH hk6
 have HB:=yH hB
 have HXX:=yH hxx
 clear hbd hBl hx0 hk0 hk1 hk2 hk3 hk4 hk5 hk6 hB hxx
 obtain ⟨ie,hi,hi0,hi1,hi2⟩:=info_parts IEn
 have HI:=yH hi
 have HI0:=yH hi0
 have HI1:=yH hi1
 have HI2:=yH hi2
 clear hi hi0 hi1 hi2
 obtain ⟨ik,hi,hi0,hi1,hi2⟩:=info_parts IKd
 have KI:=yH hi
 have KI0:=yH hi0
 have KI1:=yH hi1
 have KI2:=yH hi2
 clear hi hi0 hi1 hi2
 have hb1:Below w.heap.size w (w.alloc (.cells #[.int .u8 0,.slice none 0 0,.slice none 0 0] 81)):=(Below.refl _ _).alloc (Nat.le_refl _) _
 have r1:=heap_alloc_new w (.cells #[.int .u8 0,.slice none 0 0,.slice none 0 0] 81)
 have z1:(w.alloc (.cells #[.int .u8 0,.slice none 0 0,.slice none 0 0] 81)).heap.size=w.heap.size+1:=by simp
 have HNW:=yH (rnew_any B p n c _ (HB.out.later hb1) hl)
 have HB1:=yH hb1
 have R1:=yH r1
 have Z1:=yH z1
 clear hb1 r1 hl z1
 go_enter Tryz.func104,Tryz.ntmps104
 go_upto_region 1 with fail
 generalize w.alloc (.cells #[.int .u8 0,.slice none 0 0,.slice none 0 0] 81)=w1 at *
 go_upto_region 2 with (go_at_call 144;refine HNW.out.mono ?_;rintro e w2 hp;obtain ⟨g,rfl,hg2,h2,b2⟩:=hp;have HR2:=yH h2;have HG2:=yH hg2;have R2:=yH ((b2.block w.heap.size (by have:=Z1.out;omega)).trans R1.out);have HB2:=yH (HB1.out.trans (b2.mono HB1.out.size));clear h2 hg2 b2)
 have A0:=yH (HA0.out w2 g HR2.out)
 clear HNW HA0 R1 HB1
 go_upto_region 3 with (go_at_call 145;refine A0.out.mono ?_;rintro e w3 ⟨rfl,h3,k3⟩;have HR3:=yH h3;have K3:=yH k3;clear h3 k3)
 have hg3:g<w3.heap.size:=HR3.out.lt
 have hb4:Below w3.heap.size w3 (w3.alloc (.cells #[.int .u8 x.kind,.slice none 0 0,.slice none 0 0] 81)):=(Below.refl _ _).alloc (Nat.le_refl _) _
 have rn4:=heap_alloc_new w3 (.cells #[.int .u8 x.kind,.slice none 0 0,.slice none 0 0] 81)
 have hgw:w.heap.size<g:=by have:=HG2.out;have:=Z1.out;omega
 have R3:=yH ((K3.out.block w.heap.size (yL R2.out) (by simp;omega)).trans R2.out)
 have HB3:=yH (show Below w.heap.size w w3 from HB2.out.trans (below_grown K3.out (by omega) HB2.out.size))
 obtain ⟨gn,hgn⟩:∃gn,gn=w3.heap.size:=⟨_,rfl⟩
 rw [← hgn] at rn4 hg3 hb4 ⊢
 have R4:=yH ((hb4.block w.heap.size (by omega)).trans R3.out)
 have HR4:=yH (HR3.out.later (by rw [← hgn];exact hb4))
 have HB4:=yH (HB3.out.trans (hb4.mono (by omega)))
 have RN4:=yH rn4
 have HGG:=yH (show w.heap.size<g∧g<gn from ⟨hgw,hg3⟩)
 clear hb4 rn4 hg3 hgw R2 R3 HR3 HB2 HB3 K3 A0 HR2 hgn HG2 Z1
 clear w2
 generalize w3.alloc (.cells #[.int .u8 x.kind,.slice none 0 0,.slice none 0 0] 81)=w4 at *
 clear w3
 have A0:=yH (HA1.out w4 g HR4.out)
 clear HA1
 go_upto_region 4 with (go_at_call 145;refine A0.out.mono ?_;rintro e wL ⟨rfl,h3,k3⟩;have HR5:=yH h3;have K5:=yH k3;clear h3 k3)
 have hgn4:gn<w4.heap.size:=(yL RN4.out)
 have RN5:=yH ((K5.out.block gn hgn4 (by simp;have:=HGG.out;omega)).trans RN4.out)
 have RG5:=yH ((K5.out.block w.heap.size (yL R4.out) (by simp;have:=HGG.out;omega)).trans R4.out)
 have HB5:=yH (show Below w.heap.size w wL from HB4.out.trans (below_grown K5.out (by have:=HGG.out;omega) HB4.out.size))
 have HGL:=yH (show gn<wL.heap.size from (yL RN5.out))
 have HLS:=yH (show x.s2.R.length<1099511627776 from Nat.lt_of_le_of_lt HBD.out.2.2.2.2.1 HBL.out)
 have hn1:=HBD.out.2.1
 clear A0 R4 HR4 HB4 RN4 K5 hgn4
 clear w4
 go_loopw [15] (fun i wr=>De1R wL gn g x.kind x.n1 x.T1 i wr) (fun i _=>x.n1 - (intOf i).toNat)
 case atStart=>exact ⟨0,[],.slice none 0 0,x.s2,rfl,by omega,RN5.out,Lst.nil _,HR5.out,Only.refl _ _,by rw [Nat.sub_zero];exact HK3.out,HLS.out⟩
 case round=>
  obtain ⟨k,E,v,s,rfl,hst⟩:=hrel
  have ST:=yH hst
  obtain ⟨qv,cv,rfl,-⟩:=hst.ents.form
  have hle:=hst.le
  clear hst RN5 HR5 HLS
  by_cases hlt:k<x.n1
  ·have b1:(k:Int)<x.n1:=by omega
   have HT:=yH (readEnt_any s g wr.drew (ST.out.rd.later (Below.refl _ _).drew) ST.out.len)
   have HNL:=yH (show (s.entN 8).R.length<1099511627776 from by
    have hok:Sm.allB s.R:=by obtain ⟨p,n,c,h⟩:=ST.out.rd;exact h.tx.ok
    exact Nat.lt_of_le_of_lt (ent_R (m:=8) hok).2 ST.out.len)
   have HGR:=yH (show gn<wr.heap.size∧wL.heap.size≤wr.heap.size from ⟨(yL ST.out.row),ST.out.only.size⟩)
   have hk256:k<255:=by omega
   go_upto_region 5 with fail
   refine wp_region_held_drew (S:=fun _=>True) (by kernel_rfl) trivial (fun hHeld=>?_)
   refine tK 0 ?_
   refine tK 2 ?_
   refine rY [1,3] ?_
   refine rC (fun K hK=>?_) (rC (fun K hK=>?_) AllReadyH.nil)
   ·
    have t1:wr.drew.cell? ⟨gn,1,none⟩=some (.slice qv k cv):=cell_of_row wr.drew gn 1 _ _ _ (show wr.drew.heap[gn]? =_ from ST.out.row)
    go_simp
    refine hK.out _ _ trivial (fun hHeld=>?_)
    clear hK K
    try simp only [Act.put,yA,yB,yC]
    refine rY [3] ?_
    refine rC (fun K hK=>?_) AllReadyH.nil
    go_simp
    refine HT.out.mono ?_
    rintro _ w5 ⟨r5,rfl,hr5,hf5,h5,k5⟩
    have RR5:=yH hr5
    have FR5:=yH hf5
    have H5:=yH h5
    have K5:=yH (show wr.grownBy w5 (some g) from ⟨k5.os,k5.tape,k5.output,k5.size,k5.block⟩)
    have ROW5:=yH ((K5.out.block gn HGR.out.1 (by simp;have:=HGG.out;omega)).trans ST.out.row)
    clear hr5 hf5 h5 k5
    try go_wp2_with fail
    refine hK.out _ _ trivial (fun hHeld=>?_)
    clear hK K
    try simp only [Act.put,yA,yB,yC]
    refine rY [4] ?_
    refine rC (fun K hK=>?_) AllReadyH.nil
    refine wp_ent_one (.tmp 20) (by rfl) (by rfl) ?_
    have hb6:Below w5.heap.size w5 (w5.alloc (.cells #[.slice r5.p r5.n r5.c,.bool s.truthV] 85)):=(Below.refl _ _).alloc (Nat.le_refl _) _
    have ROW6:=yH ((hb6.block gn (yL ROW5.out)).trans ROW5.out)
    have OWN6:=yH ((ST.out.ents.grown K5.out (by have:=HGL.out;have:=HGG.out;omega)).own.alloc (.cells #[.slice r5.p r5.n r5.c,.bool s.truthV] 85))
    clear hb6
    refine hK.out _ _ trivial (fun hHeld=>?_)
    clear hK K
    try simp only [Act.put,yA,yB,yC]
    refine rY [5] ?_
    refine rC (fun K hK=>?_) AllReadyH.nil
    refine wp_append_at (.tmp 18) (.tmp 21) 78 (by rfl) wL.heap.size 85 ie (.agg #[.slice none 0 0,.bool false]) 2 32 UEs HI.out HI0.out HI1.out HI2.out (by rfl) (by decide) _ k _ (by rfl) OWN6.out ⟨w5.heap.size,0,none⟩ 1 1 (En.cells ⟨r5,s.truthV⟩) (by rfl) (by rfl) (ent_news w5 ⟨r5,s.truthV⟩) En.one (by unfold maxLen;omega) (by omega) (by have h1:=HGR.out;have h2:=K5.out.size;simp;omega) ?_
    intro v7 w7 hown7 hgrow7 hat7
    have hv7:=fun y e=>ST.out.ents.own.lt y e
    have row7:=(hgrow7.block gn (yL ROW6.out) (fun e=>by have:=(hv7 _ e.symm).1;have:=HGL.out;omega)).trans ROW6.out
    have t7:=cell_of_row w7 gn 1 _ _ _ row7
    have f7:=frozen_of_row w7 gn 1 _ _ row7
    obtain ⟨q7,c7,rfl⟩:=lst_form hown7
    have HO7:=yH hown7
    have HG7:=yH hgrow7
    have HT7:=yH hat7
    clear hown7 hgrow7 hat7 hv7 row7
    refine hK.out _ _ trivial (fun hHeld=>?_)
    clear hK K
    try simp only [Act.put,yA,yB,yC]
    refine tK 6 ?_
    refine rY [7] ?_
    refine rC (fun K hK=>?_) AllReadyH.nil
    go_simp
    try go_wp2_with fail
    refine hK.out _ _ trivial (fun hHeld=>?_)
    clear hK K
    try simp only [Act.put,yA,yB,yC]
    refine wpAnyH_done (by kernel_rfl) ?_ _
    have ST9:=yH (ST.out.step hlt HGL.out HGG.out.2 RR5.out rfl FR5.out H5.out K5.out HO7.out HG7.out HT7.out HNL.out)
    clear HO7 HG7 HT7 t7 f7 OWN6 ROW6 ROW5 K5 H5 FR5 hHeld
    generalize w7.setCell ⟨gn,1,none⟩ (.slice q7 (k+1) c7)=w9 at *
    go_wp2_with fail
    go_roundw
    case rel=>exact ⟨k+1,_,_,_,by go_num,ST9.out⟩
    case measure=>simp [intOf];omega
   ·
    go_simp
    refine HT.out.mono ?_
    rintro _ w5 ⟨r5,rfl,hr5,hf5,h5,k5⟩
    have RR5:=yH hr5
    have FR5:=yH hf5
    have H5:=yH h5
    have K5:=yH (show wr.grownBy w5 (some g) from ⟨k5.os,k5.tape,k5.output,k5.size,k5.block⟩)
    have ROW5:=yH ((K5.out.block gn HGR.out.1 (by simp;have:=HGG.out;omega)).trans ST.out.row)
    clear hr5 hf5 h5 k5
    try go_wp2_with fail
    refine hK.out _ _ trivial (fun hHeld=>?_)
    clear hK K
    try simp only [Act.put,yA,yB,yC]
    refine rY [1,4] ?_
    refine rC (fun K hK=>?_) (rC (fun K hK=>?_) AllReadyH.nil)
    ·
     have t1:w5.cell? ⟨gn,1,none⟩=some (.slice qv k cv):=cell_of_row w5 gn 1 _ _ _ ROW5.out
     go_simp
     refine hK.out _ _ trivial (fun hHeld=>?_)
     clear hK K
     try simp only [Act.put,yA,yB,yC]
     refine rY [4] ?_
     refine rC (fun K hK=>?_) AllReadyH.nil
     refine wp_ent_one (.tmp 20) (by rfl) (by rfl) ?_
     have hb6:Below w5.heap.size w5 (w5.alloc (.cells #[.slice r5.p r5.n r5.c,.bool s.truthV] 85)):=(Below.refl _ _).alloc (Nat.le_refl _) _
     have ROW6:=yH ((hb6.block gn (yL ROW5.out)).trans ROW5.out)
     have OWN6:=yH ((ST.out.ents.grown K5.out (by have:=HGL.out;have:=HGG.out;omega)).own.alloc (.cells #[.slice r5.p r5.n r5.c,.bool s.truthV] 85))
     clear hb6
     refine hK.out _ _ trivial (fun hHeld=>?_)
     clear hK K
     try simp only [Act.put,yA,yB,yC]
     refine rY [5] ?_
     refine rC (fun K hK=>?_) AllReadyH.nil
     refine wp_append_at (.tmp 18) (.tmp 21) 78 (by rfl) wL.heap.size 85 ie (.agg #[.slice none 0 0,.bool false]) 2 32 UEs HI.out HI0.out HI1.out HI2.out (by rfl) (by decide) _ k _ (by rfl) OWN6.out ⟨w5.heap.size,0,none⟩ 1 1 (En.cells ⟨r5,s.truthV⟩) (by rfl) (by rfl) (ent_news w5 ⟨r5,s.truthV⟩) En.one (by unfold maxLen;omega) (by omega) (by have h1:=HGR.out;have h2:=K5.out.size;simp;omega) ?_
     intro v7 w7 hown7 hgrow7 hat7
     have hv7:=fun y e=>ST.out.ents.own.lt y e
     have row7:=(hgrow7.block gn (yL ROW6.out) (fun e=>by have:=(hv7 _ e.symm).1;have:=HGL.out;omega)).trans ROW6.out
     have t7:=cell_of_row w7 gn 1 _ _ _ row7
     have f7:=frozen_of_row w7 gn 1 _ _ row7
     obtain ⟨q7,c7,rfl⟩:=lst_form hown7
     have HO7:=yH hown7
     have HG7:=yH hgrow7
     have HT7:=yH hat7
     clear hown7 hgrow7 hat7 hv7 row7
     refine hK.out _ _ trivial (fun hHeld=>?_)
     clear hK K
     try simp only [Act.put,yA,yB,yC]
     refine tK 6 ?_
     refine rY [7] ?_
     refine rC (fun K hK=>?_) AllReadyH.nil
     go_simp
     try go_wp2_with fail
     refine hK.out _ _ trivial (fun hHeld=>?_)
     clear hK K
     try simp only [Act.put,yA,yB,yC]
     refine wpAnyH_done (by kernel_rfl) ?_ _
     have ST9:=yH (ST.out.step hlt HGL.out HGG.out.2 RR5.out rfl FR5.out H5.out K5.out HO7.out HG7.out HT7.out HNL.out)
     clear HO7 HG7 HT7 t7 f7 OWN6 ROW6 ROW5 K5 H5 FR5 hHeld
     generalize w7.setCell ⟨gn,1,none⟩ (.slice q7 (k+1) c7)=w9 at *
     go_wp2_with fail
     go_roundw
     case rel=>exact ⟨k+1,_,_,_,by go_num,ST9.out⟩
     case measure=>simp [intOf];omega
    ·
     refine wp_ent_one (.tmp 20) (by rfl) (by rfl) ?_
     have hb6:Below w5.heap.size w5 (w5.alloc (.cells #[.slice r5.p r5.n r5.c,.bool s.truthV] 85)):=(Below.refl _ _).alloc (Nat.le_refl _) _
     have ROW6:=yH ((hb6.block gn (yL ROW5.out)).trans ROW5.out)
     have OWN6:=yH ((ST.out.ents.grown K5.out (by have:=HGL.out;have:=HGG.out;omega)).own.alloc (.cells #[.slice r5.p r5.n r5.c,.bool s.truthV] 85))
     clear hb6
     refine hK.out _ _ trivial (fun hHeld=>?_)
     clear hK K
     try simp only [Act.put,yA,yB,yC]
     refine rY [1] ?_
     refine rC (fun K hK=>?_) AllReadyH.nil
     have t1:(w5.alloc (.cells #[.slice r5.p r5.n r5.c,.bool s.truthV] 85)).cell? ⟨gn,1,none⟩=some (.slice qv k cv):=cell_of_row (w5.alloc (.cells #[.slice r5.p r5.n r5.c,.bool s.truthV] 85)) gn 1 _ _ _ ROW6.out
     go_simp
     refine hK.out _ _ trivial (fun hHeld=>?_)
     clear hK K
     try simp only [Act.put,yA,yB,yC]
     refine rY [5] ?_
     refine rC (fun K hK=>?_) AllReadyH.nil
     refine wp_append_at (.tmp 18) (.tmp 21) 78 (by rfl) wL.heap.size 85 ie (.agg #[.slice none 0 0,.bool false]) 2 32 UEs HI.out HI0.out HI1.out HI2.out (by rfl) (by decide) _ k _ (by rfl) OWN6.out ⟨w5.heap.size,0,none⟩ 1 1 (En.cells ⟨r5,s.truthV⟩) (by rfl) (by rfl) (ent_news w5 ⟨r5,s.truthV⟩) En.one (by unfold maxLen;omega) (by omega) (by have h1:=HGR.out;have h2:=K5.out.size;simp;omega) ?_
     intro v7 w7 hown7 hgrow7 hat7
     have hv7:=fun y e=>ST.out.ents.own.lt y e
     have row7:=(hgrow7.block gn (yL ROW6.out) (fun e=>by have:=(hv7 _ e.symm).1;have:=HGL.out;omega)).trans ROW6.out
     have t7:=cell_of_row w7 gn 1 _ _ _ row7
     have f7:=frozen_of_row w7 gn 1 _ _ row7
     obtain ⟨q7,c7,rfl⟩:=lst_form hown7
     have HO7:=yH hown7
     have HG7:=yH hgrow7
     have HT7:=yH hat7
     clear hown7 hgrow7 hat7 hv7 row7
     refine hK.out _ _ trivial (fun hHeld=>?_)
     clear hK K
     try simp only [Act.put,yA,yB,yC]
     refine tK 6 ?_
     refine rY [7] ?_
     refine rC (fun K hK=>?_) AllReadyH.nil
     go_simp
     try go_wp2_with fail
     refine hK.out _ _ trivial (fun hHeld=>?_)
     clear hK K
     try simp only [Act.put,yA,yB,yC]
     refine wpAnyH_done (by kernel_rfl) ?_ _
     have ST9:=yH (ST.out.step hlt HGL.out HGG.out.2 RR5.out rfl FR5.out H5.out K5.out HO7.out HG7.out HT7.out HNL.out)
     clear HO7 HG7 HT7 t7 f7 OWN6 ROW6 ROW5 K5 H5 FR5 hHeld
     generalize w7.setCell ⟨gn,1,none⟩ (.slice q7 (k+1) c7)=w9 at *
     go_wp2_with fail
     go_roundw
     case rel=>exact ⟨k+1,_,_,_,by go_num,ST9.out⟩
     case measure=>simp [intOf];omega
  ·obtain rfl:k=x.n1:=by omega
   have hrun:=ST.out.run
   rw [Nat.sub_self] at hrun
   have hrun:(E.map En.pe,s)=x.T1:=hrun
   have HE1:=yH (show x.T1.1=E.map En.pe from by rw [← hrun])
   have hs2:s=x.T1.2:=by rw [← hrun]
   subst hs2
   have HT1L:=yH (show x.T1.2.R.length<1099511627776 from ST.out.len)
   have A0:=yH (rbyte_any x.T1.2 g wr ST.out.rd ST.out.len)
   rw [HK4.out,HK5.out] at A0
   have hn1k:x.n1<256:=hn1
   clear hrun hlt hle hn1
   go_upto_region 8 with (go_at_call 145;refine A0.out.mono ?_;rintro e w6 ⟨rfl,h3,k3⟩;have HR6:=yH h3;have K6:=yH k3;clear h3 k3)
   have RN6:=yH ((K6.out.block gn (yL ST.out.row) (by simp;have:=HGG.out;omega)).trans ST.out.row)
   have HEN:=yH (ST.out.ents.grown K6.out (by have:=HGL.out;have:=HGG.out;omega))
   have HON:=yH (ST.out.only.trans (show Only (fun j=>j=gn∨j=g) wr w6 from ⟨K6.out.os,K6.out.tape,K6.out.output,K6.out.size,fun j hj hn=>K6.out.block j hj (by simp;intro e;exact hn (Or.inr e))⟩))
   have HGM:=yH (show gn<w6.heap.size from (yL RN6.out))
   have HLS:=yH (show x.s4.R.length<1099511627776 from Nat.lt_of_le_of_lt HBD.out.2.2.2.2.2.2.2.2.1 HBL.out)
   have hn2:=HBD.out.2.2.1
   clear A0 ST K6
   clear wr
   generalize x.n1=n1 at *
   obtain ⟨v1,hv1⟩:∃v1:Value,v1= .slice qv n1 cv:=⟨_,rfl⟩
   rw [← hv1] at RN6 HEN
   have HV1:=yH hv1
   clear hv1
   go_loopw [27] (fun i wr=>De2R w6 gn g x.kind x.n2 v1 x.T2 i wr) (fun i _=>x.n2 - (intOf i).toNat)
   case atStart=>exact ⟨0,[],.slice none 0 0,x.s4,rfl,by omega,RN6.out,⟨Lst.nil _,fun k hk=>by cases hk⟩,HR6.out,Only.refl _ _,by rw [Nat.sub_zero];exact HK6.out,HLS.out⟩
   case round=>
    obtain ⟨k,K,v,s,rfl,hst⟩:=hrel
    have ST:=yH hst
    obtain ⟨qv2,cv2,rfl,-⟩:=hst.kids.lst.form
    have hle:=hst.le
    clear hst RN6 HR6 HLS
    by_cases hlt:k<x.n2
    ·have b1:(k:Int)<x.n2:=by omega
     have HT:=yH (readKid_any s g wr.drew (ST.out.rd.later (Below.refl _ _).drew) ST.out.len)
     have HNL:=yH (show (s.kidN 8).R.length<1099511627776 from by
      have hok:Sm.allB s.R:=by obtain ⟨p,n,c,h⟩:=ST.out.rd;exact h.tx.ok
      exact Nat.lt_of_le_of_lt (kid_R (m:=8) hok).2 ST.out.len)
     have HGR:=yH (show gn<wr.heap.size∧w6.heap.size≤wr.heap.size from ⟨(yL ST.out.row),ST.out.only.size⟩)
     have hk256:k<255:=by omega
     go_upto_region 9 with fail
     refine wp_region_held_drew (S:=fun _=>True) (by kernel_rfl) trivial (fun hHeld=>?_)
     refine tK 0 ?_
     refine tK 2 ?_
     refine rY [1,3] ?_
     refine rC (fun K hK=>?_) (rC (fun K hK=>?_) AllReadyH.nil)
     ·
      have t1:wr.drew.cell? ⟨gn,2,none⟩=some (.slice qv2 k cv2):=cell_of_row wr.drew gn 2 _ _ _ (show wr.drew.heap[gn]? =_ from ST.out.row)
      go_simp
      refine hK.out _ _ trivial (fun hHeld=>?_)
      clear hK K
      try simp only [Act.put,yA,yB,yC]
      refine rY [3] ?_
      refine rC (fun K hK=>?_) AllReadyH.nil
      go_simp
      refine HT.out.mono ?_
      rintro _ w5 ⟨kd,rfl,hpk,hok5,f1,f2,f3,h5,k5⟩
      have RR5:=yH hpk
      have OK5:=yH hok5
      have FR5:=yH (show FrRw w5 wr.heap.size kd.lo∧FrRw w5 wr.heap.size kd.hi∧FrRw w5 wr.heap.size kd.key from ⟨f1,f2,f3⟩)
      have H5:=yH h5
      have K5:=yH (show wr.grownBy w5 (some g) from ⟨k5.os,k5.tape,k5.output,k5.size,k5.block⟩)
      have ROW5:=yH ((K5.out.block gn HGR.out.1 (by simp;have:=HGG.out;omega)).trans ST.out.row)
      clear hpk hok5 f1 f2 f3 h5 k5
      try go_wp2_with fail
      refine hK.out _ _ trivial (fun hHeld=>?_)
      clear hK K
      try simp only [Act.put,yA,yB,yC]
      refine rY [4] ?_
      refine rC (fun K hK=>?_) AllReadyH.nil
      refine wp_kid_one (.tmp 32) (by rfl) OK5.out.len (by rfl) ?_
      have hb6:Below w5.heap.size w5 (w5.alloc (.cells kd.cells.toArray 34)):=(Below.refl _ _).alloc (Nat.le_refl _) _
      have ROW6:=yH ((hb6.block gn (yL ROW5.out)).trans ROW5.out)
      have OWN6:=yH ((ST.out.kids.lst.grown K5.out (by have:=HGM.out;have:=HGG.out;omega)).own.alloc (.cells kd.cells.toArray 34))
      clear hb6
      refine hK.out _ _ trivial (fun hHeld=>?_)
      clear hK K
      try simp only [Act.put,yA,yB,yC]
      refine rY [5] ?_
      refine rC (fun K hK=>?_) AllReadyH.nil
      refine wp_append_at (.tmp 30) (.tmp 33) 79 (by rfl) w6.heap.size 34 ik (.agg kd0.cells.toArray) 37 120 UKs KI.out KI0.out KI1.out KI2.out (by rfl) (by decide) _ k _ (by rfl) OWN6.out ⟨w5.heap.size,0,none⟩ 1 1 kd.cells (by rfl) (by rw [Kd.cells_length OK5.out.len]) (kid_news w5 kd) Kd.one (by unfold maxLen;omega) (by omega) (by have h1:=HGR.out;have h2:=K5.out.size;simp;omega) ?_
      intro v7 w7 hown7 hgrow7 hat7
      have hv7:=fun y e=>ST.out.kids.lst.own.lt y e
      have row7:=(hgrow7.block gn (yL ROW6.out) (fun e=>by have:=(hv7 _ e.symm).1;have:=HGM.out;omega)).trans ROW6.out
      have t7:=cell_of_row w7 gn 2 _ _ _ row7
      have f7:=frozen_of_row w7 gn 2 _ _ row7
      obtain ⟨q7,c7,rfl⟩:=lst_form hown7
      have HO7:=yH hown7
      have HG7:=yH hgrow7
      have HT7:=yH hat7
      clear hown7 hgrow7 hat7 hv7 row7
      refine hK.out _ _ trivial (fun hHeld=>?_)
      clear hK K
      try simp only [Act.put,yA,yB,yC]
      refine tK 6 ?_
      refine rY [7] ?_
      refine rC (fun K hK=>?_) AllReadyH.nil
      go_simp
      try go_wp2_with fail
      refine hK.out _ _ trivial (fun hHeld=>?_)
      clear hK K
      try simp only [Act.put,yA,yB,yC]
      refine wpAnyH_done (by kernel_rfl) ?_ _
      have ST9:=yH (ST.out.step hlt HGM.out HGG.out.2 RR5.out OK5.out FR5.out.1 FR5.out.2.1 FR5.out.2.2 H5.out K5.out HO7.out HG7.out HT7.out HNL.out)
      clear HO7 HG7 HT7 t7 f7 OWN6 ROW6 ROW5 K5 H5 FR5 hHeld
      generalize w7.setCell ⟨gn,2,none⟩ (.slice q7 (k+1) c7)=w9 at *
      go_wp2_with fail
      go_roundw
      case rel=>exact ⟨k+1,_,_,_,by go_num,ST9.out⟩
      case measure=>simp [intOf];omega
     ·
      go_simp
      refine HT.out.mono ?_
      rintro _ w5 ⟨kd,rfl,hpk,hok5,f1,f2,f3,h5,k5⟩
      have RR5:=yH hpk
      have OK5:=yH hok5
      have FR5:=yH (show FrRw w5 wr.heap.size kd.lo∧FrRw w5 wr.heap.size kd.hi∧FrRw w5 wr.heap.size kd.key from ⟨f1,f2,f3⟩)
      have H5:=yH h5
      have K5:=yH (show wr.grownBy w5 (some g) from ⟨k5.os,k5.tape,k5.output,k5.size,k5.block⟩)
      have ROW5:=yH ((K5.out.block gn HGR.out.1 (by simp;have:=HGG.out;omega)).trans ST.out.row)
      clear hpk hok5 f1 f2 f3 h5 k5
      try go_wp2_with fail
      refine hK.out _ _ trivial (fun hHeld=>?_)
      clear hK K
      try simp only [Act.put,yA,yB,yC]
      refine rY [1,4] ?_
      refine rC (fun K hK=>?_) (rC (fun K hK=>?_) AllReadyH.nil)
      ·
       have t1:w5.cell? ⟨gn,2,none⟩=some (.slice qv2 k cv2):=cell_of_row w5 gn 2 _ _ _ ROW5.out
       go_simp
       refine hK.out _ _ trivial (fun hHeld=>?_)
       clear hK K
       try simp only [Act.put,yA,yB,yC]
       refine rY [4] ?_
       refine rC (fun K hK=>?_) AllReadyH.nil
       refine wp_kid_one (.tmp 32) (by rfl) OK5.out.len (by rfl) ?_
       have hb6:Below w5.heap.size w5 (w5.alloc (.cells kd.cells.toArray 34)):=(Below.refl _ _).alloc (Nat.le_refl _) _
       have ROW6:=yH ((hb6.block gn (yL ROW5.out)).trans ROW5.out)
       have OWN6:=yH ((ST.out.kids.lst.grown K5.out (by have:=HGM.out;have:=HGG.out;omega)).own.alloc (.cells kd.cells.toArray 34))
       clear hb6
       refine hK.out _ _ trivial (fun hHeld=>?_)
       clear hK K
       try simp only [Act.put,yA,yB,yC]
       refine rY [5] ?_
       refine rC (fun K hK=>?_) AllReadyH.nil
       refine wp_append_at (.tmp 30) (.tmp 33) 79 (by rfl) w6.heap.size 34 ik (.agg kd0.cells.toArray) 37 120 UKs KI.out KI0.out KI1.out KI2.out (by rfl) (by decide) _ k _ (by rfl) OWN6.out ⟨w5.heap.size,0,none⟩ 1 1 kd.cells (by rfl) (by rw [Kd.cells_length OK5.out.len]) (kid_news w5 kd) Kd.one (by unfold maxLen;omega) (by omega) (by have h1:=HGR.out;have h2:=K5.out.size;simp;omega) ?_
       intro v7 w7 hown7 hgrow7 hat7
       have hv7:=fun y e=>ST.out.kids.lst.own.lt y e
       have row7:=(hgrow7.block gn (yL ROW6.out) (fun e=>by have:=(hv7 _ e.symm).1;have:=HGM.out;omega)).trans ROW6.out
       have t7:=cell_of_row w7 gn 2 _ _ _ row7
       have f7:=frozen_of_row w7 gn 2 _ _ row7
       obtain ⟨q7,c7,rfl⟩:=lst_form hown7
       have HO7:=yH hown7
       have HG7:=yH hgrow7
       have HT7:=yH hat7
       clear hown7 hgrow7 hat7 hv7 row7
       refine hK.out _ _ trivial (fun hHeld=>?_)
       clear hK K
       try simp only [Act.put,yA,yB,yC]
       refine tK 6 ?_
       refine rY [7] ?_
       refine rC (fun K hK=>?_) AllReadyH.nil
       go_simp
       try go_wp2_with fail
       refine hK.out _ _ trivial (fun hHeld=>?_)
       clear hK K
       try simp only [Act.put,yA,yB,yC]
       refine wpAnyH_done (by kernel_rfl) ?_ _
       have ST9:=yH (ST.out.step hlt HGM.out HGG.out.2 RR5.out OK5.out FR5.out.1 FR5.out.2.1 FR5.out.2.2 H5.out K5.out HO7.out HG7.out HT7.out HNL.out)
       clear HO7 HG7 HT7 t7 f7 OWN6 ROW6 ROW5 K5 H5 FR5 hHeld
       generalize w7.setCell ⟨gn,2,none⟩ (.slice q7 (k+1) c7)=w9 at *
       go_wp2_with fail
       go_roundw
       case rel=>exact ⟨k+1,_,_,_,by go_num,ST9.out⟩
       case measure=>simp [intOf];omega
      ·
       refine wp_kid_one (.tmp 32) (by rfl) OK5.out.len (by rfl) ?_
       have hb6:Below w5.heap.size w5 (w5.alloc (.cells kd.cells.toArray 34)):=(Below.refl _ _).alloc (Nat.le_refl _) _
       have ROW6:=yH ((hb6.block gn (yL ROW5.out)).trans ROW5.out)
       have OWN6:=yH ((ST.out.kids.lst.grown K5.out (by have:=HGM.out;have:=HGG.out;omega)).own.alloc (.cells kd.cells.toArray 34))
       clear hb6
       refine hK.out _ _ trivial (fun hHeld=>?_)
       clear hK K
       try simp only [Act.put,yA,yB,yC]
       refine rY [1] ?_
       refine rC (fun K hK=>?_) AllReadyH.nil
       have t1:(w5.alloc (.cells kd.cells.toArray 34)).cell? ⟨gn,2,none⟩=some (.slice qv2 k cv2):=cell_of_row (w5.alloc (.cells kd.cells.toArray 34)) gn 2 _ _ _ ROW6.out
       go_simp
       refine hK.out _ _ trivial (fun hHeld=>?_)
       clear hK K
       try simp only [Act.put,yA,yB,yC]
       refine rY [5] ?_
       refine rC (fun K hK=>?_) AllReadyH.nil
       refine wp_append_at (.tmp 30) (.tmp 33) 79 (by rfl) w6.heap.size 34 ik (.agg kd0.cells.toArray) 37 120 UKs KI.out KI0.out KI1.out KI2.out (by rfl) (by decide) _ k _ (by rfl) OWN6.out ⟨w5.heap.size,0,none⟩ 1 1 kd.cells (by rfl) (by rw [Kd.cells_length OK5.out.len]) (kid_news w5 kd) Kd.one (by unfold maxLen;omega) (by omega) (by have h1:=HGR.out;have h2:=K5.out.size;simp;omega) ?_
       intro v7 w7 hown7 hgrow7 hat7
       have hv7:=fun y e=>ST.out.kids.lst.own.lt y e
       have row7:=(hgrow7.block gn (yL ROW6.out) (fun e=>by have:=(hv7 _ e.symm).1;have:=HGM.out;omega)).trans ROW6.out
       have t7:=cell_of_row w7 gn 2 _ _ _ row7
       have f7:=frozen_of_row w7 gn 2 _ _ row7
       obtain ⟨q7,c7,rfl⟩:=lst_form hown7
       have HO7:=yH hown7
       have HG7:=yH hgrow7
       have HT7:=yH hat7
       clear hown7 hgrow7 hat7 hv7 row7
       refine hK.out _ _ trivial (fun hHeld=>?_)
       clear hK K
       try simp only [Act.put,yA,yB,yC]
       refine tK 6 ?_
       refine rY [7] ?_
       refine rC (fun K hK=>?_) AllReadyH.nil
       go_simp
       try go_wp2_with fail
       refine hK.out _ _ trivial (fun hHeld=>?_)
       clear hK K
       try simp only [Act.put,yA,yB,yC]
       refine wpAnyH_done (by kernel_rfl) ?_ _
       have ST9:=yH (ST.out.step hlt HGM.out HGG.out.2 RR5.out OK5.out FR5.out.1 FR5.out.2.1 FR5.out.2.2 H5.out K5.out HO7.out HG7.out HT7.out HNL.out)
       clear HO7 HG7 HT7 t7 f7 OWN6 ROW6 ROW5 K5 H5 FR5 hHeld
       generalize w7.setCell ⟨gn,2,none⟩ (.slice q7 (k+1) c7)=w9 at *
       go_wp2_with fail
       go_roundw
       case rel=>exact ⟨k+1,_,_,_,by go_num,ST9.out⟩
       case measure=>simp [intOf];omega
    ·obtain rfl:k=x.n2:=by omega
     have hrun:=ST.out.run
     rw [Nat.sub_self] at hrun
     have hrun:(K.map Kd.pk,s)=x.T2:=hrun
     have HK1:=yH (show x.T2.1=K.map Kd.pk from by rw [← hrun])
     have hs2:s=x.T2.2:=by rw [← hrun]
     subst hs2
     have hn2k:x.n2<256:=hn2
     have HKN:=yH (show ⟨x.kind,E.map En.pe,K.map Kd.pk⟩=x.node from by unfold RdN.node;rw [HE1.out,HK1.out])
     have hkd256:=HBD.out.1
     have HGOOD:=yH (show x.good d↔x.T2.2.end.e=0∧x.node.right d=true from by
      rw [end_e]
      unfold RdN.good
      exact ⟨fun h=>⟨⟨h.1,h.2.1⟩,h.2.2⟩,fun h=>⟨h.1.1,h.1.2,h.2⟩⟩)
     have A0:=yH (rend_any x.T2.2 g wr ST.out.rd)
     have HENS:=yH (HEN.out.keep (w':=wr) (fun j hj hl=>ST.out.only.block j hl (by have:=HGL.out;have:=HGG.out;omega)))
     have RGR:=yH (show wr.heap[w.heap.size]? =some (.cells #[.int .u8 0,.slice none 0 0,.slice none 0 0] 81 (0,0)) from
      (ST.out.only.block _ (by have:=HGM.out;have:=HGG.out;omega) (by have:=HGG.out;omega)).trans ((HON.out.block _ (by have:=HGL.out;have:=HGG.out;omega) (by have:=HGG.out;omega)).trans RG5.out))
     have HBR:=yH (show Below w.heap.size w wr from (HB5.out.trans ((HON.out.trans (ST.out.only.mono fun j e=>e)).below HB5.out.size (fun j e=>by have:=HGG.out;omega))))
     have HGB:=yH (show wL.heap.size≤w6.heap.size from HON.out.size)
     have HLOW:=yH (show LowL En.rows w6.heap.size v1 E from Lst.low HEN.out)
     generalize x.T2.2.end=sE at *
     clear hrun hlt hle hn2 HEN HON HB5 RG5 HK6 HK5 HK4 HK3 HBD
     have hEq:∀w9:World,wr.grownBy w9 (some g)→w9.heap[gn]? =some (.cells #[.int .u8 x.kind,v1,.slice qv2 x.n2 cv2] 81 (0,0))∧w9.heap[w.heap.size]? =some (.cells #[.int .u8 0,.slice none 0 0,.slice none 0 0] 81 (0,0))∧Ens wL.heap.size w9 v1 n1 E∧Kds w6.heap.size w9 (.slice qv2 x.n2 cv2) x.n2 K∧Below w.heap.size w w9:=fun w9 k9=>
      ⟨(k9.block gn (yL ST.out.row) (by simp;have:=HGG.out;omega)).trans ST.out.row,(k9.block _ (yL RGR.out) (by simp;have:=HGG.out;omega)).trans RGR.out,HENS.out.grown k9 (by have:=HGL.out;have:=HGG.out;omega),⟨ST.out.kids.lst.grown k9 (by have:=HGM.out;have:=HGG.out;omega),ST.out.kids.good⟩,HBR.out.trans (below_grown k9 (by have:=HGG.out;omega) HBR.out.size)⟩
     have HEQ:=yH hEq
     clear hEq RGR HBR HENS ST
     have hv1:=HV1.out
     obtain ⟨du,hdu,hdr⟩:=UNo
     have HD:=yH hdu
     have HDR:=yH hdr
     clear hdu hdr
     by_cases he:sE.e=0
     case neg=>
      have b2:((sE.e:Int) !=0)=true:=by simp;omega
      have HNG:=yH (show ¬x.good d from fun h=>he (HGOOD.out.1 h).1)
      clear he
      go_upto_region 12 with (go_at_call 148;refine A0.out.mono ?_;rintro e w9 ⟨rfl,h3,k3⟩;have H9:=yH (HEQ.out w9 k3);clear h3 k3)
      obtain ⟨rn,rg,-,-,hb⟩:=H9.out
      have a0:=cell_of_row w9 w.heap.size 0 _ _ _ rg
      have a1:=cell_of_row w9 w.heap.size 1 _ _ _ rg
      have a2:=cell_of_row w9 w.heap.size 2 _ _ _ rg
      have f0:=frozen_of_row w9 w.heap.size 0 _ _ rg
      have f1:=frozen_of_row w9 w.heap.size 1 _ _ rg
      have f2:=frozen_of_row w9 w.heap.size 2 _ _ rg
      clear rn rg hb
      go_wp2_with fail
      obtain ⟨r1,r2⟩:=res_set (a':=.int .u8 0) (b':=.slice none 0 0) (c':=.slice none 0 0) H9.out.2.1
      refine ret_str2 4 5 (by kernel_rfl) w.heap.size _ #[.int .u8 0,.slice none 0 0,.slice none 0 0] _ HD.out HDR.out SNo (by rfl) (by rfl) r1 ⟨H9.out.2.2.2.2.trans (r2.below H9.out.2.2.2.2.size (fun j e=>by omega)),Or.inr ⟨by rw [HXX.out];exact HNG.out,rfl⟩⟩
     have HE0:=yH he
     rw [he] at A0
     clear he
     subst hv1
     cases hX:x.node.right d with
     | false=>
      have HNG:=yH (show ¬x.good d from fun h=>by have:=(HGOOD.out.1 h).2;rw [hX] at this;cases this)
      have HXR:=yH hX
      clear hX
      go_upto_region 12 with (first
       | (go_at_call 148;refine A0.out.mono ?_;rintro e w9 ⟨rfl,h3,k3⟩;have H9:=yH (HEQ.out w9 k3);have t0:=cell_of_row w9 gn 0 _ _ _ H9.out.1;have t1:=cell_of_row w9 gn 1 _ _ _ H9.out.1;have t2:=cell_of_row w9 gn 2 _ _ _ H9.out.1;have hrt:=nright_any x.kind qv n1 cv qv2 x.n2 cv2 E K d w9 (H9.out.2.2.1.ents (by omega)) (H9.out.2.2.2.1.kids (by omega));rw [show pnOf x.kind E K=x.node from HKN.out,HXR.out] at hrt;have HRT:=yH hrt;clear h3 k3 hrt)
       | (go_at_call 149;refine HRT.out.mono ?_;rintro e w10 ⟨rfl,b10⟩;have R10:=yH ((b10.block _ (yL H9.out.2.1)).trans H9.out.2.1);have B10:=yH (H9.out.2.2.2.2.trans (b10.mono H9.out.2.2.2.2.size));clear b10))
      have a0:=cell_of_row w10 w.heap.size 0 _ _ _ R10.out
      have a1:=cell_of_row w10 w.heap.size 1 _ _ _ R10.out
      have a2:=cell_of_row w10 w.heap.size 2 _ _ _ R10.out
      have f0:=frozen_of_row w10 w.heap.size 0 _ _ R10.out
      have f1:=frozen_of_row w10 w.heap.size 1 _ _ R10.out
      have f2:=frozen_of_row w10 w.heap.size 2 _ _ R10.out
      go_wp2_with fail
      obtain ⟨r1,r2⟩:=res_set (a':=.int .u8 0) (b':=.slice none 0 0) (c':=.slice none 0 0) R10.out
      refine ret_str2 4 5 (by kernel_rfl) w.heap.size _ #[.int .u8 0,.slice none 0 0,.slice none 0 0] _ HD.out HDR.out SNo (by rfl) (by rfl) r1 ⟨B10.out.trans (r2.below B10.out.size (fun j e=>by omega)),Or.inr ⟨by rw [HXX.out];exact HNG.out,rfl⟩⟩
     | true=>
      have HYG:=yH (show x.good d from HGOOD.out.2 ⟨HE0.out,hX⟩)
      have HXR:=yH hX
      clear hX
      go_upto_region 13 with (first
       | (go_at_call 148;refine A0.out.mono ?_;rintro e w9 ⟨rfl,h3,k3⟩;have H9:=yH (HEQ.out w9 k3);have t0:=cell_of_row w9 gn 0 _ _ _ H9.out.1;have t1:=cell_of_row w9 gn 1 _ _ _ H9.out.1;have t2:=cell_of_row w9 gn 2 _ _ _ H9.out.1;have hrt:=nright_any x.kind qv n1 cv qv2 x.n2 cv2 E K d w9 (H9.out.2.2.1.ents (by omega)) (H9.out.2.2.2.1.kids (by omega));rw [show pnOf x.kind E K=x.node from HKN.out,HXR.out] at hrt;have HRT:=yH hrt;clear h3 k3 hrt)
       | (go_at_call 149;refine HRT.out.mono ?_;rintro e w10 ⟨rfl,b10⟩;have R10:=yH ((b10.block _ (yL H9.out.2.1)).trans H9.out.2.1);have B10:=yH (H9.out.2.2.2.2.trans (b10.mono H9.out.2.2.2.2.size));have RN10:=yH ((b10.block _ (yL H9.out.1)).trans H9.out.1);have E10:=yH (H9.out.2.2.1.later b10);have K10:=yH (show Kds w6.heap.size w10 (.slice qv2 x.n2 cv2) x.n2 K from ⟨H9.out.2.2.2.1.lst.later b10,H9.out.2.2.2.1.good⟩);clear b10 t0 t1 t2))
      have t0:=cell_of_row w10 gn 0 _ _ _ RN10.out
      have t1:=cell_of_row w10 gn 1 _ _ _ RN10.out
      have t2:=cell_of_row w10 gn 2 _ _ _ RN10.out
      have a0:=cell_of_row w10 w.heap.size 0 _ _ _ R10.out
      have a1:=cell_of_row w10 w.heap.size 1 _ _ _ R10.out
      have a2:=cell_of_row w10 w.heap.size 2 _ _ _ R10.out
      have f0:=frozen_of_row w10 w.heap.size 0 _ _ R10.out
      have f1:=frozen_of_row w10 w.heap.size 1 _ _ R10.out
      have f2:=frozen_of_row w10 w.heap.size 2 _ _ R10.out
      go_wp2_with fail
      obtain ⟨r1,r2⟩:=res_set (a':=.int .u8 x.kind) (b':=.slice qv n1 cv) (c':=.slice qv2 x.n2 cv2) R10.out
      have e11:=E10.out.keep (fun j hj hl=>r2.block j hl (by have:=HGL.out;have:=HGG.out;omega))
      have k11:=K10.out.lst.keep (fun j hj hl=>r2.block j hl (by have:=HGM.out;have:=HGG.out;omega))
      refine ret_str2 4 5 (by kernel_rfl) w.heap.size _ #[.int .u8 x.kind,.slice qv n1 cv,.slice qv2 x.n2 cv2] _ HD.out HDR.out SNo (by rfl) (by rfl) r1 ⟨B10.out.trans (r2.below B10.out.size (fun j e=>by omega)),Or.inl ⟨by rw [HXX.out];exact HYG.out,x.kind,qv,n1,cv,qv2,x.n2,cv2,E,K,rfl,(fun w'' hk=>⟨Ens.ents (e11.keep (fun j hj hl=>hk j (by have:=HGL.out;have:=HGG.out;omega) hl)) (by omega),Kds.kids ⟨k11.keep (fun j hj hl=>hk j (by have:=HGM.out;have:=HGG.out;omega) hl),K10.out.good⟩ (by omega)⟩),by rw [HXX.out];exact HKN.out,hkd256,w6.heap.size,by have:=HGL.out;have:=HGG.out;have:=HGB.out;omega,e11.base (by have:=HGL.out;have:=HGG.out;omega),HLOW.out,⟨k11,K10.out.good⟩⟩⟩
end Go.Proofs.YtinihaflmdihaaaGreat.Nd
