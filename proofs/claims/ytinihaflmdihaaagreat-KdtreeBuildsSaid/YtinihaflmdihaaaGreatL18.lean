/- CodRNew, CodREnd, NlDecode. -/
import Derived.BigRegion
import Derived.Test.YtinihaflmdihaaaGreatL17
set_option maxRecDepth 100000
set_option maxHeartbeats 8000000
set_option linter.all false
namespace Go.Proofs.YtinihaflmdihaaaGreat
open Go.RowKit
def y4i (w:World) (B:List Nat) (e:Ending) (w':World):Prop:=∃g,e= .returned (.pointer (some ⟨g,0,none⟩))∧w.heap.size≤g∧RSx w' g ⟨B,0⟩∧Below w.heap.size w w'
theorem y2v (B:List Nat) (p:Option Addr) (n c:Nat) (w:World) (hB:Tx w p n c B) (hl:n<1099511627776):
  Calls Tryz.prog 144 #[.slice p n c] w (y4i w B):=by
 have I:=yH hB
 clear hB
 go_enter Tryz.func144,Tryz.ntmps144
 go_wp2_with fail
 refine (x74 B p n c _ I.out hl).mono ?_
 rintro e H J
 obtain ⟨q,m,rfl,A,G⟩:=J
 have C:=yH A
 have E:=yH G
 clear A G
 go_wp2_with fail
 go_ret
 exact ⟨H.heap.size,rfl,E.out.size,⟨q,B.length,m,heap_alloc_new H _,(x0H C.out I.out.ok).later ((Below.refl _ _).alloc (Nat.le_refl _) _),fun x hx h=>by
  subst hx
  exact (C.out.lt x.block (by
   rcases C.out.2 with ⟨A,_⟩ | ⟨k,L,K,A,_⟩
   ·simp at A
   ·simp only [Value.slice.injEq,Option.some.injEq] at A;rw [A.1];rfl)).2⟩,E.out.alloc E.out.size _⟩
def Rd.end (s:Rd):Rd:=if s.R=[] then s else s.refuse 22
theorem y2w (s:Rd) (g:Nat) (w:World) (hs:RSx w g s):
  Calls Tryz.prog 148 #[.pointer (some ⟨g,0,none⟩)] w (RPost w g (.int .i64 s.end.e) s.end):=by
 obtain ⟨p,n,c,hs⟩:=hs
 have P:=hs.rest
 have L:=hs.err
 have B:=hs.tx.size
 have C:=yH hs
 have G:=yH B
 clear hs B
 unfold Rd.end
 by_cases h:s.R=[]
 ·rw [if_pos h]
  obtain rfl:n=0:=by rw [G.out,h];rfl
  clear h
  go_enter Tryz.func148,Tryz.ntmps148
  go_wp2_with fail
  go_ret
  exact ⟨rfl,⟨p,0,c,C.out⟩,x3j _ _⟩
 ·rw [if_neg h]
  have b1:(0:Int)<n:=by have:=List.length_pos_iff.2 h;have:=G.out;omega
  clear h L
  go_enter Tryz.func148,Tryz.ntmps148
  go_wp2_with fail
  refine (x24 s 22 g _ ⟨p,n,c,C.out⟩).mono ?_
  rintro e Q J
  obtain ⟨rfl,⟨H,M,I,A⟩,E⟩:=J
  have O:=A.err
  have K:=yH A
  have N:=yH E
  clear A E
  go_wp2_with fail
  go_ret
  exact ⟨rfl,⟨H,M,I,K.out⟩,N.out⟩
end Go.Proofs.YtinihaflmdihaaaGreat
namespace Go.Proofs.YtinihaflmdihaaaGreat.Nd
open Go.RowKit Go.Proofs.YtinihaflmdihaaaGreat.Dk
open List renaming setIfInBounds_toArray → yA, set_cons_zero → yB, set_cons_succ → yC
theorem UNo0:(Tryz.prog.underlying 81).map (·.isRow)=some true:=by kernel_rfl
theorem UNo:∃d,Tryz.prog.underlying 81=some d∧d.isRow=true:=by
 have h:=UNo0
 revert h
 cases Tryz.prog.underlying 81 with
 | none=>intro h;cases h
 | some d=>intro h;exact ⟨d,rfl,by simpa using h⟩
theorem SNo:(Tryz.prog.info? 81).map (·.size)=some 3:=by kernel_rfl
theorem x1E {w:World} {base e size n:Nat} {v:Value} {xs:List Value} (h:w.ownsRow base e size v n xs):∃q c,v= .slice q n c:=by
 rcases h.2 with ⟨rfl,B⟩ | ⟨g,A,C,rfl,_⟩
 ·exact ⟨none,0,by rw [B]⟩
 ·exact ⟨_,A,rfl⟩
structure De1 (wL:World) (gn g kind n1:Nat) (T:List PE×Rd) (k:Nat) (E:List En) (v:Value) (s:Rd) (wr:World):Prop where
 le:k≤n1
 row:wr.heap[gn]? =some (.cells #[.int .u8 kind,v,.slice none 0 0] 81 (0,0))
 ents:Ens wL.heap.size wr v k E
 rd:RSx wr g s
 only:Only (fun j=>j=gn∨j=g) wL wr
 run:readE 8 (n1 - k) s (E.map En.pe)=T
 len:s.R.length<1099511627776
def De1R (wL:World) (gn g kind n1:Nat) (T:List PE×Rd) (i:Value) (wr:World):Prop:=∃k E v s,i= .int .u8 (k:Nat)∧De1 wL gn g kind n1 T k E v s wr
structure De2 (wL:World) (gn g kind n2:Nat) (v1:Value) (T:List PK×Rd) (k:Nat) (K:List Kd) (v:Value) (s:Rd) (wr:World):Prop where
 le:k≤n2
 row:wr.heap[gn]? =some (.cells #[.int .u8 kind,v1,v] 81 (0,0))
 kids:Kds wL.heap.size wr v k K
 rd:RSx wr g s
 only:Only (fun j=>j=gn∨j=g) wL wr
 run:readK 8 (n2 - k) s (K.map Kd.pk)=T
 len:s.R.length<1099511627776
def De2R (wL:World) (gn g kind n2:Nat) (v1:Value) (T:List PK×Rd) (i:Value) (wr:World):Prop:=∃k K v s,i= .int .u8 (k:Nat)∧De2 wL gn g kind n2 v1 T k K v s wr
theorem De1.step {wL wr w5 w7:World} {gn g kind n1:Nat} {T:List PE×Rd} {k:Nat} {E:List En} {v v7:Value} {s:Rd} (h:De1 wL gn g kind n1 T k E v s wr) (hk:k<n1) (hgn:gn<wL.heap.size) (hg:g<gn) {r:Rw} {lv:Bool}
  (hr:r.R=s.truth.rowV 8) (hlv:lv=s.truthV) (hfr:FrRw w5 wr.heap.size r) (h5:RSx w5 g (s.entN 8)) (k5:wr.grownBy w5 (some g)) {o:Obj}
  (hown:w7.ownsRow wL.heap.size 85 2 v7 (k+1) (E.flatMap En.cells++En.cells ⟨r,lv⟩)) (hgr:(w5.alloc o).grownBy w7 v.ownBlock) (hat:v7.ownBlock=v.ownBlock∨v7.ownBlock=some (w5.alloc o).heap.size) (hl:(s.entN 8).R.length<1099511627776):
  De1 wL gn g kind n1 T (k+1) (E++[⟨r,lv⟩]) v7 (s.entN 8) (w7.setCell ⟨gn,1,none⟩ v7):=by
 have J:=fun x e=>h.ents.own.lt x e
 have W:(w5.alloc o).heap.size=w5.heap.size+1:=by simp
 have A:Below w5.heap.size w5 (w5.alloc o):=(Below.refl _ _).alloc (Nat.le_refl _) _
 have P:=h.ents.grown k5 (by omega)
 have U:=P.later A
 have L:=h.only.size
 have H:∀q∈En.rows ⟨r,lv⟩,FrRw (w5.alloc o) wL.heap.size q∧∀x,q.p=some x→q.R≠[]→v.ownBlock≠some x.block:=fun q hq=>by
  obtain rfl:q=r:=by simpa [En.rows] using hq
  refine ⟨(hfr.later A).base L,fun x hx hR e=>?_⟩
  have X:=hfr.lo x hx hR
  have Y:=(J _ e).2
  omega
 have Q:=U.put H hown hgr hat
 have C:=(k5.block gn (yL h.row) (by simp;omega)).trans h.row
 have B:=(A.block gn (yL C)).trans C
 have I:=(hgr.block gn (yL B) (fun e=>by have:=(J _ e.symm).1;omega)).trans B
 have G:=heap_setCell_same w7 gn 1 _ _ v7 I
 have K:Below (g+1) (w5.alloc o) w7:=⟨hgr.os,hgr.tape,hgr.output,hgr.size,fun j hj=>hgr.block j (by have:=k5.size;omega) (fun e=>by have:=(J _ e.symm).1;omega)⟩
 have N:Below (g+1) w7 (w7.setCell ⟨gn,1,none⟩ v7):=(Below.refl _ _).setCell (p:=⟨gn,1,none⟩) (by show g+1≤gn;omega) _
 refine ⟨hk,G,Q.keep (fun j hj _=>heap_setCell_other _ _ _ _ (by show j≠gn;omega)),((h5.later A).low K).low N,?_,?_,hl⟩
 ·refine ⟨hgr.os.trans (k5.os.trans h.only.os),hgr.tape.trans (k5.tape.trans h.only.tape),hgr.output.trans (k5.output.trans h.only.output),?_,fun j hj hn=>?_⟩
  ·have:=hgr.size;have:=k5.size;simp only [World.setCell] at *;simp;omega
  ·rw [heap_setCell_other _ _ _ _ (by show j≠gn;intro e;exact hn (Or.inl e))]
   have M:j<wr.heap.size:=by omega
   have O:j<w5.heap.size:=by have:=k5.size;omega
   rw [hgr.block j (by omega) (fun e=>by have:=(J _ e.symm).1;omega),A.block j O,k5.block j M (by simp;intro e;exact hn (Or.inr e))]
   exact h.only.block j hj hn
 ·rw [List.map_append,show n1 - (k+1)=n1 - k - 1 by omega]
  have:=h.run
  rw [y2m (by omega)] at this
  rw [← this]
  show readE 8 (n1 - k - 1) (s.entN 8) (E.map En.pe++[⟨r.R,lv⟩])=_
  rw [hr,hlv]
  rfl
theorem De2.step {wL wr w5 w7:World} {gn g kind n2:Nat} {v1:Value} {T:List PK×Rd} {k:Nat} {K:List Kd} {v v7:Value} {s:Rd} (h:De2 wL gn g kind n2 v1 T k K v s wr) (hk:k<n2) (hgn:gn<wL.heap.size) (hg:g<gn) {kd:Kd}
  (hpk:kd.pk=s.kidV 8) (hok:kd.Ok w5) (f1:FrRw w5 wr.heap.size kd.lo) (f2:FrRw w5 wr.heap.size kd.hi) (f3:FrRw w5 wr.heap.size kd.key) (h5:RSx w5 g (s.kidN 8)) (k5:wr.grownBy w5 (some g)) {o:Obj}
  (hown:w7.ownsRow wL.heap.size 34 37 v7 (k+1) (K.flatMap Kd.cells++kd.cells)) (hgr:(w5.alloc o).grownBy w7 v.ownBlock) (hat:v7.ownBlock=v.ownBlock∨v7.ownBlock=some (w5.alloc o).heap.size) (hl:(s.kidN 8).R.length<1099511627776):
  De2 wL gn g kind n2 v1 T (k+1) (K++[kd]) v7 (s.kidN 8) (w7.setCell ⟨gn,2,none⟩ v7):=by
 have L:=fun x e=>h.kids.lst.own.lt x e
 have W:(w5.alloc o).heap.size=w5.heap.size+1:=by simp
 have A:Below w5.heap.size w5 (w5.alloc o):=(Below.refl _ _).alloc (Nat.le_refl _) _
 have X:=h.kids.lst.grown k5 (by omega)
 have Y:=X.later A
 have O:=h.only.size
 have G:∀q∈Kd.rows kd,FrRw (w5.alloc o) wL.heap.size q∧∀x,q.p=some x→q.R≠[]→v.ownBlock≠some x.block:=fun q hq=>by
  have J:FrRw w5 wr.heap.size q:=by
   simp only [Kd.rows,List.mem_cons,List.not_mem_nil,or_false] at hq
   rcases hq with rfl | rfl | rfl<;>assumption
  refine ⟨(J.later A).base O,fun x E hR e=>?_⟩
  have Z:=J.lo x E hR
  have a:=(L _ e).2
  omega
 have U:=Y.put G hown hgr hat
 have C:=(k5.block gn (yL h.row) (by simp;omega)).trans h.row
 have B:=(A.block gn (yL C)).trans C
 have H:=(hgr.block gn (yL B) (fun e=>by have:=(L _ e.symm).1;omega)).trans B
 have I:=heap_setCell_same w7 gn 2 _ _ v7 H
 have M:Below (g+1) (w5.alloc o) w7:=⟨hgr.os,hgr.tape,hgr.output,hgr.size,fun j hj=>hgr.block j (by have:=k5.size;omega) (fun e=>by have:=(L _ e.symm).1;omega)⟩
 have P:Below (g+1) w7 (w7.setCell ⟨gn,2,none⟩ v7):=(Below.refl _ _).setCell (p:=⟨gn,2,none⟩) (by show g+1≤gn;omega) _
 refine ⟨hk,I,⟨U.keep (fun j hj _=>heap_setCell_other _ _ _ _ (by show j≠gn;omega)),fun x E=>?_⟩,((h5.later A).low M).low P,?_,?_,hl⟩
 ·rcases List.mem_append.1 E with E | E
  ·exact h.kids.good x E
  ·obtain rfl:x=kd:=by simpa using E
   exact ⟨hok.len,hok.ok,hok.live,hok.size⟩
 ·refine ⟨hgr.os.trans (k5.os.trans h.only.os),hgr.tape.trans (k5.tape.trans h.only.tape),hgr.output.trans (k5.output.trans h.only.output),?_,fun j hj hn=>?_⟩
  ·have:=hgr.size;have:=k5.size;simp only [World.setCell] at *;simp;omega
  ·rw [heap_setCell_other _ _ _ _ (by show j≠gn;intro e;exact hn (Or.inl e))]
   have N:j<wr.heap.size:=by omega
   have Q:j<w5.heap.size:=by have:=k5.size;omega
   rw [hgr.block j (by omega) (fun e=>by have:=(L _ e.symm).1;omega),A.block j Q,k5.block j N (by simp;intro e;exact hn (Or.inr e))]
   exact h.only.block j hj hn
 ·rw [List.map_append,show n2 - (k+1)=n2 - k - 1 by omega]
  have:=h.run
  rw [y2n (by omega)] at this
  rw [← this,← hpk]
  rfl
theorem x5E {w:World} {g:Nat} {a b c a' b' c':Value} (h:w.heap[g]? =some (.cells #[a,b,c] 81 (0,0))):(((w.setCell ⟨g,0,none⟩ a').setCell ⟨g,1,none⟩ b').setCell ⟨g,2,none⟩ c').heap[g]? =some (.cells #[a',b',c'] 81 (0,0))∧Only (fun j=>j=g) w (((w.setCell ⟨g,0,none⟩ a').setCell ⟨g,1,none⟩ b').setCell ⟨g,2,none⟩ c'):=by
 have B:=heap_setCell_same w g 0 _ _ a' h
 have A:=heap_setCell_same _ g 1 _ _ b' B
 have C:=heap_setCell_same _ g 2 _ _ c' A
 exact ⟨C,((Only.setCell (P:=fun j=>j=g) w (a:=⟨g,0,none⟩) rfl a').trans (Only.setCell (P:=fun j=>j=g) _ (a:=⟨g,1,none⟩) rfl b')).trans (Only.setCell (P:=fun j=>j=g) _ (a:=⟨g,2,none⟩) rfl c')⟩
theorem end_e {s:Rd}:s.end.e=0↔s.e=0∧s.R=[]:=by
 unfold Rd.end Rd.refuse
 by_cases h:s.R=[]
 ·rw [if_pos h];simp [h]
 ·rw [if_neg h]
  split
  ·rename_i k;simp [h]
  ·rename_i k;simp [h,k]
def y4j (w:World) (B:List Nat) (d:Int) (e:Ending) (w':World):Prop:=
 Below w.heap.size w w'∧
 (((rdN 8 B).good d∧∃kind p n c q m f E K,e= .returned (.tuple #[.agg #[.int .u8 (kind:Nat),.slice p n c,.slice q m f],.int .i64 0])∧(∀w'':World,(∀k,w.heap.size≤k→k<w'.heap.size→w''.heap[k]? =w'.heap[k]?)→EntsIn w'' p n c E∧KidsIn w'' q m f K)∧pnOf kind E K=(rdN 8 B).node∧kind<256∧∃mid,Fresh w.heap.size mid w' p n c q m f E K)∨
  (¬(rdN 8 B).good d∧e= .returned (.tuple #[.agg #[.int .u8 0,.slice none 0 0,.slice none 0 0],.int .i64 21])))
theorem x64 (B:List Nat) (p:Option Addr) (n c:Nat) (d:Int) (w:World) (hB:Tx w p n c B) (hl:n<1099511627776):
  Calls Tryz.prog 104 #[.slice p n c,.int .i64 d] w (y4j w B d):=by
 have BL:=x9Y (m:=8) hB.ok
 have Af:B.length<1099511627776:=by rw [← hB.size];exact hl
 have A7:rdN 8 B=⟨Cm.val ((Rd.mk B 0).part 1),Cm.val (((Rd.mk B 0).past 1).part 1),(((Rd.mk B 0).past 1).past 1),readE 8 (Cm.val (((Rd.mk B 0).past 1).part 1)) (((Rd.mk B 0).past 1).past 1) [],Cm.val ((readE 8 (Cm.val (((Rd.mk B 0).past 1).part 1)) (((Rd.mk B 0).past 1).past 1) []).2.part 1),(readE 8 (Cm.val (((Rd.mk B 0).past 1).part 1)) (((Rd.mk B 0).past 1).past 1) []).2.past 1,readK 8 (Cm.val ((readE 8 (Cm.val (((Rd.mk B 0).past 1).part 1)) (((Rd.mk B 0).past 1).past 1) []).2.part 1)) ((readE 8 (Cm.val (((Rd.mk B 0).past 1).part 1)) (((Rd.mk B 0).past 1).past 1) []).2.past 1) []⟩:=rfl
 have BC:=yH (fun w1 g (h:RSx w1 g ⟨B,0⟩)=>x2E ⟨B,0⟩ g w1 h Af)
 have BI:=yH (fun w1 g (h:RSx w1 g ((Rd.mk B 0).past 1))=>x2E ((Rd.mk B 0).past 1) g w1 h (Nat.lt_of_le_of_lt BL.2.2.2.2.2.2.2.2.2 Af))
 generalize hxx:rdN 8 B=x at *
 have Bp:Cm.val ((Rd.mk B 0).part 1)=x.kind:=by rw [A7]
 have Bj:Cm.val (((Rd.mk B 0).past 1).part 1)=x.n1:=by rw [A7]
 have Bd:(((Rd.mk B 0).past 1).past 1)=x.s2:=by rw [A7]
 have BS:readE 8 x.n1 x.s2 []=x.T1:=by rw [A7]
 have Bl:Cm.val (x.T1.2.part 1)=x.n2:=by rw [A7]
 have BU:x.T1.2.past 1=x.s4:=by rw [A7]
 have Ba:readK 8 x.n2 x.s4 []=x.T2:=by rw [A7]
 rw [Bp] at BC
 rw [Bj,Bd] at BI
 generalize (Rd.mk B 0).past 1=s1 at *
 have AG:=yH BL
 have Bg:=yH Af
 have HK3:=yH BS
 have Bh:=yH Bl
 have Bb:=yH BU
 have HK6:=yH Ba
 have HB:=yH hB
 have Ad:=yH hxx
 clear BL Af A7 Bp Bj Bd BS Bl BU Ba hB hxx
 obtain ⟨ie,hi,AN,AO,AR⟩:=info_parts IEn
 have HI:=yH hi
 have Ar:=yH AN
 have B0:=yH AO
 have BP:=yH AR
 clear hi AN AO AR
 obtain ⟨ik,hi,AN,AO,AR⟩:=info_parts IKd
 have KI:=yH hi
 have BK:=yH AN
 have B4:=yH AO
 have Aq:=yH AR
 clear hi AN AO AR
 have Ax:Below w.heap.size w (w.alloc (.cells #[.int .u8 0,.slice none 0 0,.slice none 0 0] 81)):=(Below.refl _ _).alloc (Nat.le_refl _) _
 have r1:=heap_alloc_new w (.cells #[.int .u8 0,.slice none 0 0,.slice none 0 0] 81)
 have z1:(w.alloc (.cells #[.int .u8 0,.slice none 0 0,.slice none 0 0] 81)).heap.size=w.heap.size+1:=by simp
 have Bo:=yH (y2v B p n c _ (HB.out.later Ax) hl)
 have Av:=yH Ax
 have R1:=yH r1
 have Z1:=yH z1
 clear Ax r1 hl z1
 go_enter Tryz.func104,Tryz.ntmps104
 go_upto_region 1 with fail
 generalize w.alloc (.cells #[.int .u8 0,.slice none 0 0,.slice none 0 0] 81)=w1 at *
 go_upto_region 2 with (go_at_call 144;refine Bo.out.mono ?_;rintro e w2 hp;obtain ⟨g,rfl,BY,h2,b2⟩:=hp;have Bn:=yH h2;have Bt:=yH BY;have R2:=yH ((b2.block w.heap.size (by have:=Z1.out;omega)).trans R1.out);have Ap:=yH (Av.out.trans (b2.mono Av.out.size));clear h2 BY b2)
 have A0:=yH (BC.out w2 g Bn.out)
 clear Bo BC R1 Av
 go_upto_region 3 with (go_at_call 145;refine A0.out.mono ?_;rintro e w3 ⟨rfl,h3,k3⟩;have BE:=yH h3;have K3:=yH k3;clear h3 k3)
 have An:g<w3.heap.size:=BE.out.lt
 have AP:Below w3.heap.size w3 (w3.alloc (.cells #[.int .u8 x.kind,.slice none 0 0,.slice none 0 0] 81)):=(Below.refl _ _).alloc (Nat.le_refl _) _
 have B5:=heap_alloc_new w3 (.cells #[.int .u8 x.kind,.slice none 0 0,.slice none 0 0] 81)
 have Bs:w.heap.size<g:=by have:=Bt.out;have:=Z1.out;omega
 have R3:=yH ((K3.out.block w.heap.size (yL R2.out) (by simp;omega)).trans R2.out)
 have Bc:=yH (show Below w.heap.size w w3 from Ap.out.trans (x2v K3.out (by omega) Ap.out.size))
 obtain ⟨G,B8⟩:∃G,G=w3.heap.size:=⟨_,rfl⟩
 rw [← B8] at B5 An AP ⊢
 have R4:=yH ((AP.block w.heap.size (by omega)).trans R3.out)
 have Bi:=yH (BE.out.later (by rw [← B8];exact AP))
 have B7:=yH (Bc.out.trans (AP.mono (by omega)))
 have At:=yH B5
 have A:=yH (show w.heap.size<g∧g<G from ⟨Bs,An⟩)
 clear AP B5 An Bs R2 R3 BE Ap Bc K3 A0 Bn B8 Bt Z1
 clear w2
 generalize w3.alloc (.cells #[.int .u8 x.kind,.slice none 0 0,.slice none 0 0] 81)=w4 at *
 clear w3
 have A0:=yH (BI.out w4 g Bi.out)
 clear BI
 go_upto_region 4 with (go_at_call 145;refine A0.out.mono ?_;rintro e wL ⟨rfl,h3,k3⟩;have HR5:=yH h3;have P:=yH k3;clear h3 k3)
 have Am:G<w4.heap.size:=(yL At.out)
 have RN5:=yH ((P.out.block G Am (by simp;have:=A.out;omega)).trans At.out)
 have Bk:=yH ((P.out.block w.heap.size (yL R4.out) (by simp;have:=A.out;omega)).trans R4.out)
 have BO:=yH (show Below w.heap.size w wL from B7.out.trans (x2v P.out (by have:=A.out;omega) B7.out.size))
 have X:=yH (show G<wL.heap.size from (yL RN5.out))
 have HLS:=yH (show x.s2.R.length<1099511627776 from Nat.lt_of_le_of_lt AG.out.2.2.2.2.1 Bg.out)
 have Be:=AG.out.2.1
 clear A0 R4 Bi B7 At P Am
 clear w4
 go_loopw [15] (fun i wr=>De1R wL G g x.kind x.n1 x.T1 i wr) (fun i _=>x.n1 - (intOf i).toNat)
 case atStart=>exact ⟨0,[],.slice none 0 0,x.s2,rfl,by omega,RN5.out,Lst.nil _,HR5.out,Only.refl _ _,by rw [Nat.sub_zero];exact HK3.out,HLS.out⟩
 case round=>
  obtain ⟨k,E,v,s,rfl,A4⟩:=hrel
  have J:=yH A4
  obtain ⟨qv,cv,rfl,-⟩:=A4.ents.form
  have BN:=A4.le
  clear A4 RN5 HR5 HLS
  by_cases hlt:k<x.n1
  ·have b1:(k:Int)<x.n1:=by omega
   have HT:=yH (x86 s g wr.drew (J.out.rd.later (Below.refl _ _).drew) J.out.len)
   have AB:=yH (show (s.entN 8).R.length<1099511627776 from by
    have Ay:Sm.allB s.R:=by obtain ⟨p,n,c,h⟩:=J.out.rd;exact h.tx.ok
    exact Nat.lt_of_le_of_lt (ent_R (m:=8) Ay).2 J.out.len)
   have t:=yH (show G<wr.heap.size∧wL.heap.size≤wr.heap.size from ⟨(yL J.out.row),J.out.only.size⟩)
   have Au:k<255:=by omega
   go_upto_region 5 with fail
   refine wp_region_held_drew (S:=fun _=>True) (by kernel_rfl) trivial (fun hHeld=>?_)
   refine tK 0 ?_
   refine tK 2 ?_
   refine rY [1,3] ?_
   refine rC (fun K hK=>?_) (rC (fun K hK=>?_) AllReadyH.nil)
   ·
    have t1:wr.drew.cell? ⟨G,1,none⟩=some (.slice qv k cv):=cell_of_row wr.drew G 1 _ _ _ (show wr.drew.heap[G]? =_ from J.out.row)
    go_simp
    refine hK.out _ _ trivial (fun hHeld=>?_)
    clear hK K
    try simp only [Act.put,yA,yB,yC]
    refine rO 3 fun K hK=>?_
    go_simp
    refine HT.out.mono ?_
    rintro _ M ⟨f,rfl,AU,AI,h5,o⟩
    have A5:=yH AU
    have N:=yH AI
    have H5:=yH h5
    have P:=yH (show wr.grownBy M (some g) from ⟨o.os,o.tape,o.output,o.size,o.block⟩)
    have I:=yH ((P.out.block G t.out.1 (by simp;have:=A.out;omega)).trans J.out.row)
    clear AU AI h5 o
    try go_wp2_with fail
    refine hK.out _ _ trivial (fun hHeld=>?_)
    clear hK K
    try simp only [Act.put,yA,yB,yC]
    refine rO 4 fun K hK=>?_
    refine x15 (.tmp 20) (by rfl) (by rfl) ?_
    have W:Below M.heap.size M (M.alloc (.cells #[.slice f.p f.n f.c,.bool s.truthV] 85)):=(Below.refl _ _).alloc (Nat.le_refl _) _
    have C:=yH ((W.block G (yL I.out)).trans I.out)
    have L:=yH ((J.out.ents.grown P.out (by have:=X.out;have:=A.out;omega)).own.alloc (.cells #[.slice f.p f.n f.c,.bool s.truthV] 85))
    clear W
    refine hK.out _ _ trivial (fun hHeld=>?_)
    clear hK K
    try simp only [Act.put,yA,yB,yC]
    refine rO 5 fun K hK=>?_
    refine x0N (.tmp 18) (.tmp 21) 78 (by rfl) wL.heap.size 85 ie (.agg #[.slice none 0 0,.bool false]) 2 32 UEs HI.out Ar.out B0.out BP.out (by rfl) (by decide) _ k _ (by rfl) L.out ⟨M.heap.size,0,none⟩ 1 1 (En.cells ⟨f,s.truthV⟩) (by rfl) (by rfl) (x6P M ⟨f,s.truthV⟩) En.one (by unfold maxLen;omega) (by omega) (by have h1:=t.out;have h2:=P.out.size;simp;omega) ?_
    intro v7 w7 hown7 hgrow7 hat7
    have Q:=fun y e=>J.out.ents.own.lt y e
    have H:=(hgrow7.block G (yL C.out) (fun e=>by have:=(Q _ e.symm).1;have:=X.out;omega)).trans C.out
    have t7:=cell_of_row w7 G 1 _ _ _ H
    have f7:=frozen_of_row w7 G 1 _ _ H
    obtain ⟨q7,c7,rfl⟩:=x1E hown7
    have a:=yH hown7
    have U:=yH hgrow7
    have Y:=yH hat7
    clear hown7 hgrow7 hat7 Q H
    refine hK.out _ _ trivial (fun hHeld=>?_)
    clear hK K
    try simp only [Act.put,yA,yB,yC]
    refine tK 6 ?_
    refine rO 7 fun K hK=>?_
    go_simp
    try go_wp2_with fail
    refine hK.out _ _ trivial (fun hHeld=>?_)
    clear hK K
    try simp only [Act.put,yA,yB,yC]
    refine wpAnyH_done (by kernel_rfl) ?_ _
    have ST9:=yH (J.out.step hlt X.out A.out.2 A5.out rfl N.out H5.out P.out a.out U.out Y.out AB.out)
    clear a U Y t7 f7 L C I P H5 N hHeld
    generalize w7.setCell ⟨G,1,none⟩ (.slice q7 (k+1) c7)=b at *
    go_wp2_with fail
    go_roundw
    case rel=>exact ⟨k+1,_,_,_,by go_num,ST9.out⟩
    case measure=>simp [intOf];omega
   ·
    go_simp
    refine HT.out.mono ?_
    rintro _ M ⟨f,rfl,AU,AI,h5,o⟩
    have A5:=yH AU
    have N:=yH AI
    have H5:=yH h5
    have P:=yH (show wr.grownBy M (some g) from ⟨o.os,o.tape,o.output,o.size,o.block⟩)
    have I:=yH ((P.out.block G t.out.1 (by simp;have:=A.out;omega)).trans J.out.row)
    clear AU AI h5 o
    try go_wp2_with fail
    refine hK.out _ _ trivial (fun hHeld=>?_)
    clear hK K
    try simp only [Act.put,yA,yB,yC]
    refine rY [1,4] ?_
    refine rC (fun K hK=>?_) (rC (fun K hK=>?_) AllReadyH.nil)
    ·
     have t1:M.cell? ⟨G,1,none⟩=some (.slice qv k cv):=cell_of_row M G 1 _ _ _ I.out
     go_simp
     refine hK.out _ _ trivial (fun hHeld=>?_)
     clear hK K
     try simp only [Act.put,yA,yB,yC]
     refine rO 4 fun K hK=>?_
     refine x15 (.tmp 20) (by rfl) (by rfl) ?_
     have W:Below M.heap.size M (M.alloc (.cells #[.slice f.p f.n f.c,.bool s.truthV] 85)):=(Below.refl _ _).alloc (Nat.le_refl _) _
     have C:=yH ((W.block G (yL I.out)).trans I.out)
     have L:=yH ((J.out.ents.grown P.out (by have:=X.out;have:=A.out;omega)).own.alloc (.cells #[.slice f.p f.n f.c,.bool s.truthV] 85))
     clear W
     refine hK.out _ _ trivial (fun hHeld=>?_)
     clear hK K
     try simp only [Act.put,yA,yB,yC]
     refine rO 5 fun K hK=>?_
     refine x0N (.tmp 18) (.tmp 21) 78 (by rfl) wL.heap.size 85 ie (.agg #[.slice none 0 0,.bool false]) 2 32 UEs HI.out Ar.out B0.out BP.out (by rfl) (by decide) _ k _ (by rfl) L.out ⟨M.heap.size,0,none⟩ 1 1 (En.cells ⟨f,s.truthV⟩) (by rfl) (by rfl) (x6P M ⟨f,s.truthV⟩) En.one (by unfold maxLen;omega) (by omega) (by have h1:=t.out;have h2:=P.out.size;simp;omega) ?_
     intro v7 w7 hown7 hgrow7 hat7
     have Q:=fun y e=>J.out.ents.own.lt y e
     have H:=(hgrow7.block G (yL C.out) (fun e=>by have:=(Q _ e.symm).1;have:=X.out;omega)).trans C.out
     have t7:=cell_of_row w7 G 1 _ _ _ H
     have f7:=frozen_of_row w7 G 1 _ _ H
     obtain ⟨q7,c7,rfl⟩:=x1E hown7
     have a:=yH hown7
     have U:=yH hgrow7
     have Y:=yH hat7
     clear hown7 hgrow7 hat7 Q H
     refine hK.out _ _ trivial (fun hHeld=>?_)
     clear hK K
     try simp only [Act.put,yA,yB,yC]
     refine tK 6 ?_
     refine rO 7 fun K hK=>?_
     go_simp
     try go_wp2_with fail
     refine hK.out _ _ trivial (fun hHeld=>?_)
     clear hK K
     try simp only [Act.put,yA,yB,yC]
     refine wpAnyH_done (by kernel_rfl) ?_ _
     have ST9:=yH (J.out.step hlt X.out A.out.2 A5.out rfl N.out H5.out P.out a.out U.out Y.out AB.out)
     clear a U Y t7 f7 L C I P H5 N hHeld
     generalize w7.setCell ⟨G,1,none⟩ (.slice q7 (k+1) c7)=b at *
     go_wp2_with fail
     go_roundw
     case rel=>exact ⟨k+1,_,_,_,by go_num,ST9.out⟩
     case measure=>simp [intOf];omega
    ·
     refine x15 (.tmp 20) (by rfl) (by rfl) ?_
     have W:Below M.heap.size M (M.alloc (.cells #[.slice f.p f.n f.c,.bool s.truthV] 85)):=(Below.refl _ _).alloc (Nat.le_refl _) _
     have C:=yH ((W.block G (yL I.out)).trans I.out)
     have L:=yH ((J.out.ents.grown P.out (by have:=X.out;have:=A.out;omega)).own.alloc (.cells #[.slice f.p f.n f.c,.bool s.truthV] 85))
     clear W
     refine hK.out _ _ trivial (fun hHeld=>?_)
     clear hK K
     try simp only [Act.put,yA,yB,yC]
     refine rO 1 fun K hK=>?_
     have t1:(M.alloc (.cells #[.slice f.p f.n f.c,.bool s.truthV] 85)).cell? ⟨G,1,none⟩=some (.slice qv k cv):=cell_of_row (M.alloc (.cells #[.slice f.p f.n f.c,.bool s.truthV] 85)) G 1 _ _ _ C.out
     go_simp
     refine hK.out _ _ trivial (fun hHeld=>?_)
     clear hK K
     try simp only [Act.put,yA,yB,yC]
     refine rO 5 fun K hK=>?_
     refine x0N (.tmp 18) (.tmp 21) 78 (by rfl) wL.heap.size 85 ie (.agg #[.slice none 0 0,.bool false]) 2 32 UEs HI.out Ar.out B0.out BP.out (by rfl) (by decide) _ k _ (by rfl) L.out ⟨M.heap.size,0,none⟩ 1 1 (En.cells ⟨f,s.truthV⟩) (by rfl) (by rfl) (x6P M ⟨f,s.truthV⟩) En.one (by unfold maxLen;omega) (by omega) (by have h1:=t.out;have h2:=P.out.size;simp;omega) ?_
     intro v7 w7 hown7 hgrow7 hat7
     have Q:=fun y e=>J.out.ents.own.lt y e
     have H:=(hgrow7.block G (yL C.out) (fun e=>by have:=(Q _ e.symm).1;have:=X.out;omega)).trans C.out
     have t7:=cell_of_row w7 G 1 _ _ _ H
     have f7:=frozen_of_row w7 G 1 _ _ H
     obtain ⟨q7,c7,rfl⟩:=x1E hown7
     have a:=yH hown7
     have U:=yH hgrow7
     have Y:=yH hat7
     clear hown7 hgrow7 hat7 Q H
     refine hK.out _ _ trivial (fun hHeld=>?_)
     clear hK K
     try simp only [Act.put,yA,yB,yC]
     refine tK 6 ?_
     refine rO 7 fun K hK=>?_
     go_simp
     try go_wp2_with fail
     refine hK.out _ _ trivial (fun hHeld=>?_)
     clear hK K
     try simp only [Act.put,yA,yB,yC]
     refine wpAnyH_done (by kernel_rfl) ?_ _
     have ST9:=yH (J.out.step hlt X.out A.out.2 A5.out rfl N.out H5.out P.out a.out U.out Y.out AB.out)
     clear a U Y t7 f7 L C I P H5 N hHeld
     generalize w7.setCell ⟨G,1,none⟩ (.slice q7 (k+1) c7)=b at *
     go_wp2_with fail
     go_roundw
     case rel=>exact ⟨k+1,_,_,_,by go_num,ST9.out⟩
     case measure=>simp [intOf];omega
  ·obtain rfl:k=x.n1:=by omega
   have O:=J.out.run
   rw [Nat.sub_self] at O
   have O:(E.map En.pe,s)=x.T1:=O
   have Bz:=yH (show x.T1.1=E.map En.pe from by rw [← O])
   have Az:s=x.T1.2:=by rw [← O]
   subst Az
   have CN:=yH (show x.T1.2.R.length<1099511627776 from J.out.len)
   have A0:=yH (x2E x.T1.2 g wr J.out.rd J.out.len)
   rw [Bh.out,Bb.out] at A0
   have CG:x.n1<256:=Be
   clear O hlt BN Be
   go_upto_region 8 with (go_at_call 145;refine A0.out.mono ?_;rintro e w6 ⟨rfl,h3,k3⟩;have HR6:=yH h3;have K6:=yH k3;clear h3 k3)
   have RN6:=yH ((K6.out.block G (yL J.out.row) (by simp;have:=A.out;omega)).trans J.out.row)
   have Aa:=yH (J.out.ents.grown K6.out (by have:=X.out;have:=A.out;omega))
   have Ac:=yH (J.out.only.trans (show Only (fun j=>j=G∨j=g) wr w6 from ⟨K6.out.os,K6.out.tape,K6.out.output,K6.out.size,fun j hj hn=>K6.out.block j hj (by simp;intro e;exact hn (Or.inr e))⟩))
   have q:=yH (show G<w6.heap.size from (yL RN6.out))
   have HLS:=yH (show x.s4.R.length<1099511627776 from Nat.lt_of_le_of_lt AG.out.2.2.2.2.2.2.2.2.1 Bg.out)
   have Bu:=AG.out.2.2.1
   clear A0 J K6
   clear wr
   generalize x.n1=n1 at *
   obtain ⟨v1,AQ⟩:∃v1:Value,v1= .slice qv n1 cv:=⟨_,rfl⟩
   rw [← AQ] at RN6 Aa
   have C9:=yH AQ
   clear AQ
   go_loopw [27] (fun i wr=>De2R w6 G g x.kind x.n2 v1 x.T2 i wr) (fun i _=>x.n2 - (intOf i).toNat)
   case atStart=>exact ⟨0,[],.slice none 0 0,x.s4,rfl,by omega,RN6.out,⟨Lst.nil _,fun k hk=>by cases hk⟩,HR6.out,Only.refl _ _,by rw [Nat.sub_zero];exact HK6.out,HLS.out⟩
   case round=>
    obtain ⟨k,K,v,s,rfl,A4⟩:=hrel
    have J:=yH A4
    obtain ⟨u,z,rfl,-⟩:=A4.kids.lst.form
    have BN:=A4.le
    clear A4 RN6 HR6 HLS
    by_cases hlt:k<x.n2
    ·have b1:(k:Int)<x.n2:=by omega
     have HT:=yH (x7u s g wr.drew (J.out.rd.later (Below.refl _ _).drew) J.out.len)
     have AB:=yH (show (s.kidN 8).R.length<1099511627776 from by
      have Ay:Sm.allB s.R:=by obtain ⟨p,n,c,h⟩:=J.out.rd;exact h.tx.ok
      exact Nat.lt_of_le_of_lt (kid_R (m:=8) Ay).2 J.out.len)
     have t:=yH (show G<wr.heap.size∧w6.heap.size≤wr.heap.size from ⟨(yL J.out.row),J.out.only.size⟩)
     have Au:k<255:=by omega
     go_upto_region 9 with fail
     refine wp_region_held_drew (S:=fun _=>True) (by kernel_rfl) trivial (fun hHeld=>?_)
     refine tK 0 ?_
     refine tK 2 ?_
     refine rY [1,3] ?_
     refine rC (fun K hK=>?_) (rC (fun K hK=>?_) AllReadyH.nil)
     ·
      have t1:wr.drew.cell? ⟨G,2,none⟩=some (.slice u k z):=cell_of_row wr.drew G 2 _ _ _ (show wr.drew.heap[G]? =_ from J.out.row)
      go_simp
      refine hK.out _ _ trivial (fun hHeld=>?_)
      clear hK K
      try simp only [Act.put,yA,yB,yC]
      refine rO 3 fun K hK=>?_
      go_simp
      refine HT.out.mono ?_
      rintro _ M ⟨kd,rfl,AS,A6,f1,f2,f3,h5,o⟩
      have A5:=yH AS
      have A3:=yH A6
      have N:=yH (show FrRw M wr.heap.size kd.lo∧FrRw M wr.heap.size kd.hi∧FrRw M wr.heap.size kd.key from ⟨f1,f2,f3⟩)
      have H5:=yH h5
      have P:=yH (show wr.grownBy M (some g) from ⟨o.os,o.tape,o.output,o.size,o.block⟩)
      have I:=yH ((P.out.block G t.out.1 (by simp;have:=A.out;omega)).trans J.out.row)
      clear AS A6 f1 f2 f3 h5 o
      try go_wp2_with fail
      refine hK.out _ _ trivial (fun hHeld=>?_)
      clear hK K
      try simp only [Act.put,yA,yB,yC]
      refine rO 4 fun K hK=>?_
      refine x3p (.tmp 32) (by rfl) A3.out.len (by rfl) ?_
      have W:Below M.heap.size M (M.alloc (.cells kd.cells.toArray 34)):=(Below.refl _ _).alloc (Nat.le_refl _) _
      have C:=yH ((W.block G (yL I.out)).trans I.out)
      have L:=yH ((J.out.kids.lst.grown P.out (by have:=q.out;have:=A.out;omega)).own.alloc (.cells kd.cells.toArray 34))
      clear W
      refine hK.out _ _ trivial (fun hHeld=>?_)
      clear hK K
      try simp only [Act.put,yA,yB,yC]
      refine rO 5 fun K hK=>?_
      refine x0N (.tmp 30) (.tmp 33) 79 (by rfl) w6.heap.size 34 ik (.agg kd0.cells.toArray) 37 120 UKs KI.out BK.out B4.out Aq.out (by rfl) (by decide) _ k _ (by rfl) L.out ⟨M.heap.size,0,none⟩ 1 1 kd.cells (by rfl) (by rw [Kd.cells_length A3.out.len]) (x6Q M kd) Kd.one (by unfold maxLen;omega) (by omega) (by have h1:=t.out;have h2:=P.out.size;simp;omega) ?_
      intro v7 w7 hown7 hgrow7 hat7
      have Q:=fun y e=>J.out.kids.lst.own.lt y e
      have H:=(hgrow7.block G (yL C.out) (fun e=>by have:=(Q _ e.symm).1;have:=q.out;omega)).trans C.out
      have t7:=cell_of_row w7 G 2 _ _ _ H
      have f7:=frozen_of_row w7 G 2 _ _ H
      obtain ⟨q7,c7,rfl⟩:=x1E hown7
      have a:=yH hown7
      have U:=yH hgrow7
      have Y:=yH hat7
      clear hown7 hgrow7 hat7 Q H
      refine hK.out _ _ trivial (fun hHeld=>?_)
      clear hK K
      try simp only [Act.put,yA,yB,yC]
      refine tK 6 ?_
      refine rO 7 fun K hK=>?_
      go_simp
      try go_wp2_with fail
      refine hK.out _ _ trivial (fun hHeld=>?_)
      clear hK K
      try simp only [Act.put,yA,yB,yC]
      refine wpAnyH_done (by kernel_rfl) ?_ _
      have ST9:=yH (J.out.step hlt q.out A.out.2 A5.out A3.out N.out.1 N.out.2.1 N.out.2.2 H5.out P.out a.out U.out Y.out AB.out)
      clear a U Y t7 f7 L C I P H5 N hHeld
      generalize w7.setCell ⟨G,2,none⟩ (.slice q7 (k+1) c7)=b at *
      go_wp2_with fail
      go_roundw
      case rel=>exact ⟨k+1,_,_,_,by go_num,ST9.out⟩
      case measure=>simp [intOf];omega
     ·
      go_simp
      refine HT.out.mono ?_
      rintro _ M ⟨kd,rfl,AS,A6,f1,f2,f3,h5,o⟩
      have A5:=yH AS
      have A3:=yH A6
      have N:=yH (show FrRw M wr.heap.size kd.lo∧FrRw M wr.heap.size kd.hi∧FrRw M wr.heap.size kd.key from ⟨f1,f2,f3⟩)
      have H5:=yH h5
      have P:=yH (show wr.grownBy M (some g) from ⟨o.os,o.tape,o.output,o.size,o.block⟩)
      have I:=yH ((P.out.block G t.out.1 (by simp;have:=A.out;omega)).trans J.out.row)
      clear AS A6 f1 f2 f3 h5 o
      try go_wp2_with fail
      refine hK.out _ _ trivial (fun hHeld=>?_)
      clear hK K
      try simp only [Act.put,yA,yB,yC]
      refine rY [1,4] ?_
      refine rC (fun K hK=>?_) (rC (fun K hK=>?_) AllReadyH.nil)
      ·
       have t1:M.cell? ⟨G,2,none⟩=some (.slice u k z):=cell_of_row M G 2 _ _ _ I.out
       go_simp
       refine hK.out _ _ trivial (fun hHeld=>?_)
       clear hK K
       try simp only [Act.put,yA,yB,yC]
       refine rO 4 fun K hK=>?_
       refine x3p (.tmp 32) (by rfl) A3.out.len (by rfl) ?_
       have W:Below M.heap.size M (M.alloc (.cells kd.cells.toArray 34)):=(Below.refl _ _).alloc (Nat.le_refl _) _
       have C:=yH ((W.block G (yL I.out)).trans I.out)
       have L:=yH ((J.out.kids.lst.grown P.out (by have:=q.out;have:=A.out;omega)).own.alloc (.cells kd.cells.toArray 34))
       clear W
       refine hK.out _ _ trivial (fun hHeld=>?_)
       clear hK K
       try simp only [Act.put,yA,yB,yC]
       refine rO 5 fun K hK=>?_
       refine x0N (.tmp 30) (.tmp 33) 79 (by rfl) w6.heap.size 34 ik (.agg kd0.cells.toArray) 37 120 UKs KI.out BK.out B4.out Aq.out (by rfl) (by decide) _ k _ (by rfl) L.out ⟨M.heap.size,0,none⟩ 1 1 kd.cells (by rfl) (by rw [Kd.cells_length A3.out.len]) (x6Q M kd) Kd.one (by unfold maxLen;omega) (by omega) (by have h1:=t.out;have h2:=P.out.size;simp;omega) ?_
       intro v7 w7 hown7 hgrow7 hat7
       have Q:=fun y e=>J.out.kids.lst.own.lt y e
       have H:=(hgrow7.block G (yL C.out) (fun e=>by have:=(Q _ e.symm).1;have:=q.out;omega)).trans C.out
       have t7:=cell_of_row w7 G 2 _ _ _ H
       have f7:=frozen_of_row w7 G 2 _ _ H
       obtain ⟨q7,c7,rfl⟩:=x1E hown7
       have a:=yH hown7
       have U:=yH hgrow7
       have Y:=yH hat7
       clear hown7 hgrow7 hat7 Q H
       refine hK.out _ _ trivial (fun hHeld=>?_)
       clear hK K
       try simp only [Act.put,yA,yB,yC]
       refine tK 6 ?_
       refine rO 7 fun K hK=>?_
       go_simp
       try go_wp2_with fail
       refine hK.out _ _ trivial (fun hHeld=>?_)
       clear hK K
       try simp only [Act.put,yA,yB,yC]
       refine wpAnyH_done (by kernel_rfl) ?_ _
       have ST9:=yH (J.out.step hlt q.out A.out.2 A5.out A3.out N.out.1 N.out.2.1 N.out.2.2 H5.out P.out a.out U.out Y.out AB.out)
       clear a U Y t7 f7 L C I P H5 N hHeld
       generalize w7.setCell ⟨G,2,none⟩ (.slice q7 (k+1) c7)=b at *
       go_wp2_with fail
       go_roundw
       case rel=>exact ⟨k+1,_,_,_,by go_num,ST9.out⟩
       case measure=>simp [intOf];omega
      ·
       refine x3p (.tmp 32) (by rfl) A3.out.len (by rfl) ?_
       have W:Below M.heap.size M (M.alloc (.cells kd.cells.toArray 34)):=(Below.refl _ _).alloc (Nat.le_refl _) _
       have C:=yH ((W.block G (yL I.out)).trans I.out)
       have L:=yH ((J.out.kids.lst.grown P.out (by have:=q.out;have:=A.out;omega)).own.alloc (.cells kd.cells.toArray 34))
       clear W
       refine hK.out _ _ trivial (fun hHeld=>?_)
       clear hK K
       try simp only [Act.put,yA,yB,yC]
       refine rO 1 fun K hK=>?_
       have t1:(M.alloc (.cells kd.cells.toArray 34)).cell? ⟨G,2,none⟩=some (.slice u k z):=cell_of_row (M.alloc (.cells kd.cells.toArray 34)) G 2 _ _ _ C.out
       go_simp
       refine hK.out _ _ trivial (fun hHeld=>?_)
       clear hK K
       try simp only [Act.put,yA,yB,yC]
       refine rO 5 fun K hK=>?_
       refine x0N (.tmp 30) (.tmp 33) 79 (by rfl) w6.heap.size 34 ik (.agg kd0.cells.toArray) 37 120 UKs KI.out BK.out B4.out Aq.out (by rfl) (by decide) _ k _ (by rfl) L.out ⟨M.heap.size,0,none⟩ 1 1 kd.cells (by rfl) (by rw [Kd.cells_length A3.out.len]) (x6Q M kd) Kd.one (by unfold maxLen;omega) (by omega) (by have h1:=t.out;have h2:=P.out.size;simp;omega) ?_
       intro v7 w7 hown7 hgrow7 hat7
       have Q:=fun y e=>J.out.kids.lst.own.lt y e
       have H:=(hgrow7.block G (yL C.out) (fun e=>by have:=(Q _ e.symm).1;have:=q.out;omega)).trans C.out
       have t7:=cell_of_row w7 G 2 _ _ _ H
       have f7:=frozen_of_row w7 G 2 _ _ H
       obtain ⟨q7,c7,rfl⟩:=x1E hown7
       have a:=yH hown7
       have U:=yH hgrow7
       have Y:=yH hat7
       clear hown7 hgrow7 hat7 Q H
       refine hK.out _ _ trivial (fun hHeld=>?_)
       clear hK K
       try simp only [Act.put,yA,yB,yC]
       refine tK 6 ?_
       refine rO 7 fun K hK=>?_
       go_simp
       try go_wp2_with fail
       refine hK.out _ _ trivial (fun hHeld=>?_)
       clear hK K
       try simp only [Act.put,yA,yB,yC]
       refine wpAnyH_done (by kernel_rfl) ?_ _
       have ST9:=yH (J.out.step hlt q.out A.out.2 A5.out A3.out N.out.1 N.out.2.1 N.out.2.2 H5.out P.out a.out U.out Y.out AB.out)
       clear a U Y t7 f7 L C I P H5 N hHeld
       generalize w7.setCell ⟨G,2,none⟩ (.slice q7 (k+1) c7)=b at *
       go_wp2_with fail
       go_roundw
       case rel=>exact ⟨k+1,_,_,_,by go_num,ST9.out⟩
       case measure=>simp [intOf];omega
    ·obtain rfl:k=x.n2:=by omega
     have O:=J.out.run
     rw [Nat.sub_self] at O
     have O:(K.map Kd.pk,s)=x.T2:=O
     have C1:=yH (show x.T2.1=K.map Kd.pk from by rw [← O])
     have Az:s=x.T2.2:=by rw [← O]
     subst Az
     have CJ:x.n2<256:=Bu
     have B3:=yH (show ⟨x.kind,E.map En.pe,K.map Kd.pk⟩=x.node from by unfold RdN.node;rw [Bz.out,C1.out])
     have Ae:=AG.out.1
     have AC:=yH (show x.good d↔x.T2.2.end.e=0∧x.node.right d=true from by
      rw [end_e]
      unfold RdN.good
      exact ⟨fun h=>⟨⟨h.1,h.2.1⟩,h.2.2⟩,fun h=>⟨h.1.1,h.1.2,h.2⟩⟩)
     have A0:=yH (y2w x.T2.2 g wr J.out.rd)
     have Al:=yH (Aa.out.keep (w':=wr) (fun j hj hl=>J.out.only.block j hl (by have:=X.out;have:=A.out;omega)))
     have BJ:=yH (show wr.heap[w.heap.size]? =some (.cells #[.int .u8 0,.slice none 0 0,.slice none 0 0] 81 (0,0)) from
      (J.out.only.block _ (by have:=q.out;have:=A.out;omega) (by have:=A.out;omega)).trans ((Ac.out.block _ (by have:=X.out;have:=A.out;omega) (by have:=A.out;omega)).trans Bk.out))
     have BD:=yH (show Below w.heap.size w wr from (BO.out.trans ((Ac.out.trans (J.out.only.mono fun j e=>e)).below BO.out.size (fun j e=>by have:=A.out;omega))))
     have C7:=yH (show wL.heap.size≤w6.heap.size from Ac.out.size)
     have Bf:=yH (show LowL En.rows w6.heap.size v1 E from Lst.low Aa.out)
     generalize x.T2.2.end=sE at *
     clear O hlt BN Bu Aa Ac BO Bk HK6 Bb Bh HK3 AG
     have Bq:∀b:World,wr.grownBy b (some g)→b.heap[G]? =some (.cells #[.int .u8 x.kind,v1,.slice u x.n2 z] 81 (0,0))∧b.heap[w.heap.size]? =some (.cells #[.int .u8 0,.slice none 0 0,.slice none 0 0] 81 (0,0))∧Ens wL.heap.size b v1 n1 E∧Kds w6.heap.size b (.slice u x.n2 z) x.n2 K∧Below w.heap.size w b:=fun b k9=>
      ⟨(k9.block G (yL J.out.row) (by simp;have:=A.out;omega)).trans J.out.row,(k9.block _ (yL BJ.out) (by simp;have:=A.out;omega)).trans BJ.out,Al.out.grown k9 (by have:=X.out;have:=A.out;omega),⟨J.out.kids.lst.grown k9 (by have:=q.out;have:=A.out;omega),J.out.kids.good⟩,BD.out.trans (x2v k9 (by have:=A.out;omega) BD.out.size)⟩
     have B6:=yH Bq
     clear Bq BJ BD Al J
     have AQ:=C9.out
     obtain ⟨du,BZ,BX⟩:=UNo
     have HD:=yH BZ
     have BA:=yH BX
     clear BZ BX
     by_cases he:sE.e=0
     case neg=>
      have b2:((sE.e:Int) !=0)=true:=by simp;omega
      have As:=yH (show ¬x.good d from fun h=>he (AC.out.1 h).1)
      clear he
      go_upto_region 12 with (go_at_call 148;refine A0.out.mono ?_;rintro e b ⟨rfl,h3,k3⟩;have r:=yH (B6.out b k3);clear h3 k3)
      obtain ⟨rn,rg,-,-,hb⟩:=r.out
      have a0:=cell_of_row b w.heap.size 0 _ _ _ rg
      have a1:=cell_of_row b w.heap.size 1 _ _ _ rg
      have a2:=cell_of_row b w.heap.size 2 _ _ _ rg
      have f0:=frozen_of_row b w.heap.size 0 _ _ rg
      have f1:=frozen_of_row b w.heap.size 1 _ _ rg
      have f2:=frozen_of_row b w.heap.size 2 _ _ rg
      clear rn rg hb
      go_wp2_with fail
      obtain ⟨r1,r2⟩:=x5E (a':=.int .u8 0) (b':=.slice none 0 0) (c':=.slice none 0 0) r.out.2.1
      refine x0F 4 5 (by kernel_rfl) w.heap.size _ #[.int .u8 0,.slice none 0 0,.slice none 0 0] _ HD.out BA.out SNo (by rfl) (by rfl) r1 ⟨r.out.2.2.2.2.trans (r2.below r.out.2.2.2.2.size (fun j e=>by omega)),Or.inr ⟨by rw [Ad.out];exact As.out,rfl⟩⟩
     have C3:=yH he
     rw [he] at A0
     clear he
     subst AQ
     cases hX:x.node.right d with
     | false=>
      have As:=yH (show ¬x.good d from fun h=>by have:=(AC.out.1 h).2;rw [hX] at this;cases this)
      have B9:=yH hX
      clear hX
      go_upto_region 12 with (first
       | (go_at_call 148;refine A0.out.mono ?_;rintro e b ⟨rfl,h3,k3⟩;have r:=yH (B6.out b k3);have t0:=cell_of_row b G 0 _ _ _ r.out.1;have t1:=cell_of_row b G 1 _ _ _ r.out.1;have t2:=cell_of_row b G 2 _ _ _ r.out.1;have AD:=x3l x.kind qv n1 cv u x.n2 z E K d b (r.out.2.2.1.ents (by omega)) (r.out.2.2.2.1.kids (by omega));rw [show pnOf x.kind E K=x.node from B3.out,B9.out] at AD;have BB:=yH AD;clear h3 k3 AD)
       | (go_at_call 149;refine BB.out.mono ?_;rintro e Z ⟨rfl,A1⟩;have l:=yH (yK A1 r.out.2.1);have AW:=yH (r.out.2.2.2.2.trans (A1.mono r.out.2.2.2.2.size));clear A1))
      have a0:=cell_of_row Z w.heap.size 0 _ _ _ l.out
      have a1:=cell_of_row Z w.heap.size 1 _ _ _ l.out
      have a2:=cell_of_row Z w.heap.size 2 _ _ _ l.out
      have f0:=frozen_of_row Z w.heap.size 0 _ _ l.out
      have f1:=frozen_of_row Z w.heap.size 1 _ _ l.out
      have f2:=frozen_of_row Z w.heap.size 2 _ _ l.out
      go_wp2_with fail
      obtain ⟨r1,r2⟩:=x5E (a':=.int .u8 0) (b':=.slice none 0 0) (c':=.slice none 0 0) l.out
      refine x0F 4 5 (by kernel_rfl) w.heap.size _ #[.int .u8 0,.slice none 0 0,.slice none 0 0] _ HD.out BA.out SNo (by rfl) (by rfl) r1 ⟨AW.out.trans (r2.below AW.out.size (fun j e=>by omega)),Or.inr ⟨by rw [Ad.out];exact As.out,rfl⟩⟩
     | true=>
      have C6:=yH (show x.good d from AC.out.2 ⟨C3.out,hX⟩)
      have B9:=yH hX
      clear hX
      go_upto_region 13 with (first
       | (go_at_call 148;refine A0.out.mono ?_;rintro e b ⟨rfl,h3,k3⟩;have r:=yH (B6.out b k3);have t0:=cell_of_row b G 0 _ _ _ r.out.1;have t1:=cell_of_row b G 1 _ _ _ r.out.1;have t2:=cell_of_row b G 2 _ _ _ r.out.1;have AD:=x3l x.kind qv n1 cv u x.n2 z E K d b (r.out.2.2.1.ents (by omega)) (r.out.2.2.2.1.kids (by omega));rw [show pnOf x.kind E K=x.node from B3.out,B9.out] at AD;have BB:=yH AD;clear h3 k3 AD)
       | (go_at_call 149;refine BB.out.mono ?_;rintro e Z ⟨rfl,A1⟩;have l:=yH (yK A1 r.out.2.1);have AW:=yH (r.out.2.2.2.2.trans (A1.mono r.out.2.2.2.2.size));have AJ:=yH (yK A1 r.out.1);have C2:=yH (r.out.2.2.1.later A1);have BG:=yH (show Kds w6.heap.size Z (.slice u x.n2 z) x.n2 K from ⟨r.out.2.2.2.1.lst.later A1,r.out.2.2.2.1.good⟩);clear A1 t0 t1 t2))
      have t0:=cell_of_row Z G 0 _ _ _ AJ.out
      have t1:=cell_of_row Z G 1 _ _ _ AJ.out
      have t2:=cell_of_row Z G 2 _ _ _ AJ.out
      have a0:=cell_of_row Z w.heap.size 0 _ _ _ l.out
      have a1:=cell_of_row Z w.heap.size 1 _ _ _ l.out
      have a2:=cell_of_row Z w.heap.size 2 _ _ _ l.out
      have f0:=frozen_of_row Z w.heap.size 0 _ _ l.out
      have f1:=frozen_of_row Z w.heap.size 1 _ _ l.out
      have f2:=frozen_of_row Z w.heap.size 2 _ _ l.out
      go_wp2_with fail
      obtain ⟨r1,r2⟩:=x5E (a':=.int .u8 x.kind) (b':=.slice qv n1 cv) (c':=.slice u x.n2 z) l.out
      have Bm:=C2.out.keep (fun j hj hl=>r2.block j hl (by have:=X.out;have:=A.out;omega))
      have BT:=BG.out.lst.keep (fun j hj hl=>r2.block j hl (by have:=q.out;have:=A.out;omega))
      refine x0F 4 5 (by kernel_rfl) w.heap.size _ #[.int .u8 x.kind,.slice qv n1 cv,.slice u x.n2 z] _ HD.out BA.out SNo (by rfl) (by rfl) r1 ⟨AW.out.trans (r2.below AW.out.size (fun j e=>by omega)),Or.inl ⟨by rw [Ad.out];exact C6.out,x.kind,qv,n1,cv,u,x.n2,z,E,K,rfl,(fun w'' hk=>⟨Ens.ents (Bm.keep (fun j hj hl=>hk j (by have:=X.out;have:=A.out;omega) hl)) (by omega),Kds.kids ⟨BT.keep (fun j hj hl=>hk j (by have:=q.out;have:=A.out;omega) hl),BG.out.good⟩ (by omega)⟩),by rw [Ad.out];exact B3.out,Ae,w6.heap.size,by have:=X.out;have:=A.out;have:=C7.out;omega,Bm.base (by have:=X.out;have:=A.out;omega),Bf.out,⟨BT,BG.out.good⟩⟩⟩
end Go.Proofs.YtinihaflmdihaaaGreat.Nd
