/- NdLow, NlReadEnt, CodRNew, CodREnd, NlDecode. -/
import Derived.BigRegion
import Derived.Test.YtenenciaggbjnaaGreatP16
set_option maxRecDepth 100000
set_option maxHeartbeats 8000000
set_option linter.all false
namespace Go.Proofs.YtenenciaggbjnaaGreat
namespace Nd
open Go.RowKit
def LowL {α:Type} (rows:α->List Rw) (mid:Nat) (v:Value) (L:List α):Prop:=(∀x,v.ownBlock=some x->x<mid)/\∀e∈L,∀r∈rows e,∀x,r.p=some x->r.R≠[]->x.block<mid
section
variable {α:Type} {t:TypeId} {sz:Nat} {cells:α->List Value} {rows:α->List Rw} {B B':Nat} {w w':World} {v:Value} {n mid:Nat} {L:List α}
theorem Lst.low (h:Lst t sz cells rows B w v n L):LowL rows w.heap.size v L:=⟨fun x hx=>(h.own.lt x hx).2,fun e he r hr x hx hR=>(h.each e he r hr).1.lt x hx hR⟩
theorem Lst.base (h:Lst t sz cells rows B w v n L) (hB:B'<=B):Lst t sz cells rows B' w v n L:=
 ⟨h.len,⟨h.own.1,h.own.2.imp id fun ⟨g,cap,cur,hv,hg,r⟩=>⟨g,cap,cur,hv,jJ hB hg,r⟩⟩,fun e he r hr=>⟨(h.each e he r hr).1.base hB,(h.each e he r hr).2⟩⟩
theorem Lst.keepIn (h:Lst t sz cells rows B w v n L) (hl:LowL rows mid v L) (hk:∀k,B<=k->k<mid->k<w.heap.size->w'.heap[k]? =w.heap[k]?):Lst t sz cells rows B w' v n L:=by
 refine ⟨h.len,⟨h.own.1,h.own.2.imp id ?_⟩,fun e he r hr=>⟨⟨rw_keep (h.each e he r hr).1.ok fun x hx hR=>hk x.block ((h.each e he r hr).1.lo x hx hR) (hl.2 e he r hr x hx hR) ((h.each e he r hr).1.lt x hx hR),(h.each e he r hr).1.lo⟩,(h.each e he r hr).2⟩⟩;rintro ⟨g,A,C,G,E,H,r⟩;exact ⟨g,A,C,G,E,(hk g E (hl.1 g (by rw [G];rfl)) (yL H)).trans H,r⟩
theorem LowL.mono {mid':Nat} (h:LowL rows mid v L) (hm:mid<=mid'):LowL rows mid' v L:=⟨fun x hx=>jO (h.1 x hx) hm,fun e he r hr x hx hR=>jO (h.2 e he r hr x hx hR) hm⟩
end
theorem Kds.low {B:Nat} {w:World} {v:Value} {n:Nat} {K:List Kd} (h:Kds B w v n K):LowL Kd.rows w.heap.size v K:=h.lst.low
theorem Kds.keepIn {B mid:Nat} {w w':World} {v:Value} {n:Nat} {K:List Kd} (h:Kds B w v n K) (hl:LowL Kd.rows mid v K) (hk:∀k,B<=k->k<mid->k<w.heap.size->w'.heap[k]? =w.heap[k]?):Kds B w' v n K:=⟨h.lst.keepIn hl hk,h.good⟩
theorem Kds.keep {B:Nat} {w w':World} {v:Value} {n:Nat} {K:List Kd} (h:Kds B w v n K) (hk:∀k,B<=k->k<w.heap.size->w'.heap[k]? =w.heap[k]?):Kds B w' v n K:=⟨h.lst.keep hk,h.good⟩
theorem Kds.base {B B':Nat} {w:World} {v:Value} {n:Nat} {K:List Kd} (h:Kds B w v n K) (hB:B'<=B):Kds B' w v n K:=⟨h.lst.base hB,h.good⟩
structure Fresh (B mid:Nat) (w:World) (p:Option Addr) (n c:Nat) (q:Option Addr) (m f:Nat) (E:List En) (K:List Kd):Prop where
 base:B<=mid
 ents:Ens B w (.slice p n c) n E
 low:LowL En.rows mid (.slice p n c) E
 kids:Kds mid w (.slice q m f) m K
theorem Fresh.keep {B mid:Nat} {w w':World} {p:Option Addr} {n c:Nat} {q:Option Addr} {m f:Nat} {E:List En} {K:List Kd} (h:Fresh B mid w p n c q m f E K) (hk:∀k,B<=k->k<w.heap.size->w'.heap[k]? =w.heap[k]?):Fresh B mid w' p n c q m f E K:=
 ⟨h.base,h.ents.keep hk,h.low,h.kids.keep fun k hk1=>hk k (jJ h.base hk1)⟩
theorem Fresh.later {B mid:Nat} {w w':World} {p:Option Addr} {n c:Nat} {q:Option Addr} {m f:Nat} {E:List En} {K:List Kd} (h:Fresh B mid w p n c q m f E K) (hb:Below w.heap.size w w'):Fresh B mid w' p n c q m f E K:=h.keep fun k _ hk=>hb.block k hk
theorem Fresh.keepIn {B mid hi:Nat} {w w':World} {p:Option Addr} {n c:Nat} {q:Option Addr} {m f:Nat} {E:List En} {K:List Kd} (h:Fresh B mid w p n c q m f E K) (hE:LowL En.rows hi (.slice p n c) E) (hK:LowL Kd.rows hi (.slice q m f) K) (hk:∀k,B<=k->k<hi->k<w.heap.size->w'.heap[k]? =w.heap[k]?):Fresh B mid w' p n c q m f E K:=
 ⟨h.base,h.ents.keepIn hE hk,h.low,h.kids.keepIn hK fun k hk1=>hk k (jJ h.base hk1)⟩
theorem Fresh.ents_in {B mid:Nat} {w:World} {p:Option Addr} {n c:Nat} {q:Option Addr} {m f:Nat} {E:List En} {K:List Kd} (h:Fresh B mid w p n c q m f E K) (hn:n<=9223372036854775807):EntsIn w p n c E:=h.ents.ents hn
theorem Fresh.kids_in {B mid:Nat} {w:World} {p:Option Addr} {n c:Nat} {q:Option Addr} {m f:Nat} {E:List En} {K:List Kd} (h:Fresh B mid w p n c q m f E K) (hn:m<=9223372036854775807):KidsIn w q m f K:=h.kids.kids hn
theorem Fresh.down {B B' mid:Nat} {w:World} {p:Option Addr} {n c:Nat} {q:Option Addr} {m f:Nat} {E:List En} {K:List Kd} (h:Fresh B mid w p n c q m f E K) (hB:B'<=B):Fresh B' mid w p n c q m f E K:=
 ⟨jJ hB h.base,h.ents.base hB,h.low,h.kids⟩
def REnt (w:World) (g:Nat) (R:List Int) (live:Bool) (s:Rd) (e:Ending) (w':World):Prop:=
 ∃r:Rw,e= .returned (.agg #[.slice r.p r.n r.c,.bool live])/\r.R=R/\FrRw w' w.heap.size r/\RSx w' g s/\w.grownBy w' (some g)
theorem x9Q (s:Rd) (g:Nat) (w:World) (hs:RSx w g s) (hl:s.R.length<1099511627776):
  Calls Tryz.prog 187 #[.pointer (some ⟨g,0,none⟩)] w (REnt w g (s.truth.rowV 8) s.truthV (s.entN 8)):=by
 have e5:s.entN 8=(s.truth.row 8).2:=rfl;rw [e5];clear e5;have j:Sm.allB s.R:=by obtain ⟨p,n,c,h⟩:=hs;exact h.tx.ok
 have hg:g<w.heap.size:=hs.lt;have d:=jA w (.cells #[.slice none 0 0,.bool false] 101);have r1:=jE w (.cells #[.slice none 0 0,.bool false] 101);have z1:(w.alloc (.cells #[.slice none 0 0,.bool false] 101)).heap.size=w.heap.size+1:=by simp
 go_enter Tryz.func187,Tryz.ntmps187
 go_upto_region 1 with fail
 generalize w.alloc (.cells #[.slice none 0 0,.bool false] 101)=w1 at *;have P:=jA w1 (.cells #[.slice none 0 0,.bool false] 101);have r2:=jE w1 (.cells #[.slice none 0 0,.bool false] 101);rw [z1] at r2;go_upto_region 2 with fail
 generalize w1.alloc (.cells #[.slice none 0 0,.bool false] 101)=w2 at *;have C:Below w.heap.size w w2:=d.trans (P.mono (by omega));have z:=yH ((P.block w.heap.size (by omega)).trans r1);have R2:=yH r2;have B2:=yH C;have HT:=yH (y0z s g w2 (hs.later C) hl);have E:=x7V j;have AP:=yH E.1;have A2:=yH (Nat.lt_of_le_of_lt E.2 hl);have q:=x2h (m:=8) E.1;have i:=x5E (m:=8) E.1;clear r1 r2 d P C z1 hs j E hl;clear w1;generalize s.truthV=lv at *;generalize s.truth=s1 at *;obtain ⟨A,Q⟩:∃A,A=w.heap.size:=⟨_,rfl⟩
 rw [<- Q] at z R2 hg ⊢;have H:=yH Q;clear Q;go_upto_region 3 with (go_at_call 243;refine HT.mono ?_;rintro e N y;obtain ⟨rfl,h3,t⟩:=y;have W:=yH ((t.block A (yL z) (by simp;omega)).trans z.out);have I:=yH ((t.block (A+1) (yL R2) (by simp;omega)).trans R2.out);have c1:=jH N (A+1) 1 _ _ _ I.out;have f1:=jS N (A+1) 1 _ _ I.out;have H3:=yH h3;have G3:=yH (x0o (x1h B2 (some g)) t);clear h3 t)
 have r4:=jU N (A+1) 1 _ _ (.bool lv) I;have J:Below (A+1) N (N.setCell ⟨A+1,1,none⟩ (.bool lv)):=(jC _ _).setCell (p:=⟨A+1,1,none⟩) (jB _) _;have z4:(N.setCell ⟨A+1,1,none⟩ (.bool lv)).heap.size=N.heap.size:=by simp [World.setCell]
 have v:=yH (H3.low (J.mono (by omega)));have Z:=yH ((J.block A (by omega)).trans W.out);have O:=yH r4;have G4:=yH (x19 G3 (show w.heap.size<=A+1 by have:=H.out;omega) J (by omega));clear r4 J z4 c1 f1 W I H3 G3;generalize N.setCell ⟨A+1,1,none⟩ (.bool lv)=w4 at *;have HW:=yH (x5D s1 g w4 v A2);have A1:=yH q;have A6:=yH i;clear q i;generalize s1.rowV 8=R at *;generalize (s1.row 8).2=s2 at *;go_upto_region 4 with (go_at_call 244;refine HW.mono ?_;rintro e K y;obtain ⟨v5,rfl,o5,h5,u⟩:=y;obtain ⟨B,rfl,a,-,Y⟩:=x3w o5 A1 (by have:=A6.out;omega);have r:=yH Y;have A3:=yH a;have l:=yH ((u.block A (yL Z) (by simp;omega)).trans Z.out);have L:=yH ((u.block (A+1) (yL O) (by simp;omega)).trans O.out);have c0:=jH K (A+1) 0 _ _ _ L.out;have f0:=jS K (A+1) 0 _ _ L.out;have H5:=yH h5;have G5:=yH (x0o G4 u);have x:=yH (show A+1<w4.heap.size from (yL O));clear o5 h5 u Y a;unfold Rw.val)
 have r6:=jU K (A+1) 0 _ _ (.slice B.p B.n B.c) L;have M:Below (A+1) K (K.setCell ⟨A+1,0,none⟩ (.slice B.p B.n B.c)):=(jC _ _).setCell (p:=⟨A+1,0,none⟩) (jB _) _;have z6:(K.setCell ⟨A+1,0,none⟩ (.slice B.p B.n B.c)).heap.size=K.heap.size:=by simp [World.setCell]
 have A7:=yH (H5.low (M.mono (by omega)));have G:=yH ((M.block A (by omega)).trans l.out);have o:=yH r6;have G6:=yH (x19 G5 (show w.heap.size<=A+1 by have:=H.out;omega) M (by omega));have F6:=yH (r.keep (w':=K.setCell ⟨A+1,0,none⟩ (.slice B.p B.n B.c)) (fun k hk _=>kG _ _ _ _ (by show k≠A+1;have:=x.out;omega)));clear r6 M z6 c0 f0 l L H5 G5 r;generalize K.setCell ⟨A+1,0,none⟩ (.slice B.p B.n B.c)=w6 at *;have c0:=jH w6 (A+1) 0 _ _ _ o;have c1:=jH w6 (A+1) 1 _ _ _ o;have a0:=jH w6 A 0 _ _ _ G;have a1:=jH w6 A 1 _ _ _ G;have f0:=jS w6 A 0 _ _ G;have f1:=jS w6 A 1 _ _ G;obtain ⟨du,b,X⟩:=UEn;have HD:=yH b;have A0:=yH X;clear b X;go_wp2_with fail
 have r7:=jU w6 A 0 _ _ (.slice B.p B.n B.c) G;have r8:=jU _ A 1 _ _ (.bool lv) r7;have f:Below A w6 ((w6.setCell ⟨A,0,none⟩ (.slice B.p B.n B.c)).setCell ⟨A,1,none⟩ (.bool lv)):=((jC _ _).setCell (p:=⟨A,0,none⟩) (jB _) _).setCell (p:=⟨A,1,none⟩) (jB _) _;have z8:((w6.setCell ⟨A,0,none⟩ (.slice B.p B.n B.c)).setCell ⟨A,1,none⟩ (.bool lv)).heap.size=w6.heap.size:=by simp [World.setCell]
 refine x1U 2 (by kernel_rfl) A _ #[.slice B.p B.n B.c,.bool lv] HD.out A0 SEn (by rfl) r8 ?_;refine ⟨B,rfl,A3.out,?_,A7.low (f.mono (by omega)),x19 G6 (show w.heap.size<=A by have:=H.out;omega) f (by omega)⟩;refine (F6.keep (fun k hk _=>?_)).base (by have:=x.out;have:=H.out;omega);have U:k≠A:=by have:=x.out;omega
 rw [kG _ _ _ _ (by exact U),kG _ _ _ _ (by exact U)]
end Nd
section
open Go.RowKit
def y6V (w:World) (B:List Nat) (e:Ending) (w':World):Prop:=∃g,e= .returned (.pointer (some ⟨g,0,none⟩))/\w.heap.size<=g/\RSx w' g ⟨B,0⟩/\Below w.heap.size w w'
theorem y4c (B:List Nat) (p:Option Addr) (n c:Nat) (w:World) (hB:Tx w p n c B) (hl:n<1099511627776):
  Calls Tryz.prog 185 #[.slice p n c] w (y6V w B):=by
 have I:=yH hB;clear hB
 go_enter Tryz.func185,Tryz.ntmps185
 go_wp2_with fail
 refine (x8N B p n c _ I hl).mono ?_;rintro e H K;obtain ⟨q,m,rfl,A,G⟩:=K;have C:=yH A;have E:=yH G;clear A G;go_wp2_with fail
 go_ret;exact ⟨H.heap.size,rfl,E.size,⟨q,B.length,m,jE H _,(x0K C I.ok).later (jA _ _),fun x hx h=>by
  subst hx;exact (C.lt x.block (by
   rcases C.2 with ⟨A,_⟩ | ⟨k,L,J,A,_⟩
   ·simp at A
   ·simp only [Value.slice.injEq,Option.some.injEq] at A;rw [A.1];rfl)).2⟩,E.alloc E.size _⟩
def Rd.end (s:Rd):Rd:=if s.R=[] then s else s.refuse 22
theorem y4d (s:Rd) (g:Nat) (w:World) (hs:RSx w g s):
  Calls Tryz.prog 189 #[.pointer (some ⟨g,0,none⟩)] w (RPost w g (.int .i64 s.end.e) s.end):=by
 obtain ⟨p,n,c,hs⟩:=hs;have P:=hs.rest;have H:=hs.err;have E:=hs.tx.size;have G:=yH hs;have C:=yH E;clear hs E;unfold Rd.end;by_cases h:s.R=[]
 ·rw [if_pos h];obtain rfl:n=0:=by rw [C.out,h];rfl
  clear h
  go_enter Tryz.func189,Tryz.ntmps189
  go_wp2_with fail
  go_ret;exact ⟨rfl,⟨p,0,c,G.out⟩,x4R _ _⟩
 ·rw [if_neg h];have b1:(0:Int)<n:=by have:=kP.2 h;have:=C.out;omega
  clear h H
  go_enter Tryz.func189,Tryz.ntmps189
  go_wp2_with fail
  refine (x2X s 22 g _ ⟨p,n,c,G.out⟩).mono ?_;rintro e O M;obtain ⟨rfl,⟨L,I,J,A⟩,B⟩:=M;have Q:=A.err;have K:=yH A;have N:=yH B;clear A B;go_wp2_with fail
  go_ret;exact ⟨rfl,⟨L,I,J,K.out⟩,N.out⟩
end
namespace Nd
open Go.RowKit Dk
open List renaming setIfInBounds_toArray -> yA, set_cons_zero -> yB, set_cons_succ -> yC
theorem UNo0:(Tryz.prog.underlying 97).map (·.isRow)=some true:=by kernel_rfl
theorem UNo:∃d,Tryz.prog.underlying 97=some d/\d.isRow=true:=by
 have h:=UNo0
 revert h
 cases Tryz.prog.underlying 97 with
 | none=>intro h;cases h
 | some d=>intro h;exact ⟨d,rfl,by simpa using h⟩
theorem SNo:(Tryz.prog.info? 97).map (·.size)=some 3:=by kernel_rfl
theorem x1x {w:World} {base e size n:Nat} {v:Value} {xs:List Value} (h:w.ownsRow base e size v n xs):∃q c,v= .slice q n c:=by
 rcases h.2 with ⟨rfl,C⟩ | ⟨g,A,B,rfl,_⟩
 ·exact ⟨none,0,by rw [C]⟩
 ·exact ⟨_,A,rfl⟩
structure De1 (wL:World) (gn g kind n1:Nat) (T:List PE×Rd) (k:Nat) (E:List En) (v:Value) (s:Rd) (wr:World):Prop where
 le:k<=n1
 row:wr.heap[gn]? =some (.cells #[.int .u8 kind,v,.slice none 0 0] 97 (0,0))
 ents:Ens wL.heap.size wr v k E
 rd:RSx wr g s
 only:Only (fun j=>j=gn\/j=g) wL wr
 run:readE 8 (n1 - k) s (E.map En.pe)=T
 len:s.R.length<1099511627776
def De1R (wL:World) (gn g kind n1:Nat) (T:List PE×Rd) (i:Value) (wr:World):Prop:=∃k E v s,i= .int .u8 (k:Nat)/\De1 wL gn g kind n1 T k E v s wr
structure De2 (wL:World) (gn g kind n2:Nat) (v1:Value) (T:List PK×Rd) (k:Nat) (K:List Kd) (v:Value) (s:Rd) (wr:World):Prop where
 le:k<=n2
 row:wr.heap[gn]? =some (.cells #[.int .u8 kind,v1,v] 97 (0,0))
 kids:Kds wL.heap.size wr v k K
 rd:RSx wr g s
 only:Only (fun j=>j=gn\/j=g) wL wr
 run:readK 8 (n2 - k) s (K.map Kd.pk)=T
 len:s.R.length<1099511627776
def De2R (wL:World) (gn g kind n2:Nat) (v1:Value) (T:List PK×Rd) (i:Value) (wr:World):Prop:=∃k K v s,i= .int .u8 (k:Nat)/\De2 wL gn g kind n2 v1 T k K v s wr
theorem De1.step {wL wr w5 w7:World} {gn g kind n1:Nat} {T:List PE×Rd} {k:Nat} {E:List En} {v v7:Value} {s:Rd} (h:De1 wL gn g kind n1 T k E v s wr) (hk:k<n1) (hgn:gn<wL.heap.size) (hg:g<gn) {r:Rw} {lv:Bool}
  (hr:r.R=s.truth.rowV 8) (hlv:lv=s.truthV) (hfr:FrRw w5 wr.heap.size r) (h5:RSx w5 g (s.entN 8)) (k5:wr.grownBy w5 (some g)) {o:Obj}
  (hown:w7.ownsRow wL.heap.size 101 2 v7 (k+1) (E.flatMap En.cells++En.cells ⟨r,lv⟩)) (hgr:(w5.alloc o).grownBy w7 v.ownBlock) (hat:v7.ownBlock=v.ownBlock\/v7.ownBlock=some (w5.alloc o).heap.size) (hl:(s.entN 8).R.length<1099511627776):
  De1 wL gn g kind n1 T (k+1) (E++[⟨r,lv⟩]) v7 (s.entN 8) (w7.setCell ⟨gn,1,none⟩ v7):=by
 have J:=fun x e=>h.ents.own.lt x e;have P:(w5.alloc o).heap.size=w5.heap.size+1:=by simp
 have A:=jA w5 o;have Q:=h.ents.grown k5 (by omega);have U:=Q.later A;have M:=h.only.size;have H:∀q∈En.rows ⟨r,lv⟩,FrRw (w5.alloc o) wL.heap.size q/\∀x,q.p=some x->q.R≠[]->v.ownBlock≠some x.block:=fun q hq=>by
  obtain rfl:q=r:=by simpa [En.rows] using hq
  refine ⟨(hfr.later A).base M,fun x hx hR e=>?_⟩;have X:=hfr.lo x hx hR;have Y:=(J _ e).2;omega
 have W:=U.put H hown hgr hat;have C:=(k5.block gn (yL h.row) (by simp;omega)).trans h.row;have B:=(A.block gn (yL C)).trans C;have G:=(hgr.block gn (yL B) (fun e=>by have:=(J _ e.symm).1;omega)).trans B;have I:=jU w7 gn 1 _ _ v7 G;have L:Below (g+1) (w5.alloc o) w7:=⟨hgr.os,hgr.tape,hgr.output,hgr.size,fun j hj=>hgr.block j (by have:=k5.size;omega) (fun e=>by have:=(J _ e.symm).1;omega)⟩
 have K:Below (g+1) w7 (w7.setCell ⟨gn,1,none⟩ v7):=(jC _ _).setCell (p:=⟨gn,1,none⟩) (by show g+1<=gn;omega) _;refine ⟨hk,I,W.keep (fun j hj _=>kG _ _ _ _ (by show j≠gn;omega)),((h5.later A).low L).low K,?_,?_,hl⟩
 ·refine ⟨hgr.os.trans (k5.os.trans h.only.os),hgr.tape.trans (k5.tape.trans h.only.tape),hgr.output.trans (k5.output.trans h.only.output),?_,fun j hj hn=>?_⟩
  ·have:=hgr.size;have:=k5.size;simp only [World.setCell] at *;simp;omega
  ·rw [kG _ _ _ _ (by show j≠gn;intro e;exact hn (Or.inl e))];have O:j<wr.heap.size:=by omega
   have N:j<w5.heap.size:=by have:=k5.size;omega
   rw [hgr.block j (by omega) (fun e=>by have:=(J _ e.symm).1;omega),A.block j N,k5.block j O (by simp;intro e;exact hn (Or.inr e))];exact h.only.block j hj hn
 ·rw [List.map_append,show n1 - (k+1)=n1 - k - 1 by omega];have:=h.run;rw [y4T (by omega)] at this;rw [<- this];show readE 8 (n1 - k - 1) (s.entN 8) (E.map En.pe++[⟨r.R,lv⟩])=_
  rw [hr,hlv];rfl
theorem De2.step {wL wr w5 w7:World} {gn g kind n2:Nat} {v1:Value} {T:List PK×Rd} {k:Nat} {K:List Kd} {v v7:Value} {s:Rd} (h:De2 wL gn g kind n2 v1 T k K v s wr) (hk:k<n2) (hgn:gn<wL.heap.size) (hg:g<gn) {kd:Kd}
  (hpk:kd.pk=s.kidV 8) (hok:kd.Ok w5) (f1:FrRw w5 wr.heap.size kd.lo) (f2:FrRw w5 wr.heap.size kd.hi) (f3:FrRw w5 wr.heap.size kd.key) (h5:RSx w5 g (s.kidN 8)) (k5:wr.grownBy w5 (some g)) {o:Obj}
  (hown:w7.ownsRow wL.heap.size 34 37 v7 (k+1) (K.flatMap Kd.cells++kd.cells)) (hgr:(w5.alloc o).grownBy w7 v.ownBlock) (hat:v7.ownBlock=v.ownBlock\/v7.ownBlock=some (w5.alloc o).heap.size) (hl:(s.kidN 8).R.length<1099511627776):
  De2 wL gn g kind n2 v1 T (k+1) (K++[kd]) v7 (s.kidN 8) (w7.setCell ⟨gn,2,none⟩ v7):=by
 have L:=fun x e=>h.kids.lst.own.lt x e;have X:(w5.alloc o).heap.size=w5.heap.size+1:=by simp
 have A:=jA w5 o;have U:=h.kids.lst.grown k5 (by omega);have Y:=U.later A;have N:=h.only.size;have G:∀q∈Kd.rows kd,FrRw (w5.alloc o) wL.heap.size q/\∀x,q.p=some x->q.R≠[]->v.ownBlock≠some x.block:=fun q hq=>by
  have J:FrRw w5 wr.heap.size q:=by
   simp only [Kd.rows,jW,jV,or_false] at hq;rcases hq with rfl | rfl | rfl<;>assumption
  refine ⟨(J.later A).base N,fun x E hR e=>?_⟩;have Z:=J.lo x E hR;have a:=(L _ e).2;omega
 have W:=Y.put G hown hgr hat;have C:=(k5.block gn (yL h.row) (by simp;omega)).trans h.row;have B:=(A.block gn (yL C)).trans C;have I:=(hgr.block gn (yL B) (fun e=>by have:=(L _ e.symm).1;omega)).trans B;have H:=jU w7 gn 2 _ _ v7 I;have O:Below (g+1) (w5.alloc o) w7:=⟨hgr.os,hgr.tape,hgr.output,hgr.size,fun j hj=>hgr.block j (by have:=k5.size;omega) (fun e=>by have:=(L _ e.symm).1;omega)⟩
 have M:Below (g+1) w7 (w7.setCell ⟨gn,2,none⟩ v7):=(jC _ _).setCell (p:=⟨gn,2,none⟩) (by show g+1<=gn;omega) _;refine ⟨hk,H,⟨W.keep (fun j hj _=>kG _ _ _ _ (by show j≠gn;omega)),fun x E=>?_⟩,((h5.later A).low O).low M,?_,?_,hl⟩
 ·rcases jP.1 E with E | E
  ·exact h.kids.good x E
  ·obtain rfl:x=kd:=by simpa using E
   exact ⟨hok.len,hok.ok,hok.live,hok.size⟩
 ·refine ⟨hgr.os.trans (k5.os.trans h.only.os),hgr.tape.trans (k5.tape.trans h.only.tape),hgr.output.trans (k5.output.trans h.only.output),?_,fun j hj hn=>?_⟩
  ·have:=hgr.size;have:=k5.size;simp only [World.setCell] at *;simp;omega
  ·rw [kG _ _ _ _ (by show j≠gn;intro e;exact hn (Or.inl e))];have Q:j<wr.heap.size:=by omega
   have P:j<w5.heap.size:=by have:=k5.size;omega
   rw [hgr.block j (by omega) (fun e=>by have:=(L _ e.symm).1;omega),A.block j P,k5.block j Q (by simp;intro e;exact hn (Or.inr e))];exact h.only.block j hj hn
 ·rw [List.map_append,show n2 - (k+1)=n2 - k - 1 by omega];have:=h.run;rw [y4U (by omega)] at this;rw [<- this,<- hpk];rfl
theorem x63 {w:World} {g:Nat} {a b c a' b' c':Value} (h:w.heap[g]? =some (.cells #[a,b,c] 97 (0,0))):(((w.setCell ⟨g,0,none⟩ a').setCell ⟨g,1,none⟩ b').setCell ⟨g,2,none⟩ c').heap[g]? =some (.cells #[a',b',c'] 97 (0,0))/\Only (fun j=>j=g) w (((w.setCell ⟨g,0,none⟩ a').setCell ⟨g,1,none⟩ b').setCell ⟨g,2,none⟩ c'):=by
 have B:=jU w g 0 _ _ a' h;have A:=jU _ g 1 _ _ b' B;have C:=jU _ g 2 _ _ c' A;exact ⟨C,((Only.setCell (P:=fun j=>j=g) w (a:=⟨g,0,none⟩) rfl a').trans (Only.setCell (P:=fun j=>j=g) _ (a:=⟨g,1,none⟩) rfl b')).trans (Only.setCell (P:=fun j=>j=g) _ (a:=⟨g,2,none⟩) rfl c')⟩
theorem end_e {s:Rd}:s.end.e=0↔s.e=0/\s.R=[]:=by
 unfold Rd.end Rd.refuse;by_cases h:s.R=[]
 ·rw [if_pos h];simp [h]
 ·rw [if_neg h];split
  ·rename_i k;simp [h]
  ·rename_i k;simp [h,k]
def y6W (w:World) (B:List Nat) (d:Int) (e:Ending) (w':World):Prop:=
 Below w.heap.size w w'/\
 (((rdN 8 B).good d/\∃kind p n c q m f E K,e= .returned (.tuple #[.agg #[.int .u8 (kind:Nat),.slice p n c,.slice q m f],.int .i64 0])/\(∀w'':World,(∀k,w.heap.size<=k->k<w'.heap.size->w''.heap[k]? =w'.heap[k]?)->EntsIn w'' p n c E/\KidsIn w'' q m f K)/\pnOf kind E K=(rdN 8 B).node/\kind<256/\∃mid,Fresh w.heap.size mid w' p n c q m f E K)\/
  (¬(rdN 8 B).good d/\e= .returned (.tuple #[.agg #[.int .u8 0,.slice none 0 0,.slice none 0 0],.int .i64 21])))
theorem x77 (B:List Nat) (p:Option Addr) (n c:Nat) (d:Int) (w:World) (hB:Tx w p n c B) (hl:n<1099511627776):
  Calls Tryz.prog 129 #[.slice p n c,.int .i64 d] w (y6W w B d):=by
 have Az:=y1D (m:=8) hB.ok;have AX:B.length<1099511627776:=by rw [<- hB.size];exact hl
 have A7:rdN 8 B=⟨Cm.val ((Rd.mk B 0).part 1),Cm.val (((Rd.mk B 0).past 1).part 1),(((Rd.mk B 0).past 1).past 1),readE 8 (Cm.val (((Rd.mk B 0).past 1).part 1)) (((Rd.mk B 0).past 1).past 1) [],Cm.val ((readE 8 (Cm.val (((Rd.mk B 0).past 1).part 1)) (((Rd.mk B 0).past 1).past 1) []).2.part 1),(readE 8 (Cm.val (((Rd.mk B 0).past 1).part 1)) (((Rd.mk B 0).past 1).past 1) []).2.past 1,readK 8 (Cm.val ((readE 8 (Cm.val (((Rd.mk B 0).past 1).part 1)) (((Rd.mk B 0).past 1).past 1) []).2.part 1)) ((readE 8 (Cm.val (((Rd.mk B 0).past 1).part 1)) (((Rd.mk B 0).past 1).past 1) []).2.past 1) []⟩:=rfl;have Av:=yH (fun w1 g (h:RSx w1 g ⟨B,0⟩)=>x2g ⟨B,0⟩ g w1 h AX);have B7:=yH (fun w1 g (h:RSx w1 g ((Rd.mk B 0).past 1))=>x2g ((Rd.mk B 0).past 1) g w1 h (Nat.lt_of_le_of_lt Az.2.2.2.2.2.2.2.2.2 AX));generalize hxx:rdN 8 B=x at *;have BX:Cm.val ((Rd.mk B 0).part 1)=x.kind:=by rw [A7]
 have BM:Cm.val (((Rd.mk B 0).past 1).part 1)=x.n1:=by rw [A7]
 have BU:(((Rd.mk B 0).past 1).past 1)=x.s2:=by rw [A7]
 have Bl:readE 8 x.n1 x.s2 []=x.T1:=by rw [A7]
 have Bc:Cm.val (x.T1.2.part 1)=x.n2:=by rw [A7]
 have Bd:x.T1.2.past 1=x.s4:=by rw [A7]
 have Bk:readK 8 x.n2 x.s4 []=x.T2:=by rw [A7]
 rw [BX] at Av;rw [BM,BU] at B7;generalize (Rd.mk B 0).past 1=s1 at *;have AE:=yH Az;have Bi:=yH AX;have HK3:=yH Bl;have Be:=yH Bc;have BW:=yH Bd;have HK6:=yH Bk;have HB:=yH hB;have AV:=yH hxx;clear Az AX A7 BX BM BU Bl Bc Bd Bk hB hxx;obtain ⟨ie,hi,AR,AH,AS⟩:=info_parts IEn;have HI:=yH hi;have Bt:=yH AR;have C9:=yH AH;have C6:=yH AS;clear hi AR AH AS;obtain ⟨ik,hi,AR,AH,AS⟩:=info_parts IKd;have KI:=yH hi;have An:=yH AR;have BD:=yH AH;have B0:=yH AS;clear hi AR AH AS;have Ao:=jA w (.cells #[.int .u8 0,.slice none 0 0,.slice none 0 0] 97);have r1:=jE w (.cells #[.int .u8 0,.slice none 0 0,.slice none 0 0] 97);have z1:(w.alloc (.cells #[.int .u8 0,.slice none 0 0,.slice none 0 0] 97)).heap.size=w.heap.size+1:=by simp
 have Ba:=yH (y4c B p n c _ (HB.later Ao) hl);have BE:=yH Ao;have R1:=yH r1;have Z1:=yH z1;clear Ao r1 hl z1
 go_enter Tryz.func129,Tryz.ntmps129
 go_upto_region 1 with fail
 generalize w.alloc (.cells #[.int .u8 0,.slice none 0 0,.slice none 0 0] 97)=w1 at *;go_upto_region 2 with (go_at_call 185;refine Ba.mono ?_;rintro e w2 hp;obtain ⟨g,rfl,Bf,h2,b2⟩:=hp;have Bg:=yH h2;have Bb:=yH Bf;have R2:=yH ((b2.block w.heap.size (by have:=Z1.out;omega)).trans R1.out);have BG:=yH (BE.trans (b2.mono BE.size));clear h2 Bf b2)
 have A0:=yH (Av.out w2 g Bg);clear Ba Av R1 BE;go_upto_region 3 with (go_at_call 186;refine A0.mono ?_;rintro e w3 ⟨rfl,h3,k3⟩;have B1:=yH h3;have K3:=yH k3;clear h3 k3)
 have As:g<w3.heap.size:=B1.lt;have AG:=jA w3 (.cells #[.int .u8 x.kind,.slice none 0 0,.slice none 0 0] 97);have Am:=jE w3 (.cells #[.int .u8 x.kind,.slice none 0 0,.slice none 0 0] 97);have Bh:w.heap.size<g:=by have:=Bb.out;have:=Z1.out;omega
 have R3:=yH ((K3.block w.heap.size (yL R2) (by simp;omega)).trans R2.out);have BO:=yH (show Below w.heap.size w w3 from BG.trans (x3f K3 (by omega) BG.size));obtain ⟨G,Ak⟩:∃G,G=w3.heap.size:=⟨_,rfl⟩
 rw [<- Ak] at Am As AG ⊢;have R4:=yH ((AG.block w.heap.size (by omega)).trans R3.out);have BN:=yH (B1.later (by rw [<- Ak];exact AG));have B3:=yH (BO.trans (AG.mono (by omega)));have BI:=yH Am;have A:=yH (show w.heap.size<g/\g<G from ⟨Bh,As⟩);clear AG Am As Bh R2 R3 B1 BG BO K3 A0 Bg Ak Bb Z1;clear w2;generalize w3.alloc (.cells #[.int .u8 x.kind,.slice none 0 0,.slice none 0 0] 97)=w4 at *;clear w3;have A0:=yH (B7.out w4 g BN);clear B7;go_upto_region 4 with (go_at_call 186;refine A0.mono ?_;rintro e wL ⟨rfl,h3,k3⟩;have HR5:=yH h3;have X:=yH k3;clear h3 k3)
 have Ab:G<w4.heap.size:=(yL BI)
 have RN5:=yH ((X.block G Ab (by simp;have:=A.out;omega)).trans BI.out);have Bm:=yH ((X.block w.heap.size (yL R4) (by simp;have:=A.out;omega)).trans R4.out);have Ax:=yH (show Below w.heap.size w wL from B3.trans (x3f X (by have:=A.out;omega) B3.size));have a:=yH (show G<wL.heap.size from (yL RN5));have HLS:=yH (show x.s2.R.length<1099511627776 from Nat.lt_of_le_of_lt AE.2.2.2.2.1 Bi);have BT:=AE.2.1;clear A0 R4 BN B3 BI X Ab;clear w4;go_loopw [15] (fun i wr=>De1R wL G g x.kind x.n1 x.T1 i wr) (fun i _=>x.n1 - (intOf i).toNat)
 case atStart=>exact ⟨0,[],.slice none 0 0,x.s2,rfl,by omega,RN5.out,Lst.nil _,HR5.out,Only.refl _ _,by rw [Nat.sub_zero];exact HK3.out,HLS.out⟩
 case round=>
  obtain ⟨k,E,v,s,rfl,A3⟩:=hrel;have I:=yH A3;obtain ⟨qv,cv,rfl,-⟩:=A3.ents.form;have Au:=A3.le;clear A3 RN5 HR5 HLS;by_cases hlt:k<x.n1
  focus
   have b1:(k:Int)<x.n1:=by omega
   have HT:=yH (x9Q s g wr.drew (I.rd.later (jC _ _).drew) I.len);have AQ:=yH (show (s.entN 8).R.length<1099511627776 from by
    have Aq:Sm.allB s.R:=by obtain ⟨p,n,c,h⟩:=I.rd;exact h.tx.ok
    exact Nat.lt_of_le_of_lt (ent_R (m:=8) Aq).2 I.len)
   have A4:=yH (show G<wr.heap.size/\wL.heap.size<=wr.heap.size from ⟨(yL I.row),I.only.size⟩);have At:k<255:=by omega
   go_upto_region 5 with fail
   refine kD (S:=fun _=>True) (by kernel_rfl) trivial (fun hH=>?_);refine tK 0 ?_;refine tK 2 ?_;refine rY [1,3] ?_;refine rC (fun K hK=>?_) (rC (fun K hK=>?_) AllReadyH.nil)
   focus
    have t1:wr.drew.cell? ⟨G,1,none⟩=some (.slice qv k cv):=jH wr.drew G 1 _ _ _ (show wr.drew.heap[G]? =_ from I.row);go_simp;refine hK.out _ _ trivial (fun hH=>?_);clear hK K;try simp only [Act.put,yA,yB,yC]
    refine rO 3 fun K hK=>?_;go_simp;refine HT.mono ?_;rintro _ L ⟨Y,rfl,AM,AL,h5,Z⟩;have AB:=yH AM;have O:=yH AL;have H5:=yH h5;have X:=yH (show wr.grownBy L (some g) from ⟨Z.os,Z.tape,Z.output,Z.size,Z.block⟩);have C:=yH ((X.block G A4.1 (by simp;have:=A.out;omega)).trans I.row);clear AM AL h5 Z;try go_wp2_with fail
    refine hK.out _ _ trivial (fun hH=>?_);clear hK K;try simp only [Act.put,yA,yB,yC]
    refine rO 4 fun K hK=>?_;refine x1Q (.tmp 20) (by rfl) (by rfl) ?_;have Q:=jA L (.cells #[.slice Y.p Y.n Y.c,.bool s.truthV] 101);have H:=yH ((Q.block G (yL C)).trans C.out);have M:=yH ((I.ents.grown X (by have:=a.out;have:=A.out;omega)).own.alloc (.cells #[.slice Y.p Y.n Y.c,.bool s.truthV] 101));clear Q
   rotate_left
   focus
    go_simp;refine HT.mono ?_;rintro _ L ⟨Y,rfl,AM,AL,h5,Z⟩;have AB:=yH AM;have O:=yH AL;have H5:=yH h5;have X:=yH (show wr.grownBy L (some g) from ⟨Z.os,Z.tape,Z.output,Z.size,Z.block⟩);have C:=yH ((X.block G A4.1 (by simp;have:=A.out;omega)).trans I.row);clear AM AL h5 Z;try go_wp2_with fail
    refine hK.out _ _ trivial (fun hH=>?_);clear hK K;try simp only [Act.put,yA,yB,yC]
    refine rY [1,4] ?_;refine rC (fun K hK=>?_) (rC (fun K hK=>?_) AllReadyH.nil)
    focus
     have t1:L.cell? ⟨G,1,none⟩=some (.slice qv k cv):=jH L G 1 _ _ _ C;go_simp;refine hK.out _ _ trivial (fun hH=>?_);clear hK K;try simp only [Act.put,yA,yB,yC]
     refine rO 4 fun K hK=>?_;refine x1Q (.tmp 20) (by rfl) (by rfl) ?_;have Q:=jA L (.cells #[.slice Y.p Y.n Y.c,.bool s.truthV] 101);have H:=yH ((Q.block G (yL C)).trans C.out);have M:=yH ((I.ents.grown X (by have:=a.out;have:=A.out;omega)).own.alloc (.cells #[.slice Y.p Y.n Y.c,.bool s.truthV] 101));clear Q
    rotate_left
    focus
     refine x1Q (.tmp 20) (by rfl) (by rfl) ?_;have Q:=jA L (.cells #[.slice Y.p Y.n Y.c,.bool s.truthV] 101);have H:=yH ((Q.block G (yL C)).trans C.out);have M:=yH ((I.ents.grown X (by have:=a.out;have:=A.out;omega)).own.alloc (.cells #[.slice Y.p Y.n Y.c,.bool s.truthV] 101));clear Q;refine hK.out _ _ trivial (fun hH=>?_);clear hK K;try simp only [Act.put,yA,yB,yC]
     refine rO 1 fun K hK=>?_;have t1:(L.alloc (.cells #[.slice Y.p Y.n Y.c,.bool s.truthV] 101)).cell? ⟨G,1,none⟩=some (.slice qv k cv):=jH (L.alloc (.cells #[.slice Y.p Y.n Y.c,.bool s.truthV] 101)) G 1 _ _ _ H;go_simp
    rotate_left
   rotate_left 2
  rotate_left 3
  ·
   obtain rfl:k=x.n1:=by omega
   have N:=I.run;rw [Nat.sub_self] at N;have N:(E.map En.pe,s)=x.T1:=N;have C4:=yH (show x.T1.1=E.map En.pe from by rw [<- N]);have Ar:s=x.T1.2:=by rw [<- N]
   subst Ar;have CG:=yH (show x.T1.2.R.length<1099511627776 from I.len);have A0:=yH (x2g x.T1.2 g wr I.rd I.len);rw [Be.out,BW.out] at A0;have CF:x.n1<256:=BT;clear N hlt Au BT;go_upto_region 8 with (go_at_call 186;refine A0.mono ?_;rintro e w6 ⟨rfl,h3,k3⟩;have HR6:=yH h3;have K6:=yH k3;clear h3 k3)
   have RN6:=yH ((K6.block G (yL I.row) (by simp;have:=A.out;omega)).trans I.row);have AY:=yH (I.ents.grown K6 (by have:=a.out;have:=A.out;omega));have AZ:=yH (I.only.trans (show Only (fun j=>j=G\/j=g) wr w6 from ⟨K6.os,K6.tape,K6.output,K6.size,fun j hj hn=>K6.block j hj (by simp;intro e;exact hn (Or.inr e))⟩));have b:=yH (show G<w6.heap.size from (yL RN6));have HLS:=yH (show x.s4.R.length<1099511627776 from Nat.lt_of_le_of_lt AE.2.2.2.2.2.2.2.2.1 Bi);have Bo:=AE.2.2.1;clear A0 I K6;clear wr;generalize x.n1=n1 at *;obtain ⟨v1,AO⟩:∃v1:Value,v1= .slice qv n1 cv:=⟨_,rfl⟩
   rw [<- AO] at RN6 AY;have Bw:=yH AO;clear AO;go_loopw [27] (fun i wr=>De2R w6 G g x.kind x.n2 v1 x.T2 i wr) (fun i _=>x.n2 - (intOf i).toNat)
   case atStart=>exact ⟨0,[],.slice none 0 0,x.s4,rfl,by omega,RN6.out,⟨Lst.nil _,fun k hk=>by cases hk⟩,HR6.out,Only.refl _ _,by rw [Nat.sub_zero];exact HK6.out,HLS.out⟩
   case round=>
    obtain ⟨k,K,v,s,rfl,A3⟩:=hrel;have I:=yH A3;obtain ⟨r,t,rfl,-⟩:=A3.kids.lst.form;have Au:=A3.le;clear A3 RN6 HR6 HLS;by_cases hlt:k<x.n2
    ·have b1:(k:Int)<x.n2:=by omega
     have HT:=yH (x9E s g wr.drew (I.rd.later (jC _ _).drew) I.len);have AQ:=yH (show (s.kidN 8).R.length<1099511627776 from by
      have Aq:Sm.allB s.R:=by obtain ⟨p,n,c,h⟩:=I.rd;exact h.tx.ok
      exact Nat.lt_of_le_of_lt (kid_R (m:=8) Aq).2 I.len)
     have A4:=yH (show G<wr.heap.size/\w6.heap.size<=wr.heap.size from ⟨(yL I.row),I.only.size⟩);have At:k<255:=by omega
     go_upto_region 9 with fail
     refine kD (S:=fun _=>True) (by kernel_rfl) trivial (fun hH=>?_);refine tK 0 ?_;refine tK 2 ?_;refine rY [1,3] ?_;refine rC (fun K hK=>?_) (rC (fun K hK=>?_) AllReadyH.nil)
     ·
      have t1:wr.drew.cell? ⟨G,2,none⟩=some (.slice r k t):=jH wr.drew G 2 _ _ _ (show wr.drew.heap[G]? =_ from I.row);go_simp;refine hK.out _ _ trivial (fun hH=>?_);clear hK K;try simp only [Act.put,yA,yB,yC]
      refine rO 3 fun K hK=>?_;go_simp;refine HT.mono ?_;rintro _ L ⟨kd,rfl,AN,A5,f1,f2,f3,h5,Z⟩;have AB:=yH AN;have A2:=yH A5;have O:=yH (show FrRw L wr.heap.size kd.lo/\FrRw L wr.heap.size kd.hi/\FrRw L wr.heap.size kd.key from ⟨f1,f2,f3⟩);have H5:=yH h5;have X:=yH (show wr.grownBy L (some g) from ⟨Z.os,Z.tape,Z.output,Z.size,Z.block⟩);have C:=yH ((X.block G A4.1 (by simp;have:=A.out;omega)).trans I.row);clear AN A5 f1 f2 f3 h5 Z;try go_wp2_with fail
      refine hK.out _ _ trivial (fun hH=>?_);clear hK K;try simp only [Act.put,yA,yB,yC]
      refine rO 4 fun K hK=>?_;refine x4W (.tmp 32) (by rfl) A2.len (by rfl) ?_;have Q:=jA L (.cells kd.cells.toArray 34);have H:=yH ((Q.block G (yL C)).trans C.out);have M:=yH ((I.kids.lst.grown X (by have:=b.out;have:=A.out;omega)).own.alloc (.cells kd.cells.toArray 34));clear Q;refine hK.out _ _ trivial (fun hH=>?_);clear hK K;try simp only [Act.put,yA,yB,yC]
      refine rO 5 fun K hK=>?_;refine x0l (.tmp 30) (.tmp 33) 95 (by rfl) w6.heap.size 34 ik (.agg kd0.cells.toArray) 37 120 UKs KI An BD B0 (by rfl) (by decide) _ k _ (by rfl) M ⟨L.heap.size,0,none⟩ 1 1 kd.cells (by rfl) (by rw [Kd.cells_length A2.len]) (x7X L kd) Kd.one (by unfold maxLen;omega) (by omega) (by have h1:=A4.out;have h2:=X.size;simp;omega) ?_;intro v7 w7 hown7 hgrow7 hat7;have l:=fun y e=>I.kids.lst.own.lt y e;have J:=(hgrow7.block G (yL H) (fun e=>by have:=(l _ e.symm).1;have:=b.out;omega)).trans H.out;have t7:=jH w7 G 2 _ _ _ J;have f7:=jS w7 G 2 _ _ J;obtain ⟨q7,c7,rfl⟩:=x1x hown7;have o:=yH hown7;have u:=yH hgrow7;have q:=yH hat7;clear hown7 hgrow7 hat7 l J;refine hK.out _ _ trivial (fun hH=>?_);clear hK K;try simp only [Act.put,yA,yB,yC]
      refine tK 6 ?_;refine rO 7 fun K hK=>?_;go_simp;try go_wp2_with fail
      refine hK.out _ _ trivial (fun hH=>?_);clear hK K;try simp only [Act.put,yA,yB,yC]
      refine jD ?_;have ST9:=yH (I.step hlt b A.2 AB A2 O.1 O.2.1 O.2.2 H5 X o u q AQ);clear o u q t7 f7 M H C X H5 O hH;generalize w7.setCell ⟨G,2,none⟩ (.slice q7 (k+1) c7)=W at *;go_wp2_with fail
      go_roundw
      case rel=>exact ⟨k+1,_,_,_,by go_num,ST9.out⟩
      case measure=>simp [intOf];omega
     ·
      go_simp;refine HT.mono ?_;rintro _ L ⟨kd,rfl,AN,A5,f1,f2,f3,h5,Z⟩;have AB:=yH AN;have A2:=yH A5;have O:=yH (show FrRw L wr.heap.size kd.lo/\FrRw L wr.heap.size kd.hi/\FrRw L wr.heap.size kd.key from ⟨f1,f2,f3⟩);have H5:=yH h5;have X:=yH (show wr.grownBy L (some g) from ⟨Z.os,Z.tape,Z.output,Z.size,Z.block⟩);have C:=yH ((X.block G A4.1 (by simp;have:=A.out;omega)).trans I.row);clear AN A5 f1 f2 f3 h5 Z;try go_wp2_with fail
      refine hK.out _ _ trivial (fun hH=>?_);clear hK K;try simp only [Act.put,yA,yB,yC]
      refine rY [1,4] ?_;refine rC (fun K hK=>?_) (rC (fun K hK=>?_) AllReadyH.nil)
      ·
       have t1:L.cell? ⟨G,2,none⟩=some (.slice r k t):=jH L G 2 _ _ _ C;go_simp;refine hK.out _ _ trivial (fun hH=>?_);clear hK K;try simp only [Act.put,yA,yB,yC]
       refine rO 4 fun K hK=>?_;refine x4W (.tmp 32) (by rfl) A2.len (by rfl) ?_;have Q:=jA L (.cells kd.cells.toArray 34);have H:=yH ((Q.block G (yL C)).trans C.out);have M:=yH ((I.kids.lst.grown X (by have:=b.out;have:=A.out;omega)).own.alloc (.cells kd.cells.toArray 34));clear Q;refine hK.out _ _ trivial (fun hH=>?_);clear hK K;try simp only [Act.put,yA,yB,yC]
       refine rO 5 fun K hK=>?_;refine x0l (.tmp 30) (.tmp 33) 95 (by rfl) w6.heap.size 34 ik (.agg kd0.cells.toArray) 37 120 UKs KI An BD B0 (by rfl) (by decide) _ k _ (by rfl) M ⟨L.heap.size,0,none⟩ 1 1 kd.cells (by rfl) (by rw [Kd.cells_length A2.len]) (x7X L kd) Kd.one (by unfold maxLen;omega) (by omega) (by have h1:=A4.out;have h2:=X.size;simp;omega) ?_;intro v7 w7 hown7 hgrow7 hat7;have l:=fun y e=>I.kids.lst.own.lt y e;have J:=(hgrow7.block G (yL H) (fun e=>by have:=(l _ e.symm).1;have:=b.out;omega)).trans H.out;have t7:=jH w7 G 2 _ _ _ J;have f7:=jS w7 G 2 _ _ J;obtain ⟨q7,c7,rfl⟩:=x1x hown7;have o:=yH hown7;have u:=yH hgrow7;have q:=yH hat7;clear hown7 hgrow7 hat7 l J;refine hK.out _ _ trivial (fun hH=>?_);clear hK K;try simp only [Act.put,yA,yB,yC]
       refine tK 6 ?_;refine rO 7 fun K hK=>?_;go_simp;try go_wp2_with fail
       refine hK.out _ _ trivial (fun hH=>?_);clear hK K;try simp only [Act.put,yA,yB,yC]
       refine jD ?_;have ST9:=yH (I.step hlt b A.2 AB A2 O.1 O.2.1 O.2.2 H5 X o u q AQ);clear o u q t7 f7 M H C X H5 O hH;generalize w7.setCell ⟨G,2,none⟩ (.slice q7 (k+1) c7)=W at *;go_wp2_with fail
       go_roundw
       case rel=>exact ⟨k+1,_,_,_,by go_num,ST9.out⟩
       case measure=>simp [intOf];omega
      ·
       refine x4W (.tmp 32) (by rfl) A2.len (by rfl) ?_;have Q:=jA L (.cells kd.cells.toArray 34);have H:=yH ((Q.block G (yL C)).trans C.out);have M:=yH ((I.kids.lst.grown X (by have:=b.out;have:=A.out;omega)).own.alloc (.cells kd.cells.toArray 34));clear Q;refine hK.out _ _ trivial (fun hH=>?_);clear hK K;try simp only [Act.put,yA,yB,yC]
       refine rO 1 fun K hK=>?_;have t1:(L.alloc (.cells kd.cells.toArray 34)).cell? ⟨G,2,none⟩=some (.slice r k t):=jH (L.alloc (.cells kd.cells.toArray 34)) G 2 _ _ _ H;go_simp;refine hK.out _ _ trivial (fun hH=>?_);clear hK K;try simp only [Act.put,yA,yB,yC]
       refine rO 5 fun K hK=>?_;refine x0l (.tmp 30) (.tmp 33) 95 (by rfl) w6.heap.size 34 ik (.agg kd0.cells.toArray) 37 120 UKs KI An BD B0 (by rfl) (by decide) _ k _ (by rfl) M ⟨L.heap.size,0,none⟩ 1 1 kd.cells (by rfl) (by rw [Kd.cells_length A2.len]) (x7X L kd) Kd.one (by unfold maxLen;omega) (by omega) (by have h1:=A4.out;have h2:=X.size;simp;omega) ?_;intro v7 w7 hown7 hgrow7 hat7;have l:=fun y e=>I.kids.lst.own.lt y e;have J:=(hgrow7.block G (yL H) (fun e=>by have:=(l _ e.symm).1;have:=b.out;omega)).trans H.out;have t7:=jH w7 G 2 _ _ _ J;have f7:=jS w7 G 2 _ _ J;obtain ⟨q7,c7,rfl⟩:=x1x hown7;have o:=yH hown7;have u:=yH hgrow7;have q:=yH hat7;clear hown7 hgrow7 hat7 l J;refine hK.out _ _ trivial (fun hH=>?_);clear hK K;try simp only [Act.put,yA,yB,yC]
       refine tK 6 ?_;refine rO 7 fun K hK=>?_;go_simp;try go_wp2_with fail
       refine hK.out _ _ trivial (fun hH=>?_);clear hK K;try simp only [Act.put,yA,yB,yC]
       refine jD ?_;have ST9:=yH (I.step hlt b A.2 AB A2 O.1 O.2.1 O.2.2 H5 X o u q AQ);clear o u q t7 f7 M H C X H5 O hH;generalize w7.setCell ⟨G,2,none⟩ (.slice q7 (k+1) c7)=W at *;go_wp2_with fail
       go_roundw
       case rel=>exact ⟨k+1,_,_,_,by go_num,ST9.out⟩
       case measure=>simp [intOf];omega
    ·obtain rfl:k=x.n2:=by omega
     have N:=I.run;rw [Nat.sub_self] at N;have N:(K.map Kd.pk,s)=x.T2:=N;have Bv:=yH (show x.T2.1=K.map Kd.pk from by rw [<- N]);have Ar:s=x.T2.2:=by rw [<- N]
     subst Ar;have CL:x.n2<256:=Bo;have B4:=yH (show ⟨x.kind,E.map En.pe,K.map Kd.pk⟩=x.node from by unfold RdN.node;rw [C4.out,Bv.out]);have AT:=AE.1;have A8:=yH (show x.good d↔x.T2.2.end.e=0/\x.node.right d=true from by
      rw [end_e];unfold RdN.good;exact ⟨fun h=>⟨⟨h.1,h.2.1⟩,h.2.2⟩,fun h=>⟨h.1.1,h.1.2,h.2⟩⟩)
     have A0:=yH (y4d x.T2.2 g wr I.rd);have Ae:=yH (AY.keep (w':=wr) (fun j hj hl=>I.only.block j hl (by have:=a.out;have:=A.out;omega)));have BJ:=yH (show wr.heap[w.heap.size]? =some (.cells #[.int .u8 0,.slice none 0 0,.slice none 0 0] 97 (0,0)) from
      (I.only.block _ (by have:=b.out;have:=A.out;omega) (by have:=A.out;omega)).trans ((AZ.block _ (by have:=a.out;have:=A.out;omega) (by have:=A.out;omega)).trans Bm.out))
     have Ah:=yH (show Below w.heap.size w wr from (Ax.trans ((AZ.trans (I.only.mono fun j e=>e)).below Ax.size (fun j e=>by have:=A.out;omega))));have Bq:=yH (show wL.heap.size<=w6.heap.size from AZ.size);have BV:=yH (show LowL En.rows w6.heap.size v1 E from Lst.low AY);generalize x.T2.2.end=sE at *;clear N hlt Au Bo AY AZ Ax Bm HK6 BW Be HK3 AE;have BP:∀W:World,wr.grownBy W (some g)->W.heap[G]? =some (.cells #[.int .u8 x.kind,v1,.slice r x.n2 t] 97 (0,0))/\W.heap[w.heap.size]? =some (.cells #[.int .u8 0,.slice none 0 0,.slice none 0 0] 97 (0,0))/\Ens wL.heap.size W v1 n1 E/\Kds w6.heap.size W (.slice r x.n2 t) x.n2 K/\Below w.heap.size w W:=fun W k9=>
      ⟨(k9.block G (yL I.row) (by simp;have:=A.out;omega)).trans I.row,(k9.block _ (yL BJ) (by simp;have:=A.out;omega)).trans BJ.out,Ae.grown k9 (by have:=a.out;have:=A.out;omega),⟨I.kids.lst.grown k9 (by have:=b.out;have:=A.out;omega),I.kids.good⟩,Ah.trans (x3f k9 (by have:=A.out;omega) Ah.size)⟩
     have Ap:=yH BP;clear BP BJ Ah Ae I;have AO:=Bw.out;obtain ⟨du,Bj,BQ⟩:=UNo;have HD:=yH Bj;have Al:=yH BQ;clear Bj BQ;by_cases he:sE.e=0
     case neg=>
      have b2:((sE.e:Int) !=0)=true:=by simp;omega
      have Ai:=yH (show ¬x.good d from fun h=>he (A8.1 h).1);clear he;go_upto_region 12 with (go_at_call 189;refine A0.mono ?_;rintro e W ⟨rfl,h3,k3⟩;have f:=yH (Ap.out W k3);clear h3 k3)
      obtain ⟨rn,rg,-,-,hb⟩:=f.out;have a0:=jH W w.heap.size 0 _ _ _ rg;have a1:=jH W w.heap.size 1 _ _ _ rg;have a2:=jH W w.heap.size 2 _ _ _ rg;have f0:=jS W w.heap.size 0 _ _ rg;have f1:=jS W w.heap.size 1 _ _ rg;have f2:=jS W w.heap.size 2 _ _ rg;clear rn rg hb;go_wp2_with fail
      obtain ⟨r1,r2⟩:=x63 (a':=.int .u8 0) (b':=.slice none 0 0) (c':=.slice none 0 0) f.2.1;refine x0G 4 5 (by kernel_rfl) w.heap.size _ #[.int .u8 0,.slice none 0 0,.slice none 0 0] _ HD Al SNo (by rfl) (by rfl) r1 ⟨f.2.2.2.2.trans (r2.below f.2.2.2.2.size (fun j e=>by omega)),Or.inr ⟨by rw [AV.out];exact Ai.out,rfl⟩⟩
     have C2:=yH he;rw [he] at A0;clear he;subst AO;cases hX:x.node.right d with
     | false=>
      have Ai:=yH (show ¬x.good d from fun h=>by have:=(A8.1 h).2;rw [hX] at this;cases this);have B6:=yH hX;clear hX;go_upto_region 12 with (first
       | (go_at_call 189;refine A0.mono ?_;rintro e W ⟨rfl,h3,k3⟩;have f:=yH (Ap.out W k3);have t0:=jH W G 0 _ _ _ f.1;have t1:=jH W G 1 _ _ _ f.1;have t2:=jH W G 2 _ _ _ f.1;have AA:=x4S x.kind qv n1 cv r x.n2 t E K d W (f.2.2.1.ents (by omega)) (f.2.2.2.1.kids (by omega));rw [show pnOf x.kind E K=x.node from B4.out,B6.out] at AA;have BC:=yH AA;clear h3 k3 AA)
       | (go_at_call 190;refine BC.mono ?_;rintro e P ⟨rfl,z⟩;have U:=yH (yK z f.2.1);have AI:=yH (f.2.2.2.2.trans (z.mono f.2.2.2.2.size));clear z))
      have a0:=jH P w.heap.size 0 _ _ _ U;have a1:=jH P w.heap.size 1 _ _ _ U;have a2:=jH P w.heap.size 2 _ _ _ U;have f0:=jS P w.heap.size 0 _ _ U;have f1:=jS P w.heap.size 1 _ _ U;have f2:=jS P w.heap.size 2 _ _ U;go_wp2_with fail
      obtain ⟨r1,r2⟩:=x63 (a':=.int .u8 0) (b':=.slice none 0 0) (c':=.slice none 0 0) U;refine x0G 4 5 (by kernel_rfl) w.heap.size _ #[.int .u8 0,.slice none 0 0,.slice none 0 0] _ HD Al SNo (by rfl) (by rfl) r1 ⟨AI.trans (r2.below AI.size (fun j e=>by omega)),Or.inr ⟨by rw [AV.out];exact Ai.out,rfl⟩⟩
     | true=>
      have C3:=yH (show x.good d from A8.2 ⟨C2.out,hX⟩);have B6:=yH hX;clear hX;go_upto_region 13 with (first
       | (go_at_call 189;refine A0.mono ?_;rintro e W ⟨rfl,h3,k3⟩;have f:=yH (Ap.out W k3);have t0:=jH W G 0 _ _ _ f.1;have t1:=jH W G 1 _ _ _ f.1;have t2:=jH W G 2 _ _ _ f.1;have AA:=x4S x.kind qv n1 cv r x.n2 t E K d W (f.2.2.1.ents (by omega)) (f.2.2.2.1.kids (by omega));rw [show pnOf x.kind E K=x.node from B4.out,B6.out] at AA;have BC:=yH AA;clear h3 k3 AA)
       | (go_at_call 190;refine BC.mono ?_;rintro e P ⟨rfl,z⟩;have U:=yH (yK z f.2.1);have AI:=yH (f.2.2.2.2.trans (z.mono f.2.2.2.2.size));have AK:=yH (yK z f.1);have Bu:=yH (f.2.2.1.later z);have BA:=yH (show Kds w6.heap.size P (.slice r x.n2 t) x.n2 K from ⟨f.2.2.2.1.lst.later z,f.2.2.2.1.good⟩);clear z t0 t1 t2))
      have t0:=jH P G 0 _ _ _ AK;have t1:=jH P G 1 _ _ _ AK;have t2:=jH P G 2 _ _ _ AK;have a0:=jH P w.heap.size 0 _ _ _ U;have a1:=jH P w.heap.size 1 _ _ _ U;have a2:=jH P w.heap.size 2 _ _ _ U;have f0:=jS P w.heap.size 0 _ _ U;have f1:=jS P w.heap.size 1 _ _ U;have f2:=jS P w.heap.size 2 _ _ U;go_wp2_with fail
      obtain ⟨r1,r2⟩:=x63 (a':=.int .u8 x.kind) (b':=.slice qv n1 cv) (c':=.slice r x.n2 t) U;have BS:=Bu.keep (fun j hj hl=>r2.block j hl (by have:=a.out;have:=A.out;omega));have Bn:=BA.lst.keep (fun j hj hl=>r2.block j hl (by have:=b.out;have:=A.out;omega));refine x0G 4 5 (by kernel_rfl) w.heap.size _ #[.int .u8 x.kind,.slice qv n1 cv,.slice r x.n2 t] _ HD Al SNo (by rfl) (by rfl) r1 ⟨AI.trans (r2.below AI.size (fun j e=>by omega)),Or.inl ⟨by rw [AV.out];exact C3.out,x.kind,qv,n1,cv,r,x.n2,t,E,K,rfl,(fun w'' hk=>⟨Ens.ents (BS.keep (fun j hj hl=>hk j (by have:=a.out;have:=A.out;omega) hl)) (by omega),Kds.kids ⟨Bn.keep (fun j hj hl=>hk j (by have:=b.out;have:=A.out;omega) hl),BA.good⟩ (by omega)⟩),by rw [AV.out];exact B4.out,AT,w6.heap.size,by have:=a.out;have:=A.out;have:=Bq.out;omega,BS.base (by have:=a.out;have:=A.out;omega),BV.out,⟨Bn,BA.good⟩⟩⟩
  all_goals
   refine hK.out _ _ trivial (fun hH=>?_);clear hK K;try simp only [Act.put,yA,yB,yC]
   refine rO 5 fun K hK=>?_;refine x0l (.tmp 18) (.tmp 21) 94 (by rfl) wL.heap.size 101 ie (.agg #[.slice none 0 0,.bool false]) 2 32 UEs HI Bt C9 C6 (by rfl) (by decide) _ k _ (by rfl) M ⟨L.heap.size,0,none⟩ 1 1 (En.cells ⟨Y,s.truthV⟩) (by rfl) (by rfl) (y49 L ⟨Y,s.truthV⟩) En.one (by unfold maxLen;omega) (by omega) (by have h1:=A4.out;have h2:=X.size;simp;omega) ?_;intro v7 w7 hown7 hgrow7 hat7;have l:=fun y e=>I.ents.own.lt y e;have J:=(hgrow7.block G (yL H) (fun e=>by have:=(l _ e.symm).1;have:=a.out;omega)).trans H.out;have t7:=jH w7 G 1 _ _ _ J;have f7:=jS w7 G 1 _ _ J;obtain ⟨q7,c7,rfl⟩:=x1x hown7;have o:=yH hown7;have u:=yH hgrow7;have q:=yH hat7;clear hown7 hgrow7 hat7 l J;refine hK.out _ _ trivial (fun hH=>?_);clear hK K;try simp only [Act.put,yA,yB,yC]
   refine tK 6 ?_;refine rO 7 fun K hK=>?_;go_simp;try go_wp2_with fail
   refine hK.out _ _ trivial (fun hH=>?_);clear hK K;try simp only [Act.put,yA,yB,yC]
   refine jD ?_;have ST9:=yH (I.step hlt a A.2 AB rfl O H5 X o u q AQ);clear o u q t7 f7 M H C X H5 O hH;generalize w7.setCell ⟨G,1,none⟩ (.slice q7 (k+1) c7)=W at *;go_wp2_with fail
   go_roundw
   case rel=>exact ⟨k+1,_,_,_,by go_num,ST9.out⟩
   case measure=>simp [intOf];omega
end Nd
end Go.Proofs.YtenenciaggbjnaaGreat
