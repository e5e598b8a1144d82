/- KlAliveS, KlAlive, KtTr, KdChg, PgClash, PgSmall, KdGot, KlKeepS, KrSize, KrLight. -/
import Derived.OwnWalk
import Derived.BigRegion
import Derived.Lib.MinMax
import Derived.Test.YtenenciaggbjnaaGreatP29
set_option maxRecDepth 100000
set_option maxHeartbeats 8000000
set_option linter.all false
namespace Go.Proofs.YtenenciaggbjnaaGreat
namespace Kt
open Go.RowKit Nd Dk Pg
theorem x5R {w:World} {g:Nat} {a:Int} (ha:In64 a) (h:w.heap[g]? =some (.cells #[.int .i64 a] 2 (0,0))):(⟨some ⟨g,0,none⟩,1,1,[a]⟩:Rw).Ok w:=by
 refine ⟨⟨rfl,jB _,fun x hx=>?_,Or.inr ⟨g,0,rfl,fun i A=>?_⟩⟩,by show 1<=_;omega⟩
 ·rw [kZ.1 hx];exact ha
 ·have A:i<1:=A;obtain rfl:i=0:=by omega
  exact jH w g 0 _ _ _ h
def rows3 (b:Nat):List Rw:=[⟨some ⟨b,0,none⟩,1,1,[3]⟩,⟨some ⟨b+1,0,none⟩,1,1,[1]⟩,⟨some ⟨b+1+1,0,none⟩,1,1,[2]⟩]
theorem laid3 (w:World):
  RowsIn ((((w.alloc (.cells #[.int .i64 3] 2)).alloc (.cells #[.int .i64 1] 2)).alloc (.cells #[.int .i64 2] 2)).alloc (.cells #[.slice (some ⟨w.heap.size,0,none⟩) 1 1,.slice (some ⟨w.heap.size+1,0,none⟩) 1 1,.slice (some ⟨w.heap.size+1+1,0,none⟩) 1 1] 24)) (some ⟨w.heap.size+1+1+1,0,none⟩) 3 3 (rows3 w.heap.size)/\
  Below w.heap.size w ((((w.alloc (.cells #[.int .i64 3] 2)).alloc (.cells #[.int .i64 1] 2)).alloc (.cells #[.int .i64 2] 2)).alloc (.cells #[.slice (some ⟨w.heap.size,0,none⟩) 1 1,.slice (some ⟨w.heap.size+1,0,none⟩) 1 1,.slice (some ⟨w.heap.size+1+1,0,none⟩) 1 1] 24)):=by
 obtain ⟨W,H,E,B,G,C,b⟩:=x6u w (.cells #[.int .i64 3] 2) (.cells #[.int .i64 1] 2) (.cells #[.int .i64 2] 2) (.cells #[.slice (some ⟨w.heap.size,0,none⟩) 1 1,.slice (some ⟨w.heap.size+1,0,none⟩) 1 1,.slice (some ⟨w.heap.size+1+1,0,none⟩) 1 1] 24);rw [H];refine ⟨⟨rfl,jB _,fun r hr=>?_,Or.inr ⟨w.heap.size+1+1+1,0,rfl,fun i A=>?_⟩⟩,b⟩
 ·simp only [rows3,jW,jV,or_false] at hr;rcases hr with rfl | rfl | rfl
  ·exact x5R ⟨by omega,by omega⟩ E
  ·exact x5R ⟨by omega,by omega⟩ B
  ·exact x5R ⟨by omega,by omega⟩ G
 ·have A:i<3:=A;have h:=jH W (w.heap.size+3) i _ _ _ C;rw [Nat.zero_add]
  match i,A with
  | 0,_=>exact h
  | 1,_=>exact h
  | 2,_=>exact h
theorem y7Z (Q:Nat->Prop):Aw Q kd0:=fun r hr x hx hR=>by
 have e:r=⟨none,0,0,[]⟩:=by simpa [Kd.rows,kd0] using hr
 subst e
 cases hx
structure AlSt (w w7:World) (g B3 bT m:Nat) (kt:Kd) (Q:Nat->Prop) (wr:World):Prop where
 ok:kt.Ok wr
 pk:kt.pk=(V.of (exs (m - 4))).kid
 aw:Aw Q kt
 row:wr.heap[bT]? =some (.cells kt.cells.toArray 34 (0,0))
 st:PL wr g Q (exS (m - 4))
 own:∀k,Q k->(w.heap.size<=k/\k<B3)\/w7.heap.size<=k
 kept:∀k,B3<=k->k<w7.heap.size->k≠bT->wr.heap[k]? =w7.heap[k]?
 low:Below w.heap.size w wr
 size:w7.heap.size<=wr.heap.size
def AlRel (w w7:World) (g B3 bT:Nat) (i:Value) (wr:World):Prop:=∃(m:Nat) (kt:Kd) (Q:Nat->Prop),4<=m/\m<=7/\i= .int .i64 (m:Int)/\AlSt w w7 g B3 bT m kt Q wr
theorem AlSt.next {w w7 wr wr1 wr2:World} {g B3 bT m:Nat} {kt kd:Kd} {Q Q':Nat->Prop} (h:AlSt w w7 g B3 bT m kt Q wr) (hw:w.heap.size<=bT) (hB:B3<=bT) (hT:bT<w7.heap.size) (hb:Below wr.heap.size wr wr1) (hok:kd.Ok wr2) (hpk:kd.pk=(V.of (exs (m+1 - 4))).kid) (hf:Fsh wr1 kd) (hp:PL wr2 g Q' (exS (m+1 - 4))) (hq:∀k,Q' k->Q k\/wr1.heap.size<=k) (ha:Aw Q' kd) (ho:Only Q wr1 wr2):AlSt w w7 g B3 bT (m+1) kd Q' (wr2.setRow bT kd.cells.toArray):=by
 have s0:=h.size;have s1:=hb.size;have I:=ho.size;have C:¬Q bT:=fun e=>by rcases h.own bT e with e | e<;>omega
 have E:¬Q' bT:=fun e=>(hq bT e).elim C (fun e=>by omega);have A:=x08 wr2 bT kd.cells.toArray;have B:wr2.heap[bT]? =some (.cells kt.cells.toArray 34 (0,0)):=(ho.block bT (by omega) C).trans ((hb.block bT (by omega)).trans h.row);refine ⟨x1L hok fun r hr x hx hR=>A.block _ (rw_lt (x06 hok r hr) x hx hR) (by have:=hf r hr x hx hR;omega),hpk,ha,jT _ _ _ _ _ _ B,hp.keep _ A (fun k hk e=>E (e▸hk)),fun k hk=>?_,fun k h1 h2 h3=>?_,?_,jJ (by omega) A.size⟩
 ·rcases hq k hk with e | e
  ·exact h.own k e
  ·right;omega
 ·have G:¬Q k:=fun e=>by rcases h.own k e with e | e<;>omega
  rw [A.block k (by omega) h3,ho.block k (by omega) G,hb.block k (by omega)];exact h.kept k h1 h2 h3
 ·have H:=h.low.size;refine (h.low.trans (hb.mono H)).trans (((ho.below (by omega) (fun k hk=>?_))).trans (Below.setRow (jC _ _) hw _));rcases h.own k hk with e | e
  ·exact e.1
  ·have:=(jJ hw (Nat.le_of_lt hT))
   omega
theorem y52:(V.of exT).kid.size=3:=by
 rw [x1C (by decide),x0W _ (by decide)];rfl
theorem y53:(V.of (exs (7 - 4))).kid.live=3:=by
 rw [x1C (by decide),x3H _ (by decide)];rfl
theorem y54:deepE ((V.of (exs (7 - 4))).ents 1)=3:=by
 rw [x3O _ _ (by omega)];rfl
theorem y3a (w:World):
  Calls Tryz.prog 15 #[] w fun e w'=>e= .returned (.bool true)/\Below w.heap.size w w':=by
 obtain ⟨du,B5,Am⟩:=UKd;have AP:=yH B5;have AQ:=yH Am;have HZ:=yH (zero_of_info kz);have BQ:=yH (zero_of_info nz);have Bl:=HZ.1;have BU:=BQ.1;clear B5 Am;have e0:exS 0=puts ⟨[],none⟩ exT.pages:=by
  unfold exS;exact x7F _
 have Ay:=yH e0;clear e0
 go_enter Tryz.func15,Tryz.ntmps15
 go_upto_region 2 with (go_at_call 17;refine (Pg.new_any w).mono ?_;rintro e w1 ⟨g,Q,rfl,l1,q1,b1⟩;have Ae:=yH l1;have AV:=yH q1;have Ag:=yH b1;clear l1 q1 b1)
 obtain ⟨hL,hB⟩:=laid3 w1;generalize hW:(((w1.alloc (.cells #[.int .i64 3] 2)).alloc (.cells #[.int .i64 1] 2)).alloc (.cells #[.int .i64 2] 2)).alloc (.cells #[.slice (some ⟨w1.heap.size,0,none⟩) 1 1,.slice (some ⟨w1.heap.size+1,0,none⟩) 1 1,.slice (some ⟨w1.heap.size+1+1,0,none⟩) 1 1] 24)=w2 at *;have AM:=Ae.keep (fun _=>False) (Only.of_below _ hB) (fun _ _ e=>e);have AK:=y1b (d:=1) (by omega) (some ⟨w1.heap.size+1+1+1,0,none⟩) 3 3 (rows3 w1.heap.size) w2 hL (by omega) (fun r hr=>by
  simp only [rows3,jW,jV,or_false] at hr;rcases hr with rfl | rfl | rfl<;>rfl) (fun r hr x hx hR e=>by
  have:=Ae.lt _ e;simp only [rows3,jW,jV,or_false] at hr;rcases hr with rfl | rfl | rfl<;>(cases hx;simp only at this;omega)) AM (by decide)
 have AN:=yH (show Calls Tryz.prog 36 #[.pointer (some ⟨g,0,none⟩),.slice (some ⟨w1.heap.size+1+1+1,0,none⟩) 3 3,.int .i64 1] w2 fun e L=>∃(W:Kd) (Q':Nat->Prop),e= .returned (.tuple #[.agg W.cells.toArray,.int .i64 0])/\W.pk=(V.of exT).kid/\W.Ok L/\PL L g Q' (exS 0)/\(∀k,Q' k->w.heap.size<=k)/\Below w.heap.size w L from AK.mono fun e L h=>by
  have BG:(rows3 w1.heap.size).map Rw.R=[[3],[1],[2]]:=rfl;unfold x8s at h;rw [BG,y7O] at h;rcases h with ⟨h,-⟩ | ⟨-,W,Q',rfl,o,h2,-,h4,h5,h6,h7⟩
  ·exact absurd (by decide) h
  ·have BZ:=Ag.size;have Bs:=hB.size;refine ⟨W,Q',rfl,by rw [o,x1C (by decide)],h2,by rw [Ay.out];exact h5,fun k hk=>(h6 k hk).elim (fun e=>AV.out k e) (fun e=>by omega),(Ag.trans (hB.mono BZ)).trans (h7.below (by omega) (fun k hk=>AV.out k hk))⟩)
 clear AK hL AM hB Ae AV Ag Ay;go_upto_region 3 with (first
  | (go_at_call 36;refine AN.mono ?_;rintro _ L ⟨W,Q3,rfl,B0,AU,Ar,BC,B4⟩;have B3:=yH B0;have Av:=yH AU;have AS:=yH Ar;have B1:=yH BC;have A5:=yH B4;have AX:=yH (Kd.cells_length AU.len);clear B0 AU Ar BC B4)
  | (refine jL (by rfl) 34 (.tmp 2) (.tmp 18) (by rfl) L.heap.size W.cells.toArray (by rfl) (by rfl) _ _ (jE L _) (by rw [jF,AX.out];exact SKd) (by simp only [jF,AX.out,x02]) (jN Kd.one) ?_;rw [x03]))
 clear hW AN;have AF:=jA L (.cells W.cells.toArray 34);have AA:=jE L (.cells W.cells.toArray 34);have BP:(L.alloc (.cells W.cells.toArray 34)).heap.size=L.heap.size+1:=by simp
 generalize L.alloc (.cells W.cells.toArray 34)=w4 at *;obtain ⟨H,u⟩:∃b,b=L.heap.size:=⟨_,rfl⟩
 rw [<- u] at AA ⊢;have B7:=yH (x0E AA);have B8:=yH AA;have A8:=yH (show H=L.heap.size/\w4.heap.size=H+1 from ⟨u,by omega⟩);have Ab:=yH (AS.keep (fun _=>False) (Only.of_below _ AF) (fun _ _ e=>e));have AZ:=yH (A5.trans (AF.mono A5.size));have Ap:=yH (show Calls Tryz.prog 67 #[.pointer (some ⟨g,0,none⟩),.agg W.cells.toArray,.int .i64 1] w4 fun e P=>Below w4.heap.size w4 P/\∃I gk ce ck ew k1 k2 A6,e= .returned (.tuple #[.agg #[.int .u8 1,.slice (some ⟨I,0,none⟩) 1 ce,.slice (some ⟨gk,0,none⟩) 2 ck],.int .i64 0])/\ew.row.R=[2]/\Fresh w4.heap.size A6 P (some ⟨I,0,none⟩) 1 ce (some ⟨gk,0,none⟩) 2 ck [ew] [k1,k2] from
  (x68 (d:=1) Ab (Av.later AF) B3 y50 w4 (jC _ _)).mono fun e P ⟨o,p,n,c,q,m,f,E,K,A6,he,hpn,z⟩=>by
   obtain ⟨ew,k1,k2,rfl,rfl,hR,-,-,-⟩:=x69 hpn;obtain ⟨rfl,rfl,I,gk,rfl,rfl,-⟩:=x29 z;exact ⟨o,I,gk,c,f,ew,k1,k2,A6,he,hR,z⟩)
 have AJ:=yH (show ∀k,Q3 k->k<L.heap.size from AS.lt);have At:=yH (show w.heap.size<=L.heap.size from A5.size);clear AF AA BP u AS A5;go_upto_region 4 with (first
  | (refine jK (by rfl) 34 _ (by rfl) H 0 (by rfl) W.cells du B7 AP AQ (by rw [AX.out];exact SKd) ?_)
  | (go_at_call 67;refine Ap.mono ?_;rintro _ P ⟨BB,I,gk,ce,ck,ew,k1,k2,A6,rfl,hR,z⟩;have HR:=yH hR;have AW:=yH z;have AC:=yH BB;clear hR z BB)
  | (refine jL (by rfl) 97 (.tmp 4) (.tmp 24) (by rfl) P.heap.size #[.int .u8 1,.slice (some ⟨I,0,none⟩) 1 ce,.slice (some ⟨gk,0,none⟩) 2 ck] (by rfl) (by rfl) _ _ (jE P _) SNo rfl (x2v 1 _ _ _ _ _ _) ?_;rw [x03]))
 obtain ⟨bN,Af⟩:∃b,b=P.heap.size:=⟨_,rfl⟩
 have AB:=jA P (.cells #[.int .u8 1,.slice (some ⟨I,0,none⟩) 1 ce,.slice (some ⟨gk,0,none⟩) 2 ck] 97);have AR:=jE P (.cells #[.int .u8 1,.slice (some ⟨I,0,none⟩) 1 ce,.slice (some ⟨gk,0,none⟩) 2 ck] 97);have BX:(P.alloc (.cells #[.int .u8 1,.slice (some ⟨I,0,none⟩) 1 ce,.slice (some ⟨gk,0,none⟩) 2 ck] 97)).heap.size=P.heap.size+1:=by simp
 generalize P.alloc (.cells #[.int .u8 1,.slice (some ⟨I,0,none⟩) 1 ce,.slice (some ⟨gk,0,none⟩) 2 ck] 97)=w6 at *;rw [<- Af] at AR ⊢;obtain ⟨⟨rp,rn,rc,rR⟩,lw⟩:=ew;obtain rfl:rR=[2]:=HR.out;obtain ⟨-,-,Br,Bq,o,h2,G,-,-,A0,-,-,As,BT⟩:=x29 AW.out;simp only [Option.some.injEq,Addr.mk.injEq,and_true] at o h2;subst o h2;have Ac:=(AW.ents.each _ (kZ.2 rfl) _ (kZ.2 rfl)).1.lo;obtain rfl:rn=1:=A0.ints.size;obtain ⟨l,M,Ao,Ai⟩:=A0.ints.at'.resolve_left (by simp);simp only at Ao Ac;subst Ao;have B2:w4.heap.size<=l:=Ac ⟨l,M,none⟩ rfl (by simp);have t:w6.cell? ⟨I,0,none⟩=some (.slice (some ⟨l,M,none⟩) 1 rc):=(AB.cell (jI (G 0 _ rfl))).trans (G 0 _ rfl);have v:w6.cell? ⟨l,M,none⟩=some (.int .i64 2):=(AB.cell (jI (Ai 0 (by simp)))).trans (Ai 0 (by simp));have HC:=yH (And.intro t v);have HG:=yH (And.intro As B2);have BD:=yH AR;have A7:=yH (AC.trans (AB.mono AC.size));have Ax:=yH (Ab.keep (fun _=>False) (Only.of_below _ A7) (fun _ _ e=>e));have Ak:=yH (show bN=P.heap.size/\w6.heap.size=bN+1/\w4.heap.size<=bN from ⟨Af,by omega,by have:=AC.size;omega⟩);have Ad:=yH (AZ.trans (A7.mono AZ.size));have AO:=yH (yK A7 B8);have AH:=yH (show ∀k,Q3 k->w.heap.size<=k/\k<H from fun k hk=>⟨B1.out k hk,by rw [A8.1];exact AJ.out k hk⟩);clear AB AR BX Af As BT A0 Ac Ai B2 G t v HR AW B7 B8 Ab AZ AC Ap B1 AJ;go_upto_region 5 with fail
 obtain ⟨A,A1⟩:∃b,b=w6.heap.size:=⟨_,rfl⟩
 have O:=jA w6 (.cells kd0.cells.toArray 34);have AY:=jE w6 (.cells kd0.cells.toArray 34);have BV:(w6.alloc (.cells kd0.cells.toArray 34)).heap.size=w6.heap.size+1:=by simp
 generalize w6.alloc (.cells kd0.cells.toArray 34)=w7 at *;rw [<- A1] at AY ⊢;have HT:=yH (show A=w6.heap.size/\w7.heap.size=A+1 from ⟨A1,by omega⟩);have Aa:=yH (show w7.cell? ⟨I,0,none⟩=some (.slice (some ⟨l,M,none⟩) 1 rc)/\w7.cell? ⟨l,M,none⟩=some (.int .i64 2)/\I<A/\l<A from ⟨(O.cell (jI HC.1)).trans HC.1,(O.cell (jI HC.2)).trans HC.2,by rw [A1];exact jI HC.1,by rw [A1];exact jI HC.2⟩);have BY:=yH (yK O BD);have Au:=yH (yK O AO);have HW:=yH (show w.heap.size<=H/\H<bN/\bN<A from ⟨by rw [A8.1];exact At.out,by have:=A8.2;have:=Ak.2.2;omega,by have:=Ak.2.1;have:=HT.1;omega⟩);have HST:=yH (show AlSt w w7 g H A 4 kd0 Q3 w7 from ⟨x24 w7,x9w,y7Z _,AY,Ax.keep (fun _=>False) (Only.of_below _ O) (fun _ _ e=>e),fun k hk=>Or.inl (AH.out k hk),fun _ _ _ _=>rfl,Ad.trans (O.mono Ad.size),jB _⟩);clear O AY BV A1 HC BD AO Ad Ax A7 AH BU;go_upto_region 6 with fail
 go_loopw [7] (fun i wr=>AlRel w w7 g H A i wr) (fun i _=>7 - (intOf i).toNat)
 case atStart=>exact ⟨4,kd0,Q3,by omega,by omega,rfl,HST.out⟩
 case round=>
  obtain ⟨m,kt,Q,Bt,Bv,rfl,N⟩:=hrel;have J:=yH N;have Ah:=yH (Kd.cells_length N.ok.len);have RT:=yH (x0E N.row);clear N HST;by_cases hlt:m<7
  ·have l1:(m:Int)<7:=by omega
   have Z:=jA wr (.cells #[.int .i64 (m:Int)] 2);have Az:=jE wr (.cells #[.int .i64 (m:Int)] 2);have X:=x7D (gs:=g) (d:=1) (by omega) (x8x (m - 4)).texts (V.of (exs (m - 4))) kt ⟨some ⟨wr.heap.size,0,none⟩,1,1,[(m:Int)]⟩ _ (J.st.keep (fun _=>False) (Only.of_below _ Z) (fun _ _ e=>e)) (y0j (m - 4) (by omega)) (J.ok.later Z) J.pk (x5R ⟨by omega,by omega⟩ Az) rfl (by have:=y0k (m - 4);omega) J.aw (fun y hy _ e=>by
    cases hy
    have:=J.st.lt _ e;simp only at this;omega) (by have:=y6o (m - 4);omega)
   have hi:=y7X (m - 4) (by omega);rw [show 4+(m - 4)=m by omega] at hi;simp only at X;rw [hi] at X;clear hi;have BA:=yH (show Calls Tryz.prog 19 #[.pointer (some ⟨g,0,none⟩),.agg kt.cells.toArray,.slice (some ⟨wr.heap.size,0,none⟩) 1 1,.int .i64 1] (wr.alloc (.cells #[.int .i64 (m:Int)] 2)) fun e w2=>∃(kd':Kd) (Q':Nat->Prop),e= .returned (.tuple #[.agg kd'.cells.toArray,.int .i64 0])/\AlSt w w7 g H A (m+1) kd' Q' (w2.setRow A kd'.cells.toArray)/\kd'.cells.length=37/\w2.heap[A]? =some (.cells kt.cells.toArray 34 (0,0)) from X.mono fun e w2 h=>by
    have h:Told2 _ g Q (V.of (exs (m - 4+1))) (puts (exS (m - 4)) (exs (m - 4+1)).pages) e w2:=h;rw [y0i (m - 4) (by omega),show m - 4+1=m+1 - 4 by omega] at h;obtain ⟨kd',Q',rfl,o,h2,h3,h4,h5,h6,h7⟩:=h;have s1:=Z.size;have s2:=J.size;have s3:=HT.2;have s4:=HW.out;have s5:A<(wr.alloc (.cells #[.int .i64 (m:Int)] 2)).heap.size:=by omega
    refine ⟨kd',Q',rfl,J.next (by omega) (by omega) (by omega) Z h2 o h3 h4 h5 h6 h7,Kd.cells_length h2.len,(h7.block A s5 (fun e=>?_)).trans ((Z.block A (by omega)).trans J.row)⟩;rcases J.own A e with e | e<;>omega)
   clear X Z Az;go_wp2_with (first
    | (refine jK (by rfl) 34 _ (by rfl) A 0 (by rfl) kt.cells du RT AP AQ (by rw [Ah.out];exact SKd) ?_)
    | (go_at_call 19;refine BA.mono ?_;rintro _ w8 ⟨kd',Q',rfl,N,An,G⟩;have ST8:=yH N;have AG:=yH An;have Aq:=yH G;clear N An G)
    | (refine jL (by rfl) 34 (.tmp 6) (.tmp 36) (by rfl) A kd'.cells.toArray (by rfl) (by rfl) _ _ Aq (by rw [jF,AG.out];exact SKd) (by simp only [jF,AG.out,Ah.out]) (jN Kd.one) ?_))
   go_roundw
   case rel=>exact ⟨m+1,kd',Q',by omega,by omega,by go_num,ST8.out⟩
   case measure=>simp [intOf];omega
  ·obtain rfl:m=7:=by omega
   have hh:=x7C (gs:=g) (d:=1) (by omega) (x8x (7 - 4)).texts (V.of (exs (7 - 4))) kt wr J.st (y0j (7 - 4) (by omega)) J.ok J.pk (by have:=y0k (7 - 4);omega);have HH:=yH (show Calls Tryz.prog 28 #[.pointer (some ⟨g,0,none⟩),.agg kt.cells.toArray,.int .i64 1] wr fun e w8=>e= .returned (.tuple #[.int .i64 3,.int .i64 0])/\Below wr.heap.size wr w8 from hh.mono fun e w8 ⟨o,h2,_⟩=>⟨by
    have h:=h2 (x1m _);rw [y54] at h;exact h,o⟩)
   clear hh;have B:∀a:Addr,H<=a.block->a.block<A->wr.cell? a=w7.cell? a:=fun a o h2=>jX (J.kept a.block o (by have:=HT.2;omega) (by omega));have B9:W.size=3:=(congrArg PK.size B3).trans y52;have Al:kt.live=3:=(congrArg PK.live J.pk).trans y53;have U:=(x0N Au Av.len).size;have Y:=(x0N J.row J.ok.len).live;rw [B9] at U;rw [Al] at Y;rw [Nat.zero_add] at U Y;have C:=yH (show wr.cell? ⟨bN,1,none⟩=some (.slice (some ⟨I,0,none⟩) 1 ce)/\wr.cell? ⟨I,0,none⟩=some (.slice (some ⟨l,M,none⟩) 1 rc)/\wr.cell? ⟨l,M,none⟩=some (.int .i64 2)/\wr.cell? ⟨H,35,none⟩=some (.int .i64 3)/\wr.cell? ⟨A,34,none⟩=some (.int .i64 3) from by
    have s:=A8.2;have s2:=HW.out;have s3:=HG.out;have s4:=Aa.2.2;refine ⟨(B ⟨bN,1,none⟩ (by show H<=bN;omega) (by show bN<A;omega)).trans (jH w7 bN 1 _ _ _ BY),(B ⟨I,0,none⟩ (by show H<=I;omega) (by show I<A;omega)).trans Aa.1,(B ⟨l,M,none⟩ (by show H<=l;omega) (by show l<A;omega)).trans Aa.2.1,(B ⟨H,35,none⟩ (by show H<=H;omega) (by show H<A;omega)).trans U,Y⟩)
   clear B B9 Al U Y hlt;go_upto_region 10 with (first
    | (refine jK (by rfl) 34 _ (by rfl) A 0 (by rfl) kt.cells du RT AP AQ (by rw [Ah.out];exact SKd) ?_)
    | (go_at_call 28;refine HH.mono ?_;rintro _ w8 ⟨rfl,B6⟩;have j:=yH B6;clear B6))
   have c1:=(j.cell (jI C.1)).trans C.1;have c2:=(j.cell (jI C.2.1)).trans C.2.1;have c3:=(j.cell (jI C.2.2.1)).trans C.2.2.1;have c4:=(j.cell (jI C.2.2.2.1)).trans C.2.2.2.1;have c5:=(j.cell (jI C.2.2.2.2)).trans C.2.2.2.2;go_wp2_with fail
   go_ret;exact ⟨rfl,J.low.trans (j.mono J.low.size)⟩
end Kt
namespace Kt
open Go.RowKit Nd Pg
structure Tr (d:Nat) (s:Pg.S) (kp:PK) (t:T):Prop where
 new:NewK d kp
 clean:s.cl=none->kp=(V.of t).kid/\Sees s.W d (V.of t)/\Fine d t
theorem Tr.nil (d:Nat) (s:Pg.S):Tr d s PK.none .nil:=⟨⟨rfl,rfl,x6I⟩,fun _=>⟨rfl,trivial,y4z d⟩⟩
theorem Tr.see {d:Nat} {s:Pg.S} {kp:PK} {t:T} (h:Tr d s kp t) (hf:Forks d s.W):∃u:V,u.kid=kp/\Sees s.W d u/\(s.cl=none->u=V.of t):=by
 by_cases hc:s.cl=none
 ·obtain ⟨B,A,_⟩:=h.clean hc;exact ⟨V.of t,B.symm,A,fun _=>rfl⟩
 ·obtain ⟨u,B,A⟩:=y4g hf kp.size.toNat kp (by have:=(x1G h.new.right).1;omega) h.new.right h.new.key;exact ⟨u,B,A,fun e=>absurd e hc⟩
theorem x4t {s:Pg.S} {P:List (List Nat)} (h:(puts s P).cl=none):s.cl=none:=x3J P h
theorem Tr.puts {d:Nat} {s:Pg.S} {kp:PK} {t:T} (h:Tr d s kp t) (P:List (List Nat)):Tr d (puts s P) kp t:=
 ⟨h.new,fun hc=>by
  obtain ⟨h1,h2,h3⟩:=h.clean (x4t hc)
  exact ⟨h1,x1K (fun _ _ ht=>x4A P ht) (x1m t) h2,h3⟩⟩
theorem x6M {d:Nat} {t:T} {kp:PK} {W:Pages} (h1:kp=(V.of t).kid) (h2:Sees W d (V.of t)) (hz:kp.size<=900):t.size<=900:=by
 have A:∀(t:T),Sees W d (V.of t)->(V.of t).kid.size=t.size:=by
  intro t
  induction t with
  | nil=>exact fun _=>rfl
  | fork p v l r il ir=>
   intro h;have e:(V.of (.fork p v l r)).kid.size=1+((V.of l).kid.size+(V.of r).kid.size):=x0U p v _ _;rw [e,il h.2.2.1,ir h.2.2.2];show (1:Int)+(l.size+r.size)=((1+l.size+r.size:Nat):Int)
   omega
 have:=A t h2;rw [<- h1] at this;omega
def Left (d:Nat) (s:Pg.S) (kp:PK) (x:T×Bool) (bad:Int):Int ⊕ (V×List (List Nat))->Prop
 | .inl e=>s.cl=none->e=bad/\x.2=false
 | .inr (u',P)=>(∀b∈P,∃N,Txt d b N/\N.kind=1)/\(P.length:Int)<=2*kp.size+2/\u'.kid.size<=kp.size+1/\Tr d (puts s P) u'.kid x.1/\(s.cl=none->x.2=true/\u'=V.of x.1)
theorem Tr.ins {d:Nat} {s:Pg.S} {kp:PK} {t:T} (hd:1<=d/\d<=8) (h:Tr d s kp t) (hz:kp.size<=900) {p:List Int} (hp:p.length=d) (hpn:∀x∈p,In64 x) {u:V} (hu:u.kid=kp) (hs:Sees s.W d u) (hc:s.cl=none->u=V.of t):Left d s kp (x0A t p 0) 8 (insV d p u):=by
 subst hu;have B:s.cl=none->Fine d t/\t.size<900000/\u=V.of t:=fun e=>by
  obtain ⟨N,R,M⟩:=h.clean e;have:=x6M N R hz;exact ⟨M,by omega,hc e⟩
 cases hi:insV d p u with
 | inl e=>
  intro C;obtain ⟨H,I,rfl⟩:=B C;obtain ⟨J,K⟩:=y0g H hp I;cases A:(x0A t p 0).2 with
  | false=>
   rw [J A] at hi;cases hi
   exact ⟨rfl,rfl⟩
  | true=>
   obtain ⟨P,L⟩:=K A;rw [L] at hi;cases hi
 | inr y=>
  obtain ⟨U,P⟩:=y;have E:=y6l hd hp hpn hs (by omega) hi;have G:s.cl=none->(x0A t p 0).2=true/\U=V.of (x0A t p 0).1:=fun C=>by
   obtain ⟨H,I,rfl⟩:=B C;obtain ⟨J,K⟩:=y0g H hp I;cases A:(x0A t p 0).2 with
   | false=>
    rw [J A] at hi;cases hi
   | true=>
    obtain ⟨Y,L⟩:=K A;rw [L] at hi;cases hi
    exact ⟨rfl,rfl⟩
  refine ⟨E.forks,E.few,E.size,⟨E.kid,fun e1=>?_⟩,G⟩;have C:=x4t e1;obtain ⟨H,I,Q⟩:=B C;obtain ⟨O,X⟩:=G C;have A:=E.behind (by rw [Q];exact x1m t) e1;rw [X] at A ⊢;exact ⟨rfl,A,x9c H hp hpn O⟩
theorem Tr.del {d:Nat} {s:Pg.S} {kp:PK} {t:T} (hd:1<=d/\d<=8) (h:Tr d s kp t) (hz:kp.size<=900) {p:List Int} (hp:p.length=d) (hpn:∀x∈p,In64 x) {u:V} (hu:u.kid=kp) (hs:Sees s.W d u) (hc:s.cl=none->u=V.of t):Left d s kp ((x0h t p).1,(x0B t p 0).2) 9 (delV d p u):=by
 subst hu;have B:s.cl=none->Fine d t/\t.size<900000/\u=V.of t:=fun e=>by
  obtain ⟨N,R,M⟩:=h.clean e;have:=x6M N R hz;exact ⟨M,by omega,hc e⟩
 cases hi:delV d p u with
 | inl e=>
  intro C;obtain ⟨H,I,rfl⟩:=B C;obtain ⟨J,K⟩:=y0h H hp I;cases A:(x0B t p 0).2 with
  | false=>
   rw [J A] at hi;cases hi
   exact ⟨rfl,rfl⟩
  | true=>
   obtain ⟨P,L⟩:=K A;rw [L] at hi;cases hi
 | inr y=>
  obtain ⟨U,P⟩:=y;have E:=y6m hd hp hpn hs (by omega) hi;have G:s.cl=none->(x0B t p 0).2=true/\U=V.of (x0h t p).1:=fun C=>by
   obtain ⟨H,I,rfl⟩:=B C;obtain ⟨J,K⟩:=y0h H hp I;cases A:(x0B t p 0).2 with
   | false=>
    rw [J A] at hi;cases hi
   | true=>
    obtain ⟨Y,L⟩:=K A;rw [L] at hi;cases hi
    exact ⟨rfl,rfl⟩
  refine ⟨E.forks,E.few,E.size,⟨E.kid,fun e1=>?_⟩,G⟩;have C:=x4t e1;obtain ⟨H,I,Q⟩:=B C;obtain ⟨O,X⟩:=G C;have A:=E.behind (by rw [Q];exact x1m t) e1;rw [X] at A ⊢;exact ⟨rfl,A,x9d H O⟩
end Kt
namespace Kt
open Go.RowKit Nd Dk Pg
structure Chg (w:World) (g d:Nat) (Q:Nat->Prop) (s:Pg.S) (kp:PK) (x:T×Bool) (bad:Int) (kd':Kd) (err:Int) (Q':Nat->Prop) (s':Pg.S) (w':World):Prop where
 ok:kd'.Ok w'
 fsh:Fsh w kd'
 aw:Aw Q' kd'
 st:PL w' g Q' s'
 fk:Forks d s'.W
 own:∀k,Q' k->Q k\/w.heap.size<=k
 only:Only Q w w'
 few:(s'.W.length:Int)<=s.W.length+(2*kp.size+2)
 elder:∃P,s'=puts s P
 size:kd'.pk.size<=kp.size+1
 says:(err=0/\Tr d s' kd'.pk x.1/\(s.cl=none->x.2=true/\kd'.pk=(V.of x.1).kid))\/(err≠0/\kd'=kd0/\s'=s/\(s.cl=none->err=bad/\x.2=false))
theorem y6p {d:Nat} {p:List Int} {u:V} {e:Int} (h:insV d p u= .inl e):e≠0:=by
 unfold insV at h;split at h
 ·cases h;decide
 ·split at h
  ·cases h;decide
  ·split at h
   ·cases h
   ·split at h
    ·cases h
    ·cases h;decide
theorem y6q {d:Nat} {p:List Int} {u:V} {e:Int} (h:delV d p u= .inl e):e≠0:=by
 unfold delV at h;split at h
 ·cases h;decide
 ·split at h
  ·cases h;decide
  ·split at h
   ·cases h
   ·split at h
    ·cases h
    ·cases h;decide
theorem y6r (w:World):Fsh w kd0:=fun r hr x hx hR=>by
 have e:r=⟨none,0,0,[]⟩:=by simpa [Kd.rows,kd0] using hr
 subst e
 cases hx
theorem y3b (Q:Nat->Prop):Aw Q kd0:=fun r hr x hx hR=>by
 have e:r=⟨none,0,0,[]⟩:=by simpa [Kd.rows,kd0] using hr
 subst e
 cases hx
theorem y5e {w w':World} {g d:Nat} {Q:Nat->Prop} {s:Pg.S} {kp:PK} {x:T×Bool} {bad:Int} {o:Int ⊕ (V×List (List Nat))} {e:Ending} (hp:PL w g Q s) (hf:Forks d s.W) (hk:0<=kp.size) (hl:Left d s kp x bad o) (he:∀err,o= .inl err->err≠0) (h:x6E w g Q s o e w'):
  ∃kd' err Q' s',e= .returned (.tuple #[.agg kd'.cells.toArray,.int .i64 err])/\Chg w g d Q s kp x bad kd' err Q' s' w':=by
 cases o with
 | inl err=>
  obtain ⟨rfl,E⟩:=h;refine ⟨kd0,err,Q,s,rfl,x24 w',y6r w,y3b Q,hp.keep (fun _=>False) (Only.of_below _ E) (fun _ _ e=>e),hf,fun _ h=>Or.inl h,Only.of_below _ E,by omega,⟨[],rfl⟩,?_,Or.inr ⟨he err rfl,rfl,rfl,hl⟩⟩;have B:kd0.pk.size=0:=rfl;rw [B];omega
 | inr y=>
  obtain ⟨Y,P⟩:=y;obtain ⟨kd',Q',rfl,C,M,I,N,K,O,H⟩:=h;obtain ⟨J,X,R,U,G⟩:=hl;have A:=x1l P s;refine ⟨kd',0,Q',puts s P,rfl,M,I,O,N,x3K P hf J,K,H,?_,⟨P,rfl⟩,by rw [C];exact R,Or.inl ⟨rfl,by rw [C];exact U,fun B=>⟨(G B).1,by rw [C,(G B).2]⟩⟩⟩;have L:(puts (s,P).1 P).W.length<=s.W.length+P.length:=A;show ((puts s P).W.length:Int)<=_
  have:(puts s P).W.length<=s.W.length+P.length:=A;omega
theorem y6s {g d:Nat} {Q:Nat->Prop} {s:Pg.S} (hd:1<=d/\d<=8) (hf:Forks d s.W) (t:T) (k:Kd) (r:Rw) (w:World) (hp:PL w g Q s) (ht:Tr d s k.pk t) (hk:k.Ok w) (hr:r.Ok w) (hrd:r.n=d) (hz:k.pk.size<=900) (hka:Aw Q k) (hra:∀y,r.p=some y->r.R≠[]->¬Q y.block) (hsl:s.W.length<=60000):
  Calls Tryz.prog 19 #[.pointer (some ⟨g,0,none⟩),.agg k.cells.toArray,r.val,.int .i64 d] w fun e w'=>∃kd' err Q' s',e= .returned (.tuple #[.agg kd'.cells.toArray,.int .i64 err])/\Chg w g d Q s k.pk (x0A t r.R 0) 8 kd' err Q' s' w':=by
 obtain ⟨u,A,C,E⟩:=ht.see hf;have B:r.R.length=d:=by have:=hr.ints.size;omega
 refine (x7D hd hf.texts u k r w hp C hk A.symm hr hrd (by rw [A];exact hz) hka hra hsl).mono fun e w' h=>?_;exact y5e hp hf (x1G ht.new.right).1 (ht.ins hd hz B (fun x hx=>hr.ints.ok x hx) A C E) (fun err h=>y6p h) h
theorem y6t {g d:Nat} {Q:Nat->Prop} {s:Pg.S} (hd:1<=d/\d<=8) (hf:Forks d s.W) (t:T) (k:Kd) (r:Rw) (w:World) (hp:PL w g Q s) (ht:Tr d s k.pk t) (hk:k.Ok w) (hr:r.Ok w) (hrd:r.n=d) (hz:k.pk.size<=900) (hka:Aw Q k) (hra:∀y,r.p=some y->r.R≠[]->¬Q y.block) (hsl:s.W.length<=60000):
  Calls Tryz.prog 21 #[.pointer (some ⟨g,0,none⟩),.agg k.cells.toArray,r.val,.int .i64 d] w fun e w'=>∃kd' err Q' s',e= .returned (.tuple #[.agg kd'.cells.toArray,.int .i64 err])/\Chg w g d Q s k.pk ((x0h t r.R).1,(x0B t r.R 0).2) 9 kd' err Q' s' w':=by
 obtain ⟨u,A,C,E⟩:=ht.see hf;have B:r.R.length=d:=by have:=hr.ints.size;omega
 refine (y1d hd hf.texts u k r w hp C hk A.symm hr hrd (by rw [A];exact hz) hka hra hsl).mono fun e w' h=>?_;exact y5e hp hf (x1G ht.new.right).1 (ht.del hd hz B (fun x hx=>hr.ints.ok x hx) A C E) (fun err h=>y6q h) h
structure KpSt (w0 w:World) (g d:Nat) (kd:Kd) (Q:Nat->Prop) (s:Pg.S) (t:T):Prop where
 ok:kd.Ok w
 tr:Tr d s kd.pk t
 aw:Aw Q kd
 st:PL w g Q s
 fk:Forks d s.W
 own:∀k,Q k->w0.heap.size<=k
 low:Below w0.heap.size w0 w
theorem KpSt.later {w0 w w':World} {g d:Nat} {kd:Kd} {Q:Nat->Prop} {s:Pg.S} {t:T} (h:KpSt w0 w g d kd Q s t) (hb:Below w.heap.size w w'):KpSt w0 w' g d kd Q s t:=
 ⟨h.ok.later hb,h.tr,h.aw,h.st.keep (fun _=>False) (Only.of_below _ hb) (fun _ _ e=>e),h.fk,h.own,h.low.trans (hb.mono h.low.size)⟩
theorem KpSt.aside {w0 w w':World} {g d:Nat} {kd kd':Kd} {Q Q':Nat->Prop} {s s':Pg.S} {t:T} {kp:PK} {x:T×Bool} {bad err:Int} (h:KpSt w0 w g d kd Q s t) (hc:Chg w g d Q s kp x bad kd' err Q' s' w'):KpSt w0 w' g d kd Q' s' t:=by
 have A:∀r∈kd.rows,∀x,r.p=some x->r.R≠[]->x.block<w.heap.size:=fun r hr=>rw_lt (x06 h.ok r hr);obtain ⟨P,B⟩:=hc.elder;refine ⟨x1L h.ok fun r hr x hx hR=>hc.only.block _ (A r hr x hx hR) (h.aw r hr x hx hR),by rw [B];exact h.tr.puts P,fun r hr x hx hR e=>?_,hc.st,hc.fk,fun k hk=>?_,h.low.trans (hc.only.below h.low.size h.own)⟩
 ·rcases hc.own _ e with e | e
  ·exact h.aw r hr x hx hR e
  ·have:=A r hr x hx hR;omega
 ·rcases hc.own k hk with e | e
  ·exact h.own k e
  ·exact jJ h.low.size e
theorem KpSt.next {w0 w w':World} {g d:Nat} {kd kd':Kd} {Q Q':Nat->Prop} {s s':Pg.S} {t:T} {x:T×Bool} {bad:Int} (h:KpSt w0 w g d kd Q s t) (hc:Chg w g d Q s kd.pk x bad kd' 0 Q' s' w'):KpSt w0 w' g d kd' Q' s' x.1:=by
 have A:=h.aside hc;refine ⟨hc.ok,?_,hc.aw,hc.st,hc.fk,A.own,A.low⟩;rcases hc.says with ⟨-,B,-⟩ | ⟨C,-⟩
 ·exact B
 ·exact absurd rfl C
theorem KpSt.set {w0 w:World} {g d b:Nat} {kd:Kd} {Q:Nat->Prop} {s:Pg.S} {t:T} (h:KpSt w0 w g d kd Q s t) (hb:w0.heap.size<=b) (hq:¬Q b) (hr:∀r∈kd.rows,∀x,r.p=some x->r.R≠[]->x.block≠b) (cs:Array Value):KpSt w0 (w.setRow b cs) g d kd Q s t:=by
 have A:=x08 w b cs;exact ⟨x1L h.ok fun r hr' x hx hR=>A.block _ (rw_lt (x06 h.ok r hr') x hx hR) (hr r hr' x hx hR),h.tr,h.aw,h.st.keep _ A (fun k hk e=>hq (e▸hk)),h.fk,h.own,h.low.trans (Below.setRow (jC _ _) hb _)⟩
end Kt
namespace Pg
open Go.RowKit
open List renaming setIfInBounds_toArray -> yA, set_cons_zero -> yB, set_cons_succ -> yC
theorem clash_no {w:World} {g:Nat} {Q:Nat->Prop} {s:S} (h:PL w g Q s) (hc:s.cl=none):
  Calls Tryz.prog 23 #[.pointer (some ⟨g,0,none⟩)] w fun e w'=>∃p c q d,e= .returned (.tuple #[.slice p 0 c,.slice q 0 d,.bool false])/\Below w.heap.size w w':=by
 obtain ⟨E,C,h⟩:=h;obtain rfl:C=none:=by
  rcases h.clash with ⟨B,_⟩ | ⟨c,a,b,_,A,_⟩
  ·exact B
  ·rw [hc] at A;cases A
 have G:=h.c1;clear h hc
 go_enter Tryz.func23,Tryz.ntmps23
 go_wp2_with fail
 go_ret3;exact ⟨none,0,none,0,rfl,jC _ _⟩
theorem clash_any {w:World} {g:Nat} {Q:Nat->Prop} {s:S} (x y:List Nat) (h:PL w g Q s) (hc:s.cl=some (x,y)):
  Calls Tryz.prog 23 #[.pointer (some ⟨g,0,none⟩)] w fun e w'=>∃p m c q n d,e= .returned (.tuple #[.slice p m c,.slice q n d,.bool true])/\Tx w' p m c x/\Tx w' q n d y/\x.length<=100000/\y.length<=100000/\Below w.heap.size w w':=by
 obtain ⟨mp,cl,h⟩:=h;obtain ⟨C,rfl,z⟩:∃C,cl=some ⟨C,0,none⟩/\PairAt Q w C x y:=by
  rcases h.clash with ⟨_,A⟩ | ⟨c,a,b,A,E,h3⟩
  ·rw [hc] at A;cases A
  ·rw [hc] at E;cases E;exact ⟨c,A,h3⟩
 have O:=h.c1;obtain ⟨p1,U,k1,p2,R,k2,t,A,E⟩:=z.row;have v:w.cell? ⟨C,0,none⟩=some (.slice p1 U k1):=(jH w C 0 _ _ _ t).trans rfl;have u:w.cell? ⟨C,1,none⟩=some (.slice p2 R k2):=(jH w C 1 _ _ _ t).trans rfl;have j:=yH A.tx;have X:=yH E.tx;have L1:=A.le;have L2:=E.le;have e1:=A.tx.size;have e2:=E.tx.size;have N1:U<=100000:=by omega
 have N2:R<=100000:=by omega
 have W:=yH O;have D0:=yH v;have D1:=yH u;clear h hc z t A E e1 e2 v u
 go_enter Tryz.func23,Tryz.ntmps23
 go_upto_region 3 with fail
 refine kD (S:=fun w'=>Below w.heap.size w w') (by kernel_rfl) (jC _ _).drew (fun hH=>?_);refine tK 0 ?_;refine tK 1 ?_;refine tK 2 ?_;refine tQ 3 ?_ ?_ ?_;rotate_left
 ·intro w' hSw;have O:=(hSw.cell (jI W)).trans W.out;go_simp;try with_reducible rfl
 refine tK 4 ?_;refine tK 5 ?_;refine tQ 6 ?_ ?_ ?_;rotate_left
 ·intro w' hSw;have O:=(hSw.cell (jI D0)).trans D0.out;go_simp;try with_reducible rfl
 refine tK 8 ?_;refine tK 9 ?_;refine tK 10 ?_;refine tQ 11 ?_ ?_ ?_;rotate_left
 ·intro w' hSw;have O:=(hSw.cell (jI W)).trans W.out;go_simp;try with_reducible rfl
 refine tK 12 ?_;refine tK 13 ?_;refine tQ 14 ?_ ?_ ?_;rotate_left
 ·intro w' hSw;have O:=(hSw.cell (jI D1)).trans D1.out;go_simp;try with_reducible rfl
 refine rO 7 fun K hK=>?_;go_simp;refine (x2P (j.later hH) N1).mono ?_;rintro _ H ⟨i,f,rfl,I,B⟩;have k:=yH (show Tx H i U f x from by
  have Z:U=x.length:=j.size;have:=I;rw [Z] at this ⊢;exact x0K this j.ok)
 have M:Below w.heap.size w H:=hH.trans (B.mono hH.size);have A2:=yH B;clear I B;try go_wp2_with fail
 refine hK.out _ _ M (fun hH=>?_);clear hK K;try simp only [Act.put,yA,yB,yC]
 refine rO 15 fun K hK=>?_;go_simp;refine (x2P (X.later hH) N2).mono ?_;rintro _ N ⟨Y,o,rfl,J,G⟩;have r:=yH (show Tx N Y R o y from by
  have Z:R=y.length:=X.size;have:=J;rw [Z] at this ⊢;exact x0K this X.ok)
 have L:Below w.heap.size w N:=hH.trans (G.mono hH.size);have l:=yH G;clear J G;try go_wp2_with fail
 refine hK.out _ _ L (fun hH=>?_);clear hK K;try simp only [Act.put,yA,yB,yC]
 refine tK 16 ?_;refine tK 17 ?_;refine tK 18 ?_;refine jD ?_;have P:=yH (k.later l);go_wp2_with fail
 go_ret3;exact ⟨_,_,_,_,_,_,rfl,P.out,r.out,L1,L2,hH⟩
end Pg
namespace Kt
open Go.RowKit Nd Dk Pg
structure Got (w0 wx:World) (g d bK bX:Nat) (kd kd':Kd) (err:Int) (Q':Nat->Prop) (s s':Pg.S) (t:T) (x:T×Bool):Prop where
 old:KpSt w0 wx g d kd Q' s' t
 new:err=0->KpSt w0 wx g d kd' Q' s' x.1
 rowX:wx.heap[bX]? =some (.cells kd'.cells.toArray 34 (0,0))
 rowK:wx.heap[bK]? =some (.cells kd.cells.toArray 34 (0,0))
 ne:bX≠bK
 nq:¬Q' bK
 far:∀r∈kd'.rows,∀x,r.p=some x->r.R≠[]->x.block≠bK
 len:kd'.cells.length=37
 size:kd'.pk.size<=kd.pk.size+1
 few:(s'.W.length:Int)<=s.W.length+(2*kd.pk.size+2)
section
variable {w0 xa xb:World} {g d bK bX:Nat} {kd kd':Kd} {err bad:Int} {Q Q':Nat->Prop} {s s':Pg.S} {t:T} {x:T×Bool}
theorem y55 (h:KpSt w0 xa g d kd Q s t) (hK:xa.heap[bK]? =some (.cells kd.cells.toArray 34 (0,0))) (hq:¬Q bK) (hc:Chg xa g d Q s kd.pk x bad kd' err Q' s' xb):KpSt w0 xb g d kd Q' s' t/\(err=0->KpSt w0 xb g d kd' Q' s' x.1)/\xb.heap[bK]? =some (.cells kd.cells.toArray 34 (0,0))/\¬Q' bK/\∀r∈kd'.rows,∀x,r.p=some x->r.R≠[]->x.block≠bK:=by
 have A:=(yL hK)
 refine ⟨h.aside hc,fun e=>?_,(hc.only.block _ A hq).trans hK,fun e=>(hc.own _ e).elim hq (fun e=>by omega),fun r hr x hx hR=>by have:=hc.fsh r hr x hx hR;omega⟩;subst e;exact h.next hc
end
theorem y6u (dd:Nat):1<=dimsP dd/\dimsP dd<=5:=by
 unfold dimsP;omega
theorem KpSt.copy {w0 w:World} {g d bK:Nat} {kd kd':Kd} {Q:Nat->Prop} {s:Pg.S} {t:T} (h:KpSt w0 w g d kd' Q s t) (hw:w0.heap.size<=bK) (hq:¬Q bK) (hf:∀r∈kd'.rows,∀x,r.p=some x->r.R≠[]->x.block≠bK) (hK:w.heap[bK]? =some (.cells kd.cells.toArray 34 (0,0))):KpSt w0 (w.setRow bK kd'.cells.toArray) g d kd' Q s t/\(w.setRow bK kd'.cells.toArray).heap[bK]? =some (.cells kd'.cells.toArray 34 (0,0)):=
 ⟨h.set hw hq hf _,jT _ _ _ _ _ _ hK⟩
def RdM (q:Option Addr) (M:List Rw) (b:Nat):Prop:=(M≠[]/\∃x,q=some x/\x.block=b)\/∃r∈M,∃x,r.p=some x/\r.R≠[]/\x.block=b
theorem x6N {w w':World} {q:Option Addr} {n c:Nat} {M:List Rw} (h:RowsIn w q n c M) (hk:∀b,RdM q M b->w'.heap[b]? =w.heap[b]?):RowsIn w' q n c M:=
 ⟨h.size,h.le,fun r hr=>Nd.rw_keep (h.each r hr) fun x hx hR=>hk _ (Or.inr ⟨r,hr,x,hx,hR,rfl⟩),h.at'.imp id fun ⟨g,o,hp,hc⟩=>⟨g,o,hp,fun i hi=>by
  rw [jX (w:=w) (w':=w') (a:=⟨g,o+i,none⟩) (hk g (Or.inl ⟨fun e=>by rw [e] at hi;simp at hi,⟨g,o,none⟩,hp,rfl⟩))]
  exact hc i hi⟩⟩
theorem x6O {w:World} {q:Option Addr} {n c:Nat} {M:List Rw} (h:RowsIn w q n c M) {b:Nat} (hb:RdM q M b):b<w.heap.size:=by
 rcases hb with ⟨B,x,A,rfl⟩ | ⟨r,I,x,A,H,rfl⟩
 ·rcases h.at' with G | ⟨g,o,C,E⟩
  ·exact absurd G B
  ·rw [A] at C;cases C
   exact jI (E 0 (kP.2 B))
 ·exact rw_lt (h.each r I) x A H
theorem y56 {w0 w:World} {g d:Nat} {kd:Kd} {Q:Nat->Prop} {s:Pg.S} {t:T} (hd:1<=d/\d<=8) (h:KpSt w0 w g d kd Q s t) (hz:kd.pk.size<=90000):
  Calls Tryz.prog 27 #[.pointer (some ⟨g,0,none⟩),.agg kd.cells.toArray,.int .i64 d] w fun e w'=>∃q c M err,e= .returned (.tuple #[.slice q M.length c,.int .i64 err])/\RowsIn w' q M.length c M/\(∀b,RdM q M b->w.heap.size<=b)/\(s.cl=none->err=0/\M.map Rw.R=sortP 0 (V.of t).rows)/\(M.length:Int)<=90000/\Below w.heap.size w w':=by
 obtain ⟨u,G,H,K⟩:=h.tr.see h.fk;refine (y4v hd h.fk.texts u kd w h.st H h.ok G.symm (by rw [G];exact hz)).mono fun e w' ⟨hb,h1,h2⟩=>?_;cases hw:u.whole with
 | true=>
  obtain ⟨q,c,M,rfl,N,L,Y,X⟩:=h1 hw;have B:(M.length:Int)<=90000:=by
   have f:M.length=u.rows.length:=by
    have:=congrArg List.length L;rw [kH,x0I] at this;exact this
   have A:=x31 H;have W:=x1D H;rw [hw] at A;rcases A with A | A
   ·rw [G] at A W;omega
   ·cases A
  refine ⟨q,c,M,0,rfl,N,fun b hb'=>?_,fun hn=>⟨rfl,by rw [L,K hn]⟩,B,hb⟩;rcases hb' with ⟨I,x,E,rfl⟩ | ⟨r,C,x,E,U,rfl⟩
  ·obtain ⟨a,Z,J,P⟩:=X I;rw [E] at J;cases J
   exact P
  ·exact Y r C x E U
 | false=>
  have O:=h2 hw;refine ⟨none,0,[],21,O,⟨rfl,jB _,fun r C=>(by cases C),Or.inl rfl⟩,fun b hb'=>?_,fun hn=>?_,by simp,hb⟩
  ·rcases hb' with ⟨I,_⟩ | ⟨r,C,_⟩
   ·exact absurd rfl I
   ·cases C
  ·rw [K hn,x1m] at hw;cases hw
structure K2 (w0 wr:World) (g d bK bM:Nat) (kd:Kd) (t:T) (q:Option Addr) (c:Nat) (M:List Rw) (km:Kd) (Q:Nat->Prop) (s:Pg.S) (tm:T):Prop where
 old:KpSt w0 wr g d kd Q s t
 now:KpSt w0 wr g d km Q s tm
 rowK:wr.heap[bK]? =some (.cells kd.cells.toArray 34 (0,0))
 rowM:wr.heap[bM]? =some (.cells km.cells.toArray 34 (0,0))
 ne:bM≠bK
 nqK:¬Q bK
 nqM:¬Q bM
 farM:∀r∈km.rows,∀x,r.p=some x->r.R≠[]->x.block≠bM
 farD:∀r∈kd.rows,∀x,r.p=some x->r.R≠[]->x.block≠bM
 rows:RowsIn wr q M.length c M
 apart:∀b,RdM q M b->¬Q b/\b≠bM
section
variable {w0 wr w':World} {g d bK bM:Nat} {kd km kx:Kd} {t tm:T} {q:Option Addr} {c:Nat} {M:List Rw} {Q Q':Nat->Prop} {s s':Pg.S} {x:T×Bool} {bad err:Int}
theorem K2.later (h:K2 w0 wr g d bK bM kd t q c M km Q s tm) (hb:Below wr.heap.size wr w'):K2 w0 w' g d bK bM kd t q c M km Q s tm:=
 ⟨h.old.later hb,h.now.later hb,(hb.block _ (yL h.rowK)).trans h.rowK,(hb.block _ (yL h.rowM)).trans h.rowM,h.ne,h.nqK,h.nqM,h.farM,h.farD,h.rows.later hb,h.apart⟩
theorem K2.chg (h:K2 w0 wr g d bK bM kd t q c M km Q s tm) (hc:Chg wr g d Q s km.pk x bad kx err Q' s' w'):K2 w0 w' g d bK bM kd t q c M km Q' s' tm/\∃tx,KpSt w0 w' g d kx Q' s' tx:=by
 have E:=(yL h.rowK)
 have C:=(yL h.rowM)
 have A:∀b,b<wr.heap.size->¬Q b->¬Q' b:=fun b hb hq e=>(hc.own b e).elim hq (fun e=>by omega);refine ⟨⟨h.old.aside hc,h.now.aside hc,(hc.only.block _ E h.nqK).trans h.rowK,(hc.only.block _ C h.nqM).trans h.rowM,h.ne,A _ E h.nqK,A _ C h.nqM,h.farM,h.farD,x6N h.rows fun b hb=>hc.only.block b (x6O h.rows hb) (h.apart b hb).1,fun b hb=>⟨A b (x6O h.rows hb) (h.apart b hb).1,(h.apart b hb).2⟩⟩,?_⟩;have B:=h.now.aside hc;rcases hc.says with ⟨rfl,G,-⟩ | ⟨-,rfl,-,-⟩
 ·exact ⟨x.1,h.now.next hc⟩
 ·exact ⟨.nil,hc.ok,Tr.nil _ _,hc.aw,hc.st,hc.fk,B.own,B.low⟩
theorem K2.set (h:K2 w0 wr g d bK bM kd t q c M km Q s tm) {b:Nat} (hb:w0.heap.size<=b) (hq:¬Q b) (h1:b≠bK) (h2:b≠bM) (h3:∀r∈kd.rows,∀x,r.p=some x->r.R≠[]->x.block≠b) (h4:∀r∈km.rows,∀x,r.p=some x->r.R≠[]->x.block≠b) (h5:¬RdM q M b) (cs:Array Value):K2 w0 (wr.setRow b cs) g d bK bM kd t q c M km Q s tm:=by
 have A:=x08 wr b cs;exact ⟨h.old.set hb hq h3 cs,h.now.set hb hq h4 cs,(A.block _ (yL h.rowK) (fun e=>h1 e.symm)).trans h.rowK,(A.block _ (yL h.rowM) (fun e=>h2 e.symm)).trans h.rowM,h.ne,h.nqK,h.nqM,h.farM,h.farD,x6N h.rows fun k hk=>A.block k (x6O h.rows hk) (fun e=>h5 (e▸hk)),h.apart⟩
theorem K2.fresh (h:K2 w0 wr g d bK bM kd t q c M km Q s tm) {b:Nat} (hb:wr.heap.size<=b):w0.heap.size<=b/\¬Q b/\b≠bK/\b≠bM/\(∀r∈kd.rows,∀x,r.p=some x->r.R≠[]->x.block≠b)/\(∀r∈km.rows,∀x,r.p=some x->r.R≠[]->x.block≠b)/\¬RdM q M b:=by
 have B:=(yL h.rowK)
 have A:=(yL h.rowM)
 refine ⟨jJ h.old.low.size hb,fun e=>by have:=h.old.st.lt _ e;omega,by omega,by omega,fun r hr x hx hR=>?_,fun r hr x hx hR=>?_,fun e=>by have:=x6O h.rows e;omega⟩
 ·have:=rw_lt (x06 h.old.ok r hr) x hx hR;omega
 ·have:=rw_lt (x06 h.now.ok r hr) x hx hR;omega
theorem K2.next {tx:T} (h:K2 w0 wr g d bK bM kd t q c M km Q s tm) (hx:KpSt w0 wr g d kx Q s tx) (hw:w0.heap.size<=bM) (hf:∀r∈kx.rows,∀x,r.p=some x->r.R≠[]->x.block≠bM):K2 w0 (wr.setRow bM kx.cells.toArray) g d bK bM kd t q c M kx Q s tx:=by
 have A:=x08 wr bM kx.cells.toArray;exact ⟨h.old.set hw h.nqM h.farD _,hx.set hw h.nqM hf _,(A.block _ (yL h.rowK) (fun e=>h.ne e.symm)).trans h.rowK,jT _ _ _ _ _ _ h.rowM,h.ne,h.nqK,h.nqM,hf,h.farD,x6N h.rows fun k hk=>A.block k (x6O h.rows hk) (h.apart k hk).2,h.apart⟩
end
end Kt
namespace Kt
open Go.RowKit
open List renaming setIfInBounds_toArray -> yA, set_cons_zero -> yB, set_cons_succ -> yC
theorem x4I {F:Nat->Prop} (u:T):∀(p:Option Addr) (w:World),TAt F w p u->u.size<=1000000000->Calls Tryz.prog 81 #[.pointer p] w fun e w'=>e= .returned (.int .i64 u.size)/\Below w.heap.size w w':=by
 induction u with
 | nil=>
  intro p w h _;obtain rfl:p=none:=by cases h;rfl
  clear h
  go_enter Tryz.func81,Tryz.ntmps81
  go_wp2_with fail
  go_ret;exact ⟨rfl,jC _ _⟩
 | fork x v l u ihl ihr=>
  intro p w h hs;obtain ⟨g,r,a,b,rfl,rfl,B,-,-,-,H,I⟩:=h.go;have G:(T.fork r.R v l u).size=1+l.size+u.size:=rfl;rw [G] at hs ⊢;have L:=yH (fun w' (hb:Below w.heap.size w w')=>ihl a w' (H.later hb) (by omega));have N:=yH (fun w' (hb:Below w.heap.size w w')=>ihr b w' (I.later hb) (by omega));have A:=yH B;clear ihl ihr h H I B;clear G;generalize l.size=m at *;generalize u.size=n at *
  go_enter Tryz.func81,Tryz.ntmps81
  go_upto_region 3 with fail
  refine kD (S:=fun w'=>Below w.heap.size w w') (by kernel_rfl) (jC _ _).drew (fun hH=>?_);refine tK 0 ?_;refine tK 1 ?_;refine tK 2 ?_;refine tQ 3 ?_ ?_ ?_;rotate_left
  ·intro w' hSw;have U:=jH w' g 2 _ _ _ ((hSw.block g (yL A)).trans A.out);go_simp;try with_reducible rfl
  refine tK 6 ?_;refine tK 7 ?_;refine tK 8 ?_;refine tQ 9 ?_ ?_ ?_;rotate_left
  ·intro w' hSw;have Q:=jH w' g 3 _ _ _ ((hSw.block g (yL A)).trans A.out);go_simp;try with_reducible rfl
  refine rO 4 fun K hK=>?_;go_simp;refine (L.out _ hH).mono ?_;rintro _ P ⟨rfl,J⟩;have E:=hH.trans (J.mono hH.size);try go_wp2_with fail
  refine hK.out _ _ E (fun hH=>?_);clear hK K;try simp only [Act.put,yA,yB,yC]
  refine tQ 5 ?_ ?_ ?_;rotate_left
  ·intro w' hSw;have q:=IntWalk.i64_in ((1:Int)+(m:Int)) (by omega);go_simp;try with_reducible rfl
  refine rO 10 fun K hK=>?_;go_simp;refine (N.out _ hH).mono ?_;rintro _ O ⟨rfl,M⟩;have C:=hH.trans (M.mono hH.size);try go_wp2_with fail
  refine hK.out _ _ C (fun hH=>?_);clear hK K;try simp only [Act.put,yA,yB,yC]
  refine tQ 11 ?_ ?_ ?_;rotate_left
  ·intro w' hSw;have q:=IntWalk.i64_in ((1:Int)+(m:Int)+(n:Int)) (by omega);go_simp;try with_reducible rfl
  refine tK 12 ?_;refine jD ?_;go_wp2_with fail
  go_ret;exact ⟨by simp,hH⟩
def y57 (F:Nat->Prop) (w:World) (u:T) (e:Ending) (w':World):Prop:=∃q,e= .returned (.pointer q)/\TAt (fun k=>F k\/w.heap.size<=k) w' q u/\Below w.heap.size w w'
theorem x4u {F:Nat->Prop} (x:List Int) (v:Bool) (l u:T) (p:Option Addr) (t d:Nat) (w:World) (h:TAt F w p (.fork x v l u)) (hd:(T.fork x v l u).dims d) (hd0:0<d) (hs:(T.fork x v l u).size<=1000) (ht:t<=900000):
  Calls Tryz.prog 75 #[.pointer p,.int .i64 t] w (y57 F w (light (.fork x v l u) t)):=by
 have s:(T.fork x v l u).size=1+l.size+u.size:=rfl;have HT:=yH h;have Z:=yH (x1E hd);have Y:=yH (fun w' (hb:Below w.heap.size w w')=>x4I (.fork x v l u) p w' (h.later hb) (by omega));have X:=yH (fun w' (hb:Below w.heap.size w w')=>x7P (.fork x v l u) p w w' h hb hs);have c:=yH (jJ (x1c (.fork x v l u)) hs);obtain ⟨g,r,a,b,rfl,rfl,N,-,-,-,y,J⟩:=h.go;have HL:=yH (fun w' (hb:Below w.heap.size w w')=>x4I l a w' (y.later hb) (by omega));have HR:=yH (fun w' (hb:Below w.heap.size w w')=>x4I u b w' (J.later hb) (by omega));have G:=yH N;have U:=yH (show light (.fork r.R v l u) t=if 2*(1+l.size+u.size)/3+1<max l.size u.size then lay (T.fork r.R v l u).all t else .fork r.R v l u from rfl);rw [s] at hs Y;have j:=yH hd0;clear s h hd N y J hd0;generalize l.size=m at *;generalize u.size=n at *;have A4:m+n<=1000:=by omega
 clear hs
 go_enter Tryz.func75,Tryz.ntmps75
 go_upto_region 1 with fail
 refine kD (S:=fun w'=>Below w.heap.size w w') (by kernel_rfl) (jC _ _).drew (fun hH=>?_);refine tK 0 ?_;refine tK 1 ?_;refine tK 2 ?_;refine tQ 3 ?_ ?_ ?_;rotate_left
 ·intro w' hSw;have x2:=jH w' g 2 _ _ _ ((hSw.block g (yL G)).trans G.out);go_simp;try with_reducible rfl
 refine tK 5 ?_;refine tK 6 ?_;refine tK 7 ?_;refine tQ 8 ?_ ?_ ?_;rotate_left
 ·intro w' hSw;have x3:=jH w' g 3 _ _ _ ((hSw.block g (yL G)).trans G.out);go_simp;try with_reducible rfl
 refine rO 4 fun K hK=>?_;go_simp;refine (HL.out _ hH).mono ?_;rintro _ w5 ⟨rfl,b5⟩;have i:=hH.trans (b5.mono hH.size);try go_wp2_with fail
 refine hK.out _ _ i (fun hH=>?_);clear hK K;try simp only [Act.put,yA,yB,yC]
 refine rO 9 fun K hK=>?_;go_simp;refine (HR.out _ hH).mono ?_;rintro _ w6 ⟨rfl,b6⟩;have e:=hH.trans (b6.mono hH.size);try go_wp2_with fail
 refine hK.out _ _ e (fun hH=>?_);clear hK K;try simp only [Act.put,yA,yB,yC]
 refine tK 10 ?_;refine tK 11 ?_;refine jD ?_;have q1:IntKind.i64.wrap (2*((1+m+n:Nat):Int))=2*((1+m+n:Nat):Int):=IntWalk.i64_in _ (by omega);have q2:IntKind.i64.wrap (2*((1+m+n:Nat):Int)/3+1)=2*((1+m+n:Nat):Int)/3+1:=IntWalk.i64_in _ (by omega);have B:=yH hH;clear hH;by_cases hv:2*(1+m+n)/3+1<max m n
 ·rw [if_pos hv] at U;have b1:2*((1+m+n:Nat):Int)/3+1<max (m:Int) (n:Int):=by omega
  go_upto_region 3 with (go_at_call 81;refine (Y.out w6 B).mono ?_;rintro _ w7 ⟨rfl,P⟩;have A:=yH (B.trans (P.mono B.size));clear P)
  clear q1 q2 b1 hv;go_wp2_with (first
   | (go_at_call 31;refine (X.out w7 A).mono ?_;rintro _ w8 ⟨O,v8,rfl,I,W,E,z⟩;have H:=yH (A.trans (z.mono A.size));obtain ⟨q8,c8,rfl,C⟩:=Own.rows (L:=O) ⟨I,fun r J=>(E r J).1.later H.out⟩;have M:O.length<=1000:=(by rw [<- kH (f:=Rw.R),W];exact c.out);have Q:=yH (x9v (F:=F) 1000 O.length q8 c8 t d O w8 M C (fun r J=>⟨by rw [(E r J).1.ints.size];exact Z.out _ (by rw [<- W];exact kJ.2 ⟨r,J,rfl⟩),(E r J).2⟩) j (jB _) (by omega));rw [W] at Q;clear I W E z C M)
   | (go_at_call 38;refine Q.mono ?_;rintro _ w9 ⟨q9,rfl,t9,q⟩;have T9:=yH (t9.wide (F':=fun k=>F k\/w.heap.size<=k) (fun k h=>h.imp id (fun h=>jJ H.size h)));have o:=yH (H.trans (q.mono H.size));clear t9 q))
  go_ret;exact ⟨q9,rfl,by rw [U.out];exact T9.out,o.out⟩
 ·rw [if_neg hv] at U;have b1:¬2*((1+m+n:Nat):Int)/3+1<max (m:Int) (n:Int):=by omega
  go_wp2_with (go_at_call 81;refine (Y.out w6 B).mono ?_;rintro _ w7 ⟨rfl,P⟩;have A:=yH (B.trans (P.mono B.size));clear P)
  go_ret;exact ⟨some ⟨g,0,none⟩,rfl,by rw [U.out];exact (HT.later A).wide (fun k h=>Or.inl h),A.out⟩
end Kt
end Go.Proofs.YtenenciaggbjnaaGreat
