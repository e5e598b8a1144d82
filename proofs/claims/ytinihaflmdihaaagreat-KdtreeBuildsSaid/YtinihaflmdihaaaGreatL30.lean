/- KlAliveS, KlAlive, KdOne, KrSame, NdHull, NdFew, CodRefN. -/
import Derived.Lib.MinMax
import Derived.Deep.CutBlock
import Derived.Test.YtinihaflmdihaaaGreatL29
set_option maxRecDepth 100000
set_option maxHeartbeats 8000000
set_option linter.all false
namespace Go.Proofs.YtinihaflmdihaaaGreat.Kt
open Go.RowKit Go.Proofs.YtinihaflmdihaaaGreat.Nd Go.Proofs.YtinihaflmdihaaaGreat.Dk Go.Proofs.YtinihaflmdihaaaGreat.Pg
theorem x4d {w:World} {g:Nat} {a:Int} (ha:In64 a) (h:w.heap[g]? =some (.cells #[.int .i64 a] 2 (0,0))):(⟨some ⟨g,0,none⟩,1,1,[a]⟩:Rw).Ok w:=by
 refine ⟨⟨rfl,Nat.le_refl _,fun x hx=>?_,Or.inr ⟨g,0,rfl,fun i A=>?_⟩⟩,by show 1≤_;omega⟩
 ·rw [List.mem_singleton.1 hx]
  exact ha
 ·have A:i<1:=A
  obtain rfl:i=0:=by omega
  exact cell_of_row w g 0 _ _ _ h
def rows3 (b:Nat):List Rw:=[⟨some ⟨b,0,none⟩,1,1,[3]⟩,⟨some ⟨b+1,0,none⟩,1,1,[1]⟩,⟨some ⟨b+1+1,0,none⟩,1,1,[2]⟩]
theorem laid3 (w:World):
  RowsIn ((((w.alloc (.cells #[.int .i64 3] 2)).alloc (.cells #[.int .i64 1] 2)).alloc (.cells #[.int .i64 2] 2)).alloc (.cells #[.slice (some ⟨w.heap.size,0,none⟩) 1 1,.slice (some ⟨w.heap.size+1,0,none⟩) 1 1,.slice (some ⟨w.heap.size+1+1,0,none⟩) 1 1] 24)) (some ⟨w.heap.size+1+1+1,0,none⟩) 3 3 (rows3 w.heap.size)∧
  Below w.heap.size w ((((w.alloc (.cells #[.int .i64 3] 2)).alloc (.cells #[.int .i64 1] 2)).alloc (.cells #[.int .i64 2] 2)).alloc (.cells #[.slice (some ⟨w.heap.size,0,none⟩) 1 1,.slice (some ⟨w.heap.size+1,0,none⟩) 1 1,.slice (some ⟨w.heap.size+1+1,0,none⟩) 1 1] 24)):=by
 obtain ⟨W,G,E,C,B,H,b⟩:=x5r w (.cells #[.int .i64 3] 2) (.cells #[.int .i64 1] 2) (.cells #[.int .i64 2] 2) (.cells #[.slice (some ⟨w.heap.size,0,none⟩) 1 1,.slice (some ⟨w.heap.size+1,0,none⟩) 1 1,.slice (some ⟨w.heap.size+1+1,0,none⟩) 1 1] 24)
 rw [G]
 refine ⟨⟨rfl,Nat.le_refl _,fun r hr=>?_,Or.inr ⟨w.heap.size+1+1+1,0,rfl,fun i A=>?_⟩⟩,b⟩
 ·simp only [rows3,List.mem_cons,List.not_mem_nil,or_false] at hr
  rcases hr with rfl | rfl | rfl
  ·exact x4d ⟨by omega,by omega⟩ E
  ·exact x4d ⟨by omega,by omega⟩ C
  ·exact x4d ⟨by omega,by omega⟩ B
 ·have A:i<3:=A
  have h:=cell_of_row W (w.heap.size+3) i _ _ _ H
  rw [Nat.zero_add]
  match i,A with
  | 0,_=>exact h
  | 1,_=>exact h
  | 2,_=>exact h
theorem y5a (Q:Nat→Prop):Aw Q kd0:=fun r hr x hx hR=>by
 have e:r=⟨none,0,0,[]⟩:=by simpa [Kd.rows,kd0] using hr
 subst e
 cases hx
structure AlSt (w w7:World) (g B3 bT m:Nat) (kt:Kd) (Q:Nat→Prop) (wr:World):Prop where
 ok:kt.Ok wr
 pk:kt.pk=(V.of (exs (m - 4))).kid
 aw:Aw Q kt
 row:wr.heap[bT]? =some (.cells kt.cells.toArray 34 (0,0))
 st:PL wr g Q (exS (m - 4))
 own:∀k,Q k→(w.heap.size≤k∧k<B3)∨w7.heap.size≤k
 kept:∀k,B3≤k→k<w7.heap.size→k≠bT→wr.heap[k]? =w7.heap[k]?
 low:Below w.heap.size w wr
 size:w7.heap.size≤wr.heap.size
def AlRel (w w7:World) (g B3 bT:Nat) (i:Value) (wr:World):Prop:=∃(m:Nat) (kt:Kd) (Q:Nat→Prop),4≤m∧m≤7∧i= .int .i64 (m:Int)∧AlSt w w7 g B3 bT m kt Q wr
theorem AlSt.next {w w7 wr wr1 wr2:World} {g B3 bT m:Nat} {kt kd:Kd} {Q Q':Nat→Prop} (h:AlSt w w7 g B3 bT m kt Q wr) (hw:w.heap.size≤bT) (hB:B3≤bT) (hT:bT<w7.heap.size) (hb:Below wr.heap.size wr wr1) (hok:kd.Ok wr2) (hpk:kd.pk=(V.of (exs (m+1 - 4))).kid) (hf:Fsh wr1 kd) (hp:PL wr2 g Q' (exS (m+1 - 4))) (hq:∀k,Q' k→Q k∨wr1.heap.size≤k) (ha:Aw Q' kd) (ho:Only Q wr1 wr2):AlSt w w7 g B3 bT (m+1) kd Q' (wr2.setRow bT kd.cells.toArray):=by
 have s0:=h.size
 have s1:=hb.size
 have I:=ho.size
 have E:¬Q bT:=fun e=>by rcases h.own bT e with e | e<;>omega
 have C:¬Q' bT:=fun e=>(hq bT e).elim E (fun e=>by omega)
 have A:=x0C wr2 bT kd.cells.toArray
 have B:wr2.heap[bT]? =some (.cells kt.cells.toArray 34 (0,0)):=(ho.block bT (by omega) E).trans ((hb.block bT (by omega)).trans h.row)
 refine ⟨x1I hok fun r hr x hx hR=>A.block _ (rw_lt (x05 hok r hr) x hx hR) (by have:=hf r hr x hx hR;omega),hpk,ha,setRow_heap _ _ _ _ _ _ B,hp.keep _ A (fun k hk e=>C (e▸hk)),fun k hk=>?_,fun k h1 h2 h3=>?_,?_,Nat.le_trans (by omega) A.size⟩
 ·rcases hq k hk with e | e
  ·exact h.own k e
  ·right;omega
 ·have G:¬Q k:=fun e=>by rcases h.own k e with e | e<;>omega
  rw [A.block k (by omega) h3,ho.block k (by omega) G,hb.block k (by omega)]
  exact h.kept k h1 h2 h3
 ·have H:=h.low.size
  refine (h.low.trans (hb.mono H)).trans (((ho.below (by omega) (fun k hk=>?_))).trans (Below.setRow (Below.refl _ _) hw _))
  rcases h.own k hk with e | e
  ·exact e.1
  ·have:=(Nat.le_trans hw (Nat.le_of_lt hT))
   omega
theorem y3K:(V.of exT).kid.size=3:=by
 rw [x2r (by decide),x0n _ (by decide)]
 rfl
theorem y3L:(V.of (exs (7 - 4))).kid.live=3:=by
 rw [x2r (by decide),x6f _ (by decide)]
 rfl
theorem y3M:deepE ((V.of (exs (7 - 4))).ents 1)=3:=by
 rw [x2i _ _ (by omega)]
 rfl
theorem y1u (w:World):
  Calls Tryz.prog 11 #[] w fun e w'=>e= .returned (.bool true)∧Below w.heap.size w w':=by
 obtain ⟨du,Ax,Av⟩:=UKd
 have Ai:=yH Ax
 have Ae:=yH Av
 have HZ:=yH (zero_of_info kz)
 have BU:=yH (zero_of_info nz)
 have Br:=HZ.out.1
 have Bb:=BU.out.1
 clear Ax Av
 have e0:exS 0=puts ⟨[],none⟩ exT.pages:=by
  unfold exS
  exact x6A _
 have Au:=yH e0
 clear e0
 go_enter Tryz.func11,Tryz.ntmps11
 go_upto_region 2 with (go_at_call 13;refine (Pg.new_any w).mono ?_;rintro e w1 ⟨g,Q,rfl,l1,q1,b1⟩;have AQ:=yH l1;have AU:=yH q1;have AT:=yH b1;clear l1 q1 b1)
 obtain ⟨hL,hB⟩:=laid3 w1
 generalize hW:(((w1.alloc (.cells #[.int .i64 3] 2)).alloc (.cells #[.int .i64 1] 2)).alloc (.cells #[.int .i64 2] 2)).alloc (.cells #[.slice (some ⟨w1.heap.size,0,none⟩) 1 1,.slice (some ⟨w1.heap.size+1,0,none⟩) 1 1,.slice (some ⟨w1.heap.size+1+1,0,none⟩) 1 1] 24)=w2 at *
 have AH:=AQ.out.keep (fun _=>False) (Only.of_below _ hB) (fun _ _ e=>e)
 have AM:=x69 (d:=1) (by omega) (some ⟨w1.heap.size+1+1+1,0,none⟩) 3 3 (rows3 w1.heap.size) w2 hL (by omega) (fun r hr=>by
  simp only [rows3,List.mem_cons,List.not_mem_nil,or_false] at hr
  rcases hr with rfl | rfl | rfl<;>rfl) (fun r hr x hx hR e=>by
  have:=AQ.out.lt _ e
  simp only [rows3,List.mem_cons,List.not_mem_nil,or_false] at hr
  rcases hr with rfl | rfl | rfl<;>(cases hx;simp only at this;omega)) AH (by decide)
 have AL:=yH (show Calls Tryz.prog 32 #[.pointer (some ⟨g,0,none⟩),.slice (some ⟨w1.heap.size+1+1+1,0,none⟩) 3 3,.int .i64 1] w2 fun e J=>∃(Y:Kd) (Q':Nat→Prop),e= .returned (.tuple #[.agg Y.cells.toArray,.int .i64 0])∧Y.pk=(V.of exT).kid∧Y.Ok J∧PL J g Q' (exS 0)∧(∀k,Q' k→w.heap.size≤k)∧Below w.heap.size w J from AM.mono fun e J h=>by
  have BJ:(rows3 w1.heap.size).map Rw.R=[[3],[1],[2]]:=rfl
  unfold x20 at h
  rw [BJ,y5Q] at h
  rcases h with ⟨h,-⟩ | ⟨-,Y,Q',rfl,o,h2,-,h4,h5,h6,h7⟩
  ·exact absurd (by decide) h
  ·have Ba:=AT.out.size
   have Bt:=hB.size
   refine ⟨Y,Q',rfl,by rw [o,x2r (by decide)],h2,by rw [Au.out];exact h5,fun k hk=>(h6 k hk).elim (fun e=>AU.out k e) (fun e=>by omega),(AT.out.trans (hB.mono Ba)).trans (h7.below (by omega) (fun k hk=>AU.out k hk))⟩)
 clear AM hL AH hB AQ AU AT Au
 go_upto_region 3 with (first
  | (go_at_call 32;refine AL.out.mono ?_;rintro _ J ⟨Y,Q3,rfl,B6,AV,B3,BC,Al⟩;have B4:=yH B6;have As:=yH AV;have AS:=yH B3;have An:=yH BC;have AB:=yH Al;have AP:=yH (Kd.cells_length AV.len);clear B6 AV B3 BC Al)
  | (refine wpList_store_row (by rfl) 34 (.tmp 2) (.tmp 18) (by rfl) J.heap.size Y.cells.toArray (by rfl) (by rfl) _ _ (heap_alloc_new J _) (by rw [List.size_toArray,AP.out];exact SKd) (by simp only [List.size_toArray,AP.out,x01]) (all_oneCell_toArray Kd.one) ?_;rw [x04]))
 clear hW AL
 have AC:Below J.heap.size J (J.alloc (.cells Y.cells.toArray 34)):=(Below.refl _ _).alloc (Nat.le_refl _) _
 have A5:=heap_alloc_new J (.cells Y.cells.toArray 34)
 have BS:(J.alloc (.cells Y.cells.toArray 34)).heap.size=J.heap.size+1:=by simp
 generalize J.alloc (.cells Y.cells.toArray 34)=w4 at *
 obtain ⟨H,u⟩:∃b,b=J.heap.size:=⟨_,rfl⟩
 rw [← u] at A5 ⊢
 have BA:=yH (x0E A5)
 have At:=yH A5
 have AE:=yH (show H=J.heap.size∧w4.heap.size=H+1 from ⟨u,by omega⟩)
 have Ag:=yH (AS.out.keep (fun _=>False) (Only.of_below _ AC) (fun _ _ e=>e))
 have Ab:=yH (AB.out.trans (AC.mono AB.out.size))
 have Aq:=yH (show Calls Tryz.prog 52 #[.pointer (some ⟨g,0,none⟩),.agg Y.cells.toArray,.int .i64 1] w4 fun e N=>Below w4.heap.size w4 N∧∃I gk ce ck ew k1 k2 A7,e= .returned (.tuple #[.agg #[.int .u8 1,.slice (some ⟨I,0,none⟩) 1 ce,.slice (some ⟨gk,0,none⟩) 2 ck],.int .i64 0])∧ew.row.R=[2]∧Fresh w4.heap.size A7 N (some ⟨I,0,none⟩) 1 ce (some ⟨gk,0,none⟩) 2 ck [ew] [k1,k2] from
  (x5I (d:=1) Ag.out (As.out.later AC) B4.out y3I w4 (Below.refl _ _)).mono fun e N ⟨o,p,n,c,q,m,f,E,K,A7,he,hpn,z⟩=>by
   obtain ⟨ew,k1,k2,rfl,rfl,hR,-,-,-⟩:=x5J hpn
   obtain ⟨rfl,rfl,I,gk,rfl,rfl,-⟩:=x1i z
   exact ⟨o,I,gk,c,f,ew,k1,k2,A7,he,hR,z⟩)
 have AK:=yH (show ∀k,Q3 k→k<J.heap.size from AS.out.lt)
 have BD:=yH (show w.heap.size≤J.heap.size from AB.out.size)
 clear AC A5 BS u AS AB
 go_upto_region 4 with (first
  | (refine wpList_load_mid (by rfl) 34 _ (by rfl) H 0 (by rfl) Y.cells du BA.out Ai.out Ae.out (by rw [AP.out];exact SKd) ?_)
  | (go_at_call 52;refine Aq.out.mono ?_;rintro _ N ⟨BE,I,gk,ce,ck,ew,k1,k2,A7,rfl,hR,z⟩;have HR:=yH hR;have Ad:=yH z;have AF:=yH BE;clear hR z BE)
  | (refine wpList_store_row (by rfl) 81 (.tmp 4) (.tmp 24) (by rfl) N.heap.size #[.int .u8 1,.slice (some ⟨I,0,none⟩) 1 ce,.slice (some ⟨gk,0,none⟩) 2 ck] (by rfl) (by rfl) _ _ (heap_alloc_new N _) SNo rfl (x2R 1 _ _ _ _ _ _) ?_;rw [x04]))
 obtain ⟨bN,Af⟩:∃b,b=N.heap.size:=⟨_,rfl⟩
 have AA:Below N.heap.size N (N.alloc (.cells #[.int .u8 1,.slice (some ⟨I,0,none⟩) 1 ce,.slice (some ⟨gk,0,none⟩) 2 ck] 81)):=(Below.refl _ _).alloc (Nat.le_refl _) _
 have Aa:=heap_alloc_new N (.cells #[.int .u8 1,.slice (some ⟨I,0,none⟩) 1 ce,.slice (some ⟨gk,0,none⟩) 2 ck] 81)
 have Bc:(N.alloc (.cells #[.int .u8 1,.slice (some ⟨I,0,none⟩) 1 ce,.slice (some ⟨gk,0,none⟩) 2 ck] 81)).heap.size=N.heap.size+1:=by simp
 generalize N.alloc (.cells #[.int .u8 1,.slice (some ⟨I,0,none⟩) 1 ce,.slice (some ⟨gk,0,none⟩) 2 ck] 81)=w6 at *
 rw [← Af] at Aa ⊢
 obtain ⟨⟨rp,rn,rc,rR⟩,lw⟩:=ew
 obtain rfl:rR=[2]:=HR.out
 obtain ⟨-,-,Bp,C0,o,h2,G,-,-,v,-,-,Ay,Bd⟩:=x1i Ad.out
 simp only [Option.some.injEq,Addr.mk.injEq,and_true] at o h2
 subst o h2
 have AY:=(Ad.out.ents.each _ (List.mem_singleton.2 rfl) _ (List.mem_singleton.2 rfl)).1.lo
 obtain rfl:rn=1:=v.ints.size
 obtain ⟨l,M,BG,Ah⟩:=v.ints.at'.resolve_left (by simp)
 simp only at BG AY
 subst BG
 have Ar:w4.heap.size≤l:=AY ⟨l,M,none⟩ rfl (by simp)
 have A1:w6.cell? ⟨I,0,none⟩=some (.slice (some ⟨l,M,none⟩) 1 rc):=(AA.cell (block_lt_of_cell (G 0 _ rfl))).trans (G 0 _ rfl)
 have A0:w6.cell? ⟨l,M,none⟩=some (.int .i64 2):=(AA.cell (block_lt_of_cell (Ah 0 (by simp)))).trans (Ah 0 (by simp))
 have HC:=yH (And.intro A1 A0)
 have HG:=yH (And.intro Ay Ar)
 have Ap:=yH Aa
 have A8:=yH (AF.out.trans (AA.mono AF.out.size))
 have Ak:=yH (Ag.out.keep (fun _=>False) (Only.of_below _ A8.out) (fun _ _ e=>e))
 have Ao:=yH (show bN=N.heap.size∧w6.heap.size=bN+1∧w4.heap.size≤bN from ⟨Af,by omega,by have:=AF.out.size;omega⟩)
 have AR:=yH (Ab.out.trans (A8.out.mono Ab.out.size))
 have AO:=yH (yK A8.out At.out)
 have AI:=yH (show ∀k,Q3 k→w.heap.size≤k∧k<H from fun k hk=>⟨An.out k hk,by rw [AE.out.1];exact AK.out k hk⟩)
 clear AA Aa Bc Af Ay Bd v AY Ah Ar G A1 A0 HR Ad BA At Ag Ab AF Aq An AK
 go_upto_region 5 with fail
 obtain ⟨A,t⟩:∃b,b=w6.heap.size:=⟨_,rfl⟩
 have P:Below w6.heap.size w6 (w6.alloc (.cells kd0.cells.toArray 34)):=(Below.refl _ _).alloc (Nat.le_refl _) _
 have AZ:=heap_alloc_new w6 (.cells kd0.cells.toArray 34)
 have BQ:(w6.alloc (.cells kd0.cells.toArray 34)).heap.size=w6.heap.size+1:=by simp
 generalize w6.alloc (.cells kd0.cells.toArray 34)=w7 at *
 rw [← t] at AZ ⊢
 have HT:=yH (show A=w6.heap.size∧w7.heap.size=A+1 from ⟨t,by omega⟩)
 have Ac:=yH (show w7.cell? ⟨I,0,none⟩=some (.slice (some ⟨l,M,none⟩) 1 rc)∧w7.cell? ⟨l,M,none⟩=some (.int .i64 2)∧I<A∧l<A from ⟨(P.cell (block_lt_of_cell HC.out.1)).trans HC.out.1,(P.cell (block_lt_of_cell HC.out.2)).trans HC.out.2,by rw [t];exact block_lt_of_cell HC.out.1,by rw [t];exact block_lt_of_cell HC.out.2⟩)
 have BR:=yH (yK P Ap.out)
 have Am:=yH (yK P AO.out)
 have HW:=yH (show w.heap.size≤H∧H<bN∧bN<A from ⟨by rw [AE.out.1];exact BD.out,by have:=AE.out.2;have:=Ao.out.2.2;omega,by have:=Ao.out.2.1;have:=HT.out.1;omega⟩)
 have HST:=yH (show AlSt w w7 g H A 4 kd0 Q3 w7 from ⟨x1u w7,x8N,y5a _,AZ,Ak.out.keep (fun _=>False) (Only.of_below _ P) (fun _ _ e=>e),fun k hk=>Or.inl (AI.out k hk),fun _ _ _ _=>rfl,AR.out.trans (P.mono AR.out.size),Nat.le_refl _⟩)
 clear P AZ BQ t HC Ap AO AR Ak A8 AI Bb
 go_upto_region 6 with fail
 go_loopw [7] (fun i wr=>AlRel w w7 g H A i wr) (fun i _=>7 - (intOf i).toNat)
 case atStart=>exact ⟨4,kd0,Q3,by omega,by omega,rfl,HST.out⟩
 case round=>
  obtain ⟨m,kt,Q,Bq,Bu,rfl,O⟩:=hrel
  have L:=yH O
  have AX:=yH (Kd.cells_length O.ok.len)
  have RT:=yH (x0E O.row)
  clear O HST
  by_cases hlt:m<7
  ·have l1:(m:Int)<7:=by omega
   have Z:Below wr.heap.size wr (wr.alloc (.cells #[.int .i64 (m:Int)] 2)):=(Below.refl _ _).alloc (Nat.le_refl _) _
   have BB:=heap_alloc_new wr (.cells #[.int .i64 (m:Int)] 2)
   have U:=x9x (gs:=g) (d:=1) (by omega) (x7f (m - 4)).texts (V.of (exs (m - 4))) kt ⟨some ⟨wr.heap.size,0,none⟩,1,1,[(m:Int)]⟩ _ (L.out.st.keep (fun _=>False) (Only.of_below _ Z) (fun _ _ e=>e)) (x95 (m - 4) (by omega)) (L.out.ok.later Z) L.out.pk (x4d ⟨by omega,by omega⟩ BB) rfl (by have:=x96 (m - 4);omega) L.out.aw (fun y hy _ e=>by
    cases hy
    have:=L.out.st.lt _ e
    simp only at this
    omega) (by have:=y4x (m - 4);omega)
   have hi:=y5Y (m - 4) (by omega)
   rw [show 4+(m - 4)=m by omega] at hi
   simp only at U
   rw [hi] at U
   clear hi
   have B9:=yH (show Calls Tryz.prog 15 #[.pointer (some ⟨g,0,none⟩),.agg kt.cells.toArray,.slice (some ⟨wr.heap.size,0,none⟩) 1 1,.int .i64 1] (wr.alloc (.cells #[.int .i64 (m:Int)] 2)) fun e w2=>∃(kd':Kd) (Q':Nat→Prop),e= .returned (.tuple #[.agg kd'.cells.toArray,.int .i64 0])∧AlSt w w7 g H A (m+1) kd' Q' (w2.setRow A kd'.cells.toArray)∧kd'.cells.length=37∧w2.heap[A]? =some (.cells kt.cells.toArray 34 (0,0)) from U.mono fun e w2 h=>by
    have h:Told2 _ g Q (V.of (exs (m - 4+1))) (puts (exS (m - 4)) (exs (m - 4+1)).pages) e w2:=h
    rw [x94 (m - 4) (by omega),show m - 4+1=m+1 - 4 by omega] at h
    obtain ⟨kd',Q',rfl,o,h2,h3,h4,h5,h6,h7⟩:=h
    have s1:=Z.size
    have s2:=L.out.size
    have s3:=HT.out.2
    have s4:=HW.out
    have s5:A<(wr.alloc (.cells #[.int .i64 (m:Int)] 2)).heap.size:=by omega
    refine ⟨kd',Q',rfl,L.out.next (by omega) (by omega) (by omega) Z h2 o h3 h4 h5 h6 h7,Kd.cells_length h2.len,(h7.block A s5 (fun e=>?_)).trans ((Z.block A (by omega)).trans L.out.row)⟩
    rcases L.out.own A e with e | e<;>omega)
   clear U Z BB
   go_wp2_with (first
    | (refine wpList_load_mid (by rfl) 34 _ (by rfl) A 0 (by rfl) kt.cells du RT.out Ai.out Ae.out (by rw [AX.out];exact SKd) ?_)
    | (go_at_call 15;refine B9.out.mono ?_;rintro _ w8 ⟨kd',Q',rfl,O,B8,G⟩;have ST8:=yH O;have AN:=yH B8;have B0:=yH G;clear O B8 G)
    | (refine wpList_store_row (by rfl) 34 (.tmp 6) (.tmp 36) (by rfl) A kd'.cells.toArray (by rfl) (by rfl) _ _ B0.out (by rw [List.size_toArray,AN.out];exact SKd) (by simp only [List.size_toArray,AN.out,AX.out]) (all_oneCell_toArray Kd.one) ?_))
   go_roundw
   case rel=>exact ⟨m+1,kd',Q',by omega,by omega,by go_num,ST8.out⟩
   case measure=>simp [intOf];omega
  ·obtain rfl:m=7:=by omega
   have hh:=x68 (gs:=g) (d:=1) (by omega) (x7f (7 - 4)).texts (V.of (exs (7 - 4))) kt wr L.out.st (x95 (7 - 4) (by omega)) L.out.ok L.out.pk (by have:=x96 (7 - 4);omega)
   have HH:=yH (show Calls Tryz.prog 24 #[.pointer (some ⟨g,0,none⟩),.agg kt.cells.toArray,.int .i64 1] wr fun e w8=>e= .returned (.tuple #[.int .i64 3,.int .i64 0])∧Below wr.heap.size wr w8 from hh.mono fun e w8 ⟨o,h2,_⟩=>⟨by
    have h:=h2 (x4b _)
    rw [y3M] at h
    exact h,o⟩)
   clear hh
   have B:∀a:Addr,H≤a.block→a.block<A→wr.cell? a=w7.cell? a:=fun a o h2=>World.cell?_of_block (L.out.kept a.block o (by have:=HT.out.2;omega) (by omega))
   have B5:Y.size=3:=(congrArg PK.size B4.out).trans y3K
   have B7:kt.live=3:=(congrArg PK.live L.out.pk).trans y3L
   have W:=(x0M Am.out As.out.len).size
   have X:=(x0M L.out.row L.out.ok.len).live
   rw [B5] at W
   rw [B7] at X
   rw [Nat.zero_add] at W X
   have C:=yH (show wr.cell? ⟨bN,1,none⟩=some (.slice (some ⟨I,0,none⟩) 1 ce)∧wr.cell? ⟨I,0,none⟩=some (.slice (some ⟨l,M,none⟩) 1 rc)∧wr.cell? ⟨l,M,none⟩=some (.int .i64 2)∧wr.cell? ⟨H,35,none⟩=some (.int .i64 3)∧wr.cell? ⟨A,34,none⟩=some (.int .i64 3) from by
    have s:=AE.out.2
    have s2:=HW.out
    have s3:=HG.out
    have s4:=Ac.out.2.2
    refine ⟨(B ⟨bN,1,none⟩ (by show H≤bN;omega) (by show bN<A;omega)).trans (cell_of_row w7 bN 1 _ _ _ BR.out),(B ⟨I,0,none⟩ (by show H≤I;omega) (by show I<A;omega)).trans Ac.out.1,(B ⟨l,M,none⟩ (by show H≤l;omega) (by show l<A;omega)).trans Ac.out.2.1,(B ⟨H,35,none⟩ (by show H≤H;omega) (by show H<A;omega)).trans W,X⟩)
   clear B B5 B7 W X hlt
   go_upto_region 10 with (first
    | (refine wpList_load_mid (by rfl) 34 _ (by rfl) A 0 (by rfl) kt.cells du RT.out Ai.out Ae.out (by rw [AX.out];exact SKd) ?_)
    | (go_at_call 24;refine HH.out.mono ?_;rintro _ w8 ⟨rfl,Az⟩;have j:=yH Az;clear Az))
   have c1:=(j.out.cell (block_lt_of_cell C.out.1)).trans C.out.1
   have c2:=(j.out.cell (block_lt_of_cell C.out.2.1)).trans C.out.2.1
   have c3:=(j.out.cell (block_lt_of_cell C.out.2.2.1)).trans C.out.2.2.1
   have c4:=(j.out.cell (block_lt_of_cell C.out.2.2.2.1)).trans C.out.2.2.2.1
   have c5:=(j.out.cell (block_lt_of_cell C.out.2.2.2.2)).trans C.out.2.2.2.2
   go_wp2_with fail
   go_ret
   exact ⟨rfl,L.out.low.trans (j.out.mono L.out.low.size)⟩
def Mine (B d:Nat) (w:World) (v:Value) (O:List Rw):Prop:=w.ownsRow B 24 1 v O.length (hds O)∧∀x∈O,x.Ok w∧x.n=d∧∀y,x.p=some y→x.R≠[]→v.ownBlock≠some y.block∧B≤y.block
theorem y3N (B d:Nat) (w:World):Mine B d w (.slice none 0 0) []:=⟨⟨rfl,Or.inl ⟨rfl,rfl⟩⟩,fun r hr=>by cases hr⟩
theorem Mine.later {B d:Nat} {w w':World} {v:Value} {O:List Rw} (h:Mine B d w v O) (hb:Below w.heap.size w w'):Mine B d w' v O:=by
 obtain ⟨⟨I,H⟩,E⟩:=h
 refine ⟨⟨I,H.imp id ?_⟩,fun x hx=>⟨(E x hx).1.later hb,(E x hx).2⟩⟩
 rintro ⟨g,C,A,J,K,G,r⟩
 exact ⟨g,C,A,J,K,(hb.block _ (yL G)).trans G,r⟩
theorem Mine.rows {B d:Nat} {w:World} {v:Value} {O:List Rw} (h:Mine B d w v O):∃q c,v= .slice q O.length c∧RowsIn w q O.length c O:=Own.rows ⟨h.1,fun r hr=>(h.2 r hr).1⟩
theorem y4y {B d:Nat} {w:World} {v:Value} {O:List Rw} {r:Rw} (h:Mine B d w v O) (hr:r.Ok w∧r.n=d∧∀y,r.p=some y→r.R≠[]→v.ownBlock≠some y.block∧B≤y.block) (hB:B≤w.heap.size) {o:Oper} {a:Act} {K:Act→World→Prop} {Qx:Exit→Act→World→Prop} (y x:Operand)
  (ho:o.op= .call {callee:=.builtin .append,args:= #[y,x],argTypes:= #[51,51]}) (hs:a.eval y=v) (hx:a.eval x= .slice (some ⟨w.heap.size,0,none⟩) 1 1) (hlen:O.length≤100000)
  (hK:∀v' w',Mine B d w' v' (O++[r])→Below B w w'→K (a.put o.dst v') w'):o.wp Tryz.prog a (w.alloc (.cells #[r.val] 24)) K Qx:=by
 obtain ⟨i,Y,J,L,I⟩:=info_parts IRs
 have A:Below w.heap.size w (w.alloc (.cells #[r.val] 24)):=(Below.refl _ _).alloc (Nat.le_refl _) _
 have W:=h.1
 have X:=(h.later A).1
 have Z:∀z∈O++[r],z.Ok w∧z.n=d∧∀y,z.p=some y→z.R≠[]→v.ownBlock≠some y.block∧B≤y.block:=fun z C=>by
  rcases List.mem_append.1 C with C | C
  ·exact h.2 z C
  ·rw [List.mem_singleton.1 C]
   exact hr
 refine x0N y x 51 ho B 24 i _ 1 24 URSs Y J L I (by rfl) (by decide) v O.length _ hs X ⟨w.heap.size,0,none⟩ 1 1 (hds [r]) hx (by simp [hds]) (x4A w r.p r.n r.c r.R) (x1Q _) (by unfold maxLen;omega) (by omega) (by simp;omega) fun v' w' k1 k2 k3=>?_
 rw [← x0c] at k1
 obtain ⟨g,c,rfl,f,j,Q,b,N⟩:=x89 k1 (by omega)
 have E:Only (fun k=>v.ownBlock=some k) w w':=⟨k2.os.trans A.os,k2.tape.trans A.tape,k2.output.trans A.output,Nat.le_trans A.size k2.size,fun k hk hne=>(k2.block k (Nat.lt_of_lt_of_le hk A.size) (fun e=>hne e.symm)).trans (A.block k hk)⟩
 have G:v.ownBlock=some g∨w.heap.size+1≤g:=by
  rcases k3 with e | e
  ·exact Or.inl e.symm
  ·right
   have e:some g=some (w.alloc (.cells #[r.val] 24)).heap.size:=e
   have:=Option.some.inj e
   simp at this
   omega
 refine hK _ w' ⟨by rw [List.length_append];exact k1,fun z C=>?_⟩ (E.below hB fun k hk=>(W.lt k hk).1)
 obtain ⟨M,U,H⟩:=Z z C
 refine ⟨Nd.rw_keep M fun t ht hR=>E.block _ (rw_lt M t ht hR) (H t ht hR).1,U,fun t ht hR=>⟨fun e=>?_,(H t ht hR).2⟩⟩
 have e:some g=some t.block:=e
 have e:=Option.some.inj e
 rcases G with P | P
 ·exact (H t ht hR).1 (by rw [P,e])
 ·have:=rw_lt M t ht hR
  omega
end Go.Proofs.YtinihaflmdihaaaGreat.Kt
namespace Go.Proofs.YtinihaflmdihaaaGreat.Kt
open Go.RowKit
end Go.Proofs.YtinihaflmdihaaaGreat.Kt
namespace Go.Proofs.YtinihaflmdihaaaGreat.Nd
open Go.RowKit Go.Proofs.YtinihaflmdihaaaGreat.Mo Go.Proofs.YtinihaflmdihaaaGreat.Zr
open List renaming setIfInBounds_toArray → yA, set_cons_zero → yB, set_cons_succ → yC
def y4z (w2:World) (gb d:Nat) (R S T U:List Int) (i:Value) (wr:World):Prop:=∃(j:Nat) (u v:Value),j≤d∧i= .int .i64 j∧TwoR w2 wr gb u v j j (two min R T j) (two max S U j)
def AwayP (X:Nat) (p:Option Addr) (R:List Int):Prop:=∀x,p=some x→R≠[]→x.block≠X
def x97 (w:World) (p q s t:Option Addr) (R S T U A B:List Int) (v:Value):Prop:=
 ∃a n c b m e,v= .agg #[.slice a n c,.slice b m e]∧∀X,X<w.heap.size→AwayP X p R→AwayP X q S→AwayP X s T→AwayP X t U→AwayP X a A∧AwayP X b B
theorem x98 (p q s t:Option Addr) (n c m e k f l h:Nat) (R S T U:List Int) (w:World) (h1:Ints w p n c R) (h2:Ints w q m e S) (h3:Ints w s k f T) (h4:Ints w t l h U):
  Calls Tryz.prog 115 #[.agg #[.slice p n c,.slice q m e],.agg #[.slice s k f,.slice t l h]] w fun e w'=>∃v,e= .returned v∧x6I w (hull (R,S) (T,U)).1 (hull (R,S) (T,U)).2 v w'∧x97 w p q s t R S T U (hull (R,S) (T,U)).1 (hull (R,S) (T,U)).2 v:=by
 obtain ⟨i2,hi,AO,AP,AH⟩:=info_parts I2h
 have HI:=yH hi
 have A3:=yH AO
 have A5:=yH AP
 have A6:=yH AH
 clear hi AO AP AH
 have hn:=h1.size
 have hm:=h2.size
 have hk:=h3.size
 have hl:=h4.size
 have hx:x0d R S n m n=rb R S:=by rw [hn,hm];rfl
 have hy:x0d T U k l k=rb T U:=by rw [hk,hl];rfl
 obtain ⟨F,N⟩:∃F,hull (R,S) (T,U)=F:=⟨_,rfl⟩
 have A2:=N
 unfold hull at A2
 simp only at A2
 rw [N]
 have HX:=yH hx
 have HY:=yH hy
 have HF:=yH A2
 have AX:=yH (fun h=>x6v (R:=R) (S:=S) h)
 have AV:=yH (fun h=>x6v (R:=T) (S:=U) h)
 generalize rb R S=x at *
 generalize rb T U=y at *
 have HN:=yH hn
 have HM:=yH hm
 have HK:=yH hk
 have Ap:=yH hl
 clear hx hy N A2 hn hm hk hl
 go_enter Tryz.func115,Tryz.ntmps115
 go_upto_region 1 with fail
 obtain ⟨o,AG,AN⟩:=x8J h1 h2 h3 h4
 generalize (((w.alloc (.cells #[.slice p n c,.slice q m e] 32)).alloc (.cells #[.slice s k f,.slice t l h] 32)).alloc (.cells #[.slice none 0 0,.slice none 0 0] 32))=w1 at *
 have HC:=yH o
 have HB:=yH AG
 have HZ:=yH AN
 have H1:=yH h1
 have H2:=yH h2
 have H3:=yH h3
 have H4:=yH h4
 clear o AG AN h1 h2 h3 h4
 refine wp_region_held_drew (S:=fun w'=>BH w' w.heap.size p q s t n c m e k f l h R S T U) (by kernel_rfl) (HC.out.later (Below.refl _ _).drew) (fun A=>?_)
 refine tQ 0 ?_ ?_ ?_
 rotate_left
 ·intro w' hSw
  have a0:=cell_of_row w' w.heap.size 0 _ _ _ hSw.a
  have a1:=cell_of_row w' w.heap.size 1 _ _ _ hSw.a
  go_simp
  try with_reducible rfl
 refine tK 1 ?_
 refine tQ 2 ?_ ?_ ?_
 rotate_left
 ·intro w' hSw
  have a0:=cell_of_row w' w.heap.size 0 _ _ _ hSw.a
  go_simp
  try with_reducible rfl
 refine tK 3 ?_
 refine tQ 5 ?_ ?_ ?_
 rotate_left
 ·intro w' hSw
  have b0:=cell_of_row w' (w.heap.size+1) 0 _ _ _ hSw.b
  have b1:=cell_of_row w' (w.heap.size+1) 1 _ _ _ hSw.b
  go_simp
  try with_reducible rfl
 refine tK 6 ?_
 refine tQ 7 ?_ ?_ ?_
 rotate_left
 ·intro w' hSw
  have b0:=cell_of_row w' (w.heap.size+1) 0 _ _ _ hSw.b
  go_simp
  try with_reducible rfl
 refine tK 8 ?_
 refine rO 4 fun K hK=>?_
 go_simp
 refine (x4E p q n c m e R S n _ A.i1 A.i2).mono ?_
 rintro _ w2 ⟨rfl,AC⟩
 rw [HX.out]
 have h2:=A.later AC
 have AI:=yH (HB.out.drew.trans (AC.mono HB.out.size))
 try go_wp2_with fail
 refine hK.out _ _ h2 (fun A=>?_)
 clear hK K
 try simp only [Act.put,yA,yB,yC]
 refine rO 9 fun K hK=>?_
 go_simp
 refine (x4E s t k f l h T U k _ A.i3 A.i4).mono ?_
 rintro _ E ⟨rfl,A7⟩
 rw [HY.out]
 have h3:=A.later A7
 have A0:=yH (AI.out.trans (A7.mono AI.out.size))
 try go_wp2_with fail
 refine hK.out _ _ h3 (fun A=>?_)
 clear hK K
 try simp only [Act.put,yA,yB,yC]
 refine tK 10 ?_
 refine tK 11 ?_
 refine wpAnyH_done (by kernel_rfl) ?_ _
 have C:=yH A
 clear A h3 A7 h2 AC HC HB
 obtain ⟨a0,a1,b0,b1,z0,z1,z2,z3⟩:=C.out.cells
 have hr:=C.out.r
 cases x
 ·cases y
  ·have N:=HF.out
   rw [if_neg (by simp),if_neg (by simp),if_pos (Or.inl rfl)] at N
   subst N
   go_wp2_with fail
   have M:=heap_setCell_same E (w.heap.size+2) 0 _ _ (.slice none 0 0) hr
   have G:=heap_setCell_same _ (w.heap.size+2) 1 _ _ (.slice none 0 0) M
   refine x3E 4 rfl (w.heap.size+2) (.slice none 0 0) (.slice none 0 0) (by rfl) (cell_of_row _ (w.heap.size+2) 0 _ _ _ G) (cell_of_row _ (w.heap.size+2) 1 _ _ _ G) ⟨_,rfl,x8K ?_ ?_ ((A0.out.setCell (by show w.heap.size≤w.heap.size+2;omega) _).setCell (by show w.heap.size≤w.heap.size+2;omega) _),⟨_,_,_,_,_,_,rfl,fun _ _ _ _ _ _=>⟨fun _ _ h=>absurd rfl h,fun _ _ h=>absurd rfl h⟩⟩⟩
   ·exact x2W _ _ _
   ·exact x2W _ _ _
  ·have N:=HF.out
   rw [if_neg (by simp),if_pos (by simp)] at N
   subst N
   go_wp2_with fail
   have M:=heap_setCell_same E (w.heap.size+2) 0 _ _ (.slice s k f) hr
   have G:=heap_setCell_same _ (w.heap.size+2) 1 _ _ (.slice t l h) M
   refine x3E 4 rfl (w.heap.size+2) (.slice s k f) (.slice t l h) (by rfl) (cell_of_row _ (w.heap.size+2) 0 _ _ _ G) (cell_of_row _ (w.heap.size+2) 1 _ _ _ G) ⟨_,rfl,x8K ?_ ?_ ((A0.out.setCell (by show w.heap.size≤w.heap.size+2;omega) _).setCell (by show w.heap.size≤w.heap.size+2;omega) _),⟨_,_,_,_,_,_,rfl,fun _ _ _ _ h1 h2=>⟨h1,h2⟩⟩⟩
   ·exact H3.out
   ·exact H4.out
 ·cases y
  ·have N:=HF.out
   rw [if_pos (by simp)] at N
   subst N
   go_wp2_with fail
   have M:=heap_setCell_same E (w.heap.size+2) 0 _ _ (.slice p n c) hr
   have G:=heap_setCell_same _ (w.heap.size+2) 1 _ _ (.slice q m e) M
   refine x3E 4 rfl (w.heap.size+2) (.slice p n c) (.slice q m e) (by rfl) (cell_of_row _ (w.heap.size+2) 0 _ _ _ G) (cell_of_row _ (w.heap.size+2) 1 _ _ _ G) ⟨_,rfl,x8K ?_ ?_ ((A0.out.setCell (by show w.heap.size≤w.heap.size+2;omega) _).setCell (by show w.heap.size≤w.heap.size+2;omega) _),⟨_,_,_,_,_,_,rfl,fun _ _ h1 h2 _ _=>⟨h1,h2⟩⟩⟩
   ·exact H1.out
   ·exact H2.out
  ·by_cases hnk:(n:Int)=k
   case neg=>
    have N:=HF.out
    rw [if_neg (by simp),if_neg (by simp),if_pos (Or.inr (by have:=HN.out;have:=HK.out;omega))] at N
    subst N
    have b9:((n:Int) !=k)=true:=by simp;omega
    go_wp2_with fail
    have M:=heap_setCell_same E (w.heap.size+2) 0 _ _ (.slice none 0 0) hr
    have G:=heap_setCell_same _ (w.heap.size+2) 1 _ _ (.slice none 0 0) M
    refine x3E 4 rfl (w.heap.size+2) (.slice none 0 0) (.slice none 0 0) (by rfl) (cell_of_row _ (w.heap.size+2) 0 _ _ _ G) (cell_of_row _ (w.heap.size+2) 1 _ _ _ G) ⟨_,rfl,x8K ?_ ?_ ((A0.out.setCell (by show w.heap.size≤w.heap.size+2;omega) _).setCell (by show w.heap.size≤w.heap.size+2;omega) _),⟨_,_,_,_,_,_,rfl,fun _ _ _ _ _ _=>⟨fun _ _ h=>absurd rfl h,fun _ _ h=>absurd rfl h⟩⟩⟩
    ·exact x2W _ _ _
    ·exact x2W _ _ _
   obtain ⟨r1,r2,r3⟩:=AX.out rfl
   obtain ⟨r4,r5,r6⟩:=AV.out rfl
   obtain rfl:k=n:=by omega
   obtain rfl:m=k:=by have:=HN.out;have:=HM.out;omega
   obtain rfl:l=m:=by have:=HK.out;have:=Ap.out;omega
   have B9:l≤8:=by have:=HN.out;omega
   have N:=HF.out
   rw [if_neg (by simp),if_neg (by simp),if_neg (by have:=HN.out;have:=HK.out;simp;omega),← HN.out] at N
   subst N
   clear r1 r2 r3 r4 r5 r6 HF hnk
   have HT0:=yH (TwoR.start E E (Below.refl _ _))
   have b9:((l:Int) !=l)=false:=by simp
   go_upto_region 9 with fail
   clear a0 a1 b0 b1 z0 z1 z2 z3
   obtain ⟨W,Z⟩:∃W,W=E.heap.size:=⟨_,rfl⟩
   rw [← Z] at HT0
   rw [← Z]
   have BD:=yH Z
   have A4:=yH (show w.heap.size+2<W from by rw [Z];exact (yL C.out.r))
   clear Z
   have o:=C.out.later ((Below.refl _ _).alloc (Nat.le_refl _) (.cells #[.slice none 0 0,.slice none 0 0] 32))
   generalize E.alloc (.cells #[.slice none 0 0,.slice none 0 0] 32)=w4 at *
   have Ab:=yH o
   clear o
   go_wp2_with fail
   go_loopw [8] (fun i wr=>y4z E W l R S T U i wr) (fun i _=>l - (intOf i).toNat)
   case atStart=>exact ⟨0,_,_,by omega,rfl,HT0.out⟩
   case round=>
    obtain ⟨j,u,v,hj,rfl,ht⟩:=hrel
    have Q:=yH ht
    have AB:=yH (C.out.later Q.out.low)
    clear ht Ab
    obtain ⟨pu,d,rfl⟩:=x1d Q.out.own1
    obtain ⟨pv,Y,rfl⟩:=x1d Q.out.own2
    obtain ⟨a0,a1,b0,b1,z0,z1,z2,z3⟩:=AB.out.cells
    obtain ⟨cu,cv,cf,cg⟩:=Q.out.facts
    by_cases hlt:j<l
    ·obtain ⟨x1,o1,rfl,k1⟩:=C.out.i1.cell j hlt
     obtain ⟨x2,o2,rfl,k2⟩:=C.out.i2.cell j hlt
     obtain ⟨x3,o3,rfl,k3⟩:=C.out.i3.cell j hlt
     obtain ⟨x4,o4,rfl,k4⟩:=C.out.i4.cell j hlt
     have i1:(0:Int)≤j∧(j:Int)<l:=by omega
     have HS:=yH (x8L min R T j)
     have AL:=yH (x8L max S U j)
     generalize R.getD j 0=x at *
     generalize S.getD j 0=y at *
     generalize T.getD j 0=z at *
     generalize U.getD j 0=vv at *
     go_upto_region 12 with fail
     have B:=yH (Q.out.later (Below.refl _ _).drew)
     go_cut [] from 50 to 65 (fun wx=>∃ua,TwoR E wx W ua (.slice pv j Y) (j+1) j (two min R T j++[min x z]) (two max S U j))
     case first=>
      refine wp_region_held_drew (S:=fun w'=>Below E.heap.size E w') (by kernel_rfl) B.out.low (fun A=>?_)
      refine tK 0 ?_
      refine tK 2 ?_
      refine tQ 3 ?_ ?_ ?_
      rotate_left
      ·intro w' hSw
       have a0:=cell_of_row w' w.heap.size 0 _ _ _ (C.out.later hSw).a
       go_simp
       try with_reducible rfl
      refine tK 4 ?_
      refine tK 5 ?_
      refine tQ 6 ?_ ?_ ?_
      rotate_left
      ·intro w' hSw
       have k9:=(hSw.cell (block_lt_of_cell k1)).trans k1
       go_simp
       try with_reducible rfl
      refine tK 7 ?_
      refine tQ 8 ?_ ?_ ?_
      rotate_left
      ·intro w' hSw
       have b0:=cell_of_row w' (w.heap.size+1) 0 _ _ _ (C.out.later hSw).b
       go_simp
       try with_reducible rfl
      refine tK 9 ?_
      refine tK 10 ?_
      refine tQ 11 ?_ ?_ ?_
      rotate_left
      ·intro w' hSw
       have k9:=(hSw.cell (block_lt_of_cell k3)).trans k3
       go_simp
       try with_reducible rfl
      refine tK 12 ?_
      refine rY [1,13] ?_
      refine rC (fun K hK=>?_) (rC (fun K hK=>?_) AllReadyH.nil)
      ·
       have cL:wr.drew.cell? ⟨W,0,none⟩=some (.slice pu j d):=cu
       go_simp
       refine hK.out _ _ A (fun A=>?_)
       clear hK K
       try simp only [Act.put,yA,yB,yC]
       refine rO 13 fun K hK=>?_
       go_simp
       have O:Below wr.heap.size wr ((wr.alloc (.cells #[.int .i64 (min x z)] 2)).drew):=((Below.refl _ _).alloc (Nat.le_refl _) _).drew
       have A:Below E.heap.size E ((wr.alloc (.cells #[.int .i64 (min x z)] 2)).drew):=A.alloc Q.out.low.size (.cells #[.int .i64 (min x z)] 2)
       try go_wp2_with fail
       refine hK.out _ _ A (fun A=>?_)
       clear hK K
       try simp only [Act.put,yA,yB,yC]
       refine rO 14 fun K hK=>?_
       refine x0N (.tmp 51) (.tmp 63) 24 (by rfl) (W+1) 2 i2 (.int .i64 0) 1 8 URh HI.out A3.out A5.out A6.out (by rfl) (by decide) _ j _ (by rfl) (show ((wr.alloc (.cells #[.int .i64 (min x z)] 2)).drew).ownsRow _ _ _ _ _ _ from B.out.own1.alloc _) ⟨wr.heap.size,0,none⟩ 1 1 (ivals [min x z]) (by rfl) (by rfl) (x21 (L:=[min x z]) (heap_alloc_new wr.drew _)) (x3D _) (by unfold maxLen;omega) (by omega) (by have h9:=Q.out.lt;simp;omega) ?_
       intro v4 w4 hown4 hgrow4 hat4
       obtain ⟨q4,c4,rfl⟩:=x1d hown4
       obtain ⟨⟨ca,cb⟩,H⟩:=TwoR.left B.out hown4 hgrow4 hat4
       have I:=yH H
       have h4:Below E.heap.size E w4:=(B.out.low.alloc B.out.low.size _).grown hgrow4 (by have:=Q.out.low.size;simp;omega) (fun g e=>by have:=(B.out.own1.lt g e).1;have:=Q.out.ge;omega)
       clear hown4 hgrow4 hat4 H
       refine hK.out _ _ h4 (fun A=>?_)
       clear hK K
       try simp only [Act.put,yA,yB,yC]
       refine tK 15 ?_
       refine rO 16 fun K hK=>?_
       go_simp
       try go_wp2_with fail
       refine hK.out _ _ I.out.low (fun A=>?_)
       clear hK K
       try simp only [Act.put,yA,yB,yC]
       refine wpAnyH_done (by kernel_rfl) ?_ _
       try go_wp2_with fail
       go_meet
       exact ⟨_,I.out⟩
      ·
       go_simp
       have O:Below wr.heap.size wr ((wr.alloc (.cells #[.int .i64 (min x z)] 2)).drew):=((Below.refl _ _).alloc (Nat.le_refl _) _).drew
       have A:Below E.heap.size E ((wr.alloc (.cells #[.int .i64 (min x z)] 2)).drew):=A.alloc Q.out.low.size (.cells #[.int .i64 (min x z)] 2)
       try go_wp2_with fail
       refine hK.out _ _ A (fun A=>?_)
       clear hK K
       try simp only [Act.put,yA,yB,yC]
       refine rO 1 fun K hK=>?_
       have cL:((wr.alloc (.cells #[.int .i64 (min x z)] 2)).drew).cell? ⟨W,0,none⟩=some (.slice pu j d):=(O.cell (block_lt_of_cell cu)).trans cu
       go_simp
       refine hK.out _ _ A (fun A=>?_)
       clear hK K
       try simp only [Act.put,yA,yB,yC]
       refine rO 14 fun K hK=>?_
       refine x0N (.tmp 51) (.tmp 63) 24 (by rfl) (W+1) 2 i2 (.int .i64 0) 1 8 URh HI.out A3.out A5.out A6.out (by rfl) (by decide) _ j _ (by rfl) (show ((wr.alloc (.cells #[.int .i64 (min x z)] 2)).drew).ownsRow _ _ _ _ _ _ from B.out.own1.alloc _) ⟨wr.heap.size,0,none⟩ 1 1 (ivals [min x z]) (by rfl) (by rfl) (x21 (L:=[min x z]) (heap_alloc_new wr.drew _)) (x3D _) (by unfold maxLen;omega) (by omega) (by have h9:=Q.out.lt;simp;omega) ?_
       intro v4 w4 hown4 hgrow4 hat4
       obtain ⟨q4,c4,rfl⟩:=x1d hown4
       obtain ⟨⟨ca,cb⟩,H⟩:=TwoR.left B.out hown4 hgrow4 hat4
       have I:=yH H
       have h4:Below E.heap.size E w4:=(B.out.low.alloc B.out.low.size _).grown hgrow4 (by have:=Q.out.low.size;simp;omega) (fun g e=>by have:=(B.out.own1.lt g e).1;have:=Q.out.ge;omega)
       clear hown4 hgrow4 hat4 H
       refine hK.out _ _ h4 (fun A=>?_)
       clear hK K
       try simp only [Act.put,yA,yB,yC]
       refine tK 15 ?_
       refine rO 16 fun K hK=>?_
       go_simp
       try go_wp2_with fail
       refine hK.out _ _ I.out.low (fun A=>?_)
       clear hK K
       try simp only [Act.put,yA,yB,yC]
       refine wpAnyH_done (by kernel_rfl) ?_ _
       try go_wp2_with fail
       go_meet
       exact ⟨_,I.out⟩
     case rest=>
      obtain ⟨ua,ht⟩:=hcut
      rw [← HS.out] at ht
      obtain ⟨pa,BB,rfl⟩:=x1d ht.own1
      have J:=yH ht
      clear ht Q B AB a0 a1 b0 b1 z0 z1 z2 z3 cu cv cf cg
      generalize hwb:wc=wb at *
      clear hwb
      obtain ⟨cu,cv,cf,cg⟩:=J.out.facts
      have B:=yH (J.out.later (Below.refl _ _).drew)
      go_upto_region 13 with fail
      refine wp_region_held_drew (S:=fun w'=>Below E.heap.size E w') (by kernel_rfl) B.out.low (fun A=>?_)
      refine tK 0 ?_
      refine tK 2 ?_
      refine tQ 3 ?_ ?_ ?_
      rotate_left
      ·intro w' hSw
       have a0:=cell_of_row w' w.heap.size 1 _ _ _ (C.out.later hSw).a
       go_simp
       try with_reducible rfl
      refine tK 4 ?_
      refine tK 5 ?_
      refine tQ 6 ?_ ?_ ?_
      rotate_left
      ·intro w' hSw
       have k9:=(hSw.cell (block_lt_of_cell k2)).trans k2
       go_simp
       try with_reducible rfl
      refine tK 7 ?_
      refine tQ 8 ?_ ?_ ?_
      rotate_left
      ·intro w' hSw
       have b0:=cell_of_row w' (w.heap.size+1) 1 _ _ _ (C.out.later hSw).b
       go_simp
       try with_reducible rfl
      refine tK 9 ?_
      refine tK 10 ?_
      refine tQ 11 ?_ ?_ ?_
      rotate_left
      ·intro w' hSw
       have k9:=(hSw.cell (block_lt_of_cell k4)).trans k4
       go_simp
       try with_reducible rfl
      refine tK 12 ?_
      refine rY [1,13] ?_
      refine rC (fun K hK=>?_) (rC (fun K hK=>?_) AllReadyH.nil)
      ·
       have cL:wb.drew.cell? ⟨W,1,none⟩=some (.slice pv j Y):=cv
       go_simp
       refine hK.out _ _ A (fun A=>?_)
       clear hK K
       try simp only [Act.put,yA,yB,yC]
       refine rO 13 fun K hK=>?_
       go_simp
       have O:Below wb.heap.size wb ((wb.alloc (.cells #[.int .i64 (max y vv)] 2)).drew):=((Below.refl _ _).alloc (Nat.le_refl _) _).drew
       have A:Below E.heap.size E ((wb.alloc (.cells #[.int .i64 (max y vv)] 2)).drew):=A.alloc J.out.low.size (.cells #[.int .i64 (max y vv)] 2)
       try go_wp2_with fail
       refine hK.out _ _ A (fun A=>?_)
       clear hK K
       try simp only [Act.put,yA,yB,yC]
       refine rO 14 fun K hK=>?_
       refine x0N (.tmp 67) (.tmp 79) 24 (by rfl) (W+1) 2 i2 (.int .i64 0) 1 8 URh HI.out A3.out A5.out A6.out (by rfl) (by decide) _ j _ (by rfl) (show ((wb.alloc (.cells #[.int .i64 (max y vv)] 2)).drew).ownsRow _ _ _ _ _ _ from B.out.own2.alloc _) ⟨wb.heap.size,0,none⟩ 1 1 (ivals [max y vv]) (by rfl) (by rfl) (x21 (L:=[max y vv]) (heap_alloc_new wb.drew _)) (x3D _) (by unfold maxLen;omega) (by omega) (by have h9:=J.out.lt;simp;omega) ?_
       intro v4 w4 hown4 hgrow4 hat4
       obtain ⟨q4,c4,rfl⟩:=x1d hown4
       obtain ⟨⟨ca,cb⟩,H⟩:=TwoR.right B.out hown4 hgrow4 hat4
       have I:=yH H
       have h4:Below E.heap.size E w4:=(B.out.low.alloc B.out.low.size _).grown hgrow4 (by have:=J.out.low.size;simp;omega) (fun g e=>by have:=(B.out.own2.lt g e).1;have:=J.out.ge;omega)
       clear hown4 hgrow4 hat4 H
       refine hK.out _ _ h4 (fun A=>?_)
       clear hK K
       try simp only [Act.put,yA,yB,yC]
       refine tK 15 ?_
       refine rO 16 fun K hK=>?_
       go_simp
       try go_wp2_with fail
       refine hK.out _ _ I.out.low (fun A=>?_)
       clear hK K
       try simp only [Act.put,yA,yB,yC]
       refine wpAnyH_done (by kernel_rfl) ?_ _
       have P:=I.out
       rw [← AL.out] at P
       have HT5:=yH P
       clear P
       go_wp2_with fail
       go_roundw
       case rel=>exact ⟨j+1,_,_,by omega,by go_num,HT5.out⟩
       case measure=>simp [intOf];omega
      ·
       go_simp
       have O:Below wb.heap.size wb ((wb.alloc (.cells #[.int .i64 (max y vv)] 2)).drew):=((Below.refl _ _).alloc (Nat.le_refl _) _).drew
       have A:Below E.heap.size E ((wb.alloc (.cells #[.int .i64 (max y vv)] 2)).drew):=A.alloc J.out.low.size (.cells #[.int .i64 (max y vv)] 2)
       try go_wp2_with fail
       refine hK.out _ _ A (fun A=>?_)
       clear hK K
       try simp only [Act.put,yA,yB,yC]
       refine rO 1 fun K hK=>?_
       have cL:((wb.alloc (.cells #[.int .i64 (max y vv)] 2)).drew).cell? ⟨W,1,none⟩=some (.slice pv j Y):=(O.cell (block_lt_of_cell cv)).trans cv
       go_simp
       refine hK.out _ _ A (fun A=>?_)
       clear hK K
       try simp only [Act.put,yA,yB,yC]
       refine rO 14 fun K hK=>?_
       refine x0N (.tmp 67) (.tmp 79) 24 (by rfl) (W+1) 2 i2 (.int .i64 0) 1 8 URh HI.out A3.out A5.out A6.out (by rfl) (by decide) _ j _ (by rfl) (show ((wb.alloc (.cells #[.int .i64 (max y vv)] 2)).drew).ownsRow _ _ _ _ _ _ from B.out.own2.alloc _) ⟨wb.heap.size,0,none⟩ 1 1 (ivals [max y vv]) (by rfl) (by rfl) (x21 (L:=[max y vv]) (heap_alloc_new wb.drew _)) (x3D _) (by unfold maxLen;omega) (by omega) (by have h9:=J.out.lt;simp;omega) ?_
       intro v4 w4 hown4 hgrow4 hat4
       obtain ⟨q4,c4,rfl⟩:=x1d hown4
       obtain ⟨⟨ca,cb⟩,H⟩:=TwoR.right B.out hown4 hgrow4 hat4
       have I:=yH H
       have h4:Below E.heap.size E w4:=(B.out.low.alloc B.out.low.size _).grown hgrow4 (by have:=J.out.low.size;simp;omega) (fun g e=>by have:=(B.out.own2.lt g e).1;have:=J.out.ge;omega)
       clear hown4 hgrow4 hat4 H
       refine hK.out _ _ h4 (fun A=>?_)
       clear hK K
       try simp only [Act.put,yA,yB,yC]
       refine tK 15 ?_
       refine rO 16 fun K hK=>?_
       go_simp
       try go_wp2_with fail
       refine hK.out _ _ I.out.low (fun A=>?_)
       clear hK K
       try simp only [Act.put,yA,yB,yC]
       refine wpAnyH_done (by kernel_rfl) ?_ _
       have P:=I.out
       rw [← AL.out] at P
       have HT5:=yH P
       clear P
       go_wp2_with fail
       go_roundw
       case rel=>exact ⟨j+1,_,_,by omega,by go_num,HT5.out⟩
       case measure=>simp [intOf];omega
    ·obtain rfl:j=l:=by omega
     go_wp2_with fail
     have M:=heap_setCell_same wr (w.heap.size+2) 0 _ _ (.slice pu j d) AB.out.r
     have G:=heap_setCell_same _ (w.heap.size+2) 1 _ _ (.slice pv j Y) M
     have e0:=x5d Q.out A0.out (w.heap.size+2) 0 (.slice pu j d) (by omega) A4.out
     have e5:=x5d e0 (Below.refl _ _) (w.heap.size+2) 1 (.slice pv j Y) (by omega) A4.out
     refine x3E 4 rfl (w.heap.size+2) (.slice pu j d) (.slice pv j Y) (by rfl) (cell_of_row _ (w.heap.size+2) 0 _ _ _ G) (cell_of_row _ (w.heap.size+2) 1 _ _ _ G) ⟨_,rfl,e5.done ?_ ?_,⟨_,_,_,_,_,_,rfl,fun X hX _ _ _ _=>⟨fun x hx _ e=>by have h1:=(e5.own1.lt x.block (by rw [hx];rfl)).1;have h2:=A4.out;omega,fun x hx _ e=>by have h1:=(e5.own2.lt x.block (by rw [hx];rfl)).1;have h2:=A4.out;omega⟩⟩⟩
     ·exact y3f (fun x y=>by omega) (fun i hi=>C.out.i1.get i hi) (fun i hi=>C.out.i3.get i hi)
     ·exact y3f (fun x y=>by omega) (fun i hi=>C.out.i2.get i hi) (fun i hi=>C.out.i4.get i hi)
end Go.Proofs.YtinihaflmdihaaaGreat.Nd
namespace Go.Proofs.YtinihaflmdihaaaGreat.Nd
open Go.RowKit
structure Few (E:List En) (K:List Kd):Prop where
 rows:E.length≤50
 kids:K.length≤50
 row:∀e∈E,e.row.n≤50
 lo:∀k∈K,k.lo.n≤50
 hi:∀k∈K,k.hi.n≤50
 key:∀k∈K,k.key.n≤50
end Go.Proofs.YtinihaflmdihaaaGreat.Nd
namespace Go.Proofs.YtinihaflmdihaaaGreat
open Go.RowKit
def x5P (w:World) (B:List Nat) (e:Ending) (w':World):Prop:=∃q c,e= .returned (.slice q B.length c)∧w'.ownsRow w.heap.size 5 1 (.slice q B.length c) B.length (vals B)∧Below w.heap.size w w'
theorem x4O (n:Nat) (hn:n<9223372036854775808) (w:World):
  Calls Tryz.prog 159 #[.int .i64 n] w (x5P w (Cm.be n 3)):=by
 have E:(0:Int)≤n:=by omega
 go_enter Tryz.func159,Tryz.ntmps159
 go_wp2_with fail
 go_ret
 rw [be3]
 have C:(n:Int)/65536%256=((n/65536%256:Nat):Int):=by omega
 have A:(n:Int)/256%256=((n/256%256:Nat):Int):=by omega
 have B:(n:Int)%256=((n%256:Nat):Int):=by omega
 rw [C,A,B]
 exact ⟨some ⟨w.heap.size,0,none⟩,3,rfl,x1b (L:=[n/65536%256,n/256%256,n%256]) (heap_alloc_new w _) rfl (Nat.le_refl _) (by unfold maxLen;decide) (Nat.le_refl _),(Below.refl _ _).alloc (Nat.le_refl _) _⟩
theorem make8 (w:World):(Instr.makeSlice 45 (.int .i64 8) (.int .i64 8)).run Tryz.prog w= .ok (.slice (some ⟨w.heap.size,0,none⟩) 8 8) (w.alloc (.cells (u8s (zeros 8)) 5)):=by kernel_rfl
def y3t (w:World) (g z:Nat) (u i:Value) (wr:World):Prop:=
 ∃j:Nat,j≤8∧i= .int .i64 ((j:Int) - 1)∧u= .int .u64 (z/256^(8 - j):Nat)∧wr.heap[g]? =some (.cells (u8s (zeros j++(Cm.be z 8).drop j)) 5 (0,0))∧Below w.heap.size w wr
theorem x9y (n:Int) (h1: -9223372036854775808≤n) (h2:n≤9223372036854775807) (w:World):
  Calls Tryz.prog 211 #[.int .i64 n] w (x5P w (Cm.num n)):=by
 have N:=y45 h1 h2
 have H:=(Cm.z64_lt h1 h2).1
 have P:=yH N
 have W:=fun w=>make8 w
 clear N
 go_enter Tryz.func211,Tryz.ntmps211
 go_wp2_with fail
 rw [P.out]
 have B:y3t w w.heap.size (Cm.z64 n) (.int .u64 (Cm.z64 n:Nat)) (.int .i64 7) (w.alloc (.cells (u8s (zeros 8)) 5)):=
  ⟨8,by omega,rfl,by simp,by rw [List.drop_eq_nil_of_le (by rw [Cm.be_length];exact Nat.le_refl _),List.append_nil];exact heap_alloc_new w _,(Below.refl _ _).alloc (Nat.le_refl _) _⟩
 have A:Cm.num n=Cm.be (Cm.z64 n) 8:=rfl
 have E:=yH A
 clear A
 generalize Cm.z64 n=z at *
 have HST:=yH B
 clear B W P
 go_loopw [3,5] (fun u i wr=>y3t w w.heap.size z u i wr) (fun _ i _=>(intOf i+1).toNat)
 case atStart=>exact HST.out
 case round=>
  obtain ⟨j,a,rfl,rfl,C,M⟩:=hrel
  have G:=yH C
  have O:=yH M
  clear C M HST
  by_cases h0:j=0
  ·subst h0
   go_wp2_with fail
   go_ret
   have C:=G.out
   rw [show zeros 0++(Cm.be z 8).drop 0=Cm.be z 8 from rfl] at C
   have L:=x1b (base:=w.heap.size) (n:=8) C (Cm.be_length z 8) (Nat.le_refl _) (by unfold maxLen;decide) (Nat.le_refl _)
   rw [List.take_of_length_le (by rw [Cm.be_length];exact Nat.le_refl _)] at L
   rw [E.out]
   refine ⟨some ⟨w.heap.size,0,none⟩,8,by rw [Cm.be_length];rfl,?_,O.out⟩
   rw [Cm.be_length]
   exact L
  ·obtain ⟨m,rfl⟩:∃m,j=m+1:=⟨j - 1,by omega⟩
   rw [show ((m+1:Nat):Int) - 1=(m:Int) from by omega]
   have Q:z/256^(8 - (m+1))<18446744073709551616:=Nat.lt_of_le_of_lt (Nat.div_le_self _ _) H
   have K:(Cm.be z 8).getD m 0=z/256^(8 - (m+1))%256:=by
    rw [Cm.be_get z 8 m (by omega),Cm.pow8]
    rw [show 8 - 1 - m=8 - (m+1) from by omega]
   have I:(Cm.be z 8).drop m=z/256^(8 - (m+1))%256::(Cm.be z 8).drop (m+1):=by
    rw [← K,List.drop_eq_getElem_cons (by rw [Cm.be_length];omega),List.getD_eq_getElem?_getD,List.getElem?_eq_getElem (by rw [Cm.be_length];omega)]
    rfl
   have J:z/256^(8 - m)=z/256^(8 - (m+1))/256:=by
    rw [Nat.div_div_eq_div_mul,← Nat.pow_succ]
    congr 2
    omega
   generalize z/256^(8 - (m+1))=U at *
   have X:=yH I
   have Z:=yH J
   clear K I J h0
   have R:(m:Int)<8:=by omega
   have B:wr.cell? ⟨w.heap.size,m,none⟩=some (.int .u8 ((zeros (m+1)++(Cm.be z 8).drop (m+1)).getD m 0:Nat)):=x1k G.out m (by simp [zeros];omega)
   have Y:wr.frozen? ⟨w.heap.size,m,none⟩=false:=frozen_of_row wr _ m _ _ G.out
   go_wp2_with fail
   go_roundw
   case rel=>
    refine ⟨m,by omega,rfl,?_,?_,O.out.setCell (Nat.le_refl _) _⟩
    ·rw [Z.out];exact congrArg (Value.int .u64) (by omega)
    ·rw [show (U:Int)%256=((U%256:Nat):Int) from by omega,heap_setCell_same _ _ _ _ _ _ G.out,X.out]
     have e:zeros (m+1)++(Cm.be z 8).drop (m+1)=zeros m++0::(Cm.be z 8).drop (m+1):=by
      have:zeros (m+1)=zeros m++[0]:=by simp [zeros,List.replicate_succ']
      rw [this,List.append_assoc]
      rfl
     rw [e,x6C (zeros m) _ 0 _ m (by simp [zeros])]
   case measure=>simp [intOf]
end Go.Proofs.YtinihaflmdihaaaGreat
