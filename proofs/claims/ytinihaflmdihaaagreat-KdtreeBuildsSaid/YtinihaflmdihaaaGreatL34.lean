/- KrKid, KrHeight, PgClash, PgSmall. -/
import Derived.Deep.MidRow
import Derived.BigRegion
import Derived.Lib.MinMax
import Derived.OwnWalk
import Derived.Test.YtinihaflmdihaaaGreatL33
set_option maxRecDepth 100000
set_option maxHeartbeats 8000000
set_option linter.all false
namespace Go.Proofs.YtinihaflmdihaaaGreat.Kt
open Go.RowKit Go.Proofs.YtinihaflmdihaaaGreat.Nd
theorem y03 {w w':World} {E:List En} {K:List Kd} {N:PN} {e:Ending} (h:RSayF w E K N e w') (hz:N.size≤1048576):∃kd:Kd,e= .returned (.tuple #[.agg kd.cells.toArray,.bool true])∧kd.pk=N.says∧kd.Ok w'∧Far w E K kd.rows∧Below w.heap.size w w':=by
 obtain ⟨I,⟨-,kd,A,H,G,C⟩ | ⟨B,-⟩⟩:=h
 ·exact ⟨kd,A,H,G,C,I⟩
 ·exact absurd hz B
theorem y23 {w w':World} {E:List En} {K:List Kd} {N:PN} {e:Ending} (h:RSayF w E K N e w') (hz:¬N.size≤1048576):∃kd:Kd,e= .returned (.tuple #[.agg kd.cells.toArray,.bool false])∧kd.pk=PK.none∧kd.Ok w'∧Far w E K kd.rows∧Below w.heap.size w w':=by
 obtain ⟨C,⟨B,-⟩ | ⟨-,A⟩⟩:=h
 ·exact absurd B hz
 ·refine ⟨kd0,A,x8N,x1u _,fun X _ _ _ r hr=>?_,C⟩
  simp only [Kd.rows,kd0,List.mem_cons,List.not_mem_nil,or_false] at hr
  rcases hr with rfl | rfl | rfl<;>exact x1U _ rfl
theorem y24 {w w':World} {E:List En} {K:List Kd} {N:PN} {e:Ending} (h:RSayF w E K N e w'):∃(kd:Kd) (b:Bool),e= .returned (.tuple #[.agg kd.cells.toArray,.bool b])∧kd.pk=(if N.size≤1048576 then N.says else PK.none)∧kd.Ok w'∧Far w E K kd.rows∧Below w.heap.size w w':=by
 by_cases hz:N.size≤1048576
 ·obtain ⟨kd,B,A,C⟩:=y03 h hz
  exact ⟨kd,true,B,by rw [if_pos hz];exact A,C⟩
 ·obtain ⟨kd,B,A,C⟩:=y23 h hz
  exact ⟨kd,false,B,by rw [if_neg hz];exact A,C⟩
theorem y58 {w:World} {p q:Option Addr} {c f:Nat} {E:List En} {K:List Kd} {d:Int} (hE:EntsIn w p 1 c E) (hK:KidsIn w q 2 f K) (h:(pnOf 1 E K).right d=true):Few E K:=by
 have B:=PN.fit h
 have C:∀e∈E,e.row.R.length≤8:=fun e he=>B.row e.pe (List.mem_map.2 ⟨e,he,rfl⟩)
 have A:∀k∈K,k.pk.Fit:=fun k hk=>B.kid k.pk (List.mem_map.2 ⟨k,hk,rfl⟩)
 have H:=hE.size
 have G:=hK.size
 exact ⟨by omega,by omega,fun e he=>by have:=C e he;rw [(hE.each e he).ints.size];omega,fun k hk=>by have:k.lo.R.length≤8:=(A k hk).lo;rw [(hK.each k hk).lo.ints.size];omega,fun k hk=>by have:k.hi.R.length≤8:=(A k hk).hi;rw [(hK.each k hk).hi.ints.size];omega,fun k hk=>by have:k.key.R.length≤8:=(A k hk).key;rw [(hK.each k hk).key.ints.size];omega⟩
theorem y3c {d:Nat} (hd:1≤d∧d≤8) (u:T):u.dims d→x7x u:=by
 induction u with
 | nil=>
  intro _ F p w h
  obtain rfl:p=none:=by cases h;rfl
  clear h
  obtain ⟨du,J,G⟩:=UKd
  have M:=yH J
  have O:=yH G
  have HZ:=yH (zero_of_info kz)
  have A1:=HZ.out.1
  have f:=heap_alloc_new w (.cells kd0.cells.toArray 34)
  have C:Below w.heap.size w (w.alloc (.cells kd0.cells.toArray 34)):=(Below.refl _ _).alloc (Nat.le_refl _) _
  clear J G
  go_enter Tryz.func22,Tryz.ntmps22
  go_upto_region 1 with fail
  generalize w.alloc (.cells kd0.cells.toArray 34)=w1 at *
  go_wp2_with (first
   | (refine x07 (by rfl) (by rfl) x0T ?_)
   | (refine wpList_store_row (by rfl) 34 _ _ (by rfl) w.heap.size kd0.cells.toArray (by rfl) (by rfl) _ _ f (by rw [List.size_toArray,x01];exact SKd) rfl (all_oneCell_toArray Kd.one) ?_))
  refine x1B 2 (by kernel_rfl) w.heap.size _ kd0.cells.toArray M.out O.out (by rw [List.size_toArray,x01];exact SKd) (by rfl) (setRow_heap _ _ _ _ _ _ f) ?_
  refine ⟨kd0,rfl,x8N,x1u _,fun X _ _ r hr=>?_,C.trans (Below.setRow (Below.refl _ _) (Nat.le_refl _) _)⟩
  simp only [Kd.rows,kd0,List.mem_cons,List.not_mem_nil,or_false] at hr
  rcases hr with rfl | rfl | rfl<;>exact x1U _ rfl
 | fork x v l u ihl ihr=>
  intro hdm F p w h
  have C:Below w.heap.size w (w.alloc (.cells kd0.cells.toArray 34)):=(Below.refl _ _).alloc (Nat.le_refl _) _
  have f:=heap_alloc_new w (.cells kd0.cells.toArray 34)
  have HN:=yH (y0h x v l u (ihl hdm.2.1) (ihr hdm.2.2) _ p _ (h.lt.later C))
  have k:=yH (x1H (v:=v) hd hdm.1 (x1C hd l hdm.2.1).1 (x1C hd u hdm.2.2).1 (x1C hd l hdm.2.1).2 (x1C hd u hdm.2.2).2)
  have HK:=yH (show (T.fork x v l u).kid=if (forkN x v l.kid u.kid).size≤1048576 then (forkN x v l.kid u.kid).says else PK.none from rfl)
  obtain ⟨g,r0,a,b,rfl,rfl,-,-,-,-,-,-⟩:=h.go
  generalize (T.fork r0.R v l u).kid=KK at *
  generalize forkN r0.R v l.kid u.kid=N at *
  have R1:=yH f
  have B1:=yH C
  obtain ⟨du,J,G⟩:=UKd
  have M:=yH J
  have O:=yH G
  have HZ:=yH (zero_of_info kz)
  have A1:=HZ.out.1
  clear J G h hdm ihl ihr f C
  go_enter Tryz.func22,Tryz.ntmps22
  go_upto_region 1 with fail
  generalize w.alloc (.cells kd0.cells.toArray 34)=w1 at *
  go_upto_region 4 with (first
   | (go_at_call 71;refine HN.out.mono ?_;rintro _ w2 ⟨p2,q2,E,K,rfl,s,hK,L,n,b2⟩;have Y:=yH n;have B2:=yH b2;have c:=yH (y3b 1 (by omega) p2 1 1 q2 2 2 E K d w2 s hK (by rw [L];exact k.out) (y58 s hK (by rw [L];exact k.out)));rw [L] at c;clear s hK L n b2)
   | (go_at_call 70;refine c.out.mono ?_;rintro e H hp;obtain ⟨I,bb,rfl,j,Q,P,b3⟩:=y24 hp;have q:=yH j;have o:=yH Q;have m:=yH P;have B3:=yH b3;have B:=yH (Kd.cells_length Q.len);clear hp j Q P b3)
   | (refine wpList_store_row (by rfl) 34 (.tmp 3) _ (by rfl) H.heap.size I.cells.toArray (by rfl) (by rfl) _ _ (heap_alloc_new H _) (by rw [List.size_toArray,B.out];exact SKd) (by simp only [List.size_toArray,B.out,x01]) (all_oneCell_toArray Kd.one) ?_))
  have W:Below H.heap.size H ((H.alloc (.cells kd0.cells.toArray 34)).setRow H.heap.size I.cells.toArray):=Below.setRow ((Below.refl _ _).alloc (Nat.le_refl _) _) (Nat.le_refl _) _
  have Z:=setRow_heap _ H.heap.size _ I.cells.toArray _ _ (heap_alloc_new H (.cells kd0.cells.toArray 34))
  generalize (H.alloc (.cells kd0.cells.toArray 34)).setRow H.heap.size I.cells.toArray=w4 at *
  have t:=yH (x0E Z)
  have B4:=yH ((B2.out.trans (B3.out.mono B2.out.size)).trans (W.mono (B2.out.trans (B3.out.mono B2.out.size)).size))
  have R4:=yH (yK B4.out R1.out)
  have A:=yH (o.out.later W)
  clear W Z
  go_wp2_with (first
   | (refine wpList_load_mid (by rfl) 34 _ (by rfl) H.heap.size 0 (by rfl) I.cells du t.out M.out O.out (by rw [B.out];exact SKd) ?_)
   | (refine wpList_store_row (by rfl) 34 _ _ (by rfl) w.heap.size I.cells.toArray (by rfl) (by rfl) _ _ R4.out (by rw [List.size_toArray,B.out];exact SKd) (by simp only [List.size_toArray,B.out,x01]) (all_oneCell_toArray Kd.one) ?_))
  refine x1B 2 (by kernel_rfl) w.heap.size _ I.cells.toArray M.out O.out (by rw [List.size_toArray,B.out];exact SKd) (by rfl) (setRow_heap _ _ _ _ _ _ R4.out) ?_
  have z:w.heap.size<w1.heap.size:=(yL R1.out)
  have i:∀X,X<w1.heap.size→¬(F X∧X<w.heap.size)→∀r∈I.rows,Away X r:=fun X hX hF=>m.out X (Nat.lt_of_lt_of_le hX B2.out.size) (Y.out X hX hF).1 (Y.out X hX hF).2
  have U:∀r∈I.rows,r.Ok w4→r.Ok (w4.setRow w.heap.size I.cells.toArray):=fun r hr ho=>Nd.rw_keep ho fun y hy hR=>setRow_other _ _ _ _ (i _ z (fun h=>by omega) r hr y hy hR)
  exact ⟨I,rfl,by rw [HK.out];exact q.out,⟨A.out.len,A.out.ok,U _ (by simp [Kd.rows]) A.out.lo,U _ (by simp [Kd.rows]) A.out.hi,U _ (by simp [Kd.rows]) A.out.key,A.out.live,A.out.size⟩,fun X hX hF=>i X (by omega) (fun h=>hF h.1),(B1.out.trans (B4.out.mono B1.out.size)).trans (Below.setRow (Below.refl _ _) (Nat.le_refl _) _)⟩
end Go.Proofs.YtinihaflmdihaaaGreat.Kt
namespace Go.Proofs.YtinihaflmdihaaaGreat.Kt
open Go.RowKit
open List renaming setIfInBounds_toArray → yA, set_cons_zero → yB, set_cons_succ → yC
theorem x8F {F:Nat→Prop} (u:T):∀(p:Option Addr) (w:World),TAt F w p u→u.height≤1000000000→Calls Tryz.prog 30 #[.pointer p] w fun e w'=>e= .returned (.int .i64 u.height)∧Below w.heap.size w w':=by
 induction u with
 | nil=>
  intro p w h _
  obtain rfl:p=none:=by cases h;rfl
  clear h
  go_enter Tryz.func30,Tryz.ntmps30
  go_wp2_with fail
  go_ret
  exact ⟨rfl,Below.refl _ _⟩
 | fork x v l u ihl ihr=>
  intro p w h hs
  obtain ⟨g,r,a,b,rfl,rfl,B,-,-,-,G,I⟩:=h.go
  have H:(T.fork r.R v l u).height=1+max l.height u.height:=rfl
  rw [H] at hs ⊢
  have N:=yH (fun w' (hb:Below w.heap.size w w')=>ihl a w' (G.later hb) (by omega))
  have J:=yH (fun w' (hb:Below w.heap.size w w')=>ihr b w' (I.later hb) (by omega))
  have A:=yH B
  clear ihl ihr h G I B
  clear H
  generalize l.height=m at *
  generalize u.height=n at *
  go_enter Tryz.func30,Tryz.ntmps30
  go_upto_region 3 with fail
  refine wp_region_held_drew (S:=fun w'=>Below w.heap.size w w') (by kernel_rfl) (Below.refl _ _).drew (fun hHeld=>?_)
  refine tK 0 ?_
  refine tK 1 ?_
  refine tK 2 ?_
  refine tQ 3 ?_ ?_ ?_
  rotate_left
  ·intro w' hSw
   have U:=cell_of_row w' g 2 _ _ _ ((hSw.block g (yL A.out)).trans A.out)
   go_simp
   try with_reducible rfl
  refine tK 5 ?_
  refine tK 6 ?_
  refine tK 7 ?_
  refine tQ 8 ?_ ?_ ?_
  rotate_left
  ·intro w' hSw
   have O:=cell_of_row w' g 3 _ _ _ ((hSw.block g (yL A.out)).trans A.out)
   go_simp
   try with_reducible rfl
  refine rO 4 fun K hK=>?_
  go_simp
  refine (N.out _ hHeld).mono ?_
  rintro _ Q ⟨rfl,L⟩
  have E:=hHeld.trans (L.mono hHeld.size)
  try go_wp2_with fail
  refine hK.out _ _ E (fun hHeld=>?_)
  clear hK K
  try simp only [Act.put,yA,yB,yC]
  refine rO 9 fun K hK=>?_
  go_simp
  refine (J.out _ hHeld).mono ?_
  rintro _ P ⟨rfl,M⟩
  have C:=hHeld.trans (M.mono hHeld.size)
  try go_wp2_with fail
  refine hK.out _ _ C (fun hHeld=>?_)
  clear hK K
  try simp only [Act.put,yA,yB,yC]
  refine tK 10 ?_
  refine tQ 11 ?_ ?_ ?_
  rotate_left
  ·intro w' hSw
   have q:=IntWalk.i64_in ((1:Int)+max (m:Int) (n:Int)) (by omega)
   go_simp
   try with_reducible rfl
  refine tK 12 ?_
  refine wpAnyH_done (by kernel_rfl) ?_ _
  go_wp2_with fail
  go_ret
  refine ⟨?_,hHeld⟩
  rw [show ((1+max m n:Nat):Int)=1+max (m:Int) (n:Int) from by omega]
  rfl
end Go.Proofs.YtinihaflmdihaaaGreat.Kt
namespace Go.Proofs.YtinihaflmdihaaaGreat.Pg
open Go.RowKit
open List renaming setIfInBounds_toArray → yA, set_cons_zero → yB, set_cons_succ → yC
theorem clash_no {w:World} {g:Nat} {Q:Nat→Prop} {s:S} (h:PL w g Q s) (hc:s.cl=none):
  Calls Tryz.prog 19 #[.pointer (some ⟨g,0,none⟩)] w fun e w'=>∃p c q d,e= .returned (.tuple #[.slice p 0 c,.slice q 0 d,.bool false])∧Below w.heap.size w w':=by
 obtain ⟨G,C,h⟩:=h
 obtain rfl:C=none:=by
  rcases h.clash with ⟨B,_⟩ | ⟨c,a,b,_,A,_⟩
  ·exact B
  ·rw [hc] at A;cases A
 have E:=h.c1
 clear h hc
 go_enter Tryz.func19,Tryz.ntmps19
 go_wp2_with fail
 go_ret3
 exact ⟨none,0,none,0,rfl,Below.refl _ _⟩
theorem clash_any {w:World} {g:Nat} {Q:Nat→Prop} {s:S} (x y:List Nat) (h:PL w g Q s) (hc:s.cl=some (x,y)):
  Calls Tryz.prog 19 #[.pointer (some ⟨g,0,none⟩)] w fun e w'=>∃p m c q n d,e= .returned (.tuple #[.slice p m c,.slice q n d,.bool true])∧Tx w' p m c x∧Tx w' q n d y∧x.length≤100000∧y.length≤100000∧Below w.heap.size w w':=by
 obtain ⟨mp,cl,h⟩:=h
 obtain ⟨B,rfl,u⟩:∃B,cl=some ⟨B,0,none⟩∧PairAt Q w B x y:=by
  rcases h.clash with ⟨_,A⟩ | ⟨c,a,b,A,C,h3⟩
  ·rw [hc] at A;cases A
  ·rw [hc] at C;cases C;exact ⟨c,A,h3⟩
 have M:=h.c1
 obtain ⟨p1,R,k1,p2,U,k2,f,A,C⟩:=u.row
 have v:w.cell? ⟨B,0,none⟩=some (.slice p1 R k1):=(cell_of_row w B 0 _ _ _ f).trans rfl
 have d1:w.cell? ⟨B,1,none⟩=some (.slice p2 U k2):=(cell_of_row w B 1 _ _ _ f).trans rfl
 have X:=yH A.tx
 have r:=yH C.tx
 have L1:=A.le
 have L2:=C.le
 have e1:=A.tx.size
 have e2:=C.tx.size
 have N1:R≤100000:=by omega
 have N2:U≤100000:=by omega
 have W:=yH M
 have z:=yH v
 have D1:=yH d1
 clear h hc u f A C e1 e2 v d1
 go_enter Tryz.func19,Tryz.ntmps19
 go_upto_region 3 with fail
 refine wp_region_held_drew (S:=fun w'=>Below w.heap.size w w') (by kernel_rfl) (Below.refl _ _).drew (fun hHeld=>?_)
 refine tK 0 ?_
 refine tK 1 ?_
 refine tK 2 ?_
 refine tQ 3 ?_ ?_ ?_
 rotate_left
 ·intro w' hSw
  have M:=(hSw.cell (block_lt_of_cell W.out)).trans W.out
  go_simp
  try with_reducible rfl
 refine tK 4 ?_
 refine tK 5 ?_
 refine tQ 6 ?_ ?_ ?_
 rotate_left
 ·intro w' hSw
  have M:=(hSw.cell (block_lt_of_cell z.out)).trans z.out
  go_simp
  try with_reducible rfl
 refine tK 8 ?_
 refine tK 9 ?_
 refine tK 10 ?_
 refine tQ 11 ?_ ?_ ?_
 rotate_left
 ·intro w' hSw
  have M:=(hSw.cell (block_lt_of_cell W.out)).trans W.out
  go_simp
  try with_reducible rfl
 refine tK 12 ?_
 refine tK 13 ?_
 refine tQ 14 ?_ ?_ ?_
 rotate_left
 ·intro w' hSw
  have M:=(hSw.cell (block_lt_of_cell D1.out)).trans D1.out
  go_simp
  try with_reducible rfl
 refine rO 7 fun K hK=>?_
 go_simp
 refine (x1y (X.out.later hHeld) N1).mono ?_
 rintro _ I ⟨Z,t,rfl,J,E⟩
 have i:=yH (show Tx I Z R t x from by
  have k:R=x.length:=X.out.size
  have:=J
  rw [k] at this ⊢
  exact x0H this X.out.ok)
 have N:Below w.heap.size w I:=hHeld.trans (E.mono hHeld.size)
 have A7:=yH E
 clear J E
 try go_wp2_with fail
 refine hK.out _ _ N (fun hHeld=>?_)
 clear hK K
 try simp only [Act.put,yA,yB,yC]
 refine rO 15 fun K hK=>?_
 go_simp
 refine (x1y (r.out.later hHeld) N2).mono ?_
 rintro _ H ⟨l,o,rfl,P,G⟩
 have j:=yH (show Tx H l U o y from by
  have k:U=y.length:=r.out.size
  have:=P
  rw [k] at this ⊢
  exact x0H this r.out.ok)
 have L:Below w.heap.size w H:=hHeld.trans (G.mono hHeld.size)
 have Y:=yH G
 clear P G
 try go_wp2_with fail
 refine hK.out _ _ L (fun hHeld=>?_)
 clear hK K
 try simp only [Act.put,yA,yB,yC]
 refine tK 16 ?_
 refine tK 17 ?_
 refine tK 18 ?_
 refine wpAnyH_done (by kernel_rfl) ?_ _
 have O:=yH (i.out.later Y.out)
 go_wp2_with fail
 go_ret3
 exact ⟨_,_,_,_,_,_,rfl,O.out,j.out,L1,L2,hHeld⟩
theorem len_any {w:World} {g:Nat} {Q:Nat→Prop} {s:S} (h:PL w g Q s):
  Calls Tryz.prog 33 #[.pointer (some ⟨g,0,none⟩)] w fun e w'=>e= .returned (.int .i64 s.W.length)∧Below w.heap.size w w':=by
 obtain ⟨H,K,h⟩:=h
 have J:=h.c0
 obtain ⟨n,C,B⟩:∃n:Nat,n=s.W.length∧∀ty w',w'.heap=w.heap→(Builtin.len_ #[86] ty #[.map H]).run Tryz.prog w'= .ok (.int .i64 (n:Int)) w':=by
  rcases h.pages with ⟨rfl,A⟩ | ⟨b,L,rfl,A,E⟩
  ·exact ⟨0,by rw [A];rfl,fun ty w' _=>Go.Maps.len_nil UST ty⟩
  ·obtain ⟨D,G,I⟩:=E.map
   refine ⟨L.length,by rw [← A,x1q],fun ty w' hw=>?_⟩
   have:=(x2Z (w':=w') G (by rw [hw])).len UST ty
   rwa [I.size] at this
 rw [← C]
 clear C
 have M:=B 3 w rfl
 clear h B
 go_enter Tryz.func33,Tryz.ntmps33
 go_wp2_with fail
 go_ret
 exact ⟨rfl,Below.refl _ _⟩
end Go.Proofs.YtinihaflmdihaaaGreat.Pg
