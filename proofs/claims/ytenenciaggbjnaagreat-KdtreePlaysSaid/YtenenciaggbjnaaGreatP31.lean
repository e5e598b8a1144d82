/- KrInsert, KrRemove, KrDelete, NdHull, NdFew. -/
import Derived.BigRegion
import Derived.Lib.MinMax
import Derived.Deep.CutBlock
import Derived.Test.YtenenciaggbjnaaGreatP30
set_option maxRecDepth 100000
set_option maxHeartbeats 8000000
set_option linter.all false
namespace Go.Proofs.YtenenciaggbjnaaGreat
namespace Kt
open Go.RowKit
open List renaming setIfInBounds_toArray -> yA, set_cons_zero -> yB, set_cons_succ -> yC
theorem x9e (p:Option Addr) (n c:Nat) (b:Bool):Tryz.prog.built 121 [(0,.slice p n c),(1,.bool b)]=some #[.slice p n c,.bool b,.pointer none,.pointer none]:=by kernel_rfl
theorem x82 {P:Program} {w:World} {ops:Array Oper} {rest:List Oper} {o:Oper} {a:Act} {Q:Exit->Act->World->Prop} (hgd:o.guard=Option.none) {t:TypeId} {parts:Array (Nat×Operand)} {cells:Array Value} (ho:o.op= .build t parts)
  (h:P.built t (parts.map fun (i,x)=>(i,a.eval x)).toList=some cells) (hk:wpList P ops Q rest (a.put o.dst (.agg cells)) w):wpList P ops Q (o::rest) a w:=
 wpList_plain hgd fun _ hK=>by
  unfold Oper.wp execOp
  simp only [ho,Sem.run_bind,run_build w t _ cells h,Result.andThen_ok,Sem.run_pure]
  exact hK _ _ hk
theorem x83 {P:Program} {ρ:Operand->Value} {o:Oper} {k:IntKind} {t1 t2:TypeId} {x y:Operand} {a b:Int} (ho:o.op= .binOp .rem t1 x y t2) (hx:ρ x= .int k a) (hy:ρ y= .int k b) (hb:¬b=0) (w:World):
  (execOp ρ o).run P w= .ok (.value (.int k (a.tmod b))) w:=by
 unfold execOp;simp only [ho,hx,hy,eqGuard_rem,binOp_rem,Op.intDiv,if_neg hb,Sem.run_bind,Sem.run_pure,Result.andThen_ok]
def x6P (F:Nat->Prop) (w:World) (x:T×Bool) (e:Ending) (w':World):Prop:=∃q,e= .returned (.tuple #[.pointer q,.bool x.2])/\TAt (fun k=>F k\/w.heap.size<=k) w' q x.1/\Below w.heap.size w w'
theorem x3T {w:World} {g:Nat} {a b c e x:Value} (i:Nat) (h:w.heap[g]? =some (.cells #[a,b,c,e] 121 (0,0))):(w.setCell ⟨g,i,none⟩ x).heap[g]? =some (.cells (#[a,b,c,e].setIfInBounds i x) 121 (0,0)):=jU w g i _ _ x h
theorem TAt.aside {F:Nat->Prop} {w:World} {p:Option Addr} {u:T} (h:TAt F w p u) {g:Nat} (hg:∀k,F k->k≠g) (i:Nat) (x:Value):TAt F (w.setCell ⟨g,i,none⟩ x) p u:=h.keep fun k hk _=>kG _ _ _ _ (hg k hk)
theorem x3U {F:Nat->Prop} {w:World} {r:Rw} (h:r.Ok w) (hF:RwIn F r) {g:Nat} (hg:∀k,F k->k≠g) (i:Nat) (x:Value):r.Ok (w.setCell ⟨g,i,none⟩ x):=x9r h hF fun k hk _=>kG _ _ _ _ (hg k hk)
theorem x9f (u:T):∀(F:Nat->Prop) (p:Option Addr) (t d:Nat) (r:Rw) (w:World),TAt F w p u->u.dims d->r.Ok w->RwIn F r->r.n=d->0<d->u.size<=900->t+u.size<=800000->
  Calls Tryz.prog 20 #[.pointer p,r.val,.int .i64 t] w (x6P F w (x0A u r.R t)):=by
 induction u with
 | nil=>
  intro F p t d r w h _ hok hF hrn _ _ _;obtain rfl:p=none:=by cases h;rfl
  clear h hrn;obtain ⟨rp,Y,rc,rR⟩:=r;unfold Rw.val;simp only
  go_enter Tryz.func20,Tryz.ntmps20
  go_wp2_with (refine x82 (cells:= #[.slice rp Y rc,.bool true,.pointer none,.pointer none]) (by rfl) (by rfl) (by simp only [kA,kB,kC];exact x9e _ _ _ _) ?_)
  have O:=jA w (.cells #[.slice rp Y rc,.bool true,.pointer none,.pointer none] 121)
  go_ret2;exact ⟨some ⟨w.heap.size,0,none⟩,rfl,TAt.fork (r:=⟨rp,Y,rc,rR⟩) (jE w _) (hok.later O) (Or.inr (jB _)) (fun x hx hr=>Or.inl (hF x hx hr)) .nil .nil,O⟩
 | fork x v l u ihl ihr=>
  intro F p t d r w h hdm hok hF hrn hd0 hs ht;have hz:(T.fork x v l u).size=1+l.size+u.size:=rfl;rw [hz] at hs ht;obtain ⟨g,P,a,b,rfl,rfl,AT,i,hg,Ac,hl,hr⟩:=h.lt.go;have AM:=hdm.2.1;have AF:=hdm.2.2;have f:r.R.length=d:=by rw [<- hok.ints.size];exact hrn
  have z:P.n=d:=by rw [i.ints.size];exact hdm.1
  have AP:=yH (show RwIn (fun k=>F k/\k<w.heap.size) r from fun y hy hR=>⟨hF y hy hR,rw_lt hok y hy hR⟩);have AR:=yH (fun w' (hb:Below w.heap.size w w')=>ihl (fun k=>F k/\k<w.heap.size) a (t+1) d r w' (hl.later hb) AM (hok.later hb) AP hrn hd0 (by omega) (by omega));have AO:=yH (fun w' (hb:Below w.heap.size w w')=>ihr (fun k=>F k/\k<w.heap.size) b (t+1) d r w' (hr.later hb) AF (hok.later hb) AP hrn hd0 (by omega) (by omega));have HG:=yH (show x0A (.fork P.R v l u) r.R t=if P.R=r.R then (light (.fork P.R true l u) t,!v) else if lessP (t%d) r.R P.R then (light (.fork P.R v (x0A l r.R (t+1)).1 u) t,(x0A l r.R (t+1)).2) else (light (.fork P.R v l (x0A u r.R (t+1)).1) t,(x0A u r.R (t+1)).2) from by rw [<- f];rfl);have AE:=yH (fun w' (hb:Below w.heap.size w w')=>x0y P.p r.p P.n P.c r.n r.c P.R r.R w' (i.later hb).ints (hok.later hb).ints i.top);have o:=yH (fun w' (hb:Below w.heap.size w w')=>x5Y r.p P.p r.n r.c P.n P.c r.R P.R (t%d) w' (hok.later hb).ints (i.later hb).ints (by rw [z,hrn]) (by rw [hrn];exact Nat.mod_lt _ hd0) hok.top);have AL:=yH (And.intro (x28 l r.R (t+1)) (x28 u r.R (t+1)));have AI:=yH (And.intro (x1J (p:=r.R) (t:=t+1) AM f) (x1J (p:=r.R) (t:=t+1) AF f));have N:=yH hdm;have E:=yH (And.intro i Ac);have A:=yH AT;have AQ:=yH hl;have AZ:=yH hr;have B1:=yH hg;have AK:=yH hd0;have AH:=yH hrn;clear ihl ihr h hdm hok hF AT i hg Ac hl hr AM AF f z hz;obtain ⟨rp,Y,rc,rR⟩:=r;obtain ⟨sp,sn,sc,s⟩:=P;unfold Rw.val at A ⊢;simp only at AR AO HG AE o AL AI N E A AH ⊢;have q1:(t:Int).tmod Y=((t%Y:Nat):Int):=by rw [Int.tmod_eq_emod_of_nonneg (by omega)];rfl
  have A4:¬(Y:Int)=0:=by have:=AH.out;omega
  have AC:¬(Y:Int)= -1:=by omega
  have q2:IntKind.i64.wrap ((t:Int)+1)=((t+1:Nat):Int):=by rw [IntWalk.i64_in _ (by omega)];rfl
  have Ah:=AH.out;subst Ah
  go_enter Tryz.func20,Tryz.ntmps20
  go_upto_region 3 with fail
  refine kD (S:=fun w'=>Below w.heap.size w w') (by kernel_rfl) (jC _ _).drew (fun hH=>?_);refine tK 0 ?_;refine tK 1 ?_;refine tK 2 ?_;refine tQ 3 ?_ ?_ ?_;rotate_left
  ·intro w' hSw;have x0:=jH w' g 0 _ _ _ ((hSw.block g (yL A)).trans A.out);go_simp;try with_reducible rfl
  refine tK 4 ?_;refine tK 5 ?_;refine tK 6 ?_;refine tQ 7 ?_ ?_ ?_;rotate_left
  ·intro w' hSw;have x1:=jH w' g 1 _ _ _ ((hSw.block g (yL A)).trans A.out);go_simp;try with_reducible rfl
  refine tK 8 ?_;refine tK 9 ?_;refine tK 10 ?_;refine tQ 11 ?_ ?_ ?_;rotate_left
  ·intro w' hSw;have x2:=jH w' g 2 _ _ _ ((hSw.block g (yL A)).trans A.out);go_simp;try with_reducible rfl
  refine tK 12 ?_;refine tK 13 ?_;refine tK 14 ?_;refine tQ 15 ?_ ?_ ?_;rotate_left
  ·intro w' hSw;have x3:=jH w' g 3 _ _ _ ((hSw.block g (yL A)).trans A.out);go_simp;try with_reducible rfl
  refine tQ 16 ?_ ?_ ?_;rotate_left
  ·intro w' hSw;refine Eq.trans (b:=Result.ok (Next.value (.agg #[.slice sp sn sc,.bool v,.pointer a,.pointer b])) w') ?_ ?_
   ·apply x1o (t:=121) (parts:= #[(0,.tmp 18),(1,.tmp 22),(2,.tmp 26),(3,.tmp 30)])
    ·rfl
    ·simp only [kA,kB,kC];exact x4O _ _ _ _ _ _
   ·with_reducible rfl
  refine rO 17 fun K hK=>?_;go_simp;have O:Below w.heap.size w (w.drew.alloc (.cells #[.slice sp sn sc,.bool v,.pointer a,.pointer b] 121)):=(jC _ _).drew.alloc (jB _) _;try go_wp2_with fail
  refine hK.out _ _ O (fun hH=>?_);clear hK K;try simp only [Act.put,yA,yB,yC]
  refine tK 18 ?_;refine jD ?_;have AD:=jE w (.cells #[.slice sp sn sc,.bool v,.pointer a,.pointer b] 121);obtain ⟨w5,AJ⟩:∃w5,(w.alloc (.cells #[.slice sp sn sc,.bool v,.pointer a,.pointer b] 121)).drew=w5:=⟨_,rfl⟩
  rw [World.alloc_drew] at O;rw [AJ] at O ⊢;have AA:=yH (show w5.heap[w.heap.size]? =some (.cells #[.slice sp sn sc,.bool v,.pointer a,.pointer b] 121 (0,0)) from by rw [<- AJ];exact AD);have A6:=yH O;clear AJ O AD hH;have x0:=jH w5 g 0 _ _ _ ((A6.block g (yL A)).trans A.out);have Z:=yH (AE.out w5 A6);clear AE;by_cases he:s=rR
  ·rw [if_pos he] at HG;rw [kF he] at Z;clear he;go_upto_region 5 with (go_at_call 32;refine Z.mono ?_;rintro _ L ⟨rfl,j6,Q⟩;have I:=yH (show L.heap[w.heap.size]? =some (.cells #[.slice sp sn sc,.bool v,.pointer a,.pointer b] 121 (0,0)) from by rw [Q];exact AA.out);have C:=yH (show Below w.heap.size w L from by rw [Q];exact Below.drewN A6 _);clear Q)
   have c1:=jH L w.heap.size 1 _ _ _ I;have f1:=jS L w.heap.size 1 _ _ I;go_upto_region 6 with fail
   have J:=yH (show ∀k,F k/\k<w.heap.size->k≠w.heap.size from fun k hk e=>by omega);have r7:=x3T (x:=.bool true) 1 I.out;have T7:=yH (show TAt (fun k=>F k\/w.heap.size<=k) (L.setCell ⟨w.heap.size,1,none⟩ (.bool true)) (some ⟨w.heap.size,0,none⟩) (.fork s true l u) from TAt.fork (r:=⟨sp,sn,sc,s⟩) r7 (x3U (E.1.later C) E.2 J 1 _) (Or.inr (jB _)) (fun y hy hR=>Or.inl (E.2 y hy hR).1)
    (((AQ.later C).aside J.out 1 _).wide (fun k h=>Or.inl h.1)) (((AZ.later C).aside J.out 1 _).wide (fun k h=>Or.inl h.1)))
   have B:=yH (show Below w.heap.size w (L.setCell ⟨w.heap.size,1,none⟩ (.bool true)) from C.setCell (p:=⟨w.heap.size,1,none⟩) (jB _) _);generalize L.setCell ⟨w.heap.size,1,none⟩ (.bool true)=M at *;clear c1 f1 r7 x0;have m:=yH (fun w' (hb:Below M.heap.size M w')=>x4u (F:=fun k=>F k\/w.heap.size<=k) s true l u _ t Y w' (T7.later hb) ⟨N.1,N.2.1,N.2.2⟩ AK (by show 1+l.size+u.size<=1000;omega) (by omega));refine kD (S:=fun w'=>Below M.heap.size M w') (by kernel_rfl) (jC _ _).drew (fun hH=>?_);refine tK 0 ?_;refine tK 1 ?_;refine tK 3 ?_;refine tK 4 ?_;refine tK 5 ?_;refine tQ 6 ?_ ?_ ?_;rotate_left
   ·intro w' hSw;have y1:=jH w' g 1 _ _ _ (((B.trans (hSw.mono B.size)).block g (yL A)).trans A.out);go_simp;try with_reducible rfl
   refine tK 7 ?_;refine rO 2 fun K hK=>?_;go_simp;have BS:=yH hH.size;refine (m.out _ hH).mono ?_;rintro _ wz ⟨qz,rfl,tz,bz⟩;have TZ:=yH tz;have AX:=hH.trans (bz.mono hH.size);have BZ:=yH AX;clear tz bz;try go_wp2_with fail
   refine hK.out _ _ AX (fun hH=>?_);clear hK K;try simp only [Act.put,yA,yB,yC]
   refine tK 8 ?_;refine tK 9 ?_;refine jD ?_;go_wp2_with fail
   go_ret2;rw [HG.out];exact ⟨qz,rfl,TZ.wide (fun k h=>h.elim id (fun h=>Or.inr (jJ (jJ B.size BS) h))),B.trans (BZ.mono B.size)⟩
  ·rw [if_neg he] at HG;rw [kE he] at Z;clear he;go_upto_region 8 with (go_at_call 32;refine Z.mono ?_;rintro _ L ⟨rfl,j6,Q⟩;have I:=yH (show L.heap[w.heap.size]? =some (.cells #[.slice sp sn sc,.bool v,.pointer a,.pointer b] 121 (0,0)) from by rw [Q];exact AA.out);have C:=yH (show Below w.heap.size w L from by rw [Q];exact Below.drewN A6 _);clear Q)
   clear x0;cases hlp:lessP (t%Y) rR s with
   | true=>
    rw [hlp,if_pos rfl] at HG;rw [hlp] at o;clear hlp;refine kD (S:=fun w'=>Below L.heap.size L w') (by kernel_rfl) (jC _ _).drew (fun hH=>?_);refine tK 0 ?_;refine tK 1 ?_;refine tK 2 ?_;refine tK 3 ?_;refine tQ 4 ?_ ?_ ?_;rotate_left
    ·intro w' hSw;have y0:=jH w' g 0 _ _ _ (((C.trans (hSw.mono C.size)).block g (yL A)).trans A.out);go_simp;try with_reducible rfl
    refine tK 5 ?_;refine tK 6 ?_;refine tK 7 ?_;refine tQ 8 ?_ ?_ ?_;rotate_left
    ·intro w' hSw;refine Eq.trans (b:=Result.ok (Next.value (.int .i64 ((t:Int).tmod (Y:Int)))) w') ?_ ?_
     ·exact x83 rfl rfl rfl A4 _
     ·with_reducible rfl
    refine rO 9 fun K hK=>?_;go_simp;refine (o.out _ (C.trans (hH.mono C.size))).mono ?_;rintro _ M ⟨rfl,j7,q⟩;have U:Below L.heap.size L M:=by rw [q];exact Below.drewN hH _
    have B:=yH (C.trans (U.mono C.size));have G:=yH (yK U I);clear q;try go_wp2_with fail
    refine hK.out _ _ U (fun hH=>?_);clear hK K;try simp only [Act.put,yA,yB,yC]
    refine jD ?_;clear q1 A4 AC;have x2:=jH M g 2 _ _ _ ((B.block g (yL A)).trans A.out);have c9:=jH M w.heap.size 2 _ _ _ G;go_upto_region 11 with (go_at_call 20;refine (AR.out M B).mono ?_;rintro _ j ⟨q8,rfl,t8,b8⟩;have T8:=yH t8;have B8:=yH b8;have H:=yH (yK b8 G);have c8:=jH j w.heap.size 2 _ _ _ H.out;have f8:=jS j w.heap.size 2 _ _ H.out;clear t8 b8)
    have X:=yH (B.trans (B8.mono B.size));have AN:=yH (show ∀k,(F k/\k<w.heap.size)\/M.heap.size<=k->k≠w.heap.size from fun k hk e=>by
     have h7:w.heap.size<M.heap.size:=(yL G)
     rcases hk with h | h
     ·omega
     ·omega)
    have J:=yH (show ∀k,F k/\k<w.heap.size->k≠w.heap.size from fun k hk e=>by omega);have r9:=x3T (x:=.pointer q8) 2 H.out;have T9:=yH (show TAt (fun k=>F k\/w.heap.size<=k) (j.setCell ⟨w.heap.size,2,none⟩ (.pointer q8)) (some ⟨w.heap.size,0,none⟩) (.fork s v (x0A l rR (t+1)).1 u) from TAt.fork (r:=⟨sp,sn,sc,s⟩) r9 (x3U (E.1.later X) E.2 J 2 _) (Or.inr (jB _)) (fun y hy hR=>Or.inl (E.2 y hy hR).1)
     ((T8.aside AN 2 _).wide (fun k h=>h.imp (fun h=>h.1) (fun h=>jJ B.size h)))
     (((AZ.later X).aside J.out 2 _).wide (fun k h=>Or.inl h.1)))
    have W:=yH (show Below w.heap.size w (j.setCell ⟨w.heap.size,2,none⟩ (.pointer q8)) from X.setCell (p:=⟨w.heap.size,2,none⟩) (jB _) _);generalize j.setCell ⟨w.heap.size,2,none⟩ (.pointer q8)=w9 at *;have m:=yH (x4u (F:=fun k=>F k\/w.heap.size<=k) s v (x0A l rR (t+1)).1 u _ t Y w9 T9 ⟨N.1,AI.1,N.2.2⟩ AK (by have h1:=AL.1;show 1+(x0A l rR (t+1)).1.size+u.size<=1000;omega) (by omega));clear x2 c9 r9 c8 f8;go_wp2_with (go_at_call 75;refine m.mono ?_;rintro _ wz ⟨qz,rfl,tz,bz⟩;have TZ:=yH tz;have BZ:=yH bz;clear tz bz)
    go_ret2;rw [HG.out];exact ⟨qz,rfl,TZ.wide (fun k h=>h.elim id (fun h=>Or.inr (jJ W.size h))),W.trans (BZ.mono W.size)⟩
   | false=>
    rw [hlp,if_neg (by simp)] at HG;rw [hlp] at o;clear hlp;refine kD (S:=fun w'=>Below L.heap.size L w') (by kernel_rfl) (jC _ _).drew (fun hH=>?_);refine tK 0 ?_;refine tK 1 ?_;refine tK 2 ?_;refine tK 3 ?_;refine tQ 4 ?_ ?_ ?_;rotate_left
    ·intro w' hSw;have y0:=jH w' g 0 _ _ _ (((C.trans (hSw.mono C.size)).block g (yL A)).trans A.out);go_simp;try with_reducible rfl
    refine tK 5 ?_;refine tK 6 ?_;refine tK 7 ?_;refine tQ 8 ?_ ?_ ?_;rotate_left
    ·intro w' hSw;refine Eq.trans (b:=Result.ok (Next.value (.int .i64 ((t:Int).tmod (Y:Int)))) w') ?_ ?_
     ·exact x83 rfl rfl rfl A4 _
     ·with_reducible rfl
    refine rO 9 fun K hK=>?_;go_simp;refine (o.out _ (C.trans (hH.mono C.size))).mono ?_;rintro _ M ⟨rfl,j7,q⟩;have U:Below L.heap.size L M:=by rw [q];exact Below.drewN hH _
    have B:=yH (C.trans (U.mono C.size));have G:=yH (yK U I);clear q;try go_wp2_with fail
    refine hK.out _ _ U (fun hH=>?_);clear hK K;try simp only [Act.put,yA,yB,yC]
    refine jD ?_;clear q1 A4 AC;have x3:=jH M g 3 _ _ _ ((B.block g (yL A)).trans A.out);have c9:=jH M w.heap.size 3 _ _ _ G;go_upto_region 11 with (go_at_call 20;refine (AO.out M B).mono ?_;rintro _ j ⟨q8,rfl,t8,b8⟩;have T8:=yH t8;have B8:=yH b8;have H:=yH (yK b8 G);have c8:=jH j w.heap.size 3 _ _ _ H.out;have f8:=jS j w.heap.size 3 _ _ H.out;clear t8 b8)
    have X:=yH (B.trans (B8.mono B.size));have AN:=yH (show ∀k,(F k/\k<w.heap.size)\/M.heap.size<=k->k≠w.heap.size from fun k hk e=>by
     have h7:w.heap.size<M.heap.size:=(yL G)
     rcases hk with h | h
     ·omega
     ·omega)
    have J:=yH (show ∀k,F k/\k<w.heap.size->k≠w.heap.size from fun k hk e=>by omega);have r9:=x3T (x:=.pointer q8) 3 H.out;have T9:=yH (show TAt (fun k=>F k\/w.heap.size<=k) (j.setCell ⟨w.heap.size,3,none⟩ (.pointer q8)) (some ⟨w.heap.size,0,none⟩) (.fork s v l (x0A u rR (t+1)).1) from TAt.fork (r:=⟨sp,sn,sc,s⟩) r9 (x3U (E.1.later X) E.2 J 3 _) (Or.inr (jB _)) (fun y hy hR=>Or.inl (E.2 y hy hR).1)
     (((AQ.later X).aside J.out 3 _).wide (fun k h=>Or.inl h.1))
     ((T8.aside AN 3 _).wide (fun k h=>h.imp (fun h=>h.1) (fun h=>jJ B.size h))))
    have W:=yH (show Below w.heap.size w (j.setCell ⟨w.heap.size,3,none⟩ (.pointer q8)) from X.setCell (p:=⟨w.heap.size,3,none⟩) (jB _) _);generalize j.setCell ⟨w.heap.size,3,none⟩ (.pointer q8)=w9 at *;have m:=yH (x4u (F:=fun k=>F k\/w.heap.size<=k) s v l (x0A u rR (t+1)).1 _ t Y w9 T9 ⟨N.1,N.2.1,AI.2⟩ AK (by have h1:=AL.2;show 1+l.size+(x0A u rR (t+1)).1.size<=1000;omega) (by omega));clear x3 c9 r9 c8 f8;go_wp2_with (go_at_call 75;refine m.mono ?_;rintro _ wz ⟨qz,rfl,tz,bz⟩;have TZ:=yH tz;have BZ:=yH bz;clear tz bz)
    go_ret2;rw [HG.out];exact ⟨qz,rfl,TZ.wide (fun k h=>h.elim id (fun h=>Or.inr (jJ W.size h))),W.trans (BZ.mono W.size)⟩
theorem x9g (u:T):∀(F:Nat->Prop) (p:Option Addr) (t d:Nat) (r:Rw) (w:World),TAt F w p u->u.dims d->r.Ok w->r.n=d->0<d->u.size<=900->t+u.size<=800000->
  Calls Tryz.prog 80 #[.pointer p,r.val,.int .i64 t] w (x6P F w (x0B u r.R t)):=by
 induction u with
 | nil=>
  intro F p t d r w h _ hok hrn _ _ _;obtain rfl:p=none:=by cases h;rfl
  clear h hrn;obtain ⟨rp,rn,rc,rR⟩:=r;unfold Rw.val;simp only
  go_enter Tryz.func80,Tryz.ntmps80
  go_wp2_with fail
  go_ret2;exact ⟨none,rfl,.nil,jC _ _⟩
 | fork x v l u ihl ihr=>
  intro F p t d r w h hdm hok hrn hd0 hs ht;have hz:(T.fork x v l u).size=1+l.size+u.size:=rfl;rw [hz] at hs ht;obtain ⟨g,M,a,b,rfl,rfl,AJ,W,hg,AP,hl,hr⟩:=h.lt.go;have AD:=hdm.2.1;have A8:=hdm.2.2;have A2:r.R.length=d:=by rw [<- hok.ints.size];exact hrn
  have i:M.n=d:=by rw [W.ints.size];exact hdm.1
  have AI:=yH (fun w' (hb:Below w.heap.size w w')=>ihl (fun k=>F k/\k<w.heap.size) a (t+1) d r w' (hl.later hb) AD (hok.later hb) hrn hd0 (by omega) (by omega));have AG:=yH (fun w' (hb:Below w.heap.size w w')=>ihr (fun k=>F k/\k<w.heap.size) b (t+1) d r w' (hr.later hb) A8 (hok.later hb) hrn hd0 (by omega) (by omega));have HG:=yH (show x0B (.fork M.R v l u) r.R t=if M.R=r.R then (.fork M.R false l u,v) else if lessP (t%d) r.R M.R then (.fork M.R v (x0B l r.R (t+1)).1 u,(x0B l r.R (t+1)).2) else (.fork M.R v l (x0B u r.R (t+1)).1,(x0B u r.R (t+1)).2) from by rw [<- A2];rfl);have A7:=yH (fun w' (hb:Below w.heap.size w w')=>x0y M.p r.p M.n M.c r.n r.c M.R r.R w' (W.later hb).ints (hok.later hb).ints W.top);have Y:=yH (fun w' (hb:Below w.heap.size w w')=>x5Y r.p M.p r.n r.c M.n M.c r.R M.R (t%d) w' (hok.later hb).ints (W.later hb).ints (by rw [i,hrn]) (by rw [hrn];exact Nat.mod_lt _ hd0) hok.top);have Aa:=yH (And.intro (x12 l r.R (t+1)) (x12 u r.R (t+1)));have AU:=yH (And.intro (x0x (p:=r.R) (t:=t+1) AD) (x0x (p:=r.R) (t:=t+1) A8));have AR:=yH hdm;have E:=yH (And.intro W AP);have A:=yH AJ;have AH:=yH hl;have AN:=yH hr;have Aq:=yH hg;have Am:=yH hd0;have AB:=yH hrn;clear ihl ihr h hdm hok AJ W hg AP hl hr AD A8 A2 i hz;obtain ⟨rp,rn,rc,rR⟩:=r;obtain ⟨m,j,o,sR⟩:=M;unfold Rw.val at A ⊢;simp only at AI AG HG A7 Y Aa AU AR E A AB ⊢;have q1:(t:Int).tmod rn=((t%rn:Nat):Int):=by rw [Int.tmod_eq_emod_of_nonneg (by omega)];rfl
  have q:¬(rn:Int)=0:=by have:=AB.out;omega
  have A4:¬(rn:Int)= -1:=by omega
  have q2:IntKind.i64.wrap ((t:Int)+1)=((t+1:Nat):Int):=by rw [IntWalk.i64_in _ (by omega)];rfl
  have AT:=AB.out;subst AT
  go_enter Tryz.func80,Tryz.ntmps80
  go_upto_region 3 with fail
  refine kD (S:=fun w'=>Below w.heap.size w w') (by kernel_rfl) (jC _ _).drew (fun hH=>?_);refine tK 0 ?_;refine tK 1 ?_;refine tK 2 ?_;refine tQ 3 ?_ ?_ ?_;rotate_left
  ·intro w' hSw;have x0:=jH w' g 0 _ _ _ ((hSw.block g (yL A)).trans A.out);go_simp;try with_reducible rfl
  refine tK 4 ?_;refine tK 5 ?_;refine tK 6 ?_;refine tQ 7 ?_ ?_ ?_;rotate_left
  ·intro w' hSw;have x1:=jH w' g 1 _ _ _ ((hSw.block g (yL A)).trans A.out);go_simp;try with_reducible rfl
  refine tK 8 ?_;refine tK 9 ?_;refine tK 10 ?_;refine tQ 11 ?_ ?_ ?_;rotate_left
  ·intro w' hSw;have x2:=jH w' g 2 _ _ _ ((hSw.block g (yL A)).trans A.out);go_simp;try with_reducible rfl
  refine tK 12 ?_;refine tK 13 ?_;refine tK 14 ?_;refine tQ 15 ?_ ?_ ?_;rotate_left
  ·intro w' hSw;have x3:=jH w' g 3 _ _ _ ((hSw.block g (yL A)).trans A.out);go_simp;try with_reducible rfl
  refine tQ 16 ?_ ?_ ?_;rotate_left
  ·intro w' hSw;refine Eq.trans (b:=Result.ok (Next.value (.agg #[.slice m j o,.bool v,.pointer a,.pointer b])) w') ?_ ?_
   ·apply x1o (t:=121) (parts:= #[(0,.tmp 15),(1,.tmp 19),(2,.tmp 23),(3,.tmp 27)])
    ·rfl
    ·simp only [kA,kB,kC];exact x4O _ _ _ _ _ _
   ·with_reducible rfl
  refine rO 17 fun K hK=>?_;go_simp;have Z:Below w.heap.size w (w.drew.alloc (.cells #[.slice m j o,.bool v,.pointer a,.pointer b] 121)):=(jC _ _).drew.alloc (jB _) _;try go_wp2_with fail
  refine hK.out _ _ Z (fun hH=>?_);clear hK K;try simp only [Act.put,yA,yB,yC]
  refine tK 18 ?_;refine jD ?_;have A6:=jE w (.cells #[.slice m j o,.bool v,.pointer a,.pointer b] 121);obtain ⟨w5,AC⟩:∃w5,(w.alloc (.cells #[.slice m j o,.bool v,.pointer a,.pointer b] 121)).drew=w5:=⟨_,rfl⟩
  rw [World.alloc_drew] at Z;rw [AC] at Z ⊢;have A1:=yH (show w5.heap[w.heap.size]? =some (.cells #[.slice m j o,.bool v,.pointer a,.pointer b] 121 (0,0)) from by rw [<- AC];exact A6);have z:=yH Z;clear AC Z A6 hH;have x0:=jH w5 g 0 _ _ _ ((z.block g (yL A)).trans A.out);have U:=yH (A7.out w5 z);clear A7;by_cases he:sR=rR
  ·rw [if_pos he] at HG;rw [kF he] at U;clear he;go_upto_region 5 with (go_at_call 32;refine U.mono ?_;rintro _ L ⟨rfl,j6,O⟩;have I:=yH (show L.heap[w.heap.size]? =some (.cells #[.slice m j o,.bool v,.pointer a,.pointer b] 121 (0,0)) from by rw [O];exact A1.out);have B:=yH (show Below w.heap.size w L from by rw [O];exact Below.drewN z _);clear O)
   have c1:=jH L w.heap.size 1 _ _ _ I;have f1:=jS L w.heap.size 1 _ _ I;go_upto_region 6 with fail
   have J:=yH (show ∀k,F k/\k<w.heap.size->k≠w.heap.size from fun k hk e=>by omega);have r7:=x3T (x:=.bool false) 1 I.out;have T7:=yH (show TAt (fun k=>F k\/w.heap.size<=k) (L.setCell ⟨w.heap.size,1,none⟩ (.bool false)) (some ⟨w.heap.size,0,none⟩) (.fork sR false l u) from TAt.fork (r:=⟨m,j,o,sR⟩) r7 (x3U (E.1.later B) E.2 J 1 _) (Or.inr (jB _)) (fun y hy hR=>Or.inl (E.2 y hy hR).1)
    (((AH.later B).aside J.out 1 _).wide (fun k h=>Or.inl h.1)) (((AN.later B).aside J.out 1 _).wide (fun k h=>Or.inl h.1)))
   have C:=yH (show Below w.heap.size w (L.setCell ⟨w.heap.size,1,none⟩ (.bool false)) from B.setCell (p:=⟨w.heap.size,1,none⟩) (jB _) _);generalize L.setCell ⟨w.heap.size,1,none⟩ (.bool false)=N at *;clear c1 f1 r7 x0;refine kD (S:=fun w'=>Below N.heap.size N w') (by kernel_rfl) (jC _ _).drew (fun hH=>?_);refine tK 0 ?_;refine tK 1 ?_;refine tK 2 ?_;refine tK 3 ?_;refine tQ 4 ?_ ?_ ?_;rotate_left
   ·intro w' hSw;have y1:=jH w' g 1 _ _ _ (((C.trans (hSw.mono C.size)).block g (yL A)).trans A.out);go_simp;try with_reducible rfl
   refine tK 5 ?_;refine tK 6 ?_;refine jD ?_;go_wp2_with fail
   go_ret2;rw [HG.out];exact ⟨_,rfl,T7.later hH,C.trans (hH.mono C.size)⟩
  ·rw [if_neg he] at HG;rw [kE he] at U;clear he;go_upto_region 8 with (go_at_call 32;refine U.mono ?_;rintro _ L ⟨rfl,j6,O⟩;have I:=yH (show L.heap[w.heap.size]? =some (.cells #[.slice m j o,.bool v,.pointer a,.pointer b] 121 (0,0)) from by rw [O];exact A1.out);have B:=yH (show Below w.heap.size w L from by rw [O];exact Below.drewN z _);clear O)
   clear x0;cases hlp:lessP (t%rn) rR sR with
   | true=>
    rw [hlp,if_pos rfl] at HG;rw [hlp] at Y;clear hlp;refine kD (S:=fun w'=>Below L.heap.size L w') (by kernel_rfl) (jC _ _).drew (fun hH=>?_);refine tK 0 ?_;refine tK 1 ?_;refine tK 2 ?_;refine tK 3 ?_;refine tQ 4 ?_ ?_ ?_;rotate_left
    ·intro w' hSw;have y0:=jH w' g 0 _ _ _ (((B.trans (hSw.mono B.size)).block g (yL A)).trans A.out);go_simp;try with_reducible rfl
    refine tK 5 ?_;refine tK 6 ?_;refine tK 7 ?_;refine tQ 8 ?_ ?_ ?_;rotate_left
    ·intro w' hSw;refine Eq.trans (b:=Result.ok (Next.value (.int .i64 ((t:Int).tmod (rn:Int)))) w') ?_ ?_
     ·exact x83 rfl rfl rfl q _
     ·with_reducible rfl
    refine rO 9 fun K hK=>?_;go_simp;refine (Y.out _ (B.trans (hH.mono B.size))).mono ?_;rintro _ N ⟨rfl,j7,f⟩;have P:Below L.heap.size L N:=by rw [f];exact Below.drewN hH _
    have C:=yH (B.trans (P.mono B.size));have G:=yH (yK P I);clear f;try go_wp2_with fail
    refine hK.out _ _ P (fun hH=>?_);clear hK K;try simp only [Act.put,yA,yB,yC]
    refine jD ?_;clear q1 q A4;have x2:=jH N g 2 _ _ _ ((C.block g (yL A)).trans A.out);have c9:=jH N w.heap.size 2 _ _ _ G;go_upto_region 11 with (go_at_call 80;refine (AI.out N C).mono ?_;rintro _ X ⟨s,rfl,t8,b8⟩;have T8:=yH t8;have B8:=yH b8;have H:=yH (yK b8 G);have c8:=jH X w.heap.size 2 _ _ _ H.out;have f8:=jS X w.heap.size 2 _ _ H.out;clear t8 b8)
    have Q:=yH (C.trans (B8.mono C.size));have AE:=yH (show ∀k,(F k/\k<w.heap.size)\/N.heap.size<=k->k≠w.heap.size from fun k hk e=>by
     have h7:w.heap.size<N.heap.size:=(yL G)
     rcases hk with h | h
     ·omega
     ·omega)
    have J:=yH (show ∀k,F k/\k<w.heap.size->k≠w.heap.size from fun k hk e=>by omega);have r9:=x3T (x:=.pointer s) 2 H.out;have T9:=yH (show TAt (fun k=>F k\/w.heap.size<=k) (X.setCell ⟨w.heap.size,2,none⟩ (.pointer s)) (some ⟨w.heap.size,0,none⟩) (.fork sR v (x0B l rR (t+1)).1 u) from TAt.fork (r:=⟨m,j,o,sR⟩) r9 (x3U (E.1.later Q) E.2 J 2 _) (Or.inr (jB _)) (fun y hy hR=>Or.inl (E.2 y hy hR).1)
     ((T8.aside AE 2 _).wide (fun k h=>h.imp (fun h=>h.1) (fun h=>jJ C.size h)))
     (((AN.later Q).aside J.out 2 _).wide (fun k h=>Or.inl h.1)))
    have AF:=yH (show Below w.heap.size w (X.setCell ⟨w.heap.size,2,none⟩ (.pointer s)) from Q.setCell (p:=⟨w.heap.size,2,none⟩) (jB _) _);generalize X.setCell ⟨w.heap.size,2,none⟩ (.pointer s)=w9 at *;clear x2 c9 r9 c8 f8;go_wp2_with fail
    go_ret2;rw [HG.out];exact ⟨_,rfl,T9.out,AF.out⟩
   | false=>
    rw [hlp,if_neg (by simp)] at HG;rw [hlp] at Y;clear hlp;refine kD (S:=fun w'=>Below L.heap.size L w') (by kernel_rfl) (jC _ _).drew (fun hH=>?_);refine tK 0 ?_;refine tK 1 ?_;refine tK 2 ?_;refine tK 3 ?_;refine tQ 4 ?_ ?_ ?_;rotate_left
    ·intro w' hSw;have y0:=jH w' g 0 _ _ _ (((B.trans (hSw.mono B.size)).block g (yL A)).trans A.out);go_simp;try with_reducible rfl
    refine tK 5 ?_;refine tK 6 ?_;refine tK 7 ?_;refine tQ 8 ?_ ?_ ?_;rotate_left
    ·intro w' hSw;refine Eq.trans (b:=Result.ok (Next.value (.int .i64 ((t:Int).tmod (rn:Int)))) w') ?_ ?_
     ·exact x83 rfl rfl rfl q _
     ·with_reducible rfl
    refine rO 9 fun K hK=>?_;go_simp;refine (Y.out _ (B.trans (hH.mono B.size))).mono ?_;rintro _ N ⟨rfl,j7,f⟩;have P:Below L.heap.size L N:=by rw [f];exact Below.drewN hH _
    have C:=yH (B.trans (P.mono B.size));have G:=yH (yK P I);clear f;try go_wp2_with fail
    refine hK.out _ _ P (fun hH=>?_);clear hK K;try simp only [Act.put,yA,yB,yC]
    refine jD ?_;clear q1 q A4;have x3:=jH N g 3 _ _ _ ((C.block g (yL A)).trans A.out);have c9:=jH N w.heap.size 3 _ _ _ G;go_upto_region 11 with (go_at_call 80;refine (AG.out N C).mono ?_;rintro _ X ⟨s,rfl,t8,b8⟩;have T8:=yH t8;have B8:=yH b8;have H:=yH (yK b8 G);have c8:=jH X w.heap.size 3 _ _ _ H.out;have f8:=jS X w.heap.size 3 _ _ H.out;clear t8 b8)
    have Q:=yH (C.trans (B8.mono C.size));have AE:=yH (show ∀k,(F k/\k<w.heap.size)\/N.heap.size<=k->k≠w.heap.size from fun k hk e=>by
     have h7:w.heap.size<N.heap.size:=(yL G)
     rcases hk with h | h
     ·omega
     ·omega)
    have J:=yH (show ∀k,F k/\k<w.heap.size->k≠w.heap.size from fun k hk e=>by omega);have r9:=x3T (x:=.pointer s) 3 H.out;have T9:=yH (show TAt (fun k=>F k\/w.heap.size<=k) (X.setCell ⟨w.heap.size,3,none⟩ (.pointer s)) (some ⟨w.heap.size,0,none⟩) (.fork sR v l (x0B u rR (t+1)).1) from TAt.fork (r:=⟨m,j,o,sR⟩) r9 (x3U (E.1.later Q) E.2 J 3 _) (Or.inr (jB _)) (fun y hy hR=>Or.inl (E.2 y hy hR).1)
     (((AH.later Q).aside J.out 3 _).wide (fun k h=>Or.inl h.1))
     ((T8.aside AE 3 _).wide (fun k h=>h.imp (fun h=>h.1) (fun h=>jJ C.size h))))
    have AF:=yH (show Below w.heap.size w (X.setCell ⟨w.heap.size,3,none⟩ (.pointer s)) from Q.setCell (p:=⟨w.heap.size,3,none⟩) (jB _) _);generalize X.setCell ⟨w.heap.size,3,none⟩ (.pointer s)=w9 at *;clear x3 c9 r9 c8 f8;go_wp2_with fail
    go_ret2;rw [HG.out];exact ⟨_,rfl,T9.out,AF.out⟩
theorem x9h {F:Nat->Prop} (u:T) (p:Option Addr) (d:Nat) (r:Rw) (w:World) (h:TAt F w p u) (hdm:u.dims d) (hok:r.Ok w) (hrn:r.n=d) (hd0:0<d) (hs:u.size<=900):
  Calls Tryz.prog 22 #[.pointer p,r.val] w (x6P F w (x0h u r.R)):=by
 have G:=yH (x9g u F p 0 d r w h hdm hok hrn hd0 hs (by omega));rw [show ((0:Nat):Int)=0 from rfl] at G;have J:=yH (show x0h u r.R=if (x0B u r.R 0).2=true/\2*(x0B u r.R 0).1.all.length<(x0B u r.R 0).1.size then (lay (x0B u r.R 0).1.all 0,true) else x0B u r.R 0 from rfl);have I:=x0x (p:=r.R) (t:=0) hdm;have N:(x0B u r.R 0).1.size<=1000:=by rw [x12];omega
 have s:=yH hd0;clear h hdm hok hrn hs hd0;obtain ⟨rp,rn,rc,rR⟩:=r;unfold Rw.val;simp only at G J I N ⊢;unfold Rw.val at G;generalize x0B u rR 0=y at *;obtain ⟨X,v2⟩:=y;have o:=yH (x1E I);have M:=yH N;have W:=yH (jJ (x1c X) N);simp only at J;clear I N
 go_enter Tryz.func22,Tryz.ntmps22
 go_upto_region 2 with (go_at_call 80;refine G.mono ?_;rintro _ P ⟨i,rfl,t2,b2⟩;have g:=yH t2;have Y:=yH b2;clear t2 b2)
 clear G;cases v2 with
 | false=>
  rw [if_neg (by simp)] at J;go_wp2_with fail
  go_ret2;rw [J.out];exact ⟨i,rfl,g.out,Y.out⟩
 | true=>
  have l:=yH (fun w' (hb:Below P.heap.size P w')=>x4I X i w' (g.later hb) (jJ M (by decide)));have U:=yH (fun w' (hb:Below P.heap.size P w')=>x7P X i P w' g hb M);have a:=yH (show X.size=X.size from rfl);generalize hm:X.size=m at l J M a;have AE:=M.out;clear hm a;generalize hn:X.all.length=n at J W;have j:=yH hn;have AF:=W.out;clear hn;have q1:IntKind.i64.wrap (2*(n:Int))=2*(n:Int):=IntWalk.i64_in _ (by omega);have b:=yH (jC P.heap.size P);by_cases hv:2*n<m
  ·rw [if_pos ⟨rfl,hv⟩] at J;have b1:2*(n:Int)<(m:Int):=by omega
   go_upto_region 3 with (first
    | (go_at_call 31;refine (U.out P b).mono ?_;rintro _ q ⟨O,v3,rfl,B,K,hok,Z⟩;have C:=yH Z;obtain ⟨q3,c3,rfl,A⟩:=Own.rows (L:=O) ⟨B,fun r hr=>(hok r hr).1.later C.out⟩;have E:O.length=n:=(by rw [<- kH (f:=Rw.R),K];exact j.out);rw [E] at *;clear B K hok Z A E)
    | (go_at_call 81;refine (l.out q C).mono ?_;rintro _ w4 ⟨rfl,e⟩;have H:=yH (C.trans (e.mono C.size));clear e))
   clear q1 b1 hv;go_wp2_with (first
    | (go_at_call 31;refine (U.out w4 H).mono ?_;rintro _ w8 ⟨O,v8,rfl,B,K,hok,z⟩;have Q:=yH (H.trans (z.mono H.size));obtain ⟨q8,c8,rfl,A⟩:=Own.rows (L:=O) ⟨B,fun r hr=>(hok r hr).1.later Q.out⟩;have E:O.length<=1000:=(by rw [<- kH (f:=Rw.R),K,j.out];exact W.out);have c:=yH (x9v (F:=fun k=>F k\/w.heap.size<=k) 1000 O.length q8 c8 0 d O w8 E A (fun r hr=>⟨by rw [(hok r hr).1.ints.size];exact o.out _ (by rw [<- K];exact kJ.2 ⟨r,hr,rfl⟩),(hok r hr).2⟩) s (jB _) (by omega));rw [K,show ((0:Nat):Int)=0 from rfl] at c;clear B K hok z A E)
    | (go_at_call 38;refine c.mono ?_;rintro _ w9 ⟨q9,rfl,t9,x⟩;have T9:=yH (t9.wide (F':=fun k=>F k\/w.heap.size<=k) (fun k h=>h.elim id (fun h=>Or.inr (jJ (jJ Y.size Q.size) h))));have v:=yH (Q.trans (x.mono Q.size));clear t9 x))
   go_ret2;rw [J.out];exact ⟨q9,rfl,T9.out,Y.trans (v.mono Y.size)⟩
  ·rw [if_neg (fun h=>hv h.2)] at J;have b1:¬2*(n:Int)<(m:Int):=by omega
   go_wp2_with (first
    | (go_at_call 31;refine (U.out P b).mono ?_;rintro _ q ⟨O,v3,rfl,B,K,hok,Z⟩;have C:=yH Z;obtain ⟨q3,c3,rfl,A⟩:=Own.rows (L:=O) ⟨B,fun r hr=>(hok r hr).1.later C.out⟩;have E:O.length=n:=(by rw [<- kH (f:=Rw.R),K];exact j.out);rw [E] at *;clear B K hok Z A E)
    | (go_at_call 81;refine (l.out q C).mono ?_;rintro _ w4 ⟨rfl,e⟩;have H:=yH (C.trans (e.mono C.size));clear e))
   go_ret2;rw [J.out];exact ⟨i,rfl,g.later H,Y.trans (H.mono Y.size)⟩
end Kt
namespace Nd
open Go.RowKit Mo Zr
open List renaming setIfInBounds_toArray -> yA, set_cons_zero -> yB, set_cons_succ -> yC
def y6v (w2:World) (gb d:Nat) (R S T U:List Int) (i:Value) (wr:World):Prop:=∃(j:Nat) (u v:Value),j<=d/\i= .int .i64 j/\TwoR w2 wr gb u v j j (two min R T j) (two max S U j)
def AwayP (X:Nat) (p:Option Addr) (R:List Int):Prop:=∀x,p=some x->R≠[]->x.block≠X
def y0l (w:World) (p q s t:Option Addr) (R S T U A B:List Int) (v:Value):Prop:=
 ∃a n c b m e,v= .agg #[.slice a n c,.slice b m e]/\∀X,X<w.heap.size->AwayP X p R->AwayP X q S->AwayP X s T->AwayP X t U->AwayP X a A/\AwayP X b B
theorem y0m (p q s t:Option Addr) (n c m e k f l h:Nat) (R S T U:List Int) (w:World) (h1:Ints w p n c R) (h2:Ints w q m e S) (h3:Ints w s k f T) (h4:Ints w t l h U):
  Calls Tryz.prog 140 #[.agg #[.slice p n c,.slice q m e],.agg #[.slice s k f,.slice t l h]] w fun e w'=>∃v,e= .returned v/\x7M w (hull (R,S) (T,U)).1 (hull (R,S) (T,U)).2 v w'/\y0l w p q s t R S T U (hull (R,S) (T,U)).1 (hull (R,S) (T,U)).2 v:=by
 obtain ⟨i2,hi,AK,AF,AL⟩:=info_parts I2h;have HI:=yH hi;have AE:=yH AK;have AP:=yH AF;have AH:=yH AL;clear hi AK AF AL;have hn:=h1.size;have hm:=h2.size;have hk:=h3.size;have hl:=h4.size;have hx:x0g R S n m n=rb R S:=by rw [hn,hm];rfl
 have hy:x0g T U k l k=rb T U:=by rw [hk,hl];rfl
 obtain ⟨F,I⟩:∃F,hull (R,S) (T,U)=F:=⟨_,rfl⟩
 have A2:=I;unfold hull at A2;simp only at A2;rw [I];have HX:=yH hx;have HY:=yH hy;have HF:=yH A2;have Ah:=yH (fun h=>x89 (R:=R) (S:=S) h);have AY:=yH (fun h=>x89 (R:=T) (S:=U) h);generalize rb R S=x at *;generalize rb T U=y at *;have HN:=yH hn;have HM:=yH hm;have HK:=yH hk;have AS:=yH hl;clear hx hy I A2 hn hm hk hl
 go_enter Tryz.func140,Tryz.ntmps140
 go_upto_region 1 with fail
 obtain ⟨o,AO,AD⟩:=x9l h1 h2 h3 h4;generalize (((w.alloc (.cells #[.slice p n c,.slice q m e] 32)).alloc (.cells #[.slice s k f,.slice t l h] 32)).alloc (.cells #[.slice none 0 0,.slice none 0 0] 32))=w1 at *;have HC:=yH o;have HB:=yH AO;have HZ:=yH AD;have H1:=yH h1;have H2:=yH h2;have H3:=yH h3;have H4:=yH h4;clear o AO AD h1 h2 h3 h4;refine kD (S:=fun w'=>BH w' w.heap.size p q s t n c m e k f l h R S T U) (by kernel_rfl) (HC.later (jC _ _).drew) (fun A=>?_);refine tQ 0 ?_ ?_ ?_;rotate_left
 ·intro w' hSw;have a0:=jH w' w.heap.size 0 _ _ _ hSw.a;have a1:=jH w' w.heap.size 1 _ _ _ hSw.a;go_simp;try with_reducible rfl
 refine tK 1 ?_;refine tQ 2 ?_ ?_ ?_;rotate_left
 ·intro w' hSw;have a0:=jH w' w.heap.size 0 _ _ _ hSw.a;go_simp;try with_reducible rfl
 refine tK 3 ?_;refine tQ 5 ?_ ?_ ?_;rotate_left
 ·intro w' hSw;have b0:=jH w' (w.heap.size+1) 0 _ _ _ hSw.b;have b1:=jH w' (w.heap.size+1) 1 _ _ _ hSw.b;go_simp;try with_reducible rfl
 refine tK 6 ?_;refine tQ 7 ?_ ?_ ?_;rotate_left
 ·intro w' hSw;have b0:=jH w' (w.heap.size+1) 0 _ _ _ hSw.b;go_simp;try with_reducible rfl
 refine tK 8 ?_;refine rO 4 fun K hK=>?_;go_simp;refine (x4y p q n c m e R S n _ A.i1 A.i2).mono ?_;rintro _ w2 ⟨rfl,A3⟩;rw [HX.out];have h2:=A.later A3;have AM:=yH (HB.drew.trans (A3.mono HB.size));try go_wp2_with fail
 refine hK.out _ _ h2 (fun A=>?_);clear hK K;try simp only [Act.put,yA,yB,yC]
 refine rO 9 fun K hK=>?_;go_simp;refine (x4y s t k f l h T U k _ A.i3 A.i4).mono ?_;rintro _ G ⟨rfl,A4⟩;rw [HY.out];have h3:=A.later A4;have P:=yH (AM.trans (A4.mono AM.size));try go_wp2_with fail
 refine hK.out _ _ h3 (fun A=>?_);clear hK K;try simp only [Act.put,yA,yB,yC]
 refine tK 10 ?_;refine tK 11 ?_;refine jD ?_;have B:=yH A;clear A h3 A4 h2 A3 HC HB;obtain ⟨a0,a1,b0,b1,z0,z1,z2,z3⟩:=B.cells;have hr:=B.r;cases x
 ·cases y
  ·have I:=HF.out;rw [if_neg (by simp),if_neg (by simp),if_pos (Or.inl rfl)] at I;subst I;go_wp2_with fail
   have H:=jU G (w.heap.size+2) 0 _ _ (.slice none 0 0) hr;have E:=jU _ (w.heap.size+2) 1 _ _ (.slice none 0 0) H;refine x3p 4 rfl (w.heap.size+2) (.slice none 0 0) (.slice none 0 0) (by rfl) (jH _ (w.heap.size+2) 0 _ _ _ E) (jH _ (w.heap.size+2) 1 _ _ _ E) ⟨_,rfl,x9m ?_ ?_ ((P.setCell (by show w.heap.size<=w.heap.size+2;omega) _).setCell (by show w.heap.size<=w.heap.size+2;omega) _),⟨_,_,_,_,_,_,rfl,fun _ _ _ _ _ _=>⟨fun _ _ h=>absurd rfl h,fun _ _ h=>absurd rfl h⟩⟩⟩
   ·exact x39 _ _ _
   ·exact x39 _ _ _
  ·have I:=HF.out;rw [if_neg (by simp),if_pos (by simp)] at I;subst I;go_wp2_with fail
   have H:=jU G (w.heap.size+2) 0 _ _ (.slice s k f) hr;have E:=jU _ (w.heap.size+2) 1 _ _ (.slice t l h) H;refine x3p 4 rfl (w.heap.size+2) (.slice s k f) (.slice t l h) (by rfl) (jH _ (w.heap.size+2) 0 _ _ _ E) (jH _ (w.heap.size+2) 1 _ _ _ E) ⟨_,rfl,x9m ?_ ?_ ((P.setCell (by show w.heap.size<=w.heap.size+2;omega) _).setCell (by show w.heap.size<=w.heap.size+2;omega) _),⟨_,_,_,_,_,_,rfl,fun _ _ _ _ h1 h2=>⟨h1,h2⟩⟩⟩
   ·exact H3.out
   ·exact H4.out
 ·cases y
  ·have I:=HF.out;rw [if_pos (by simp)] at I;subst I;go_wp2_with fail
   have H:=jU G (w.heap.size+2) 0 _ _ (.slice p n c) hr;have E:=jU _ (w.heap.size+2) 1 _ _ (.slice q m e) H;refine x3p 4 rfl (w.heap.size+2) (.slice p n c) (.slice q m e) (by rfl) (jH _ (w.heap.size+2) 0 _ _ _ E) (jH _ (w.heap.size+2) 1 _ _ _ E) ⟨_,rfl,x9m ?_ ?_ ((P.setCell (by show w.heap.size<=w.heap.size+2;omega) _).setCell (by show w.heap.size<=w.heap.size+2;omega) _),⟨_,_,_,_,_,_,rfl,fun _ _ h1 h2 _ _=>⟨h1,h2⟩⟩⟩
   ·exact H1.out
   ·exact H2.out
  ·by_cases hnk:(n:Int)=k
   case neg=>
    have I:=HF.out;rw [if_neg (by simp),if_neg (by simp),if_pos (Or.inr (by have:=HN.out;have:=HK.out;omega))] at I;subst I;have b9:((n:Int) !=k)=true:=by simp;omega
    go_wp2_with fail
    have H:=jU G (w.heap.size+2) 0 _ _ (.slice none 0 0) hr;have E:=jU _ (w.heap.size+2) 1 _ _ (.slice none 0 0) H;refine x3p 4 rfl (w.heap.size+2) (.slice none 0 0) (.slice none 0 0) (by rfl) (jH _ (w.heap.size+2) 0 _ _ _ E) (jH _ (w.heap.size+2) 1 _ _ _ E) ⟨_,rfl,x9m ?_ ?_ ((P.setCell (by show w.heap.size<=w.heap.size+2;omega) _).setCell (by show w.heap.size<=w.heap.size+2;omega) _),⟨_,_,_,_,_,_,rfl,fun _ _ _ _ _ _=>⟨fun _ _ h=>absurd rfl h,fun _ _ h=>absurd rfl h⟩⟩⟩
    ·exact x39 _ _ _
    ·exact x39 _ _ _
   obtain ⟨r1,r2,r3⟩:=Ah.out rfl;obtain ⟨r4,r5,r6⟩:=AY.out rfl;obtain rfl:k=n:=by omega
   obtain rfl:m=k:=by have:=HN.out;have:=HM.out;omega
   obtain rfl:l=m:=by have:=HK.out;have:=AS.out;omega
   have BE:l<=8:=by have:=HN.out;omega
   have I:=HF.out;rw [if_neg (by simp),if_neg (by simp),if_neg (by have:=HN.out;have:=HK.out;simp;omega),<- HN.out] at I;subst I;clear r1 r2 r3 r4 r5 r6 HF hnk;have HT0:=yH (TwoR.start G G (jC _ _));have b9:((l:Int) !=l)=false:=by simp
   go_upto_region 9 with fail
   clear a0 a1 b0 b1 z0 z1 z2 z3;obtain ⟨d,W⟩:∃d,d=G.heap.size:=⟨_,rfl⟩
   rw [<- W] at HT0;rw [<- W];have Av:=yH W;have A1:=yH (show w.heap.size+2<d from by rw [W];exact (yL B.r));clear W;have o:=B.later ((jC _ _).alloc (jB _) (.cells #[.slice none 0 0,.slice none 0 0] 32));generalize G.alloc (.cells #[.slice none 0 0,.slice none 0 0] 32)=w4 at *;have AW:=yH o;clear o;go_wp2_with fail
   go_loopw [8] (fun i wr=>y6v G d l R S T U i wr) (fun i _=>l - (intOf i).toNat)
   case atStart=>exact ⟨0,_,_,by omega,rfl,HT0.out⟩
   case round=>
    obtain ⟨j,u,v,hj,rfl,ht⟩:=hrel;have O:=yH ht;have A6:=yH (B.later O.low);clear ht AW;obtain ⟨pu,Z,rfl⟩:=x2e O.own1;obtain ⟨pv,N,rfl⟩:=x2e O.own2;obtain ⟨a0,a1,b0,b1,z0,z1,z2,z3⟩:=A6.cells;obtain ⟨cu,cv,cf,cg⟩:=O.facts;by_cases hlt:j<l
    ·obtain ⟨x1,o1,rfl,k1⟩:=B.i1.cell j hlt;obtain ⟨x2,o2,rfl,k2⟩:=B.i2.cell j hlt;obtain ⟨x3,o3,rfl,k3⟩:=B.i3.cell j hlt;obtain ⟨x4,o4,rfl,k4⟩:=B.i4.cell j hlt;have i1:(0:Int)<=j/\(j:Int)<l:=by omega
     have HS:=yH (x9n min R T j);have Aa:=yH (x9n max S U j);generalize R.getD j 0=x at *;generalize S.getD j 0=y at *;generalize T.getD j 0=z at *;generalize U.getD j 0=vv at *;go_upto_region 12 with fail
     have C:=yH (O.later (jC _ _).drew);go_cut [] from 50 to 65 (fun wx=>∃ua,TwoR G wx d ua (.slice pv j N) (j+1) j (two min R T j++[min x z]) (two max S U j))
     case first=>
      refine kD (S:=fun w'=>Below G.heap.size G w') (by kernel_rfl) C.low (fun A=>?_);refine tK 0 ?_;refine tK 2 ?_;refine tQ 3 ?_ ?_ ?_;rotate_left
      ·intro w' hSw;have a0:=jH w' w.heap.size 0 _ _ _ (B.later hSw).a;go_simp;try with_reducible rfl
      refine tK 4 ?_;refine tK 5 ?_;refine tQ 6 ?_ ?_ ?_;rotate_left
      ·intro w' hSw;have k9:=(hSw.cell (jI k1)).trans k1;go_simp;try with_reducible rfl
      refine tK 7 ?_;refine tQ 8 ?_ ?_ ?_;rotate_left
      ·intro w' hSw;have b0:=jH w' (w.heap.size+1) 0 _ _ _ (B.later hSw).b;go_simp;try with_reducible rfl
      refine tK 9 ?_;refine tK 10 ?_;refine tQ 11 ?_ ?_ ?_;rotate_left
      ·intro w' hSw;have k9:=(hSw.cell (jI k3)).trans k3;go_simp;try with_reducible rfl
      refine tK 12 ?_;refine rY [1,13] ?_;refine rC (fun K hK=>?_) (rC (fun K hK=>?_) AllReadyH.nil)
      focus
       have cL:wr.drew.cell? ⟨d,0,none⟩=some (.slice pu j Z):=cu;go_simp;refine hK.out _ _ A (fun A=>?_);clear hK K;try simp only [Act.put,yA,yB,yC]
       refine rO 13 fun K hK=>?_;go_simp;have J:Below wr.heap.size wr ((wr.alloc (.cells #[.int .i64 (min x z)] 2)).drew):=(jA _ _).drew;have A:Below G.heap.size G ((wr.alloc (.cells #[.int .i64 (min x z)] 2)).drew):=A.alloc O.low.size (.cells #[.int .i64 (min x z)] 2);try go_wp2_with fail
      rotate_left
      focus
       go_simp;have J:Below wr.heap.size wr ((wr.alloc (.cells #[.int .i64 (min x z)] 2)).drew):=(jA _ _).drew;have A:Below G.heap.size G ((wr.alloc (.cells #[.int .i64 (min x z)] 2)).drew):=A.alloc O.low.size (.cells #[.int .i64 (min x z)] 2);try go_wp2_with fail
       refine hK.out _ _ A (fun A=>?_);clear hK K;try simp only [Act.put,yA,yB,yC]
       refine rO 1 fun K hK=>?_;have cL:((wr.alloc (.cells #[.int .i64 (min x z)] 2)).drew).cell? ⟨d,0,none⟩=some (.slice pu j Z):=(J.cell (jI cu)).trans cu;go_simp
      rotate_left;all_goals
       refine hK.out _ _ A (fun A=>?_);clear hK K;try simp only [Act.put,yA,yB,yC]
       refine rO 14 fun K hK=>?_;refine x0l (.tmp 51) (.tmp 63) 24 (by rfl) (d+1) 2 i2 (.int .i64 0) 1 8 URh HI AE AP AH (by rfl) (by decide) _ j _ (by rfl) (show ((wr.alloc (.cells #[.int .i64 (min x z)] 2)).drew).ownsRow _ _ _ _ _ _ from C.own1.alloc _) ⟨wr.heap.size,0,none⟩ 1 1 (ivals [min x z]) (by rfl) (by rfl) (x5V (L:=[min x z]) (jE wr.drew _)) (x88 _) (by unfold maxLen;omega) (by omega) (by have h9:=O.lt;simp;omega) ?_;intro v4 w4 hown4 hgrow4 hat4;obtain ⟨q4,c4,rfl⟩:=x2e hown4;obtain ⟨⟨ca,cb⟩,Y⟩:=TwoR.left C.out hown4 hgrow4 hat4;have Q:=yH Y;have h4:Below G.heap.size G w4:=(C.low.alloc C.low.size _).grown hgrow4 (by have:=O.low.size;simp;omega) (fun g e=>by have:=(C.own1.lt g e).1;have:=O.ge;omega);clear hown4 hgrow4 hat4 Y;refine hK.out _ _ h4 (fun A=>?_);clear hK K;try simp only [Act.put,yA,yB,yC]
       refine tK 15 ?_;refine rO 16 fun K hK=>?_;go_simp;try go_wp2_with fail
       refine hK.out _ _ Q.low (fun A=>?_);clear hK K;try simp only [Act.put,yA,yB,yC]
       refine jD ?_;try go_wp2_with fail
       go_meet;exact ⟨_,Q.out⟩
     case rest=>
      obtain ⟨ua,ht⟩:=hcut;rw [<- HS.out] at ht;obtain ⟨pa,B1,rfl⟩:=x2e ht.own1;have M:=yH ht;clear ht O C A6 a0 a1 b0 b1 z0 z1 z2 z3 cu cv cf cg;generalize hwb:wc=wb at *;clear hwb;obtain ⟨cu,cv,cf,cg⟩:=M.facts;have C:=yH (M.later (jC _ _).drew);go_upto_region 13 with fail
      refine kD (S:=fun w'=>Below G.heap.size G w') (by kernel_rfl) C.low (fun A=>?_);refine tK 0 ?_;refine tK 2 ?_;refine tQ 3 ?_ ?_ ?_;rotate_left
      ·intro w' hSw;have a0:=jH w' w.heap.size 1 _ _ _ (B.later hSw).a;go_simp;try with_reducible rfl
      refine tK 4 ?_;refine tK 5 ?_;refine tQ 6 ?_ ?_ ?_;rotate_left
      ·intro w' hSw;have k9:=(hSw.cell (jI k2)).trans k2;go_simp;try with_reducible rfl
      refine tK 7 ?_;refine tQ 8 ?_ ?_ ?_;rotate_left
      ·intro w' hSw;have b0:=jH w' (w.heap.size+1) 1 _ _ _ (B.later hSw).b;go_simp;try with_reducible rfl
      refine tK 9 ?_;refine tK 10 ?_;refine tQ 11 ?_ ?_ ?_;rotate_left
      ·intro w' hSw;have k9:=(hSw.cell (jI k4)).trans k4;go_simp;try with_reducible rfl
      refine tK 12 ?_;refine rY [1,13] ?_;refine rC (fun K hK=>?_) (rC (fun K hK=>?_) AllReadyH.nil)
      focus
       have cL:wb.drew.cell? ⟨d,1,none⟩=some (.slice pv j N):=cv;go_simp;refine hK.out _ _ A (fun A=>?_);clear hK K;try simp only [Act.put,yA,yB,yC]
       refine rO 13 fun K hK=>?_;go_simp;have J:Below wb.heap.size wb ((wb.alloc (.cells #[.int .i64 (max y vv)] 2)).drew):=(jA _ _).drew;have A:Below G.heap.size G ((wb.alloc (.cells #[.int .i64 (max y vv)] 2)).drew):=A.alloc M.low.size (.cells #[.int .i64 (max y vv)] 2);try go_wp2_with fail
      rotate_left
      focus
       go_simp;have J:Below wb.heap.size wb ((wb.alloc (.cells #[.int .i64 (max y vv)] 2)).drew):=(jA _ _).drew;have A:Below G.heap.size G ((wb.alloc (.cells #[.int .i64 (max y vv)] 2)).drew):=A.alloc M.low.size (.cells #[.int .i64 (max y vv)] 2);try go_wp2_with fail
       refine hK.out _ _ A (fun A=>?_);clear hK K;try simp only [Act.put,yA,yB,yC]
       refine rO 1 fun K hK=>?_;have cL:((wb.alloc (.cells #[.int .i64 (max y vv)] 2)).drew).cell? ⟨d,1,none⟩=some (.slice pv j N):=(J.cell (jI cv)).trans cv;go_simp
      rotate_left;all_goals
       refine hK.out _ _ A (fun A=>?_);clear hK K;try simp only [Act.put,yA,yB,yC]
       refine rO 14 fun K hK=>?_;refine x0l (.tmp 67) (.tmp 79) 24 (by rfl) (d+1) 2 i2 (.int .i64 0) 1 8 URh HI AE AP AH (by rfl) (by decide) _ j _ (by rfl) (show ((wb.alloc (.cells #[.int .i64 (max y vv)] 2)).drew).ownsRow _ _ _ _ _ _ from C.own2.alloc _) ⟨wb.heap.size,0,none⟩ 1 1 (ivals [max y vv]) (by rfl) (by rfl) (x5V (L:=[max y vv]) (jE wb.drew _)) (x88 _) (by unfold maxLen;omega) (by omega) (by have h9:=M.lt;simp;omega) ?_;intro v4 w4 hown4 hgrow4 hat4;obtain ⟨q4,c4,rfl⟩:=x2e hown4;obtain ⟨⟨ca,cb⟩,Y⟩:=TwoR.right C.out hown4 hgrow4 hat4;have Q:=yH Y;have h4:Below G.heap.size G w4:=(C.low.alloc C.low.size _).grown hgrow4 (by have:=M.low.size;simp;omega) (fun g e=>by have:=(C.own2.lt g e).1;have:=M.ge;omega);clear hown4 hgrow4 hat4 Y;refine hK.out _ _ h4 (fun A=>?_);clear hK K;try simp only [Act.put,yA,yB,yC]
       refine tK 15 ?_;refine rO 16 fun K hK=>?_;go_simp;try go_wp2_with fail
       refine hK.out _ _ Q.low (fun A=>?_);clear hK K;try simp only [Act.put,yA,yB,yC]
       refine jD ?_;have A5:=Q.out;rw [<- Aa.out] at A5;have HT5:=yH A5;clear A5;go_wp2_with fail
       go_roundw
       case rel=>exact ⟨j+1,_,_,by omega,by go_num,HT5.out⟩
       case measure=>simp [intOf];omega
    ·obtain rfl:j=l:=by omega
     go_wp2_with fail
     have H:=jU wr (w.heap.size+2) 0 _ _ (.slice pu j Z) A6.r;have E:=jU _ (w.heap.size+2) 1 _ _ (.slice pv j N) H;have e0:=x6d O.out P (w.heap.size+2) 0 (.slice pu j Z) (by omega) A1;have e5:=x6d e0 (jC _ _) (w.heap.size+2) 1 (.slice pv j N) (by omega) A1;refine x3p 4 rfl (w.heap.size+2) (.slice pu j Z) (.slice pv j N) (by rfl) (jH _ (w.heap.size+2) 0 _ _ _ E) (jH _ (w.heap.size+2) 1 _ _ _ E) ⟨_,rfl,e5.done ?_ ?_,⟨_,_,_,_,_,_,rfl,fun X hX _ _ _ _=>⟨fun x hx _ e=>by have h1:=(e5.own1.lt x.block (by rw [hx];rfl)).1;have h2:=A1.out;omega,fun x hx _ e=>by have h1:=(e5.own2.lt x.block (by rw [hx];rfl)).1;have h2:=A1.out;omega⟩⟩⟩
     ·exact y5P (fun x y=>by omega) (fun i hi=>B.i1.get i hi) (fun i hi=>B.i3.get i hi)
     ·exact y5P (fun x y=>by omega) (fun i hi=>B.i2.get i hi) (fun i hi=>B.i4.get i hi)
end Nd
namespace Nd
open Go.RowKit
structure Few (E:List En) (K:List Kd):Prop where
 rows:E.length<=50
 kids:K.length<=50
 row:∀e∈E,e.row.n<=50
 lo:∀k∈K,k.lo.n<=50
 hi:∀k∈K,k.hi.n<=50
 key:∀k∈K,k.key.n<=50
end Nd
end Go.Proofs.YtenenciaggbjnaaGreat
