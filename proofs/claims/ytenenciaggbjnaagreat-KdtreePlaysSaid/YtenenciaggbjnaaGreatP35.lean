/- KlPlaysS, KrSame, KrHeight. -/
import Derived.BigRegion
import Derived.Lib.MinMax
import Derived.Test.YtenenciaggbjnaaGreatP34
set_option maxRecDepth 100000
set_option maxHeartbeats 8000000
set_option linter.all false
namespace Go.Proofs.YtenenciaggbjnaaGreat
namespace Kt
open Go.RowKit Nd Dk Pg
theorem y76 (u:T) (p:List Int):((x0h u p).1,(x0B u p 0).2)=x0h u p:=by
 unfold x0h;split
 ·rename_i h
  rw [h.1]
 ·rfl
structure P1 (w0 wr:World) (g d bK:Nat) (kd:Kd) (Q:Nat->Prop) (s:Pg.S) (u:T) (tp:Option Addr):Prop where
 kp:KpSt w0 wr g d kd Q s u
 cl:s.cl=none
 row:wr.heap[bK]? =some (.cells kd.cells.toArray 34 (0,0))
 nq:¬Q bK
 far:∀r∈kd.rows,∀x,r.p=some x->r.R≠[]->x.block≠bK
 tree:TAt (fun b=>¬Q b/\b≠bK) wr tp u
structure PY (w0 y:World) (g d bK bX:Nat) (kd kx:Kd) (err:Int) (Q':Nat->Prop) (s s':Pg.S) (u:T) (tp:Option Addr) (x:T×Bool) (bad:Int):Prop where
 old:KpSt w0 y g d kd Q' s' u
 rowK:y.heap[bK]? =some (.cells kd.cells.toArray 34 (0,0))
 nqK:¬Q' bK
 rowX:y.heap[bX]? =some (.cells kx.cells.toArray 34 (0,0))
 oldFar:∀r∈kd.rows,∀x,r.p=some x->r.R≠[]->x.block≠bK
 nqX:¬Q' bX
 ne:bX≠bK
 farK:∀r∈kx.rows,∀x,r.p=some x->r.R≠[]->x.block≠bK
 tree:TAt (fun b=>¬Q' b/\b≠bK/\b≠bX) y tp u
 says:(err=0/\KpSt w0 y g d kx Q' s' x.1/\(s.cl=none->x.2=true))\/(err≠0/\kx=kd0/\s'=s/\(s.cl=none->err=bad/\x.2=false))
 len:kx.cells.length=37
 size:kx.pk.size<=kd.pk.size+1
 few:(s'.W.length:Int)<=s.W.length+(2*kd.pk.size+2)
section
variable {w0 wr w' y y':World} {g d bK bX:Nat} {kd kx:Kd} {err bad:Int} {Q Q':Nat->Prop} {s s':Pg.S} {u:T} {tp:Option Addr} {x:T×Bool}
theorem P1.later (h:P1 w0 wr g d bK kd Q s u tp) (hb:Below wr.heap.size wr w'):P1 w0 w' g d bK kd Q s u tp:=
 ⟨h.kp.later hb,h.cl,(hb.block _ (yL h.row)).trans h.row,h.nq,h.far,h.tree.later hb⟩
theorem PY.later (h:PY w0 y g d bK bX kd kx err Q' s s' u tp x bad) (hb:Below y.heap.size y y'):PY w0 y' g d bK bX kd kx err Q' s s' u tp x bad:=
 ⟨h.old.later hb,(hb.block _ (yL h.rowK)).trans h.rowK,h.nqK,(hb.block _ (yL h.rowX)).trans h.rowX,h.oldFar,h.nqX,h.ne,h.farK,h.tree.later hb,h.says.imp (fun ⟨a,b,c⟩=>⟨a,b.later hb,c⟩) id,h.len,h.size,h.few⟩
theorem P1.chg (h:P1 w0 wr g d bK kd Q s u tp) (hX:wr.heap[bX]? =some (.cells kd0.cells.toArray 34 (0,0))) (hqX:¬Q bX) (hne:bX≠bK) (hw:w0.heap.size<=bX) (hr:∀r∈kd.rows,∀x,r.p=some x->r.R≠[]->x.block≠bX) (ht:TAt (fun b=>¬Q b/\b≠bK/\b≠bX) wr tp u) (hc:Chg wr g d Q s kd.pk x bad kx err Q' s' y):
  y.heap[bX]? =some (.cells kd0.cells.toArray 34 (0,0))/\PY w0 (y.setRow bX kx.cells.toArray) g d bK bX kd kx err Q' s s' u tp x bad:=by
 obtain ⟨M,L,I,O,N⟩:=y55 h.kp h.row h.nq hc;have E:=(yL hX)
 have C:=(hc.only.block _ E hqX).trans hX;have K:∀b,b<wr.heap.size->¬Q b->¬Q' b:=fun b hb hq e=>(hc.own b e).elim hq (fun e=>by omega);have A:=K _ E hqX;have B:=x08 y bX kx.cells.toArray;have G:∀r∈kx.rows,∀x,r.p=some x->r.R≠[]->x.block≠bX:=fun r hr x hx hR=>by
  have:=hc.fsh r hr x hx hR;omega
 have H:TAt (fun b=>¬Q' b/\b≠bK/\b≠bX) (y.setRow bX kx.cells.toArray) tp u:=by
  have t1:=(ht.lt.keep (w':=y) fun k hk hl=>hc.only.block k hl hk.1.1).wide (F':=fun b=>¬Q' b/\b≠bK/\b≠bX) fun k hk=>⟨K k hk.2 hk.1.1,hk.1.2⟩
  exact t1.keep fun k hk hl=>B.block k hl hk.2.2
 refine ⟨C,M.set hw A hr _,(B.block _ (yL I) (fun e=>hne e.symm)).trans I,O,jT _ _ _ _ _ _ C,h.far,A,hne,N,H,?_,Kd.cells_length hc.ok.len,hc.size,hc.few⟩;rcases hc.says with ⟨J,-,P⟩ | e
 ·exact Or.inl ⟨J,(L J).set hw A G _,fun e=>(P e).1⟩
 ·exact Or.inr e
theorem PY.next {qx:Option Addr} (h:PY w0 y g d bK bX kd kx 0 Q' s s' u tp x bad) (hw:w0.heap.size<=bK) (hcl:s'.cl=none) (ht:TAt (fun b=>¬Q' b/\b≠bK) y qx x.1):P1 w0 (y.setRow bK kx.cells.toArray) g d bK kx Q' s' x.1 qx:=by
 have B:KpSt w0 y g d kx Q' s' x.1:=by
  rcases h.says with ⟨-,A,-⟩ | ⟨C,-⟩
  ·exact A
  ·exact absurd rfl C
 obtain ⟨C,A⟩:=B.copy hw h.nqK h.farK h.rowK;exact ⟨C,hcl,A,h.nqK,h.farK,ht.keep fun k B hl=>(x08 y bK kx.cells.toArray).block k hl B.2⟩
theorem PY.back (h:PY w0 y g d bK bX kd kx err Q' s s' u tp x bad) (hcl:s'.cl=none):P1 w0 y g d bK kd Q' s' u tp:=
 ⟨h.old,hcl,h.rowK,h.nqK,h.oldFar,h.tree.wide fun k hk=>⟨hk.1,hk.2.1⟩⟩
theorem P1.kid (h:P1 w0 wr g d bK kd Q s u tp) (hz:kd.pk.size<=900):kd.pk=u.kid/\u.dims d/\u.size<=900/\Fine d u/\Sees s.W d (V.of u)/\(u.size:Int)=kd.pk.size:=by
 obtain ⟨A,B,C⟩:=h.kp.tr.clean h.cl;have E:=x6M A B hz;have e:=x1C (u:=u) (by omega);refine ⟨by rw [A,e],C.dims,E,C,B,?_⟩;rw [A,e,x0W u (by omega)]
end
theorem y5N {d:Nat} {u:T} {p:List Int} (h:Fine d u) (hp:p.length=d) (hz:u.size<900000):hasV d p (V.of u)=(decide (p∈u.all),0):=by
 obtain ⟨A,s,B,C,_⟩:=x3L hp u 0 h.dims (by omega);unfold hasV;rw [B];simp only;rw [C,x6H hp u 0 h.dims h.bst,Bool.not_not]
end Kt
namespace Kt
open Go.RowKit
def numsK (L:List Rw):List (List Int):=L.map Rw.R
theorem x33 (L:List Rw) (k:Nat) (h:k<L.length):numsK (L.take (k+1))=numsK (L.take k)++[(L.getD k default).R]:=by
 unfold numsK;rw [List.take_succ_eq_append_getElem h,List.map_append,jG,jM h];rfl
def y7d (w:World) (L M:List Rw) (n:Nat) (i:Value) (wr:World):Prop:=∃k j:Nat,k<=n/\i= .int .i64 k/\numsK (L.take k)=numsK (M.take k)/\wr=w.drewN j
theorem y5O {L M:List Rw} {k:Nat} (hk:k<L.length) (hm:k<M.length) (h:¬(L.getD k default).R=(M.getD k default).R):¬numsK L=numsK M:=fun e=>by
 have:=congrArg (fun l=>l.getD k []) e
 simp [numsK,jG,hk,hm] at this h
 exact h this
theorem x92 (p q:Option Addr) (n c m e:Nat) (L M:List Rw) (w:World) (h:RowsIn w p n c L) (h2:RowsIn w q m e M) (hn9:n<=9223372036854775807):
  Calls Tryz.prog 33 #[.slice p n c,.slice q m e] w fun e w'=>e= .returned (.bool (decide (numsK L=numsK M)))/\∃j,w'=w.drewN j:=by
 have P:=yH h;have Q:=yH h2;clear h h2;by_cases hn:(n:Int)=m
 case neg=>
  have W:=yH (show ¬numsK L=numsK M from fun h=>hn (by
   have:=congrArg List.length h;simp [numsK] at this;rw [P.size,Q.size,this]))
  go_enter Tryz.func33,Tryz.ntmps33
  go_wp2_with fail
  go_ret;exact ⟨x0e W,0,rfl⟩
 obtain rfl:m=n:=by omega
 go_enter Tryz.func33,Tryz.ntmps33
 go_wp2_with fail
 go_loopw [5] (fun i wr=>y7d w L M m i wr) (fun i _=>m - (intOf i).toNat)
 case atStart=>exact ⟨0,0,by omega,rfl,rfl,rfl⟩
 case round=>
  obtain ⟨k,j,g,rfl,K,B⟩:=hrel;have HL:=yH K;have HW:=yH B;have a:=yH (show RowsIn wr p m c L by rw [B];exact P.later (Below.drewN (jC _ _) j));have d:=yH (show RowsIn wr q m e M by rw [B];exact Q.later (Below.drewN (jC _ _) j));clear K B;by_cases hlt:k<m
  ·obtain ⟨r,o,rfl,I,C⟩:=a.cell k hlt;obtain ⟨s,f,rfl,J,H⟩:=d.cell k hlt;have G:k<L.length:=by rw [<- P.size];exact hlt
   have E:k<M.length:=by rw [<- Q.size];exact hlt
   have l:(0:Int)<=k/\(k:Int)<m:=by omega
   have HS1:=yH (x33 L k G);have HS2:=yH (x33 M k E);have X:=yH (fun h=>y5O (L:=L) (M:=M) G E h);obtain ⟨t,O⟩:∃t,t=L.getD k default:=⟨_,rfl⟩
   obtain ⟨u,N⟩:∃u,u=M.getD k default:=⟨_,rfl⟩
   rw [<- O] at I C HS1 X;rw [<- N] at J H HS2 X;unfold Rw.val at I J;have A:∀i,Calls Tryz.prog 32 #[.slice t.p t.n t.c,.slice u.p u.n u.c] (wr.drewN i) fun e w'=>e= .returned (.bool (decide (t.R=u.R)))/\∃m,w'=(wr.drewN i).drewN m:=fun i=>
    x0y _ _ _ _ _ _ _ _ (wr.drewN i) (C.ints.later (Below.drewN (jC _ _) i)) (H.ints.later (Below.drewN (jC _ _) i)) C.top
   clear O N C H G E;by_cases hxy:t.R=u.R
   ·rw [kF hxy] at A;have Y:=yH A;have HXY:=yH hxy;clear A hxy;go_upto_region 6 with fail
    go_quiet ((go_at_call 32;exact Calls.quiet_of (Y.out _)))
    go_wp2_with fail
    go_roundw
    case rel=>exact ⟨k+1,j+nq,by omega,by go_num,by rw [HS1.out,HS2.out,HL.out,HXY.out],by rw [HW.out,World.drewN_drewN]⟩
    case measure=>simp [intOf];omega
   ·rw [kE hxy] at A;have Y:=yH A;have Z:=yH (X.out hxy);clear A hxy;go_upto_region 6 with fail
    go_quiet ((go_at_call 32;exact Calls.quiet_of (Y.out _)))
    go_wp2_with fail
    go_ret;exact ⟨x0e Z,j+nq,by rw [HW.out,World.drewN_drewN]⟩
  ·obtain rfl:k=m:=by omega
   have U:=HL.out;rw [kQ (by rw [P.size];exact jB _),kQ (by rw [Q.size];exact jB _)] at U;have b:=yH U;clear U;go_wp2_with fail
   go_ret;exact ⟨x7Q b,j,HW.out⟩
end Kt
namespace Kt
open Go.RowKit
open List renaming setIfInBounds_toArray -> yA, set_cons_zero -> yB, set_cons_succ -> yC
theorem x9j {F:Nat->Prop} (u:T):∀(p:Option Addr) (w:World),TAt F w p u->u.height<=1000000000->Calls Tryz.prog 34 #[.pointer p] w fun e w'=>e= .returned (.int .i64 u.height)/\Below w.heap.size w w':=by
 induction u with
 | nil=>
  intro p w h _;obtain rfl:p=none:=by cases h;rfl
  clear h
  go_enter Tryz.func34,Tryz.ntmps34
  go_wp2_with fail
  go_ret;exact ⟨rfl,jC _ _⟩
 | fork x v l u ihl ihr=>
  intro p w h hs;obtain ⟨g,r,a,b,rfl,rfl,B,-,-,-,H,I⟩:=h.go;have G:(T.fork r.R v l u).height=1+max l.height u.height:=rfl;rw [G] at hs ⊢;have L:=yH (fun w' (hb:Below w.heap.size w w')=>ihl a w' (H.later hb) (by omega));have N:=yH (fun w' (hb:Below w.heap.size w w')=>ihr b w' (I.later hb) (by omega));have A:=yH B;clear ihl ihr h H I B;clear G;generalize l.height=m at *;generalize u.height=n at *
  go_enter Tryz.func34,Tryz.ntmps34
  go_upto_region 3 with fail
  refine kD (S:=fun w'=>Below w.heap.size w w') (by kernel_rfl) (jC _ _).drew (fun hH=>?_);refine tK 0 ?_;refine tK 1 ?_;refine tK 2 ?_;refine tQ 3 ?_ ?_ ?_;rotate_left
  ·intro w' hSw;have U:=jH w' g 2 _ _ _ ((hSw.block g (yL A)).trans A.out);go_simp;try with_reducible rfl
  refine tK 5 ?_;refine tK 6 ?_;refine tK 7 ?_;refine tQ 8 ?_ ?_ ?_;rotate_left
  ·intro w' hSw;have Q:=jH w' g 3 _ _ _ ((hSw.block g (yL A)).trans A.out);go_simp;try with_reducible rfl
  refine rO 4 fun K hK=>?_;go_simp;refine (L.out _ hH).mono ?_;rintro _ P ⟨rfl,J⟩;have E:=hH.trans (J.mono hH.size);try go_wp2_with fail
  refine hK.out _ _ E (fun hH=>?_);clear hK K;try simp only [Act.put,yA,yB,yC]
  refine rO 9 fun K hK=>?_;go_simp;refine (N.out _ hH).mono ?_;rintro _ O ⟨rfl,M⟩;have C:=hH.trans (M.mono hH.size);try go_wp2_with fail
  refine hK.out _ _ C (fun hH=>?_);clear hK K;try simp only [Act.put,yA,yB,yC]
  refine tK 10 ?_;refine tQ 11 ?_ ?_ ?_;rotate_left
  ·intro w' hSw;have q:=IntWalk.i64_in ((1:Int)+max (m:Int) (n:Int)) (by omega);go_simp;try with_reducible rfl
  refine tK 12 ?_;refine jD ?_;go_wp2_with fail
  go_ret;refine ⟨?_,hH⟩;rw [show ((1+max m n:Nat):Int)=1+max (m:Int) (n:Int) from by omega];rfl
end Kt
end Go.Proofs.YtenenciaggbjnaaGreat
