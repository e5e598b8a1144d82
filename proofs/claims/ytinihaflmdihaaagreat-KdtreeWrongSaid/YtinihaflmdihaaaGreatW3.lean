/- ZrTwo, BoxRefA, NdTwo, NdMath, NdLay, NdKd0, GenEqs, BoxRefB, BoxRefG, NdSame, NlEqual, NlBoxSame, NlSame. -/
import Derived.Maps.AppendAt
import Derived.Laws.OwnMore
import Derived.Great.BuildSlice
import Derived.Test.YtinihaflmdihaaaGreatW1
import Derived.Test.YtinihaflmdihaaaGreatW2
set_option maxRecDepth 100000
set_option maxHeartbeats 8000000
set_option linter.unusedVariables false
set_option linter.unusedSimpArgs false
namespace Go.Proofs.YtinihaflmdihaaaGreat.Zr
open Go.RowKit Go.Proofs.YtinihaflmdihaaaGreat.Mo
open List renaming setIfInBounds_toArray → sA, set_cons_zero → sZ, set_cons_succ → sS
theorem owns_keep {w w':World} {base:Nat} {e:TypeId} {v:Value} {n:Nat} {xs:List Value} (h:w.ownsRow base e 1 v n xs) (hk:∀g,v.ownBlock=some g→w'.heap[g]? =w.heap[g]?):w'.ownsRow base e 1 v n xs:=by
 obtain ⟨h1,h2⟩:=h
 refine ⟨h1,h2.imp id ?_⟩
 rintro ⟨g,cap,cur,rfl,hg,hh,r⟩
 exact ⟨g,cap,cur,rfl,hg,(hk g rfl).trans hh,r⟩
structure TwoR (w0 w:World) (gb:Nat) (u v:Value) (nu nv:Nat) (A B:List Int):Prop where
 row:w.heap[gb]? =some (.cells #[u,v] 32 (0,0))
 own1:w.ownsRow (gb+1) 2 1 u nu (ivals A)
 own2:w.ownsRow (gb+1) 2 1 v nv (ivals B)
 apart:∀g,u.ownBlock=some g→v.ownBlock≠some g
 low:Below w0.heap.size w0 w
 ge:w0.heap.size≤gb
theorem TwoR.lt {w0 w:World} {gb:Nat} {u v:Value} {nu nv:Nat} {A B:List Int} (h:TwoR w0 w gb u v nu nv A B):gb<w.heap.size:=(Array.getElem?_eq_some_iff.1 h.row).1
theorem TwoR.facts {w0 w:World} {gb:Nat} {u v:Value} {nu nv:Nat} {A B:List Int} (h:TwoR w0 w gb u v nu nv A B):w.cell? ⟨gb,0,none⟩=some u∧w.cell? ⟨gb,1,none⟩=some v∧w.frozen? ⟨gb,0,none⟩=false∧w.frozen? ⟨gb,1,none⟩=false:=
 ⟨cell_of_row w gb 0 _ _ _ h.row,cell_of_row w gb 1 _ _ _ h.row,frozen_of_row w gb _ _ _ h.row,frozen_of_row w gb _ _ _ h.row⟩
theorem TwoR.start (w0 w:World) (hb:Below w0.heap.size w0 w):TwoR w0 (w.alloc (.cells #[.slice none 0 0,.slice none 0 0] 32)) w.heap.size (.slice none 0 0) (.slice none 0 0) 0 0 [] []:=
 ⟨heap_alloc_new w _,World.ownsRow_nil _ _ _ _,World.ownsRow_nil _ _ _ _,fun g h=>by simp [Value.ownBlock] at h,hb.alloc hb.size _,hb.size⟩
theorem TwoR.later {w0 w w':World} {gb:Nat} {u v:Value} {nu nv:Nat} {A B:List Int} (h:TwoR w0 w gb u v nu nv A B) (hb:Below w.heap.size w w'):TwoR w0 w' gb u v nu nv A B:=
 ⟨(hb.block _ h.lt).trans h.row,owns_keep h.own1 (fun g hg=>hb.block g (h.own1.lt g hg).2),owns_keep h.own2 (fun g hg=>hb.block g (h.own2.lt g hg).2),h.apart,h.low.trans (hb.mono h.low.size),h.ge⟩
theorem TwoR.left {w0 w w2:World} {O:Obj} {gb:Nat} {u v u':Value} {nu nv:Nat} {A B:List Int} {x:Int} (h:TwoR w0 w gb u v nu nv A B) (ho:w2.ownsRow (gb+1) 2 1 u' (nu+1) (ivals A++ivals [x])) (hg:(w.alloc O).grownBy w2 u.ownBlock) (ht:u'.ownBlock=u.ownBlock∨u'.ownBlock=some (w.alloc O).heap.size):
  (w2.cell? ⟨gb,0,none⟩=some u∧w2.frozen? ⟨gb,0,none⟩=false)∧TwoR w0 (w2.setCell ⟨gb,0,none⟩ u') gb u' v (nu+1) nv (A++[x]) B:=by
 have hal:Below w.heap.size w (w.alloc O):=(Below.refl _ _).alloc (Nat.le_refl _) _
 have hs:(w.alloc O).heap.size=w.heap.size+1:=by simp
 have hlt:=h.lt
 have hu:∀g,u.ownBlock=some g→gb+1≤g∧g<w.heap.size:=fun g e=>h.own1.lt g e
 have hv:∀g,v.ownBlock=some g→gb+1≤g∧g<w.heap.size:=fun g e=>h.own2.lt g e
 have kr:w2.heap[gb]? =w.heap[gb]? :=(hg.block gb (by omega) (fun e=>by have:=hu gb e.symm;omega)).trans (hal.block gb hlt)
 have row2:=kr.trans h.row
 have kv:∀g,v.ownBlock=some g→(w2.setCell ⟨gb,0,none⟩ u').heap[g]? =w.heap[g]? :=fun g e=>by
  have:=hv g e
  rw [heap_setCell_other _ _ _ _ (by show g≠gb;omega),hg.block g (by omega) (fun e2=>h.apart g e2.symm e),hal.block g (by omega)]
 refine ⟨⟨cell_of_row w2 gb 0 _ _ _ row2,frozen_of_row w2 gb _ _ _ row2⟩,heap_setCell_same w2 gb 0 _ _ u' row2,?_,owns_keep h.own2 kv,fun g e e2=>?_,((h.low.alloc h.low.size O).grown hg (by have:=h.low.size;omega) (fun g e=>by have:=(hu g e).1;have:=h.ge;omega)).setCell h.ge _,h.ge⟩
 ·rw [show ivals (A++[x])=ivals A++ivals [x] from by simp [ivals]]
  exact owns_keep ho fun g e=>heap_setCell_other _ _ _ _ (by show g≠gb;have:=(ho.lt g e).1;omega)
 ·have:=hv g e2
  rcases ht with t | t
  ·exact h.apart g (by rw [← t];exact e) e2
  ·rw [t] at e
   simp only [Option.some.injEq] at e
   omega
theorem TwoR.right {w0 w w2:World} {O:Obj} {gb:Nat} {u v v':Value} {nu nv:Nat} {A B:List Int} {x:Int} (h:TwoR w0 w gb u v nu nv A B) (ho:w2.ownsRow (gb+1) 2 1 v' (nv+1) (ivals B++ivals [x])) (hg:(w.alloc O).grownBy w2 v.ownBlock) (ht:v'.ownBlock=v.ownBlock∨v'.ownBlock=some (w.alloc O).heap.size):
  (w2.cell? ⟨gb,1,none⟩=some v∧w2.frozen? ⟨gb,1,none⟩=false)∧TwoR w0 (w2.setCell ⟨gb,1,none⟩ v') gb u v' nu (nv+1) A (B++[x]):=by
 have hal:Below w.heap.size w (w.alloc O):=(Below.refl _ _).alloc (Nat.le_refl _) _
 have hs:(w.alloc O).heap.size=w.heap.size+1:=by simp
 have hlt:=h.lt
 have hu:∀g,u.ownBlock=some g→gb+1≤g∧g<w.heap.size:=fun g e=>h.own1.lt g e
 have hv:∀g,v.ownBlock=some g→gb+1≤g∧g<w.heap.size:=fun g e=>h.own2.lt g e
 have kr:w2.heap[gb]? =w.heap[gb]? :=(hg.block gb (by omega) (fun e=>by have:=hv gb e.symm;omega)).trans (hal.block gb hlt)
 have row2:=kr.trans h.row
 have ku:∀g,u.ownBlock=some g→(w2.setCell ⟨gb,1,none⟩ v').heap[g]? =w.heap[g]? :=fun g e=>by
  have:=hu g e
  rw [heap_setCell_other _ _ _ _ (by show g≠gb;omega),hg.block g (by omega) (fun e2=>h.apart g e e2.symm),hal.block g (by omega)]
 refine ⟨⟨cell_of_row w2 gb 1 _ _ _ row2,frozen_of_row w2 gb _ _ _ row2⟩,heap_setCell_same w2 gb 1 _ _ v' row2,owns_keep h.own1 ku,?_,fun g e e2=>?_,((h.low.alloc h.low.size O).grown hg (by have:=h.low.size;omega) (fun g e=>by have:=(hv g e).1;have:=h.ge;omega)).setCell h.ge _,h.ge⟩
 ·rw [show ivals (B++[x])=ivals B++ivals [x] from by simp [ivals]]
  exact owns_keep ho fun g e=>heap_setCell_other _ _ _ _ (by show g≠gb;have:=(ho.lt g e).1;omega)
 ·have:=hu g e
  rcases ht with t | t
  ·exact h.apart g e (by rw [← t];exact e2)
  ·rw [t] at e2
   simp only [Option.some.injEq] at e2
   omega
def BoxPost (w:World) (A B:List Int) (v:Value) (w':World):Prop:=∃p c q e,v= .agg #[.slice p A.length c,.slice q B.length e]∧Ints w' p A.length c A∧Ints w' q B.length e B∧Below w.heap.size w w'
theorem TwoR.done {w0 w:World} {gb:Nat} {u v:Value} {nu nv:Nat} {A B:List Int} (h:TwoR w0 w gb u v nu nv A B) (hA:Mm.inI A) (hB:Mm.inI B):BoxPost w0 A B (.agg #[u,v]) w:=by
 have l1:nu=A.length:=by have:=h.own1.1;rw [ivals,List.length_map,Nat.mul_one] at this;exact this.symm
 have l2:nv=B.length:=by have:=h.own2.1;rw [ivals,List.length_map,Nat.mul_one] at this;exact this.symm
 obtain ⟨p,c,rfl,hp⟩:=ints_of_owns h.own1 hA
 obtain ⟨q,e,rfl,hq⟩:=ints_of_owns h.own2 hB
 subst l1
 subst l2
 exact ⟨p,c,q,e,rfl,hp,hq,h.low⟩
end Go.Proofs.YtinihaflmdihaaaGreat.Zr
namespace Go.Proofs.YtinihaflmdihaaaGreat
open Go.RowKit
open List renaming setIfInBounds_toArray → sA, set_cons_zero → sZ, set_cons_succ → sS
def les (R S:List Int):Nat→Bool
 | 0=>true
 | k+1=>les R S k&&decide (R.getD k 0≤S.getD k 0)
theorem les_iff (R S:List Int):∀n,les R S n=true↔∀k,k<n→R.getD k 0≤S.getD k 0
 | 0=>⟨fun _ k hk=>by omega,fun _=>rfl⟩
 | n+1=>by
  show (les R S n&&decide (R.getD n 0≤S.getD n 0))=true↔_
  rw [Bool.and_eq_true,les_iff R S n,decide_eq_true_eq]
  constructor
  ·rintro ⟨h1,h2⟩ k hk
   by_cases hkn:k=n
   ·rw [hkn];exact h2
   ·exact h1 k (by omega)
  ·intro h
   exact ⟨fun k hk=>h k (by omega),h n (by omega)⟩
def rightB (R S:List Int) (n m:Nat) (d:Int):Bool:=decide (1≤d∧d≤8∧(n:Int)=d∧(m:Int)=d)&&les R S n
theorem rightB_not {R S:List Int} {n m:Nat} {d:Int} (h:¬(1≤d∧d≤8∧(n:Int)=d∧(m:Int)=d)):rightB R S n m d=false:=by
 unfold rightB
 rw [decide_eq_false h,Bool.false_and]
theorem rightB_les {R S:List Int} {n:Nat} (h:1≤n∧n≤8):rightB R S n n n=les R S n:=by
 unfold rightB
 rw [decide_eq_true (by omega),Bool.true_and]
theorem pair_alloc (w:World) (v u:Value) (t:TypeId):(w.alloc (.cells #[v,u] t)).cell? ⟨w.heap.size,0,none⟩=some v∧(w.alloc (.cells #[v,u] t)).cell? ⟨w.heap.size,1,none⟩=some u:=
 ⟨cell_of_row _ _ 0 _ t (0,0) (heap_alloc_new w _),cell_of_row _ _ 1 _ t (0,0) (heap_alloc_new w _)⟩
end Go.Proofs.YtinihaflmdihaaaGreat
namespace Go.Proofs.YtinihaflmdihaaaGreat.Nd
open Go.RowKit Go.Proofs.YtinihaflmdihaaaGreat.Mo Go.Proofs.YtinihaflmdihaaaGreat.Zr
open List renaming setIfInBounds_toArray → sA, set_cons_zero → sZ, set_cons_succ → sS
theorem wp_append_at {P:Program} {w:World} {o:Oper} {a:Act} {K:Act→World→Prop} {Q:Exit→Act→World→Prop} (s x:Operand) (t:TypeId)
  (ho:o.op= .call {callee:=.builtin .append,args:= #[s,x],argTypes:= #[t,t]})
  (base:Nat) (e:TypeId) (i:TypeInfo) (z:Value) (size bytes:Nat) (ht:P.underlying t=some (.slice e)) (hi:P.info? e=some i) (hz:i.zero=some z)
  (hsize:i.size=size) (hby:i.bytes=bytes) (hzs:z.cells.size=size) (hsz:0<size)
  (v:Value) (n:Nat) (xs:List Value) (hs:a.eval s=v) (hown:w.ownsRow base e size v n xs)
  (ad:Addr) (m c:Nat) (news:List Value) (hx:a.eval x= .slice (some ad) m c) (hl:news.length=m*size) (hnews:∀j u,news[j]? =some u→w.cell? (ad.add j)=some u) (h1:∀u∈news,u.oneCell'=true)
  (h63:n+m≤maxLen) (hbytes:(n+m)*bytes≤140737488355328) (hbase:base≤w.heap.size)
  (h:∀v' w',w'.ownsRow base e size v' (n+m) (xs++news)→w.grownBy w' v.ownBlock→(v'.ownBlock=v.ownBlock∨v'.ownBlock=some w.heap.size)→K (a.put o.dst v') w'):o.wp P a w K Q:=by
 obtain ⟨v',w',hr,h2,h3,_,h5⟩:=run_append_own_at (P:=P) w base t o.type e i z size bytes ht hi hz hsize hby hzs hsz v n xs hown ad m c news hl hnews h1 h63 hbytes hbase
 unfold Oper.wp execOp
 simp only [ho,resolve,invoke,builtin,Sem.run_bind,Sem.run_pure,Result.andThen_ok,List.map_toArray,List.map_cons,List.map_nil,hs,hx,hr]
 exact h v' w' h2 h3 h5
structure BH (w:World) (g:Nat) (p q s t:Option Addr) (n c m e k f l h:Nat) (R S T U:List Int):Prop where
 a:w.heap[g]? =some (.cells #[.slice p n c,.slice q m e] 32 (0,0))
 b:w.heap[g+1]? =some (.cells #[.slice s k f,.slice t l h] 32 (0,0))
 r:w.heap[g+2]? =some (.cells #[.slice none 0 0,.slice none 0 0] 32 (0,0))
 i1:Ints w p n c R
 i2:Ints w q m e S
 i3:Ints w s k f T
 i4:Ints w t l h U
section
variable {w w':World} {g:Nat} {p q s t:Option Addr} {n c m e k f l h:Nat} {R S T U:List Int}
theorem BH.later (H:BH w g p q s t n c m e k f l h R S T U) (hb:Below w.heap.size w w'):BH w' g p q s t n c m e k f l h R S T U:=
 ⟨(hb.block _ (Array.getElem?_eq_some_iff.1 H.a).1).trans H.a,(hb.block _ (Array.getElem?_eq_some_iff.1 H.b).1).trans H.b,(hb.block _ (Array.getElem?_eq_some_iff.1 H.r).1).trans H.r,H.i1.later hb,H.i2.later hb,H.i3.later hb,H.i4.later hb⟩
theorem BH.cells (H:BH w g p q s t n c m e k f l h R S T U):
  w.cell? ⟨g,0,none⟩=some (.slice p n c)∧w.cell? ⟨g,1,none⟩=some (.slice q m e)∧w.cell? ⟨g+1,0,none⟩=some (.slice s k f)∧w.cell? ⟨g+1,1,none⟩=some (.slice t l h)∧
  w.cell? ⟨g+2,0,none⟩=some (.slice none 0 0)∧w.cell? ⟨g+2,1,none⟩=some (.slice none 0 0)∧w.frozen? ⟨g+2,0,none⟩=false∧w.frozen? ⟨g+2,1,none⟩=false:=
 ⟨cell_of_row w g 0 _ _ _ H.a,cell_of_row w g 1 _ _ _ H.a,cell_of_row w (g+1) 0 _ _ _ H.b,cell_of_row w (g+1) 1 _ _ _ H.b,cell_of_row w (g+2) 0 _ _ _ H.r,cell_of_row w (g+2) 1 _ _ _ H.r,frozen_of_row w (g+2) _ _ _ H.r,frozen_of_row w (g+2) _ _ _ H.r⟩
end
theorem bh_start {w:World} {p q s t:Option Addr} {n c m e k f l h:Nat} {R S T U:List Int} (h1:Ints w p n c R) (h2:Ints w q m e S) (h3:Ints w s k f T) (h4:Ints w t l h U):
  BH (((w.alloc (.cells #[.slice p n c,.slice q m e] 32)).alloc (.cells #[.slice s k f,.slice t l h] 32)).alloc (.cells #[.slice none 0 0,.slice none 0 0] 32)) w.heap.size p q s t n c m e k f l h R S T U∧
  Below w.heap.size w (((w.alloc (.cells #[.slice p n c,.slice q m e] 32)).alloc (.cells #[.slice s k f,.slice t l h] 32)).alloc (.cells #[.slice none 0 0,.slice none 0 0] 32))∧
  (((w.alloc (.cells #[.slice p n c,.slice q m e] 32)).alloc (.cells #[.slice s k f,.slice t l h] 32)).alloc (.cells #[.slice none 0 0,.slice none 0 0] 32)).heap.size=w.heap.size+3:=by
 have a0:=heap_alloc_new w (.cells #[.slice p n c,.slice q m e] 32 (0,0))
 have b1:Below w.heap.size w (w.alloc (.cells #[.slice p n c,.slice q m e] 32)):=(Below.refl _ _).alloc (Nat.le_refl _) _
 have s1:(w.alloc (.cells #[.slice p n c,.slice q m e] 32)).heap.size=w.heap.size+1:=by simp
 generalize w.alloc (.cells #[.slice p n c,.slice q m e] 32)=w1 at *
 have a1:=heap_alloc_new w1 (.cells #[.slice s k f,.slice t l h] 32 (0,0))
 have b2:Below w1.heap.size w1 (w1.alloc (.cells #[.slice s k f,.slice t l h] 32)):=(Below.refl _ _).alloc (Nat.le_refl _) _
 have s2:(w1.alloc (.cells #[.slice s k f,.slice t l h] 32)).heap.size=w1.heap.size+1:=by simp
 generalize w1.alloc (.cells #[.slice s k f,.slice t l h] 32)=w2 at *
 have a2:=heap_alloc_new w2 (.cells #[.slice none 0 0,.slice none 0 0] 32 (0,0))
 have b3:Below w2.heap.size w2 (w2.alloc (.cells #[.slice none 0 0,.slice none 0 0] 32)):=(Below.refl _ _).alloc (Nat.le_refl _) _
 have s3:(w2.alloc (.cells #[.slice none 0 0,.slice none 0 0] 32)).heap.size=w2.heap.size+1:=by simp
 generalize w2.alloc (.cells #[.slice none 0 0,.slice none 0 0] 32)=w3 at *
 have b23:=b2.trans (b3.mono (by omega))
 have b13:=b1.trans (b23.mono (by omega))
 rw [s1] at a1
 rw [s2,s1] at a2
 refine ⟨⟨(b23.block _ (by omega)).trans a0,(b3.block _ (by omega)).trans a1,a2,h1.later b13,h2.later b13,h3.later b13,h4.later b13⟩,b13,by omega⟩
theorem ints_nil (w:World) (p:Option Addr) (c:Nat):Ints w p 0 c []:=⟨rfl,Nat.zero_le _,fun x hx=>by simp at hx,Or.inl rfl⟩
def two (f:Int→Int→Int) (R T:List Int) (k:Nat):List Int:=(List.range k).map fun i=>f (R.getD i 0) (T.getD i 0)
theorem two_length (f:Int→Int→Int) (R T:List Int) (k:Nat):(two f R T k).length=k:=by simp [two]
theorem two_getD (f:Int→Int→Int) (R T:List Int) (k i:Nat) (h:i<k):(two f R T k).getD i 0=f (R.getD i 0) (T.getD i 0):=by simp [two,List.getD_eq_getElem?_getD,h]
def rb (R S:List Int):Bool:=rightB R S R.length S.length R.length
def hull (A B:List Int×List Int):List Int×List Int:=
 if rb A.1 A.2=true∧rb B.1 B.2=false then A
 else if rb B.1 B.2=true∧rb A.1 A.2=false then B
 else if rb A.1 A.2=false∨A.1.length≠B.1.length then ([],[])
 else (two min A.1 B.1 A.1.length,two max A.2 B.2 A.1.length)
theorem rb_len {R S:List Int} (h:rb R S=true):1≤R.length∧R.length≤8∧S.length=R.length:=by
 unfold rb rightB at h
 rw [Bool.and_eq_true,decide_eq_true_eq] at h
 omega
end Go.Proofs.YtinihaflmdihaaaGreat.Nd
namespace Go.Proofs.YtinihaflmdihaaaGreat.Nd
open List renaming setIfInBounds_toArray → sA, set_cons_zero → sZ, set_cons_succ → sS
structure PK where
 sum:List Nat
 lo:List Int
 hi:List Int
 live:Int
 size:Int
 key:List Int
deriving DecidableEq
structure PE where
 row:List Int
 live:Bool
deriving DecidableEq
structure PN where
 kind:Nat
 rows:List PE
 kids:List PK
deriving DecidableEq
def PK.none:PK:=⟨zeros 32,[],[],0,0,[]⟩
def PK.right (k:PK) (d:Int):Bool:=
 if k=PK.none then true
 else if k.size<1∨1048576<k.size∨k.live<0∨k.size<k.live then false
 else if k.live=0 then decide (k.lo.length+k.hi.length=0)
 else rightB k.lo k.hi k.lo.length k.hi.length d
def PE.long (d:Int) (e:PE):Bool:=decide ((e.row.length:Int)=d)
def PK.keyed (d:Int) (k:PK):Bool:=decide ((k.key.length:Int)=d)&& !decide (k=PK.none)
def PK.keyless (k:PK):Bool:=decide (k.key.length=0)
def PN.right (n:PN) (d:Int):Bool:=
 if ¬(1≤d∧d≤8) then false
 else if n.rows.all (PE.long d)=false then false
 else if n.kids.all (PK.right · d)=false then false
 else if n.kind=1 then if n.rows.length=1∧n.kids.length=2 then n.kids.all PK.keyless else false
 else if n.kind=2 then if 0<n.rows.length∧n.rows.length<5∧n.kids.length=0 then n.rows.all PE.live else false
 else if n.kind=3∧n.rows.length=0∧1<n.kids.length∧n.kids.length<5 then n.kids.all (PK.keyed d) else false
def allT {α:Type} (f:α→Bool) (L:List α) (k:Nat):Bool:=(L.take k).all f
theorem allT_all {α:Type} (f:α→Bool) (L:List α):allT f L L.length=L.all f:=by
 unfold allT
 rw [List.take_length]
end Go.Proofs.YtinihaflmdihaaaGreat.Nd
namespace Go.Proofs.YtinihaflmdihaaaGreat.Nd
open Go.RowKit
open List renaming setIfInBounds_toArray → sA, set_cons_zero → sZ, set_cons_succ → sS
structure Kd where
 sum:List Nat
 lo:Rw
 hi:Rw
 live:Int
 size:Int
 key:Rw
instance:Inhabited Kd:=⟨⟨zeros 32,default,default,0,0,default⟩⟩
def Kd.cells (k:Kd):List Value:=vals k.sum++[k.lo.val,k.hi.val,.int .i64 k.live,.int .i64 k.size,k.key.val]
def Kd.val (k:Kd):Value:=.agg k.cells.toArray
def Kd.pk (k:Kd):PK:=⟨k.sum,k.lo.R,k.hi.R,k.live,k.size,k.key.R⟩
def In64 (n:Int):Prop:= -9223372036854775808≤n∧n≤9223372036854775807
structure Kd.Ok (w:World) (k:Kd):Prop where
 len:k.sum.length=32
 ok:Sm.allB k.sum
 lo:k.lo.Ok w
 hi:k.hi.Ok w
 key:k.key.Ok w
 live:In64 k.live
 size:In64 k.size
theorem Kd.Ok.later {w w':World} {k:Kd} (h:k.Ok w) (hb:Below w.heap.size w w'):k.Ok w':=⟨h.len,h.ok,h.lo.later hb,h.hi.later hb,h.key.later hb,h.live,h.size⟩
theorem Kd.cells_length {k:Kd} (h:k.sum.length=32):k.cells.length=37:=by simp [Kd.cells,vals_length,h]
structure KAt (w:World) (g o:Nat) (k:Kd):Prop where
 sum:w.rangeAt g o (vals k.sum)
 lo:w.cell? ⟨g,o+32,Option.none⟩=some k.lo.val
 hi:w.cell? ⟨g,o+33,Option.none⟩=some k.hi.val
 live:w.cell? ⟨g,o+34,Option.none⟩=some (.int .i64 k.live)
 size:w.cell? ⟨g,o+35,Option.none⟩=some (.int .i64 k.size)
 key:w.cell? ⟨g,o+36,Option.none⟩=some k.key.val
theorem kat_of {w:World} {g o:Nat} {k:Kd} (h:w.rangeAt g o k.cells) (hs:k.sum.length=32):KAt w g o k:=by
 have hv:(vals k.sum).length=32:=by rw [vals_length,hs]
 have at':∀j u,[k.lo.val,k.hi.val,.int .i64 k.live,.int .i64 k.size,k.key.val][j]? =some u→w.cell? ⟨g,o+(32+j),Option.none⟩=some u:=fun j u hu=>h (32+j) u (by
  unfold Kd.cells
  rw [List.getElem?_append_right (by omega),hv,Nat.add_sub_cancel_left]
  exact hu)
 exact ⟨fun j v hj=>h j v (by
  unfold Kd.cells
  rw [List.getElem?_append_left (List.getElem?_eq_some_iff.1 hj).1]
  exact hj),at' 0 _ rfl,at' 1 _ rfl,at' 2 _ rfl,at' 3 _ rfl,at' 4 _ rfl⟩
theorem range_kd {w:World} {g:Nat} {k:Kd} {t:TypeId} (h:w.heap[g]? =some (.cells k.cells.toArray t (0,0))):w.rangeAt g 0 k.cells:=fun j v hv=>by
 rw [Nat.zero_add,cell_of_row w g j _ _ _ h]
 simpa using hv
theorem kat_row {w:World} {g:Nat} {k:Kd} {t:TypeId} (h:w.heap[g]? =some (.cells k.cells.toArray t (0,0))) (hs:k.sum.length=32):KAt w g 0 k:=kat_of (range_kd h) hs
theorem UKd0:(Tryz.prog.underlying 34).map (·.isRow)=some true:=by kernel_rfl
theorem UKd:∃d,Tryz.prog.underlying 34=some d∧d.isRow=true:=by
 have h:=UKd0
 revert h
 cases Tryz.prog.underlying 34 with
 | none=>intro h;cases h
 | some d=>intro h;exact ⟨d,rfl,by simpa using h⟩
theorem SKd:(Tryz.prog.info? 34).map (·.size)=some 37:=by kernel_rfl
theorem wpList_load_midG {P:Program} {ops:Array Oper} {rest:List Oper} {o:Oper} {a:Act} {w:World} {Q:Exit→Act→World→Prop} (hw:Region.wanted o (yielded ops a.tmps)=true) (ty:TypeId) (x:Operand) (ho:o.op= .load ty x)
  (b off:Nat) (hx:a.eval x= .pointer (some ⟨b,off,Option.none⟩)) (cs:List Value) (d:TypeDesc) (hc:w.rangeAt b off cs)
  (hu:P.underlying ty=some d) (hd:d.isRow=true) (hi:(P.info? ty).map (·.size)=some cs.length)
  (h:wpList P ops Q rest (a.put o.dst (.agg cs.toArray)) w):wpList P ops Q (o::rest) a w:=
 BigFrame.wpList_want hw fun _ hK=>wp_load_mid ty x ho b off hx cs d hc hu hd hi (hK _ _ h)
theorem wpList_build {P:Program} {w:World} {ops:Array Oper} {rest:List Oper} {o:Oper} {a:Act} {Q:Exit→Act→World→Prop} (hgd:o.guard=Option.none) {t:TypeId} {parts:Array (Nat×Operand)} {cells:Array Value} (ho:o.op= .build t parts)
  (h:P.built t (parts.map fun (i,x)=>(i,a.eval x)).toList=some cells) (hk:wpList P ops Q rest (a.put o.dst (.agg cells)) w):wpList P ops Q (o::rest) a w:=
 wpList_plain hgd fun _ hK=>by
  unfold Oper.wp execOp
  simp only [ho,Sem.run_bind,run_build w t _ cells h,Result.andThen_ok,Sem.run_pure]
  exact hK _ _ hk
def kd0:Kd:=⟨zeros 32,⟨Option.none,0,0,[]⟩,⟨Option.none,0,0,[]⟩,0,0,⟨Option.none,0,0,[]⟩⟩
theorem kd0_built:Tryz.prog.built 34 []=some kd0.cells.toArray:=by kernel_rfl
theorem rw0_ok (w:World):(⟨Option.none,0,0,[]⟩:Rw).Ok w:=⟨⟨rfl,Nat.le_refl _,fun x hx=>by simp at hx,Or.inl rfl⟩,by simp⟩
theorem kd0_ok (w:World):kd0.Ok w:=⟨by simp [kd0,zeros],zeros_ok 32,rw0_ok w,rw0_ok w,rw0_ok w,⟨by simp [kd0],by simp [kd0]⟩,⟨by simp [kd0],by simp [kd0]⟩⟩
theorem kd0_pk:kd0.pk=PK.none:=rfl
end Go.Proofs.YtinihaflmdihaaaGreat.Nd
namespace Go.Proofs.YtinihaflmdihaaaGreat
open Go.RowKit
open List renaming setIfInBounds_toArray → sA, set_cons_zero → sZ, set_cons_succ → sS
def eqs (P Q:List Int):Nat→Bool
 | 0=>true
 | k+1=>eqs P Q k&&(P.getD k 0==Q.getD k 0)
theorem eqs_iff (P Q:List Int):∀n,eqs P Q n=true↔∀k,k<n→P.getD k 0=Q.getD k 0
 | 0=>⟨fun _ k hk=>by omega,fun _=>rfl⟩
 | n+1=>by
  show (eqs P Q n&&(P.getD n 0==Q.getD n 0))=true↔_
  rw [Bool.and_eq_true,eqs_iff P Q n,beq_iff_eq]
  constructor
  ·rintro ⟨h1,h2⟩ k hk
   by_cases hkn:k=n
   ·rw [hkn];exact h2
   ·exact h1 k (by omega)
  ·intro h
   exact ⟨fun k hk=>h k (by omega),h n (by omega)⟩
theorem eqs_eq {R S:List Int} (h:R.length=S.length) (he:eqs R S R.length=true):R=S:=by
 apply List.ext_getElem h
 intro i h1 h2
 have:=(eqs_iff R S R.length).1 he i h1
 simpa [List.getD_eq_getElem?_getD,h1,h2] using this
def SamRel (w:World) (R S:List Int) (n:Nat) (i:Value) (wr:World):Prop:=∃k j:Nat,k≤n∧i= .int .i64 k∧eqs R S k=true∧wr=w.drewN j
theorem ret_dec {p:Prop} [Decidable p] (h:p):Ending.returned (.bool true)=Ending.returned (.bool (decide p)):=by rw [decide_eq_true h]
theorem ret_ndec {p:Prop} [Decidable p] (h:¬p):Ending.returned (.bool false)=Ending.returned (.bool (decide p)):=by rw [decide_eq_false h]
def hasB (R S P:List Int) (n m l:Nat):Bool:=rightB R S n m l&&(les R P l&&les P S l)
theorem rightB_dims {R S:List Int} {n m:Nat} {d:Int} (h:rightB R S n m d=true):1≤d∧d≤8∧(n:Int)=d∧(m:Int)=d:=by
 unfold rightB at h
 rw [Bool.and_eq_true,decide_eq_true_eq] at h
 exact h.1
end Go.Proofs.YtinihaflmdihaaaGreat
namespace Go.Proofs.YtinihaflmdihaaaGreat.Nd
open Go.RowKit
open List renaming setIfInBounds_toArray → sA, set_cons_zero → sZ, set_cons_succ → sS
theorem pk_eq (a b:Kd):a.pk=b.pk↔a.sum=b.sum∧a.live=b.live∧a.size=b.size∧(a.lo.R=b.lo.R∧a.hi.R=b.hi.R)∧a.key.R=b.key.R:=by
 simp only [Kd.pk,PK.mk.injEq]
 constructor
 ·rintro ⟨h1,h2,h3,h4,h5,h6⟩
  exact ⟨h1,h4,h5,⟨h2,h3⟩,h6⟩
 ·rintro ⟨h1,h4,h5,⟨h2,h3⟩,h6⟩
  exact ⟨h1,h2,h3,h4,h5,h6⟩
theorem sleq_any (p q:Option Addr) (n c m e:Nat) (R S:List Int) (w:World) (h:Ints w p n c R) (h2:Ints w q m e S) (hn9:n≤9223372036854775807):
  Calls Tryz.prog 64 #[.slice p n c,.slice q m e] w fun e w'=>e= .returned (.bool (decide (R=S)))∧∃j,w'=w.drewN j:=by
 have H1:=Lib.hid h
 have H2:=Lib.hid h2
 clear h h2
 by_cases hn:(n:Int)=m
 case neg=>
  have hne:¬R=S:=fun h=>hn (by rw [H1.out.size,H2.out.size,h])
  have HNE:=Lib.hid hne
  have b0:((n:Int) !=m)=true:=by simpa using hn
  clear hne
  go_enter Tryz.func64,Tryz.ntmps64
  go_wp2_with fail
  go_ret
  exact ⟨ret_ndec HNE.out,0,rfl⟩
 obtain rfl:m=n:=by omega
 go_enter Tryz.func64,Tryz.ntmps64
 go_wp2_with fail
 go_loopw [13] (fun i wr=>SamRel w R S m i wr) (fun i _=>m - (intOf i).toNat)
 case atStart=>exact ⟨0,0,by omega,rfl,rfl,rfl⟩
 case round=>
  obtain ⟨k,j,hk,rfl,heq,rfl⟩:=hrel
  have HL:=Lib.hid heq
  clear heq
  by_cases hlt:k<m
  ·obtain ⟨gx,o,rfl,hcx⟩:=H1.out.cell k hlt
   obtain ⟨gy,o2,rfl,hcy⟩:=H2.out.cell k hlt
   have i1:(0:Int)≤k∧(k:Int)<m:=by omega
   have hs:eqs R S (k+1)=(eqs R S k&&(R.getD k 0==S.getD k 0)):=rfl
   have HS:=Lib.hid hs
   have HF:=Lib.hid (show ¬R.getD k 0=S.getD k 0→¬R=S from fun h h3=>h (by rw [h3]))
   clear hs
   generalize R.getD k 0=x at *
   generalize S.getD k 0=y at *
   by_cases hxy:x=y
   ·subst hxy
    go_upto_region 6 with fail
    go_quiet (fail)
    go_wp2_with fail
    go_roundw
    case rel=>exact ⟨k+1,j+nq,by omega,by go_num,by rw [HS.out,HL.out];simp,rfl⟩
    case measure=>simp [intOf];omega
   ·have b1:(x !=y)=true:=by simpa using hxy
    go_upto_region 6 with fail
    go_quiet (fail)
    go_wp2_with fail
    go_ret
    exact ⟨ret_ndec (HF.out hxy),j+nq,by first | rfl | (simp only [World.drewN];done) | simp [World.drewN_drewN]⟩
  ·obtain rfl:k=m:=by omega
   have he:=HL.out
   rw [H1.out.size] at he
   have HE:=Lib.hid (eqs_eq (H1.out.size.symm.trans H2.out.size) he)
   clear he
   go_wp2_with fail
   go_ret
   exact ⟨ret_dec HE.out,_,rfl⟩
theorem nbsame_any (p q r s:Option Addr) (n c m e k f l g:Nat) (R S T U:List Int) (w:World) (h1:Ints w p n c R) (h2:Ints w q m e S) (h3:Ints w r k f T) (h4:Ints w s l g U)
  (hn:n≤9223372036854775807) (hm:m≤9223372036854775807):
  Calls Tryz.prog 112 #[.agg #[.slice p n c,.slice q m e],.agg #[.slice r k f,.slice s l g]] w fun e w'=>e= .returned (.bool (decide (R=T∧S=U)))∧Below w.heap.size w w':=by
 have hb1:Below w.heap.size w (w.alloc (.cells #[.slice p n c,.slice q m e] 32)):=(Below.refl _ _).alloc (Nat.le_refl _) _
 have hs1:(w.alloc (.cells #[.slice p n c,.slice q m e] 32)).heap.size=w.heap.size+1:=by simp
 obtain ⟨a0,a1⟩:=pair_alloc w (.slice p n c) (.slice q m e) 32
 go_enter Tryz.func112,Tryz.ntmps112
 go_upto_region 1 with fail
 generalize w.alloc (.cells #[.slice p n c,.slice q m e] 32)=w1 at *
 have hb2:Below w1.heap.size w1 (w1.alloc (.cells #[.slice r k f,.slice s l g] 32)):=(Below.refl _ _).alloc (Nat.le_refl _) _
 obtain ⟨b0,b1⟩:=pair_alloc w1 (.slice r k f) (.slice s l g) 32
 rw [hs1] at b0 b1
 have c0:=(hb2.cell (p:=⟨w.heap.size,0,none⟩) (by show w.heap.size<_;omega)).trans a0
 have c1:=(hb2.cell (p:=⟨w.heap.size,1,none⟩) (by show w.heap.size<_;omega)).trans a1
 have H1:=Lib.hid ((h1.later hb1).later hb2)
 have H2:=Lib.hid ((h2.later hb1).later hb2)
 have H3:=Lib.hid ((h3.later hb1).later hb2)
 have H4:=Lib.hid ((h4.later hb1).later hb2)
 have HB:=Lib.hid (hb1.trans (hb2.mono (by omega)))
 generalize w1.alloc (.cells #[.slice r k f,.slice s l g] 32)=w2 at *
 clear hb1 hs1 a0 a1 hb2 h1 h2 h3 h4
 clear w1
 by_cases hRT:R=T
 case neg=>
  have HN:=Lib.hid (show ¬(R=T∧S=U) from fun h=>hRT h.1)
  have HR:=Lib.hid hRT
  clear hRT
  go_wp2_with fail
  refine (sleq_any p r n c k f R T w2 H1.out H3.out hn).mono ?_
  rintro _ w3 ⟨rfl,j,rfl⟩
  rw [decide_eq_false HR.out]
  go_wp2_with fail
  go_ret
  exact ⟨ret_ndec HN.out,Below.drewN HB.out _⟩
 have HD:=Lib.hid (show decide (S=U)=decide (R=T∧S=U) from decide_eq_decide.2 ⟨fun h=>⟨hRT,h⟩,fun h=>h.2⟩)
 have HR:=Lib.hid hRT
 clear hRT
 go_wp2_with fail
 refine (sleq_any p r n c k f R T w2 H1.out H3.out hn).mono ?_
 rintro _ w3 ⟨rfl,j,hw3⟩
 have HW:=Lib.hid (show Below w2.heap.size w2 w3 by rw [hw3];exact Below.drewN (Below.refl _ _) _)
 have d0:=(HW.out.cell (p:=⟨w.heap.size,1,none⟩) (block_lt_of_cell c1)).trans c1
 have d1:=(HW.out.cell (p:=⟨w.heap.size+1,1,none⟩) (block_lt_of_cell b1)).trans b1
 have G2:=Lib.hid (H2.out.later HW.out)
 have G4:=Lib.hid (H4.out.later HW.out)
 have GB:=Lib.hid (HB.out.trans (HW.out.mono HB.out.size))
 clear hw3 c0 c1 b0 b1
 rw [decide_eq_true HR.out]
 go_wp2_with fail
 refine (sleq_any q s m e l g S U w3 G2.out G4.out hm).mono ?_
 rintro _ w4 ⟨rfl,j2,hw4⟩
 have B4:=Lib.hid (show Below w.heap.size w w4 by rw [hw4];exact Below.drewN GB.out _)
 clear hw4
 go_wp2_with fail
 go_ret
 exact ⟨congrArg (fun b=>Ending.returned (.bool b)) HD.out,B4.out⟩
theorem nsame_any (a b:Kd) (w:World) (ha:a.Ok w) (hb:b.Ok w):
  Calls Tryz.prog 68 #[.agg a.cells.toArray,.agg b.cells.toArray] w fun e w'=>e= .returned (.bool (decide (a.pk=b.pk)))∧Below w.heap.size w w':=by
 have hb1:Below w.heap.size w (w.alloc (.cells a.cells.toArray 34)):=(Below.refl _ _).alloc (Nat.le_refl _) _
 have r1:=heap_alloc_new w (.cells a.cells.toArray 34)
 have z1:(w.alloc (.cells a.cells.toArray 34)).heap.size=w.heap.size+1:=by simp
 have hb2:Below (w.heap.size+1) (w.alloc (.cells a.cells.toArray 34)) ((w.alloc (.cells a.cells.toArray 34)).alloc (.cells b.cells.toArray 34)):=(Below.refl _ _).alloc (by omega) _
 have r2:=heap_alloc_new (w.alloc (.cells a.cells.toArray 34)) (.cells b.cells.toArray 34)
 rw [z1] at r2
 have hb12:=hb1.trans (hb2.mono (by omega))
 have r1:=(hb2.block w.heap.size (by omega)).trans r1
 have HA:=Lib.hid ha
 have HBK:=Lib.hid hb
 clear ha hb hb1 hb2 z1
 go_enter Tryz.func68,Tryz.ntmps68
 go_upto_region 1 with fail
 generalize (w.alloc (.cells a.cells.toArray 34)).alloc (.cells b.cells.toArray 34)=W at *
 have KA:=Lib.hid (kat_row r1 HA.out.len)
 have KB:=Lib.hid (kat_row r2 HBK.out.len)
 have KOA:=Lib.hid (HA.out.later hb12)
 have KOB:=Lib.hid (HBK.out.later hb12)
 have LA:=Lib.hid HA.out.len
 have LB:=Lib.hid HBK.out.len
 have HB:=Lib.hid hb12
 have EQ:=Lib.hid (pk_eq a b)
 have hq:(Op.equalIn 10000 30 (.agg (u8s a.sum)) (.agg (u8s b.sum))).run Tryz.prog W= .ok (decide (a.sum=b.sum)) W:=digest_equal a.sum b.sum LA.out LB.out 9998 W
 have a2:=KA.out.live
 have a3:=KA.out.size
 have a4:=KA.out.lo
 have a5:=KA.out.hi
 have a6:=KA.out.key
 have c2:=KB.out.live
 have c3:=KB.out.size
 have c4:=KB.out.lo
 have c5:=KB.out.hi
 have c6:=KB.out.key
 simp only [Nat.zero_add] at a2 a3 a4 a5 a6 c2 c3 c4 c5 c6
 clear r1 r2 hb12
 by_cases h1:a.sum=b.sum
 case neg=>
  rw [decide_eq_false h1] at hq
  have HN:=Lib.hid (fun h=>h1 (EQ.out.1 h).1)
  clear h1
  go_wp2_with (first | (refine wpList_load_mid (by rfl) 30 _ (by rfl) _ 0 (by rfl) (vals a.sum) _ KA.out.sum A25 (by rfl) (by rw [vals_length,LA.out];exact S25) ?_;rw [vals_toArray]) | (refine wpList_load_mid (by rfl) 30 _ (by rfl) _ 0 (by rfl) (vals b.sum) _ KB.out.sum A25 (by rfl) (by rw [vals_length,LB.out];exact S25) ?_;rw [vals_toArray]))
  go_ret
  exact ⟨ret_ndec HN.out,HB.out⟩
 rw [decide_eq_true h1] at hq
 have H1:=Lib.hid h1
 clear h1
 by_cases h2:a.live=b.live
 case neg=>
  have h2b:(a.live==b.live)=false:=by simp [h2]
  have HN:=Lib.hid (fun h=>h2 (EQ.out.1 h).2.1)
  clear h2
  go_wp2_with (first | (refine wpList_load_mid (by rfl) 30 _ (by rfl) _ 0 (by rfl) (vals a.sum) _ KA.out.sum A25 (by rfl) (by rw [vals_length,LA.out];exact S25) ?_;rw [vals_toArray]) | (refine wpList_load_mid (by rfl) 30 _ (by rfl) _ 0 (by rfl) (vals b.sum) _ KB.out.sum A25 (by rfl) (by rw [vals_length,LB.out];exact S25) ?_;rw [vals_toArray]))
  go_ret
  exact ⟨ret_ndec HN.out,HB.out⟩
 have h2b:(a.live==b.live)=true:=by simp [h2]
 have H2:=Lib.hid h2
 clear h2
 by_cases h3:a.size=b.size
 case neg=>
  have h3b:(a.size==b.size)=false:=by simp [h3]
  have HN:=Lib.hid (fun h=>h3 (EQ.out.1 h).2.2.1)
  clear h3
  go_wp2_with (first | (refine wpList_load_mid (by rfl) 30 _ (by rfl) _ 0 (by rfl) (vals a.sum) _ KA.out.sum A25 (by rfl) (by rw [vals_length,LA.out];exact S25) ?_;rw [vals_toArray]) | (refine wpList_load_mid (by rfl) 30 _ (by rfl) _ 0 (by rfl) (vals b.sum) _ KB.out.sum A25 (by rfl) (by rw [vals_length,LB.out];exact S25) ?_;rw [vals_toArray]))
  go_ret
  exact ⟨ret_ndec HN.out,HB.out⟩
 have h3b:(a.size==b.size)=true:=by simp [h3]
 have H3:=Lib.hid h3
 clear h3
 by_cases h4:a.lo.R=b.lo.R∧a.hi.R=b.hi.R
 case neg=>
  have HN:=Lib.hid (fun h=>h4 (EQ.out.1 h).2.2.2.1)
  have H4:=Lib.hid (decide_eq_false h4)
  clear h4
  go_wp2_with (first | (refine wpList_load_mid (by rfl) 30 _ (by rfl) _ 0 (by rfl) (vals a.sum) _ KA.out.sum A25 (by rfl) (by rw [vals_length,LA.out];exact S25) ?_;rw [vals_toArray]) | (refine wpList_load_mid (by rfl) 30 _ (by rfl) _ 0 (by rfl) (vals b.sum) _ KB.out.sum A25 (by rfl) (by rw [vals_length,LB.out];exact S25) ?_;rw [vals_toArray]) | (refine (nbsame_any _ _ _ _ _ _ _ _ _ _ _ _ _ _ _ _ W KOA.out.lo.ints KOA.out.hi.ints KOB.out.lo.ints KOB.out.hi.ints KOA.out.lo.top KOA.out.hi.top).mono ?_;rintro _ w5 ⟨rfl,b5⟩;rw [H4.out];have HB5:=Lib.hid (HB.out.trans (b5.mono HB.out.size));clear b5))
  go_ret
  exact ⟨ret_ndec HN.out,HB5.out⟩
 have H4:=Lib.hid (decide_eq_true h4)
 have H4':=Lib.hid h4
 clear h4
 have hall:=EQ.out
 have HP:=Lib.hid (show decide (a.pk=b.pk)=decide (a.key.R=b.key.R) from by
  rw [Bool.eq_iff_iff,decide_eq_true_iff,decide_eq_true_iff,hall]
  exact ⟨fun h=>h.2.2.2.2,fun h=>⟨H1.out,H2.out,H3.out,H4'.out,h⟩⟩)
 clear hall
 go_wp2_with (first | (refine wpList_load_mid (by rfl) 30 _ (by rfl) _ 0 (by rfl) (vals a.sum) _ KA.out.sum A25 (by rfl) (by rw [vals_length,LA.out];exact S25) ?_;rw [vals_toArray]) | (refine wpList_load_mid (by rfl) 30 _ (by rfl) _ 0 (by rfl) (vals b.sum) _ KB.out.sum A25 (by rfl) (by rw [vals_length,LB.out];exact S25) ?_;rw [vals_toArray]) | (refine (nbsame_any _ _ _ _ _ _ _ _ _ _ _ _ _ _ _ _ W KOA.out.lo.ints KOA.out.hi.ints KOB.out.lo.ints KOB.out.hi.ints KOA.out.lo.top KOA.out.hi.top).mono ?_;rintro _ w5 ⟨rfl,b5⟩;rw [H4.out];have e6:=(b5.cell (block_lt_of_cell a6)).trans a6;have f6:=(b5.cell (block_lt_of_cell c6)).trans c6;have HB5:=Lib.hid (HB.out.trans (b5.mono HB.out.size));have KA5:=Lib.hid (KOA.out.later b5);have KB5:=Lib.hid (KOB.out.later b5);clear b5 a6 c6) | (refine (sleq_any _ _ _ _ _ _ _ _ w5 KA5.out.key.ints KB5.out.key.ints KA5.out.key.top).mono ?_;rintro _ w6 ⟨rfl,j6,rfl⟩))
 rw [HP.out]
 go_ret
 exact ⟨rfl,Below.drewN HB5.out j6⟩
end Go.Proofs.YtinihaflmdihaaaGreat.Nd
