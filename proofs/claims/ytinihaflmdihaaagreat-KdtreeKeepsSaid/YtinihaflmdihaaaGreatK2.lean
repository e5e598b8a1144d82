/- ZrTwo, BoxRefA, NdTwo, NdMath, NdLay, NdNode, NdOpen, KlOps, KtMath, KtTree, KrLess. -/
import Derived.Maps.AppendAt
import Derived.Laws.OwnMore
import Derived.Great.BuildSlice
import Derived.OpenShut
import Derived.Deep.Slices
import Derived.Laws.AppendOwn
import Derived.BigQuiet
import Derived.Test.YtinihaflmdihaaaGreatK1
set_option maxRecDepth 100000
set_option maxHeartbeats 8000000
set_option linter.all false
namespace Go.Proofs.YtinihaflmdihaaaGreat.Zr
open Go.RowKit Go.Proofs.YtinihaflmdihaaaGreat.Mo
theorem owns_keep {w w':World} {base:Nat} {e:TypeId} {v:Value} {n:Nat} {xs:List Value} (h:w.ownsRow base e 1 v n xs) (hk:∀g,v.ownBlock=some g→w'.heap[g]? =w.heap[g]?):w'.ownsRow base e 1 v n xs:=by
 obtain ⟨h1,h2⟩:=h
 refine ⟨h1,h2.imp id ?_⟩
 rintro ⟨g,cap,cur,rfl,hg,hh,r⟩
 exact ⟨g,cap,cur,rfl,hg,(hk g rfl).trans hh,r⟩
structure TwoR (w0 w:World) (gb:Nat) (u v:Value) (nu nv:Nat) (A B:List Int):Prop where
 row:w.heap[gb]? =some (.cells #[u,v] 32 (0,0))
 own1:w.ownsRow (gb+1) 2 1 u nu (ivals A)
 own2:w.ownsRow (gb+1) 2 1 v nv (ivals B)
 apart:∀g,u.ownBlock=some g→v.ownBlock≠some g
 low:Below w0.heap.size w0 w
 ge:w0.heap.size≤gb
theorem TwoR.lt {w0 w:World} {gb:Nat} {u v:Value} {nu nv:Nat} {A B:List Int} (h:TwoR w0 w gb u v nu nv A B):gb<w.heap.size:=(yL h.row)
theorem TwoR.facts {w0 w:World} {gb:Nat} {u v:Value} {nu nv:Nat} {A B:List Int} (h:TwoR w0 w gb u v nu nv A B):w.cell? ⟨gb,0,none⟩=some u∧w.cell? ⟨gb,1,none⟩=some v∧w.frozen? ⟨gb,0,none⟩=false∧w.frozen? ⟨gb,1,none⟩=false:=
 ⟨cell_of_row w gb 0 _ _ _ h.row,cell_of_row w gb 1 _ _ _ h.row,frozen_of_row w gb _ _ _ h.row,frozen_of_row w gb _ _ _ h.row⟩
theorem TwoR.start (w0 w:World) (hb:Below w0.heap.size w0 w):TwoR w0 (w.alloc (.cells #[.slice none 0 0,.slice none 0 0] 32)) w.heap.size (.slice none 0 0) (.slice none 0 0) 0 0 [] []:=
 ⟨heap_alloc_new w _,World.ownsRow_nil _ _ _ _,World.ownsRow_nil _ _ _ _,fun g h=>by simp [Value.ownBlock] at h,hb.alloc hb.size _,hb.size⟩
theorem TwoR.later {w0 w w':World} {gb:Nat} {u v:Value} {nu nv:Nat} {A B:List Int} (h:TwoR w0 w gb u v nu nv A B) (hb:Below w.heap.size w w'):TwoR w0 w' gb u v nu nv A B:=
 ⟨(hb.block _ h.lt).trans h.row,owns_keep h.own1 (fun g hg=>hb.block g (h.own1.lt g hg).2),owns_keep h.own2 (fun g hg=>hb.block g (h.own2.lt g hg).2),h.apart,h.low.trans (hb.mono h.low.size),h.ge⟩
theorem TwoR.left {w0 w w2:World} {O:Obj} {gb:Nat} {u v u':Value} {nu nv:Nat} {A B:List Int} {x:Int} (h:TwoR w0 w gb u v nu nv A B) (ho:w2.ownsRow (gb+1) 2 1 u' (nu+1) (ivals A++ivals [x])) (hg:(w.alloc O).grownBy w2 u.ownBlock) (ht:u'.ownBlock=u.ownBlock∨u'.ownBlock=some (w.alloc O).heap.size):
  (w2.cell? ⟨gb,0,none⟩=some u∧w2.frozen? ⟨gb,0,none⟩=false)∧TwoR w0 (w2.setCell ⟨gb,0,none⟩ u') gb u' v (nu+1) nv (A++[x]) B:=by
 have hal:Below w.heap.size w (w.alloc O):=(Below.refl _ _).alloc (Nat.le_refl _) _
 have hs:(w.alloc O).heap.size=w.heap.size+1:=by simp
 have hlt:=h.lt
 have hu:∀g,u.ownBlock=some g→gb+1≤g∧g<w.heap.size:=fun g e=>h.own1.lt g e
 have hv:∀g,v.ownBlock=some g→gb+1≤g∧g<w.heap.size:=fun g e=>h.own2.lt g e
 have kr:w2.heap[gb]? =w.heap[gb]? :=(hg.block gb (by omega) (fun e=>by have:=hu gb e.symm;omega)).trans (hal.block gb hlt)
 have row2:=kr.trans h.row
 have kv:∀g,v.ownBlock=some g→(w2.setCell ⟨gb,0,none⟩ u').heap[g]? =w.heap[g]? :=fun g e=>by
  have:=hv g e
  rw [heap_setCell_other _ _ _ _ (by show g≠gb;omega),hg.block g (by omega) (fun e2=>h.apart g e2.symm e),hal.block g (by omega)]
 refine ⟨⟨cell_of_row w2 gb 0 _ _ _ row2,frozen_of_row w2 gb _ _ _ row2⟩,heap_setCell_same w2 gb 0 _ _ u' row2,?_,owns_keep h.own2 kv,fun g e e2=>?_,((h.low.alloc h.low.size O).grown hg (by have:=h.low.size;omega) (fun g e=>by have:=(hu g e).1;have:=h.ge;omega)).setCell h.ge _,h.ge⟩
 ·rw [show ivals (A++[x])=ivals A++ivals [x] from by simp [ivals]]
  exact owns_keep ho fun g e=>heap_setCell_other _ _ _ _ (by show g≠gb;have:=(ho.lt g e).1;omega)
 ·have:=hv g e2
  rcases ht with t | t
  ·exact h.apart g (by rw [← t];exact e) e2
  ·rw [t] at e
   simp only [Option.some.injEq] at e
   omega
theorem TwoR.right {w0 w w2:World} {O:Obj} {gb:Nat} {u v v':Value} {nu nv:Nat} {A B:List Int} {x:Int} (h:TwoR w0 w gb u v nu nv A B) (ho:w2.ownsRow (gb+1) 2 1 v' (nv+1) (ivals B++ivals [x])) (hg:(w.alloc O).grownBy w2 v.ownBlock) (ht:v'.ownBlock=v.ownBlock∨v'.ownBlock=some (w.alloc O).heap.size):
  (w2.cell? ⟨gb,1,none⟩=some v∧w2.frozen? ⟨gb,1,none⟩=false)∧TwoR w0 (w2.setCell ⟨gb,1,none⟩ v') gb u v' nu (nv+1) A (B++[x]):=by
 have hal:Below w.heap.size w (w.alloc O):=(Below.refl _ _).alloc (Nat.le_refl _) _
 have hs:(w.alloc O).heap.size=w.heap.size+1:=by simp
 have hlt:=h.lt
 have hu:∀g,u.ownBlock=some g→gb+1≤g∧g<w.heap.size:=fun g e=>h.own1.lt g e
 have hv:∀g,v.ownBlock=some g→gb+1≤g∧g<w.heap.size:=fun g e=>h.own2.lt g e
 have kr:w2.heap[gb]? =w.heap[gb]? :=(hg.block gb (by omega) (fun e=>by have:=hv gb e.symm;omega)).trans (hal.block gb hlt)
 have row2:=kr.trans h.row
 have ku:∀g,u.ownBlock=some g→(w2.setCell ⟨gb,1,none⟩ v').heap[g]? =w.heap[g]? :=fun g e=>by
  have:=hu g e
  rw [heap_setCell_other _ _ _ _ (by show g≠gb;omega),hg.block g (by omega) (fun e2=>h.apart g e e2.symm),hal.block g (by omega)]
 refine ⟨⟨cell_of_row w2 gb 1 _ _ _ row2,frozen_of_row w2 gb _ _ _ row2⟩,heap_setCell_same w2 gb 1 _ _ v' row2,owns_keep h.own1 ku,?_,fun g e e2=>?_,((h.low.alloc h.low.size O).grown hg (by have:=h.low.size;omega) (fun g e=>by have:=(hv g e).1;have:=h.ge;omega)).setCell h.ge _,h.ge⟩
 ·rw [show ivals (B++[x])=ivals B++ivals [x] from by simp [ivals]]
  exact owns_keep ho fun g e=>heap_setCell_other _ _ _ _ (by show g≠gb;have:=(ho.lt g e).1;omega)
 ·have:=hu g e
  rcases ht with t | t
  ·exact h.apart g e (by rw [← t];exact e2)
  ·rw [t] at e2
   simp only [Option.some.injEq] at e2
   omega
def BoxPost (w:World) (A B:List Int) (v:Value) (w':World):Prop:=∃p c q e,v= .agg #[.slice p A.length c,.slice q B.length e]∧Ints w' p A.length c A∧Ints w' q B.length e B∧Below w.heap.size w w'
theorem TwoR.done {w0 w:World} {gb:Nat} {u v:Value} {nu nv:Nat} {A B:List Int} (h:TwoR w0 w gb u v nu nv A B) (hA:Mm.inI A) (hB:Mm.inI B):BoxPost w0 A B (.agg #[u,v]) w:=by
 have l1:nu=A.length:=by have:=h.own1.1;rw [ivals,List.length_map,Nat.mul_one] at this;exact this.symm
 have l2:nv=B.length:=by have:=h.own2.1;rw [ivals,List.length_map,Nat.mul_one] at this;exact this.symm
 obtain ⟨p,c,rfl,hp⟩:=ints_of_owns h.own1 hA
 obtain ⟨q,e,rfl,hq⟩:=ints_of_owns h.own2 hB
 subst l1
 subst l2
 exact ⟨p,c,q,e,rfl,hp,hq,h.low⟩
end Go.Proofs.YtinihaflmdihaaaGreat.Zr
namespace Go.Proofs.YtinihaflmdihaaaGreat
open Go.RowKit
def les (R S:List Int):Nat→Bool
 | 0=>true
 | k+1=>les R S k&&decide (R.getD k 0≤S.getD k 0)
theorem les_iff (R S:List Int):∀n,les R S n=true↔∀k,k<n→R.getD k 0≤S.getD k 0
 | 0=>⟨fun _ k hk=>by omega,fun _=>rfl⟩
 | n+1=>by
  show (les R S n&&decide (R.getD n 0≤S.getD n 0))=true↔_
  rw [Bool.and_eq_true,les_iff R S n,decide_eq_true_eq]
  constructor
  ·rintro ⟨h1,h2⟩ k hk
   by_cases hkn:k=n
   ·rw [hkn];exact h2
   ·exact h1 k (by omega)
  ·intro h
   exact ⟨fun k hk=>h k (by omega),h n (by omega)⟩
def rightB (R S:List Int) (n m:Nat) (d:Int):Bool:=decide (1≤d∧d≤8∧(n:Int)=d∧(m:Int)=d)&&les R S n
theorem rightB_not {R S:List Int} {n m:Nat} {d:Int} (h:¬(1≤d∧d≤8∧(n:Int)=d∧(m:Int)=d)):rightB R S n m d=false:=by
 unfold rightB
 rw [decide_eq_false h,Bool.false_and]
theorem rightB_les {R S:List Int} {n:Nat} (h:1≤n∧n≤8):rightB R S n n n=les R S n:=by
 unfold rightB
 rw [decide_eq_true (by omega),Bool.true_and]
theorem pair_alloc (w:World) (v u:Value) (t:TypeId):(w.alloc (.cells #[v,u] t)).cell? ⟨w.heap.size,0,none⟩=some v∧(w.alloc (.cells #[v,u] t)).cell? ⟨w.heap.size,1,none⟩=some u:=
 ⟨cell_of_row _ _ 0 _ t (0,0) (heap_alloc_new w _),cell_of_row _ _ 1 _ t (0,0) (heap_alloc_new w _)⟩
end Go.Proofs.YtinihaflmdihaaaGreat
namespace Go.Proofs.YtinihaflmdihaaaGreat.Nd
open Go.RowKit Go.Proofs.YtinihaflmdihaaaGreat.Mo Go.Proofs.YtinihaflmdihaaaGreat.Zr
theorem wp_append_at {P:Program} {w:World} {o:Oper} {a:Act} {K:Act→World→Prop} {Q:Exit→Act→World→Prop} (s x:Operand) (t:TypeId)
  (ho:o.op= .call {callee:=.builtin .append,args:= #[s,x],argTypes:= #[t,t]})
  (base:Nat) (e:TypeId) (i:TypeInfo) (z:Value) (size bytes:Nat) (ht:P.underlying t=some (.slice e)) (hi:P.info? e=some i) (hz:i.zero=some z)
  (hsize:i.size=size) (hby:i.bytes=bytes) (hzs:z.cells.size=size) (hsz:0<size)
  (v:Value) (n:Nat) (xs:List Value) (hs:a.eval s=v) (hown:w.ownsRow base e size v n xs)
  (ad:Addr) (m c:Nat) (news:List Value) (hx:a.eval x= .slice (some ad) m c) (hl:news.length=m*size) (hnews:∀j u,news[j]? =some u→w.cell? (ad.add j)=some u) (h1:∀u∈news,u.oneCell'=true)
  (h63:n+m≤maxLen) (hbytes:(n+m)*bytes≤140737488355328) (hbase:base≤w.heap.size)
  (h:∀v' w',w'.ownsRow base e size v' (n+m) (xs++news)→w.grownBy w' v.ownBlock→(v'.ownBlock=v.ownBlock∨v'.ownBlock=some w.heap.size)→K (a.put o.dst v') w'):o.wp P a w K Q:=by
 obtain ⟨v',w',hr,h2,h3,_,h5⟩:=run_append_own_at (P:=P) w base t o.type e i z size bytes ht hi hz hsize hby hzs hsz v n xs hown ad m c news hl hnews h1 h63 hbytes hbase
 unfold Oper.wp execOp
 simp only [ho,resolve,invoke,builtin,Sem.run_bind,Sem.run_pure,Result.andThen_ok,List.map_toArray,List.map_cons,List.map_nil,hs,hx,hr]
 exact h v' w' h2 h3 h5
structure BH (w:World) (g:Nat) (p q s t:Option Addr) (n c m e k f l h:Nat) (R S T U:List Int):Prop where
 a:w.heap[g]? =some (.cells #[.slice p n c,.slice q m e] 32 (0,0))
 b:w.heap[g+1]? =some (.cells #[.slice s k f,.slice t l h] 32 (0,0))
 r:w.heap[g+2]? =some (.cells #[.slice none 0 0,.slice none 0 0] 32 (0,0))
 i1:Ints w p n c R
 i2:Ints w q m e S
 i3:Ints w s k f T
 i4:Ints w t l h U
section
variable {w w':World} {g:Nat} {p q s t:Option Addr} {n c m e k f l h:Nat} {R S T U:List Int}
theorem BH.later (H:BH w g p q s t n c m e k f l h R S T U) (hb:Below w.heap.size w w'):BH w' g p q s t n c m e k f l h R S T U:=
 ⟨(hb.block _ (yL H.a)).trans H.a,(hb.block _ (yL H.b)).trans H.b,(hb.block _ (yL H.r)).trans H.r,H.i1.later hb,H.i2.later hb,H.i3.later hb,H.i4.later hb⟩
theorem BH.cells (H:BH w g p q s t n c m e k f l h R S T U):
  w.cell? ⟨g,0,none⟩=some (.slice p n c)∧w.cell? ⟨g,1,none⟩=some (.slice q m e)∧w.cell? ⟨g+1,0,none⟩=some (.slice s k f)∧w.cell? ⟨g+1,1,none⟩=some (.slice t l h)∧
  w.cell? ⟨g+2,0,none⟩=some (.slice none 0 0)∧w.cell? ⟨g+2,1,none⟩=some (.slice none 0 0)∧w.frozen? ⟨g+2,0,none⟩=false∧w.frozen? ⟨g+2,1,none⟩=false:=
 ⟨cell_of_row w g 0 _ _ _ H.a,cell_of_row w g 1 _ _ _ H.a,cell_of_row w (g+1) 0 _ _ _ H.b,cell_of_row w (g+1) 1 _ _ _ H.b,cell_of_row w (g+2) 0 _ _ _ H.r,cell_of_row w (g+2) 1 _ _ _ H.r,frozen_of_row w (g+2) _ _ _ H.r,frozen_of_row w (g+2) _ _ _ H.r⟩
end
theorem bh_start {w:World} {p q s t:Option Addr} {n c m e k f l h:Nat} {R S T U:List Int} (h1:Ints w p n c R) (h2:Ints w q m e S) (h3:Ints w s k f T) (h4:Ints w t l h U):
  BH (((w.alloc (.cells #[.slice p n c,.slice q m e] 32)).alloc (.cells #[.slice s k f,.slice t l h] 32)).alloc (.cells #[.slice none 0 0,.slice none 0 0] 32)) w.heap.size p q s t n c m e k f l h R S T U∧
  Below w.heap.size w (((w.alloc (.cells #[.slice p n c,.slice q m e] 32)).alloc (.cells #[.slice s k f,.slice t l h] 32)).alloc (.cells #[.slice none 0 0,.slice none 0 0] 32))∧
  (((w.alloc (.cells #[.slice p n c,.slice q m e] 32)).alloc (.cells #[.slice s k f,.slice t l h] 32)).alloc (.cells #[.slice none 0 0,.slice none 0 0] 32)).heap.size=w.heap.size+3:=by
 have a0:=heap_alloc_new w (.cells #[.slice p n c,.slice q m e] 32 (0,0))
 have b1:Below w.heap.size w (w.alloc (.cells #[.slice p n c,.slice q m e] 32)):=(Below.refl _ _).alloc (Nat.le_refl _) _
 have s1:(w.alloc (.cells #[.slice p n c,.slice q m e] 32)).heap.size=w.heap.size+1:=by simp
 generalize w.alloc (.cells #[.slice p n c,.slice q m e] 32)=w1 at *
 have a1:=heap_alloc_new w1 (.cells #[.slice s k f,.slice t l h] 32 (0,0))
 have b2:Below w1.heap.size w1 (w1.alloc (.cells #[.slice s k f,.slice t l h] 32)):=(Below.refl _ _).alloc (Nat.le_refl _) _
 have s2:(w1.alloc (.cells #[.slice s k f,.slice t l h] 32)).heap.size=w1.heap.size+1:=by simp
 generalize w1.alloc (.cells #[.slice s k f,.slice t l h] 32)=w2 at *
 have a2:=heap_alloc_new w2 (.cells #[.slice none 0 0,.slice none 0 0] 32 (0,0))
 have b3:Below w2.heap.size w2 (w2.alloc (.cells #[.slice none 0 0,.slice none 0 0] 32)):=(Below.refl _ _).alloc (Nat.le_refl _) _
 have s3:(w2.alloc (.cells #[.slice none 0 0,.slice none 0 0] 32)).heap.size=w2.heap.size+1:=by simp
 generalize w2.alloc (.cells #[.slice none 0 0,.slice none 0 0] 32)=w3 at *
 have b23:=b2.trans (b3.mono (by omega))
 have b13:=b1.trans (b23.mono (by omega))
 rw [s1] at a1
 rw [s2,s1] at a2
 refine ⟨⟨(b23.block _ (by omega)).trans a0,(b3.block _ (by omega)).trans a1,a2,h1.later b13,h2.later b13,h3.later b13,h4.later b13⟩,b13,by omega⟩
theorem ints_nil (w:World) (p:Option Addr) (c:Nat):Ints w p 0 c []:=⟨rfl,Nat.zero_le _,fun x hx=>by simp at hx,Or.inl rfl⟩
def two (f:Int→Int→Int) (R T:List Int) (k:Nat):List Int:=(List.range k).map fun i=>f (R.getD i 0) (T.getD i 0)
theorem two_length (f:Int→Int→Int) (R T:List Int) (k:Nat):(two f R T k).length=k:=by simp [two]
theorem two_getD (f:Int→Int→Int) (R T:List Int) (k i:Nat) (h:i<k):(two f R T k).getD i 0=f (R.getD i 0) (T.getD i 0):=by simp [two,List.getD_eq_getElem?_getD,h]
def rb (R S:List Int):Bool:=rightB R S R.length S.length R.length
def hull (A B:List Int×List Int):List Int×List Int:=
 if rb A.1 A.2=true∧rb B.1 B.2=false then A
 else if rb B.1 B.2=true∧rb A.1 A.2=false then B
 else if rb A.1 A.2=false∨A.1.length≠B.1.length then ([],[])
 else (two min A.1 B.1 A.1.length,two max A.2 B.2 A.1.length)
theorem rb_len {R S:List Int} (h:rb R S=true):1≤R.length∧R.length≤8∧S.length=R.length:=by
 unfold rb rightB at h
 rw [Bool.and_eq_true,decide_eq_true_eq] at h
 omega
end Go.Proofs.YtinihaflmdihaaaGreat.Nd
namespace Go.Proofs.YtinihaflmdihaaaGreat.Nd
structure PK where
 sum:List Nat
 lo:List Int
 hi:List Int
 live:Int
 size:Int
 key:List Int
deriving DecidableEq
structure PE where
 row:List Int
 live:Bool
deriving DecidableEq
structure PN where
 kind:Nat
 rows:List PE
 kids:List PK
deriving DecidableEq
def PK.none:PK:=⟨zeros 32,[],[],0,0,[]⟩
def PK.right (k:PK) (d:Int):Bool:=
 if k=PK.none then true
 else if k.size<1∨1048576<k.size∨k.live<0∨k.size<k.live then false
 else if k.live=0 then decide (k.lo.length+k.hi.length=0)
 else rightB k.lo k.hi k.lo.length k.hi.length d
def PE.long (d:Int) (e:PE):Bool:=decide ((e.row.length:Int)=d)
def PK.keyed (d:Int) (k:PK):Bool:=decide ((k.key.length:Int)=d)&& !decide (k=PK.none)
def PK.keyless (k:PK):Bool:=decide (k.key.length=0)
def PN.right (n:PN) (d:Int):Bool:=
 if ¬(1≤d∧d≤8) then false
 else if n.rows.all (PE.long d)=false then false
 else if n.kids.all (PK.right · d)=false then false
 else if n.kind=1 then if n.rows.length=1∧n.kids.length=2 then n.kids.all PK.keyless else false
 else if n.kind=2 then if 0<n.rows.length∧n.rows.length<5∧n.kids.length=0 then n.rows.all PE.live else false
 else if n.kind=3∧n.rows.length=0∧1<n.kids.length∧n.kids.length<5 then n.kids.all (PK.keyed d) else false
def allT {α:Type} (f:α→Bool) (L:List α) (k:Nat):Bool:=(L.take k).all f
theorem allT_all {α:Type} (f:α→Bool) (L:List α):allT f L L.length=L.all f:=by
 unfold allT
 rw [List.take_length]
end Go.Proofs.YtinihaflmdihaaaGreat.Nd
namespace Go.Proofs.YtinihaflmdihaaaGreat.Nd
open Go.RowKit
structure Kd where
 sum:List Nat
 lo:Rw
 hi:Rw
 live:Int
 size:Int
 key:Rw
instance:Inhabited Kd:=⟨⟨zeros 32,default,default,0,0,default⟩⟩
def Kd.cells (k:Kd):List Value:=vals k.sum++[k.lo.val,k.hi.val,.int .i64 k.live,.int .i64 k.size,k.key.val]
def Kd.val (k:Kd):Value:=.agg k.cells.toArray
def Kd.pk (k:Kd):PK:=⟨k.sum,k.lo.R,k.hi.R,k.live,k.size,k.key.R⟩
def In64 (n:Int):Prop:= -9223372036854775808≤n∧n≤9223372036854775807
structure Kd.Ok (w:World) (k:Kd):Prop where
 len:k.sum.length=32
 ok:Sm.allB k.sum
 lo:k.lo.Ok w
 hi:k.hi.Ok w
 key:k.key.Ok w
 live:In64 k.live
 size:In64 k.size
theorem Kd.Ok.later {w w':World} {k:Kd} (h:k.Ok w) (hb:Below w.heap.size w w'):k.Ok w':=⟨h.len,h.ok,h.lo.later hb,h.hi.later hb,h.key.later hb,h.live,h.size⟩
theorem Kd.cells_length {k:Kd} (h:k.sum.length=32):k.cells.length=37:=by simp [Kd.cells,vals_length,h]
structure KAt (w:World) (g o:Nat) (k:Kd):Prop where
 sum:w.rangeAt g o (vals k.sum)
 lo:w.cell? ⟨g,o+32,Option.none⟩=some k.lo.val
 hi:w.cell? ⟨g,o+33,Option.none⟩=some k.hi.val
 live:w.cell? ⟨g,o+34,Option.none⟩=some (.int .i64 k.live)
 size:w.cell? ⟨g,o+35,Option.none⟩=some (.int .i64 k.size)
 key:w.cell? ⟨g,o+36,Option.none⟩=some k.key.val
theorem kat_of {w:World} {g o:Nat} {k:Kd} (h:w.rangeAt g o k.cells) (hs:k.sum.length=32):KAt w g o k:=by
 have hv:(vals k.sum).length=32:=by rw [vals_length,hs]
 have at':∀j u,[k.lo.val,k.hi.val,.int .i64 k.live,.int .i64 k.size,k.key.val][j]? =some u→w.cell? ⟨g,o+(32+j),Option.none⟩=some u:=fun j u hu=>h (32+j) u (by
  unfold Kd.cells
  rw [List.getElem?_append_right (by omega),hv,Nat.add_sub_cancel_left]
  exact hu)
 exact ⟨fun j v hj=>h j v (by
  unfold Kd.cells
  rw [List.getElem?_append_left (List.getElem?_eq_some_iff.1 hj).1]
  exact hj),at' 0 _ rfl,at' 1 _ rfl,at' 2 _ rfl,at' 3 _ rfl,at' 4 _ rfl⟩
theorem range_kd {w:World} {g:Nat} {k:Kd} {t:TypeId} (h:w.heap[g]? =some (.cells k.cells.toArray t (0,0))):w.rangeAt g 0 k.cells:=fun j v hv=>by
 rw [Nat.zero_add,cell_of_row w g j _ _ _ h]
 simpa using hv
theorem kat_row {w:World} {g:Nat} {k:Kd} {t:TypeId} (h:w.heap[g]? =some (.cells k.cells.toArray t (0,0))) (hs:k.sum.length=32):KAt w g 0 k:=kat_of (range_kd h) hs
theorem UKd0:(Tryz.prog.underlying 34).map (·.isRow)=some true:=by kernel_rfl
theorem UKd:∃d,Tryz.prog.underlying 34=some d∧d.isRow=true:=by
 have h:=UKd0
 revert h
 cases Tryz.prog.underlying 34 with
 | none=>intro h;cases h
 | some d=>intro h;exact ⟨d,rfl,by simpa using h⟩
theorem SKd:(Tryz.prog.info? 34).map (·.size)=some 37:=by kernel_rfl
theorem wpList_load_midG {P:Program} {ops:Array Oper} {rest:List Oper} {o:Oper} {a:Act} {w:World} {Q:Exit→Act→World→Prop} (hw:Region.wanted o (yielded ops a.tmps)=true) (ty:TypeId) (x:Operand) (ho:o.op= .load ty x)
  (b off:Nat) (hx:a.eval x= .pointer (some ⟨b,off,Option.none⟩)) (cs:List Value) (d:TypeDesc) (hc:w.rangeAt b off cs)
  (hu:P.underlying ty=some d) (hd:d.isRow=true) (hi:(P.info? ty).map (·.size)=some cs.length)
  (h:wpList P ops Q rest (a.put o.dst (.agg cs.toArray)) w):wpList P ops Q (o::rest) a w:=
 BigFrame.wpList_want hw fun _ hK=>wp_load_mid ty x ho b off hx cs d hc hu hd hi (hK _ _ h)
structure En where
 row:Rw
 live:Bool
instance:Inhabited En:=⟨⟨default,false⟩⟩
def En.pe (e:En):PE:=⟨e.row.R,e.live⟩
structure EntsIn (w:World) (p:Option Addr) (n c:Nat) (E:List En):Prop where
 size:n=E.length
 le:n≤c
 top:n≤9223372036854775807
 each:∀e∈E,e.row.Ok w
 at':E=[]∨∃g o,p=some ⟨g,o,Option.none⟩∧∀i,i<E.length→w.cell? ⟨g,o+i*2,Option.none⟩=some (E.getD i default).row.val∧w.cell? ⟨g,o+i*2+1,Option.none⟩=some (.bool (E.getD i default).live)
structure KidsIn (w:World) (p:Option Addr) (n c:Nat) (K:List Kd):Prop where
 size:n=K.length
 le:n≤c
 top:n≤9223372036854775807
 each:∀k∈K,k.Ok w
 at':K=[]∨∃g o,p=some ⟨g,o,Option.none⟩∧∀i,i<K.length→w.rangeAt g (o+i*37) (K.getD i default).cells
theorem range_later {w w':World} {g o:Nat} {cs:List Value} (h:w.rangeAt g o cs) (hb:Below w.heap.size w w'):w'.rangeAt g o cs:=fun j v hv=>
 (hb.cell (p:=⟨g,o+j,Option.none⟩) (block_lt_of_cell (h j v hv))).trans (h j v hv)
theorem EntsIn.later {w w':World} {p:Option Addr} {n c:Nat} {E:List En} (h:EntsIn w p n c E) (hb:Below w.heap.size w w'):EntsIn w' p n c E:=
 ⟨h.size,h.le,h.top,fun e he=>(h.each e he).later hb,h.at'.imp id fun ⟨g,o,hp,hx⟩=>⟨g,o,hp,fun i hi=>
  ⟨(hb.cell (p:=⟨g,o+i*2,Option.none⟩) (block_lt_of_cell (hx i hi).1)).trans (hx i hi).1,(hb.cell (p:=⟨g,o+i*2+1,Option.none⟩) (block_lt_of_cell (hx i hi).2)).trans (hx i hi).2⟩⟩⟩
theorem KidsIn.later {w w':World} {p:Option Addr} {n c:Nat} {K:List Kd} (h:KidsIn w p n c K) (hb:Below w.heap.size w w'):KidsIn w' p n c K:=
 ⟨h.size,h.le,h.top,fun e he=>(h.each e he).later hb,h.at'.imp id fun ⟨g,o,hp,hx⟩=>⟨g,o,hp,fun i hi=>range_later (hx i hi) hb⟩⟩
theorem getD_mem {α:Type} [Inhabited α] (L:List α) (k:Nat) (h:k<L.length):L.getD k default∈L:=by
 rw [List.getD_eq_getElem?_getD,List.getElem?_eq_getElem h]
 exact List.getElem_mem h
theorem EntsIn.get {w:World} {p:Option Addr} {n c:Nat} {E:List En} (h:EntsIn w p n c E) (k:Nat) (hk:k<n):∃g o,p=some ⟨g,o,Option.none⟩∧w.cell? ⟨g,o+k*2,Option.none⟩=some (E.getD k default).row.val∧w.cell? ⟨g,o+k*2+1,Option.none⟩=some (.bool (E.getD k default).live)∧(E.getD k default).row.Ok w:=by
 have hk':k<E.length:=by rw [← h.size];exact hk
 rcases h.at' with h0 | ⟨g,o,hp,hx⟩
 ·rw [h0] at hk';exact absurd hk' (by simp)
 ·exact ⟨g,o,hp,(hx k hk').1,(hx k hk').2,h.each _ (getD_mem E k hk')⟩
theorem KidsIn.get {w:World} {p:Option Addr} {n c:Nat} {K:List Kd} (h:KidsIn w p n c K) (k:Nat) (hk:k<n):∃g o,p=some ⟨g,o,Option.none⟩∧w.rangeAt g (o+k*37) (K.getD k default).cells∧(K.getD k default).Ok w:=by
 have hk':k<K.length:=by rw [← h.size];exact hk
 rcases h.at' with h0 | ⟨g,o,hp,hx⟩
 ·rw [h0] at hk';exact absurd hk' (by simp)
 ·exact ⟨g,o,hp,hx k hk',h.each _ (getD_mem K k hk')⟩
structure NodeAt (w:World) (g kind:Nat) (p:Option Addr) (n c:Nat) (q:Option Addr) (m d:Nat):Prop where
 row:w.heap[g]? =some (.cells #[.int .u8 kind,.slice p n c,.slice q m d] 81 (0,0))
theorem NodeAt.later {w w':World} {g kind:Nat} {p:Option Addr} {n c:Nat} {q:Option Addr} {m d:Nat} (h:NodeAt w g kind p n c q m d) (hb:Below w.heap.size w w'):NodeAt w' g kind p n c q m d:=⟨(hb.block _ (yL h.row)).trans h.row⟩
theorem NodeAt.cells {w:World} {g kind:Nat} {p:Option Addr} {n c:Nat} {q:Option Addr} {m d:Nat} (h:NodeAt w g kind p n c q m d):w.cell? ⟨g,0,Option.none⟩=some (.int .u8 kind)∧w.cell? ⟨g,1,Option.none⟩=some (.slice p n c)∧w.cell? ⟨g,2,Option.none⟩=some (.slice q m d):=
 ⟨cell_of_row w g 0 _ _ _ h.row,cell_of_row w g 1 _ _ _ h.row,cell_of_row w g 2 _ _ _ h.row⟩
theorem NodeAt.start (w:World) (kind:Nat) (p:Option Addr) (n c:Nat) (q:Option Addr) (m d:Nat):NodeAt (w.alloc (.cells #[.int .u8 kind,.slice p n c,.slice q m d] 81)) w.heap.size kind p n c q m d:=⟨heap_alloc_new w _⟩
def pnOf (kind:Nat) (E:List En) (K:List Kd):PN:=⟨kind,E.map En.pe,K.map Kd.pk⟩
end Go.Proofs.YtinihaflmdihaaaGreat.Nd
namespace Go.Proofs.YtinihaflmdihaaaGreat.Nd
open Go.ChangeShapes Go.WideShapes Go.ChangeAt Go.RowKit Go.Deep
def fieldsOf:Option TypeDesc→Option (List (Nat×TypeId))
 | some (.struct fs)=>some (fs.toList.map fun f=>(f.offset,f.type))
 | _=>none
theorem field_at {fs:Array Field} {l:List (Nat×TypeId)} (h:fs.toList.map (fun f=>(f.offset,f.type))=l) {i o:Nat} {t:TypeId} (hi:l[i]? =some (o,t)):∃f,fs[i]? =some f∧f.offset=o∧f.type=t:=by
 subst h
 rw [List.getElem?_map,Option.map_eq_some_iff] at hi
 obtain ⟨f,hf,he⟩:=hi
 simp only [Prod.mk.injEq] at he
 exact ⟨f,by rw [← Array.getElem?_toList];exact hf,he.1,he.2⟩
theorem CI64o:Tryz.prog.cellsOf 2=1:=by kernel_rfl
theorem CU8o:Tryz.prog.cellsOf 5=1:=by kernel_rfl
theorem CRowo:Tryz.prog.cellsOf 24=1:=by kernel_rfl
theorem UI64o:Tryz.prog.underlying 2=some (.int .i64):=by kernel_rfl
theorem UU8o:Tryz.prog.underlying 5=some (.int .u8):=by kernel_rfl
theorem URo:Tryz.prog.underlying 24=some (.slice 2):=by kernel_rfl
section
variable {H:Type} {enc:TypeId×Value→H} {W:World} {base:Nat} {held:Bool} {fuel:Nat} {cs:List Value} {x:DataW H×List MemPlace}
theorem trod_fields {t:TypeId} {l:List (Nat×TypeId)} (hF:fieldsOf (Tryz.prog.underlying t)=some l) (h:DataW.trod enc Tryz.prog W base (fun _=>true) held fuel t cs=some x):
  cs.length=Tryz.prog.cellsOf t∧∃n,∀(i o:Nat) (u:TypeId),l[i]? =some (o,u)→∃y,DataW.trod enc Tryz.prog W base (fun _=>true) held n u ((cs.drop o).take (Tryz.prog.cellsOf u))=some y:=by
 unfold fieldsOf at hF
 split at hF
 case h_2=>cases hF
 case h_1 fs hu=>
 simp only [Option.some.injEq] at hF
 obtain ⟨xs,n,_,_,hlen,hxs,hf⟩:=DataW.trod_struct hu h
 refine ⟨hlen,n,fun i o t hi=>?_⟩
 obtain ⟨f,h1,h2,h3⟩:=field_at hF hi
 have h4:=hf i f h1
 rw [h2,h3] at h4
 have hlt:i<xs.length:=by rw [hxs];exact (yL h1)
 exact ⟨xs[i],by rw [h4,List.getElem?_eq_getElem hlt]⟩
theorem cells_row (h:DataW.trod enc Tryz.prog W base (fun _=>true) held fuel 24 cs=some x):∃r:Rw,cs=[r.val]∧r.Ok W:=by
 rcases open_ints URo UI64o CI64o h with ⟨hcs,_⟩ | ⟨a,len,cap,zs,hcs,_,hl,hm,hz,_,hx,hw⟩
 ·exact ⟨⟨_,_,_,[]⟩,hcs,⟨rfl,Nat.le_refl _,fun x hx=>by simp at hx,Or.inl rfl⟩,by show (0:Nat)≤_;omega⟩
 ·simp only [if_true] at hz
  refine ⟨⟨_,_,_,zs.take len⟩,hcs,⟨by rw [List.length_take,hz];exact (Nat.min_eq_left hl).symm,hl,fun y hy=>bounds_i64 (hw y (List.mem_of_mem_take hy)),?_⟩,by show len≤_;unfold maxLen at hm;omega⟩
  rcases Nat.eq_zero_or_pos len with h0 | h0
  ·exact Or.inl (by rw [h0,List.take_zero])
  ·right
   have hsp:=World.cell?_spot (hx 0 (by omega))
   obtain ⟨g,o,spot⟩:=a
   have hspot:spot=none:=by simpa [Addr.add] using hsp
   subst hspot
   refine ⟨g,o,rfl,fun i hi=>?_⟩
   rw [List.length_take] at hi
   have:=hx i (by omega)
   rw [show (⟨g,o,none⟩:Addr).add i=⟨g,o+i,none⟩ from by unfold Addr.add;split<;>simp_all] at this
   rw [this,List.getD_eq_getElem?_getD,List.getD_eq_getElem?_getD,List.getElem?_take_of_lt (by omega)]
theorem cells_cut (cs:List Value) (o n:Nat):cs.drop o=(cs.drop o).take n++cs.drop (o+n):=by
 rw [← List.drop_drop];exact (List.take_append_drop n _).symm
end
theorem add_none (b o n:Nat):(⟨b,o,none⟩:Addr).add n=⟨b,o+n,none⟩:=by unfold Addr.add;split<;>simp_all
theorem open_structs {α:Type} [Inhabited α] (cells:α→List Value) (P:α→Prop) (sz:Nat) (hsz:0<sz) {t e:TypeId} (hu:Tryz.prog.underlying t=some (.slice e)) (hc:Tryz.prog.cellsOf e=sz)
  {H:Type} {enc:TypeId×Value→H} {W:World} {base:Nat} {held:Bool} {fuel:Nat} {cs:List Value} {x:DataW H×List MemPlace}
  (hone:∀(n:Nat) (cs:List Value) (y:DataW H×List MemPlace),DataW.trod enc Tryz.prog W base (fun _=>true) held n e cs=some y→∃a:α,cs=cells a∧P a)
  (h:DataW.trod enc Tryz.prog W base (fun _=>true) held fuel t cs=some x):
  ∃(a0:Option Addr) (n c:Nat) (L:List α),cs=[.slice a0 n c]∧n=L.length∧n≤c∧n≤9223372036854775807∧(∀a∈L,P a)∧(L=[]∨∃g o,a0=some ⟨g,o,none⟩∧∀i,i<L.length→W.rangeAt g (o+i*sz) (cells (L.getD i default))):=by
 rcases open_slice hu h with ⟨hcs,_⟩ | ⟨a,len,cap,m,n,Dd,Pl,hcs,_,hl,hm,hmm,_,hx⟩
 ·exact ⟨none,0,0,[],hcs,rfl,Nat.le_refl _,by omega,(fun a ha=>by cases ha),Or.inl rfl⟩
 ·simp only [if_true] at hmm
  rw [hc] at hx
  obtain ⟨V,hV⟩:=choose_lt (α:=α) (n:=len) (p:=fun i t=>W.cells? base (a.add (i*sz)) sz=some (cells t)∧P t) (fun i hi=>by
   obtain ⟨cs',h1,h2⟩:=hx i (by omega)
   obtain ⟨t,rfl,ht⟩:=hone _ _ _ h2
   exact ⟨t,h1,ht⟩)
  refine ⟨some a,len,cap,(List.range len).map V,hcs,by simp,hl,by unfold maxLen at hm;omega,fun t ht=>?_,?_⟩
  ·simp only [List.mem_map,List.mem_range] at ht
   obtain ⟨i,hi,rfl⟩:=ht
   exact (hV i hi).2
  rcases Nat.eq_zero_or_pos len with h0 | h0
  ·exact Or.inl (by subst h0;rfl)
  right
  obtain ⟨g,o,spot⟩:=a
  have hspot:spot=none:=by
   obtain ⟨_,hlen,hc'⟩:=World.cells?_some (hV 0 h0).1
   have h0':=hc' 0 hsz
   have hs:(cells (V 0))[0]? ≠none:=by rw [List.getElem?_eq_getElem (by omega)];simp
   obtain ⟨v,hv⟩:=Option.ne_none_iff_exists'.1 hs
   have:=World.cell?_spot (h0'.trans hv)
   simpa [Addr.add] using this
  subst hspot
  refine ⟨g,o,rfl,fun i hi=>?_⟩
  have hi':i<len:=by simpa using hi
  have e:((List.range len).map V).getD i default=V i:=by simp [List.getD_eq_getElem?_getD,hi']
  rw [e]
  intro j v hv
  obtain ⟨_,hlen,hc'⟩:=World.cells?_some (hV i hi').1
  have hj:j<sz:=by rw [← hlen];exact (List.getElem?_eq_some_iff.1 hv).1
  have:=hc' j hj
  rw [hv,add_none,add_none] at this
  exact this
section
variable {H:Type} {enc:TypeId×Value→H} {W:World} {base:Nat} {held:Bool} {fuel:Nat} {cs:List Value} {x:DataW H×List MemPlace}
end
end Go.Proofs.YtinihaflmdihaaaGreat.Nd
namespace Go.Proofs.YtinihaflmdihaaaGreat.Kt
open Go.ChangeShapes Go.WideShapes Go.ChangeAt Go.RowKit Go.Deep Go.Proofs.YtinihaflmdihaaaGreat.Nd
structure KOp where
 kind:Nat
 row:Rw
instance:Inhabited KOp:=⟨⟨0,default⟩⟩
def KOp.cells (o:KOp):List Value:=[.int .u8 o.kind,o.row.val]
structure Ops (w:World) (p:Option Addr) (n c:Nat) (L:List KOp):Prop where
 size:n=L.length
 le:n≤c
 each:∀o∈L,o.kind<256∧o.row.Ok w
 at':L=[]∨∃g o,p=some ⟨g,o,none⟩∧∀i,i<L.length→w.rangeAt g (o+i*2) (L.getD i default).cells
theorem Ops.later {w w':World} {p:Option Addr} {n c:Nat} {L:List KOp} (h:Ops w p n c L) (hb:Below w.heap.size w w'):Ops w' p n c L:=
 ⟨h.size,h.le,fun o ho=>⟨(h.each o ho).1,(h.each o ho).2.later hb⟩,h.at'.imp id fun ⟨g,o,hp,hx⟩=>⟨g,o,hp,fun i hi=>range_later (hx i hi) hb⟩⟩
theorem Ops.get {w:World} {p:Option Addr} {n c:Nat} {L:List KOp} (h:Ops w p n c L) (k:Nat) (hk:k<n):∃g o,p=some ⟨g,o,none⟩∧w.cell? ⟨g,o+k*2,none⟩=some (.int .u8 (L.getD k default).kind)∧w.cell? ⟨g,o+k*2+1,none⟩=some (L.getD k default).row.val∧(L.getD k default).kind<256∧(L.getD k default).row.Ok w:=by
 have hk':k<L.length:=by rw [← h.size];exact hk
 rcases h.at' with h0 | ⟨g,o,hp,hx⟩
 ·rw [h0] at hk'
  exact absurd hk' (by simp)
 ·have hm:=getD_mem L k hk'
  exact ⟨g,o,hp,hx k hk' 0 _ rfl,hx k hk' 1 _ rfl,(h.each _ hm).1,(h.each _ hm).2⟩
theorem FOp:fieldsOf (Tryz.prog.underlying 38)=some [(0,5),(1,24)]:=by kernel_rfl
theorem COp:Tryz.prog.cellsOf 38=2:=by kernel_rfl
theorem UOps:Tryz.prog.underlying 22=some (.slice 38):=by kernel_rfl
section
variable {H:Type} {enc:TypeId×Value→H} {W:World} {base:Nat} {held:Bool} {fuel:Nat} {cs:List Value} {x:DataW H×List MemPlace}
theorem cells_kop (h:DataW.trod enc Tryz.prog W base (fun _=>true) held fuel 38 cs=some x):∃o:KOp,cs=o.cells∧(o.kind<256∧o.row.Ok W):=by
 obtain ⟨hlen,n,get⟩:=trod_fields FOp h
 rw [COp] at hlen
 obtain ⟨y0,h0⟩:=get 0 0 _ rfl
 obtain ⟨y1,h1⟩:=get 1 1 _ rfl
 rw [CU8o] at h0
 rw [CRowo] at h1
 obtain ⟨a0,e0,_,w0⟩:=DataW.trod_int UU8o h0
 obtain ⟨r,e1,hR⟩:=cells_row h1
 have hk:=bounds_u8 w0
 obtain ⟨m0,rfl⟩:∃m:Nat,a0=m:=⟨a0.toNat,by omega⟩
 refine ⟨⟨m0,r⟩,?_,by show m0<256;omega,hR⟩
 have:=cells_cut cs 0 1
 rw [List.drop_zero] at this
 rw [List.drop_zero] at e0
 rw [this,e0,cells_cut cs 1 1,e1,List.drop_eq_nil_of_le (by omega)]
 rfl
theorem open_ops {a0:Option Addr} {len0 cap0:Nat} (h:DataW.trod enc Tryz.prog W base (fun _=>true) held fuel 22 (Value.slice a0 len0 cap0).cells.toList=some x):(∃L,Ops W a0 len0 cap0 L)∧len0≤9223372036854775807:=by
 obtain ⟨p,n,c,L,hcs,h1,h2,h3,h4,h5⟩:=open_structs KOp.cells (fun o=>o.kind<256∧o.row.Ok W) 2 (by omega) UOps COp (fun _ _ _ h=>cells_kop h) h
 simp [Value.cells] at hcs
 obtain ⟨rfl,rfl,rfl⟩:=hcs
 exact ⟨⟨L,h1,h2,h4,h5⟩,h3⟩
end
end Go.Proofs.YtinihaflmdihaaaGreat.Kt
namespace Go.Proofs.YtinihaflmdihaaaGreat.Kt
open Go.RowKit
def lexLt:List Int→List Int→Bool
 | a::p,b::q=>if a=b then lexLt p q else decide (a<b)
 | _,_=>false
def lessP (k:Nat) (p q:List Int):Bool:=if p.getD k 0=q.getD k 0 then lexLt p q else decide (p.getD k 0<q.getD k 0)
def insP (k:Nat) (out:List (List Int)) (x:List Int):List (List Int):=out.takeWhile (fun y=>lessP k y x)++x::out.dropWhile (fun y=>lessP k y x)
def sortP (k:Nat) (L:List (List Int)):List (List Int):=L.foldl (insP k) []
inductive T where
 | nil:T
 | fork (row:List Int) (live:Bool) (l r:T):T
def T.size:T→Nat
 | .nil=>0
 | .fork _ _ l r=>1+l.size+r.size
def T.all:T→List (List Int)
 | .nil=>[]
 | .fork p v l r=>l.all++r.all++if v then [p] else []
def T.height:T→Nat
 | .nil=>0
 | .fork _ _ l r=>1+max l.height r.height
def layP:Nat→List (List Int)→Nat→T
 | 0,_,_=>.nil
 | n+1,L,t=>if L=[] then .nil else .fork ((sortP (t%(L.headD []).length) L).getD (L.length/2) []) true (layP n ((sortP (t%(L.headD []).length) L).take (L.length/2)) (t+1)) (layP n ((sortP (t%(L.headD []).length) L).drop (L.length/2+1)) (t+1))
def lay (L:List (List Int)) (t:Nat):T:=layP L.length L t
theorem takeWhile_dropWhile_length {α:Type} (f:α→Bool) (L:List α):(L.takeWhile f).length+(L.dropWhile f).length=L.length:=by
 rw [← List.length_append,List.takeWhile_append_dropWhile]
theorem insP_length (k:Nat) (out:List (List Int)) (x:List Int):(insP k out x).length=out.length+1:=by
 unfold insP
 have:=takeWhile_dropWhile_length (fun y=>lessP k y x) out
 rw [List.length_append,List.length_cons]
 omega
theorem fold_length (k:Nat):∀(L out:List (List Int)),(L.foldl (insP k) out).length=out.length+L.length
 |[],out=>by simp
 | x::L,out=>by
  rw [List.foldl_cons,fold_length k L,insP_length,List.length_cons]
  omega
theorem sortP_length (k:Nat) (L:List (List Int)):(sortP k L).length=L.length:=by
 unfold sortP
 rw [fold_length]
 simp
theorem insP_perm (k:Nat) (out:List (List Int)) (x:List Int):(insP k out x).Perm (x::out):=by
 unfold insP
 have h:out.takeWhile (fun y=>lessP k y x)++out.dropWhile (fun y=>lessP k y x)=out:=List.takeWhile_append_dropWhile
 exact (List.perm_middle).trans (by rw [h])
theorem fold_perm (k:Nat):∀(L out:List (List Int)),(L.foldl (insP k) out).Perm (L++out)
 |[],out=>List.Perm.refl _
 | x::L,out=>by
  rw [List.foldl_cons]
  refine (fold_perm k L _).trans ?_
  exact ((insP_perm k out x).append_left L).trans List.perm_middle
theorem sortP_perm (k:Nat) (L:List (List Int)):(sortP k L).Perm L:=by
 have:=fold_perm k L []
 rwa [List.append_nil] at this
theorem layP_fuel:∀(n m:Nat) (L:List (List Int)) (t:Nat),L.length≤n→L.length≤m→layP n L t=layP m L t
 | 0,0,_,_,_,_=>rfl
 | 0,m+1,L,t,h,_=>by
  have:L=[]:=List.length_eq_zero_iff.1 (by omega)
  rw [this]
  simp [layP]
 | n+1,0,L,t,_,h=>by
  have:L=[]:=List.length_eq_zero_iff.1 (by omega)
  rw [this]
  simp [layP]
 | n+1,m+1,L,t,h1,h2=>by
  rw [layP,layP]
  by_cases hL:L=[]
  ·rw [if_pos hL,if_pos hL]
  ·rw [if_neg hL,if_neg hL]
   have hp:=List.length_pos_iff.2 hL
   have l1:((sortP (t%(L.headD []).length) L).take (L.length/2)).length≤L.length/2:=by rw [List.length_take];omega
   have l2:((sortP (t%(L.headD []).length) L).drop (L.length/2+1)).length≤L.length - (L.length/2+1):=by rw [List.length_drop,sortP_length];omega
   rw [layP_fuel n m _ (t+1) (by omega) (by omega),layP_fuel n m _ (t+1) (by omega) (by omega)]
theorem lay_go {L:List (List Int)} {t:Nat} (hL:L≠[]):lay L t= .fork ((sortP (t%(L.headD []).length) L).getD (L.length/2) []) true (lay ((sortP (t%(L.headD []).length) L).take (L.length/2)) (t+1)) (lay ((sortP (t%(L.headD []).length) L).drop (L.length/2+1)) (t+1)):=by
 have hp:=List.length_pos_iff.2 hL
 unfold lay
 obtain ⟨n,hn⟩:∃n,L.length=n+1:=⟨L.length - 1,by omega⟩
 have l1:((sortP (t%(L.headD []).length) L).take (L.length/2)).length≤L.length/2:=by rw [List.length_take];omega
 have l2:((sortP (t%(L.headD []).length) L).drop (L.length/2+1)).length≤L.length - (L.length/2+1):=by rw [List.length_drop,sortP_length];omega
 conv=>lhs;rw [hn,layP,if_neg hL]
 rw [layP_fuel n _ _ (t+1) (by omega) (Nat.le_refl _),layP_fuel n _ _ (t+1) (by omega) (Nat.le_refl _)]
def light (u:T) (t:Nat):T:=
 match u with
 | .nil=>.nil
 | .fork p v l r=>if 2*(1+l.size+r.size)/3+1<max l.size r.size then lay (T.fork p v l r).all t else .fork p v l r
def insertT:T→List Int→Nat→T×Bool
 | .nil,p,_=>(.fork p true .nil .nil,true)
 | .fork q v l r,p,t=>
  if q=p then (light (.fork q true l r) t,!v)
  else if lessP (t%p.length) p q then (light (.fork q v (insertT l p (t+1)).1 r) t,(insertT l p (t+1)).2)
  else (light (.fork q v l (insertT r p (t+1)).1) t,(insertT r p (t+1)).2)
def removeT:T→List Int→Nat→T×Bool
 | .nil,_,_=>(.nil,false)
 | .fork q v l r,p,t=>
  if q=p then (.fork q false l r,v)
  else if lessP (t%p.length) p q then (.fork q v (removeT l p (t+1)).1 r,(removeT l p (t+1)).2)
  else (.fork q v l (removeT r p (t+1)).1,(removeT r p (t+1)).2)
def deleteT (u:T) (p:List Int):T×Bool:=
 if (removeT u p 0).2=true∧2*(removeT u p 0).1.all.length<(removeT u p 0).1.size then (lay (removeT u p 0).1.all 0,true) else removeT u p 0
def T.dims (d:Nat):T→Prop
 | .nil=>True
 | .fork p _ l r=>p.length=d∧l.dims d∧r.dims d
theorem all_dims {d:Nat}:∀ {u:T},u.dims d→∀p∈u.all,p.length=d
 | .nil,_,p,hp=>by cases hp
 | .fork q v l r,h,p,hp=>by
  unfold T.all at hp
  rcases List.mem_append.1 hp with hp | hp
  ·rcases List.mem_append.1 hp with hp | hp
   ·exact all_dims h.2.1 p hp
   ·exact all_dims h.2.2 p hp
  ·cases v with
   | true=>
    simp only [if_true,List.mem_singleton] at hp
    rw [hp]
    exact h.1
   | false=>simp at hp
theorem layP_dims {d:Nat}:∀(n:Nat) (L:List (List Int)) (t:Nat),(∀p∈L,p.length=d)→(layP n L t).dims d
 | 0,_,_,_=>trivial
 | n+1,L,t,h=>by
  rw [layP]
  by_cases hL:L=[]
  ·rw [if_pos hL]
   trivial
  ·rw [if_neg hL]
   have hm:∀p∈sortP (t%(L.headD []).length) L,p.length=d:=fun p hp=>h p ((sortP_perm _ L).mem_iff.1 hp)
   have hp:=List.length_pos_iff.2 hL
   refine ⟨hm _ ?_,layP_dims n _ _ (fun p hp=>hm p (List.mem_of_mem_take hp)),layP_dims n _ _ (fun p hp=>hm p (List.mem_of_mem_drop hp))⟩
   rw [List.getD_eq_getElem?_getD,List.getElem?_eq_getElem (by rw [sortP_length];omega)]
   exact List.getElem_mem _
theorem lay_dims {d:Nat} {L:List (List Int)} {t:Nat} (h:∀p∈L,p.length=d):(lay L t).dims d:=layP_dims _ L t h
theorem light_dims {d:Nat} {u:T} {t:Nat} (h:u.dims d):(light u t).dims d:=by
 cases u with
 | nil=>exact h
 | fork p v l r=>
  unfold light
  simp only
  split
  ·exact lay_dims (all_dims h)
  ·exact h
theorem insert_dims {d:Nat}:∀ {u:T} {p:List Int} {t:Nat},u.dims d→p.length=d→(insertT u p t).1.dims d
 | .nil,p,t,_,hp=>⟨hp,trivial,trivial⟩
 | .fork q v l r,p,t,h,hp=>by
  unfold insertT
  split
  ·exact light_dims (u:=.fork q true l r) ⟨h.1,h.2.1,h.2.2⟩
  ·split
   ·exact light_dims (u:=.fork q v (insertT l p (t+1)).1 r) ⟨h.1,insert_dims h.2.1 hp,h.2.2⟩
   ·exact light_dims (u:=.fork q v l (insertT r p (t+1)).1) ⟨h.1,h.2.1,insert_dims h.2.2 hp⟩
theorem remove_dims {d:Nat}:∀ {u:T} {p:List Int} {t:Nat},u.dims d→(removeT u p t).1.dims d
 | .nil,p,t,_=>trivial
 | .fork q v l r,p,t,h=>by
  unfold removeT
  split
  ·exact ⟨h.1,h.2.1,h.2.2⟩
  ·split
   ·exact ⟨h.1,remove_dims h.2.1,h.2.2⟩
   ·exact ⟨h.1,h.2.1,remove_dims h.2.2⟩
theorem delete_dims {d:Nat} {u:T} {p:List Int} (h:u.dims d):(deleteT u p).1.dims d:=by
 unfold deleteT
 split
 ·exact lay_dims (all_dims (remove_dims h))
 ·exact remove_dims h
def RwIn (F:Nat→Prop) (r:Rw):Prop:=∀x,r.p=some x→r.R≠[]→F x.block
inductive TAt (F:Nat→Prop) (w:World):Option Addr→T→Prop
 | nil:TAt F w none .nil
 | fork {g:Nat} {r:Rw} {v:Bool} {p q:Option Addr} {l u:T} (row:w.heap[g]? =some (.cells #[r.val,.bool v,.pointer p,.pointer q] 105 (0,0))) (ok:r.Ok w) (hg:F g) (hF:RwIn F r) (hl:TAt F w p l) (hr:TAt F w q u):TAt F w (some ⟨g,0,none⟩) (.fork r.R v l u)
section
variable {F F':Nat→Prop} {w w':World} {p:Option Addr} {u:T}
theorem rw_lt {r:Rw} (h:r.Ok w):∀x,r.p=some x→r.R≠[]→x.block<w.heap.size:=fun x hx hR=>by
 rcases h.ints.at' with h0 | ⟨g,o,hp,hc⟩
 ·exact absurd h0 hR
 ·rw [hx] at hp
  obtain rfl:x=⟨g,o,none⟩:=by simpa using hp
  exact block_lt_of_cell (hc 0 (List.length_pos_iff.2 hR))
theorem rw_keepT {r:Rw} (h:r.Ok w) (hF:RwIn F r) (hk:∀k,F k→k<w.heap.size→w'.heap[k]? =w.heap[k]?):r.Ok w':=
 ⟨⟨h.ints.size,h.ints.le,h.ints.ok,by
  have hlt:=rw_lt h
  refine h.ints.at'.imp id fun ⟨g,o,hp,hx⟩=>⟨g,o,hp,fun i hi=>?_⟩
  have hR:r.R≠[]:=by rintro e;rw [e] at hi;simp at hi
  rw [World.cell?_of_block (w:=w) (w':=w') (a:=⟨g,o+i,none⟩) (hk g (hF ⟨g,o,none⟩ hp hR) (hlt ⟨g,o,none⟩ hp hR))]
  exact hx i hi⟩,h.top⟩
theorem TAt.keep (h:TAt F w p u) (hk:∀k,F k→k<w.heap.size→w'.heap[k]? =w.heap[k]?):TAt F w' p u:=by
 induction h with
 | nil=>exact .nil
 | fork row ok hg hF _ _ h1 h2=>exact .fork ((hk _ hg (yL row)).trans row) (rw_keepT ok hF hk) hg hF h1 h2
theorem TAt.later (h:TAt F w p u) (hb:Below w.heap.size w w'):TAt F w' p u:=h.keep fun k _ hk=>hb.block k hk
theorem TAt.wide (h:TAt F w p u) (hF:∀k,F k→F' k):TAt F' w p u:=by
 induction h with
 | nil=>exact .nil
 | fork row ok hg hR _ _ h1 h2=>exact .fork row ok (hF _ hg) (fun x hx hr=>hF _ (hR x hx hr)) h1 h2
theorem TAt.lt (h:TAt F w p u):TAt (fun k=>F k∧k<w.heap.size) w p u:=by
 induction h with
 | nil=>exact .nil
 | fork row ok hg hR _ _ h1 h2=>exact .fork row ok ⟨hg,(yL row)⟩ (fun x hx hr=>⟨hR x hx hr,rw_lt ok x hx hr⟩) h1 h2
end
def hds (L:List Rw):List Value:=L.map Rw.val
theorem hds_length (L:List Rw):(hds L).length=L.length:=by simp [hds]
theorem hds_append (A B:List Rw):hds (A++B)=hds A++hds B:=by simp [hds]
theorem hds_one (L:List Rw):∀u∈hds L,u.oneCell'=true:=by
 intro u hu
 simp only [hds,List.mem_map] at hu
 obtain ⟨x,_,rfl⟩:=hu
 rfl
structure Own (B:Nat) (w:World) (v:Value) (n:Nat) (L:List Rw):Prop where
 own:w.ownsRow B 24 1 v n (hds L)
 ok:∀r∈L,r.Ok w
section
variable {B:Nat} {w w':World} {v:Value} {n:Nat} {L:List Rw}
theorem Own.len (h:Own B w v n L):n=L.length:=by
 have:=h.own.1
 rw [hds_length,Nat.mul_one] at this
 exact this.symm
theorem Own.later (h:Own B w v n L) (hb:Below w.heap.size w w'):Own B w' v n L:=by
 obtain ⟨h1,h2⟩:=h.own
 refine ⟨⟨h1,h2.imp id ?_⟩,fun r hr=>(h.ok r hr).later hb⟩
 rintro ⟨g,cap,cur,hv,hg,hh,r⟩
 exact ⟨g,cap,cur,hv,hg,(hb.block _ (yL hh)).trans hh,r⟩
theorem Own.base {B':Nat} (h:Own B w v n L) (hB:B'≤B):Own B' w v n L:=
 ⟨⟨h.own.1,h.own.2.imp id fun ⟨g,cap,cur,hv,hl,r⟩=>⟨g,cap,cur,hv,Nat.le_trans hB hl,r⟩⟩,h.ok⟩
theorem Own.form (h:Own B w v n L):∃q c,v= .slice q n c:=by
 rcases h.own.2 with ⟨rfl,h0⟩ | ⟨g,cap,cur,rfl,_⟩
 ·exact ⟨none,0,by rw [h0]⟩
 ·exact ⟨_,cap,rfl⟩
theorem Own.rows (h:Own B w v n L):∃q c,v= .slice q n c∧RowsIn w q n c L:=by
 have hl:=h.len
 rcases h.own.2 with ⟨rfl,h0⟩ | ⟨g,cap,cur,rfl,hb,hg,hle,hm,hs,ht⟩
 ·subst h0
  exact ⟨none,0,rfl,hl,Nat.le_refl _,h.ok,Or.inl (List.length_eq_zero_iff.1 hl.symm)⟩
 ·refine ⟨_,cap,rfl,hl,hle,h.ok,Or.inr ⟨g,0,rfl,fun i hi=>?_⟩⟩
  rw [Nat.zero_add,cell_of_row w g i cur _ _ hg]
  have e:(cur.toList.take (n*1))[i]? =(hds L)[i]? :=by rw [ht]
  rw [List.getElem?_take_of_lt (by omega)] at e
  simp [hds,List.getElem?_eq_getElem hi] at e
  rw [e]
  simp [List.getD_eq_getElem?_getD,List.getElem?_eq_getElem hi]
end
theorem getD_R {L:List Rw} {i:Nat} (h:i<L.length):(L.map Rw.R).getD i []=(L.getD i default).R:=by
 rw [List.getD_eq_getElem?_getD,List.getD_eq_getElem?_getD,List.getElem?_map,List.getElem?_eq_getElem h]
 rfl
theorem getD_in {L:List Rw} {i:Nat} (h:i<L.length):L.getD i default∈L:=by
 rw [List.getD_eq_getElem?_getD,List.getElem?_eq_getElem h]
 exact List.getElem_mem h
theorem lexLt_same:∀R:List Int,lexLt R R=false
 |[]=>rfl
 | x::R=>by
  unfold lexLt
  rw [if_pos rfl]
  exact lexLt_same R
theorem ret_b {x:Bool} {y:Bool} (h:x=y):Ending.returned (.bool x)= .returned (.bool y):=by rw [h]
end Go.Proofs.YtinihaflmdihaaaGreat.Kt
