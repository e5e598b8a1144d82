/- ZrTwo, BoxRefA, NdTwo, NdMath, NdLay, NdKd0, GenEqs, BoxRefB, BoxRefG, NdSame, NlEqual, NlBoxSame, NlSame, NlEmpty, GenBox. -/
import Derived.Maps.AppendAt
import Derived.Laws.OwnMore
import Derived.Great.BuildSlice
import Derived.Test.YtinihaflmdihaaaGreatL2
set_option maxRecDepth 100000
set_option maxHeartbeats 8000000
set_option linter.all false
namespace Go.Proofs.YtinihaflmdihaaaGreat.Zr
open Go.RowKit Go.Proofs.YtinihaflmdihaaaGreat.Mo
theorem x1O {w w':World} {base:Nat} {e:TypeId} {v:Value} {n:Nat} {xs:List Value} (h:w.ownsRow base e 1 v n xs) (hk:∀g,v.ownBlock=some g→w'.heap[g]? =w.heap[g]?):w'.ownsRow base e 1 v n xs:=by
 obtain ⟨E,C⟩:=h
 refine ⟨E,C.imp id ?_⟩
 rintro ⟨g,B,A,rfl,G,H,r⟩
 exact ⟨g,B,A,rfl,G,(hk g rfl).trans H,r⟩
structure TwoR (w0 w:World) (gb:Nat) (u v:Value) (nu nv:Nat) (A B:List Int):Prop where
 row:w.heap[gb]? =some (.cells #[u,v] 32 (0,0))
 own1:w.ownsRow (gb+1) 2 1 u nu (ivals A)
 own2:w.ownsRow (gb+1) 2 1 v nv (ivals B)
 apart:∀g,u.ownBlock=some g→v.ownBlock≠some g
 low:Below w0.heap.size w0 w
 ge:w0.heap.size≤gb
theorem TwoR.lt {w0 w:World} {gb:Nat} {u v:Value} {nu nv:Nat} {A B:List Int} (h:TwoR w0 w gb u v nu nv A B):gb<w.heap.size:=(yL h.row)
theorem TwoR.facts {w0 w:World} {gb:Nat} {u v:Value} {nu nv:Nat} {A B:List Int} (h:TwoR w0 w gb u v nu nv A B):w.cell? ⟨gb,0,none⟩=some u∧w.cell? ⟨gb,1,none⟩=some v∧w.frozen? ⟨gb,0,none⟩=false∧w.frozen? ⟨gb,1,none⟩=false:=
 ⟨cell_of_row w gb 0 _ _ _ h.row,cell_of_row w gb 1 _ _ _ h.row,frozen_of_row w gb _ _ _ h.row,frozen_of_row w gb _ _ _ h.row⟩
theorem TwoR.start (w0 w:World) (hb:Below w0.heap.size w0 w):TwoR w0 (w.alloc (.cells #[.slice none 0 0,.slice none 0 0] 32)) w.heap.size (.slice none 0 0) (.slice none 0 0) 0 0 [] []:=
 ⟨heap_alloc_new w _,World.ownsRow_nil _ _ _ _,World.ownsRow_nil _ _ _ _,fun g h=>by simp [Value.ownBlock] at h,hb.alloc hb.size _,hb.size⟩
theorem TwoR.later {w0 w w':World} {gb:Nat} {u v:Value} {nu nv:Nat} {A B:List Int} (h:TwoR w0 w gb u v nu nv A B) (hb:Below w.heap.size w w'):TwoR w0 w' gb u v nu nv A B:=
 ⟨(hb.block _ h.lt).trans h.row,x1O h.own1 (fun g hg=>hb.block g (h.own1.lt g hg).2),x1O h.own2 (fun g hg=>hb.block g (h.own2.lt g hg).2),h.apart,h.low.trans (hb.mono h.low.size),h.ge⟩
theorem TwoR.left {w0 w w2:World} {O:Obj} {gb:Nat} {u v u':Value} {nu nv:Nat} {A B:List Int} {x:Int} (h:TwoR w0 w gb u v nu nv A B) (ho:w2.ownsRow (gb+1) 2 1 u' (nu+1) (ivals A++ivals [x])) (hg:(w.alloc O).grownBy w2 u.ownBlock) (ht:u'.ownBlock=u.ownBlock∨u'.ownBlock=some (w.alloc O).heap.size):
  (w2.cell? ⟨gb,0,none⟩=some u∧w2.frozen? ⟨gb,0,none⟩=false)∧TwoR w0 (w2.setCell ⟨gb,0,none⟩ u') gb u' v (nu+1) nv (A++[x]) B:=by
 have E:Below w.heap.size w (w.alloc O):=(Below.refl _ _).alloc (Nat.le_refl _) _
 have L:(w.alloc O).heap.size=w.heap.size+1:=by simp
 have G:=h.lt
 have I:∀g,u.ownBlock=some g→gb+1≤g∧g<w.heap.size:=fun g e=>h.own1.lt g e
 have H:∀g,v.ownBlock=some g→gb+1≤g∧g<w.heap.size:=fun g e=>h.own2.lt g e
 have J:w2.heap[gb]? =w.heap[gb]? :=(hg.block gb (by omega) (fun e=>by have:=I gb e.symm;omega)).trans (E.block gb G)
 have C:=J.trans h.row
 have K:∀g,v.ownBlock=some g→(w2.setCell ⟨gb,0,none⟩ u').heap[g]? =w.heap[g]? :=fun g e=>by
  have:=H g e
  rw [heap_setCell_other _ _ _ _ (by show g≠gb;omega),hg.block g (by omega) (fun e2=>h.apart g e2.symm e),E.block g (by omega)]
 refine ⟨⟨cell_of_row w2 gb 0 _ _ _ C,frozen_of_row w2 gb _ _ _ C⟩,heap_setCell_same w2 gb 0 _ _ u' C,?_,x1O h.own2 K,fun g e e2=>?_,((h.low.alloc h.low.size O).grown hg (by have:=h.low.size;omega) (fun g e=>by have:=(I g e).1;have:=h.ge;omega)).setCell h.ge _,h.ge⟩
 ·rw [show ivals (A++[x])=ivals A++ivals [x] from by simp [ivals]]
  exact x1O ho fun g e=>heap_setCell_other _ _ _ _ (by show g≠gb;have:=(ho.lt g e).1;omega)
 ·have:=H g e2
  rcases ht with t | t
  ·exact h.apart g (by rw [← t];exact e) e2
  ·rw [t] at e
   simp only [Option.some.injEq] at e
   omega
theorem TwoR.right {w0 w w2:World} {O:Obj} {gb:Nat} {u v v':Value} {nu nv:Nat} {A B:List Int} {x:Int} (h:TwoR w0 w gb u v nu nv A B) (ho:w2.ownsRow (gb+1) 2 1 v' (nv+1) (ivals B++ivals [x])) (hg:(w.alloc O).grownBy w2 v.ownBlock) (ht:v'.ownBlock=v.ownBlock∨v'.ownBlock=some (w.alloc O).heap.size):
  (w2.cell? ⟨gb,1,none⟩=some v∧w2.frozen? ⟨gb,1,none⟩=false)∧TwoR w0 (w2.setCell ⟨gb,1,none⟩ v') gb u v' nu (nv+1) A (B++[x]):=by
 have E:Below w.heap.size w (w.alloc O):=(Below.refl _ _).alloc (Nat.le_refl _) _
 have L:(w.alloc O).heap.size=w.heap.size+1:=by simp
 have G:=h.lt
 have I:∀g,u.ownBlock=some g→gb+1≤g∧g<w.heap.size:=fun g e=>h.own1.lt g e
 have H:∀g,v.ownBlock=some g→gb+1≤g∧g<w.heap.size:=fun g e=>h.own2.lt g e
 have K:w2.heap[gb]? =w.heap[gb]? :=(hg.block gb (by omega) (fun e=>by have:=H gb e.symm;omega)).trans (E.block gb G)
 have C:=K.trans h.row
 have J:∀g,u.ownBlock=some g→(w2.setCell ⟨gb,1,none⟩ v').heap[g]? =w.heap[g]? :=fun g e=>by
  have:=I g e
  rw [heap_setCell_other _ _ _ _ (by show g≠gb;omega),hg.block g (by omega) (fun e2=>h.apart g e e2.symm),E.block g (by omega)]
 refine ⟨⟨cell_of_row w2 gb 1 _ _ _ C,frozen_of_row w2 gb _ _ _ C⟩,heap_setCell_same w2 gb 1 _ _ v' C,x1O h.own1 J,?_,fun g e e2=>?_,((h.low.alloc h.low.size O).grown hg (by have:=h.low.size;omega) (fun g e=>by have:=(H g e).1;have:=h.ge;omega)).setCell h.ge _,h.ge⟩
 ·rw [show ivals (B++[x])=ivals B++ivals [x] from by simp [ivals]]
  exact x1O ho fun g e=>heap_setCell_other _ _ _ _ (by show g≠gb;have:=(ho.lt g e).1;omega)
 ·have:=I g e
  rcases ht with t | t
  ·exact h.apart g e (by rw [← t];exact e2)
  ·rw [t] at e2
   simp only [Option.some.injEq] at e2
   omega
def x6I (w:World) (A B:List Int) (v:Value) (w':World):Prop:=∃p c q e,v= .agg #[.slice p A.length c,.slice q B.length e]∧Ints w' p A.length c A∧Ints w' q B.length e B∧Below w.heap.size w w'
theorem TwoR.done {w0 w:World} {gb:Nat} {u v:Value} {nu nv:Nat} {A B:List Int} (h:TwoR w0 w gb u v nu nv A B) (hA:Mm.inI A) (hB:Mm.inI B):x6I w0 A B (.agg #[u,v]) w:=by
 have H:nu=A.length:=by have:=h.own1.1;rw [ivals,List.length_map,Nat.mul_one] at this;exact this.symm
 have C:nv=B.length:=by have:=h.own2.1;rw [ivals,List.length_map,Nat.mul_one] at this;exact this.symm
 obtain ⟨p,c,rfl,E⟩:=x4D h.own1 hA
 obtain ⟨q,e,rfl,G⟩:=x4D h.own2 hB
 subst H
 subst C
 exact ⟨p,c,q,e,rfl,E,G,h.low⟩
theorem x3E {fn:Func} {P:Ending→World→Prop} (p:Tmp) (hr:fn.results= #[.cell p 32]) {tmps:Array Value} {w:World} (g:Nat) (a b:Value)
  (hp:tmps.getD p undef= .pointer (some ⟨g,0,none⟩)) (r0:w.cell? ⟨g,0,none⟩=some a) (r1:w.cell? ⟨g,1,none⟩=some b) (h:P (.returned (.agg #[a,b])) w):bodyPost Tryz.prog fn P .ret ⟨tmps,[]⟩ w:=by
 refine bodyPost_ret (a:=⟨tmps,[]⟩) (v:=.agg #[a,b]) ?_ rfl h
 have A:tmps[p]?.getD undef= .pointer (some ⟨g,0,none⟩):=by simpa using hp
 simp [results,hr,A,go_sem,r0,r1]
end Go.Proofs.YtinihaflmdihaaaGreat.Zr
namespace Go.Proofs.YtinihaflmdihaaaGreat
open Go.RowKit
def les (R S:List Int):Nat→Bool
 | 0=>true
 | k+1=>les R S k&&decide (R.getD k 0≤S.getD k 0)
theorem x3f (R S:List Int):∀n,les R S n=true↔∀k,k<n→R.getD k 0≤S.getD k 0
 | 0=>⟨fun _ k hk=>by omega,fun _=>rfl⟩
 | n+1=>by
  show (les R S n&&decide (R.getD n 0≤S.getD n 0))=true↔_
  rw [Bool.and_eq_true,x3f R S n,decide_eq_true_eq]
  constructor
  ·rintro ⟨h1,h2⟩ k hk
   by_cases hkn:k=n
   ·rw [hkn];exact h2
   ·exact h1 k (by omega)
  ·intro h
   exact ⟨fun k hk=>h k (by omega),h n (by omega)⟩
def x0d (R S:List Int) (n m:Nat) (d:Int):Bool:=decide (1≤d∧d≤8∧(n:Int)=d∧(m:Int)=d)&&les R S n
theorem x12 {R S:List Int} {n m:Nat} {d:Int} (h:¬(1≤d∧d≤8∧(n:Int)=d∧(m:Int)=d)):x0d R S n m d=false:=by
 unfold x0d
 rw [decide_eq_false h,Bool.false_and]
theorem x5c {R S:List Int} {n:Nat} (h:1≤n∧n≤8):x0d R S n n n=les R S n:=by
 unfold x0d
 rw [decide_eq_true (by omega),Bool.true_and]
def y2D (w0:World) (R S:List Int) (n:Nat) (i:Value) (wr:World):Prop:=∃k j:Nat,k≤n∧i= .int .i64 k∧les R S k=true∧wr=w0.drewN j
theorem y0J {R S:List Int} {k n:Nat} (hk:k<n) (h:¬R.getD k 0≤S.getD k 0):les R S n=false:=by
 cases e:les R S n with
 | false=>rfl
 | true=>exact absurd ((x3f R S n).1 e k hk) h
theorem x0W (w:World) (v u:Value) (t:TypeId):(w.alloc (.cells #[v,u] t)).cell? ⟨w.heap.size,0,none⟩=some v∧(w.alloc (.cells #[v,u] t)).cell? ⟨w.heap.size,1,none⟩=some u:=
 ⟨cell_of_row _ _ 0 _ t (0,0) (heap_alloc_new w _),cell_of_row _ _ 1 _ t (0,0) (heap_alloc_new w _)⟩
theorem x4E (p q:Option Addr) (n c m e:Nat) (R S:List Int) (d:Int) (w:World) (h:Ints w p n c R) (h2:Ints w q m e S):
  Calls Tryz.prog 160 #[.agg #[.slice p n c,.slice q m e],.int .i64 d] w fun e w'=>e= .returned (.bool (x0d R S n m d))∧Below w.heap.size w w':=by
 have E:Below w.heap.size w (w.alloc (.cells #[.slice p n c,.slice q m e] 32)):=(Below.refl _ _).alloc (Nat.le_refl _) _
 obtain ⟨P,U⟩:=x0W w (.slice p n c) (.slice q m e) 32
 have M:=yH (h.later E)
 have Q:=yH (h2.later E)
 have B:=yH E
 clear h h2 E
 by_cases hd1:d<1
 ·rw [x12 (by omega)]
  go_enter Tryz.func160,Tryz.ntmps160
  go_wp2_with fail
  go_ret
  exact ⟨rfl,B.out⟩
 by_cases hd2:8<d
 ·rw [x12 (by omega)]
  go_enter Tryz.func160,Tryz.ntmps160
  go_wp2_with fail
  go_ret
  exact ⟨rfl,B.out⟩
 by_cases hn:(n:Int)=d
 case neg=>
  rw [x12 (fun h=>hn h.2.2.1)]
  go_enter Tryz.func160,Tryz.ntmps160
  go_wp2_with fail
  go_ret
  exact ⟨rfl,B.out⟩
 by_cases hm:(m:Int)=d
 case neg=>
  rw [x12 (fun h=>hm h.2.2.2)]
  go_enter Tryz.func160,Tryz.ntmps160
  go_wp2_with fail
  go_ret
  exact ⟨rfl,B.out⟩
 subst hn
 obtain rfl:m=n:=by omega
 rw [x5c (by omega)]
 clear hm
 go_enter Tryz.func160,Tryz.ntmps160
 go_wp2_with fail
 have O:=yH P
 have N:=yH U
 generalize hw0:w.alloc (.cells #[.slice p m c,.slice q m e] 32)=w0 at *
 clear hw0
 go_loopw [5] (fun i wr=>y2D w0 R S m i wr) (fun i _=>m - (intOf i).toNat)
 case atStart=>exact ⟨0,0,by omega,rfl,rfl,rfl⟩
 case round=>
  obtain ⟨k,j,Z,rfl,A,rfl⟩:=hrel
  have HL:=yH A
  clear A
  by_cases hlt:k<m
  ·obtain ⟨Y,o,rfl,K⟩:=M.out.cell k hlt
   obtain ⟨a,W,rfl,L⟩:=Q.out.cell k hlt
   have X:(0:Int)≤k∧(k:Int)<m:=by omega
   have J:=fun h=>y0J (R:=R) (S:=S) hlt h
   have I:les R S (k+1)=(les R S k&&decide (R.getD k 0≤S.getD k 0)):=rfl
   have H:=yH J
   have HS:=yH I
   clear J I
   generalize R.getD k 0=x at *
   generalize S.getD k 0=y at *
   by_cases hgt:y<x
   ·have C:=H.out (by omega)
    have G:=yH C
    clear H HS C
    go_upto_region 6 with fail
    go_quiet (fail)
    go_wp2_with fail
    go_ret
    exact ⟨congrArg (fun b=>Ending.returned (.bool b)) G.out.symm,Below.drewN (Below.drewN B.out _) _⟩
   ·go_upto_region 6 with fail
    go_quiet (fail)
    go_wp2_with fail
    go_roundw
    case rel=>exact ⟨k+1,j+nq,by omega,by go_num,by rw [HS.out,HL.out,decide_eq_true (by omega)];rfl,rfl⟩
    case measure=>simp [intOf];omega
  ·obtain rfl:k=m:=by omega
   go_wp2_with fail
   go_ret
   exact ⟨congrArg (fun b=>Ending.returned (.bool b)) HL.out.symm,Below.drewN B.out _⟩
end Go.Proofs.YtinihaflmdihaaaGreat
namespace Go.Proofs.YtinihaflmdihaaaGreat.Nd
open Go.RowKit Go.Proofs.YtinihaflmdihaaaGreat.Mo Go.Proofs.YtinihaflmdihaaaGreat.Zr
theorem I2h:(Tryz.prog.info? 2).map (fun i=>(i.zero,i.size,i.bytes))=some (some (.int .i64 0),1,8):=by kernel_rfl
theorem URh:Tryz.prog.underlying 24=some (.slice 2):=by kernel_rfl
theorem x1d {w:World} {base n:Nat} {e:TypeId} {v:Value} {xs:List Value} (h:w.ownsRow base e 1 v n xs):∃q c,v= .slice q n c:=by
 rcases h.2 with ⟨rfl,C⟩ | ⟨g,A,E,rfl,K,H,B,I,J,G⟩
 ·subst C
  exact ⟨none,0,rfl⟩
 ·exact ⟨some ⟨g,0,none⟩,A,rfl⟩
theorem x0N {P:Program} {w:World} {o:Oper} {a:Act} {K:Act→World→Prop} {Q:Exit→Act→World→Prop} (s x:Operand) (t:TypeId)
  (ho:o.op= .call {callee:=.builtin .append,args:= #[s,x],argTypes:= #[t,t]})
  (base:Nat) (e:TypeId) (i:TypeInfo) (z:Value) (size bytes:Nat) (ht:P.underlying t=some (.slice e)) (hi:P.info? e=some i) (hz:i.zero=some z)
  (hsize:i.size=size) (hby:i.bytes=bytes) (hzs:z.cells.size=size) (hsz:0<size)
  (v:Value) (n:Nat) (xs:List Value) (hs:a.eval s=v) (hown:w.ownsRow base e size v n xs)
  (ad:Addr) (m c:Nat) (news:List Value) (hx:a.eval x= .slice (some ad) m c) (hl:news.length=m*size) (hnews:∀j u,news[j]? =some u→w.cell? (ad.add j)=some u) (h1:∀u∈news,u.oneCell'=true)
  (h63:n+m≤maxLen) (hbytes:(n+m)*bytes≤140737488355328) (hbase:base≤w.heap.size)
  (h:∀v' w',w'.ownsRow base e size v' (n+m) (xs++news)→w.grownBy w' v.ownBlock→(v'.ownBlock=v.ownBlock∨v'.ownBlock=some w.heap.size)→K (a.put o.dst v') w'):o.wp P a w K Q:=by
 obtain ⟨v',w',C,A,B,_,E⟩:=run_append_own_at (P:=P) w base t o.type e i z size bytes ht hi hz hsize hby hzs hsz v n xs hown ad m c news hl hnews h1 h63 hbytes hbase
 unfold Oper.wp execOp
 simp only [ho,resolve,invoke,builtin,Sem.run_bind,Sem.run_pure,Result.andThen_ok,List.map_toArray,List.map_cons,List.map_nil,hs,hx,C]
 exact h v' w' A B E
structure BH (w:World) (g:Nat) (p q s t:Option Addr) (n c m e k f l h:Nat) (R S T U:List Int):Prop where
 a:w.heap[g]? =some (.cells #[.slice p n c,.slice q m e] 32 (0,0))
 b:w.heap[g+1]? =some (.cells #[.slice s k f,.slice t l h] 32 (0,0))
 r:w.heap[g+2]? =some (.cells #[.slice none 0 0,.slice none 0 0] 32 (0,0))
 i1:Ints w p n c R
 i2:Ints w q m e S
 i3:Ints w s k f T
 i4:Ints w t l h U
section
variable {w w':World} {g:Nat} {p q s t:Option Addr} {n c m e k f l h:Nat} {R S T U:List Int}
theorem BH.later (H:BH w g p q s t n c m e k f l h R S T U) (hb:Below w.heap.size w w'):BH w' g p q s t n c m e k f l h R S T U:=
 ⟨(hb.block _ (yL H.a)).trans H.a,(hb.block _ (yL H.b)).trans H.b,(hb.block _ (yL H.r)).trans H.r,H.i1.later hb,H.i2.later hb,H.i3.later hb,H.i4.later hb⟩
theorem BH.cells (H:BH w g p q s t n c m e k f l h R S T U):
  w.cell? ⟨g,0,none⟩=some (.slice p n c)∧w.cell? ⟨g,1,none⟩=some (.slice q m e)∧w.cell? ⟨g+1,0,none⟩=some (.slice s k f)∧w.cell? ⟨g+1,1,none⟩=some (.slice t l h)∧
  w.cell? ⟨g+2,0,none⟩=some (.slice none 0 0)∧w.cell? ⟨g+2,1,none⟩=some (.slice none 0 0)∧w.frozen? ⟨g+2,0,none⟩=false∧w.frozen? ⟨g+2,1,none⟩=false:=
 ⟨cell_of_row w g 0 _ _ _ H.a,cell_of_row w g 1 _ _ _ H.a,cell_of_row w (g+1) 0 _ _ _ H.b,cell_of_row w (g+1) 1 _ _ _ H.b,cell_of_row w (g+2) 0 _ _ _ H.r,cell_of_row w (g+2) 1 _ _ _ H.r,frozen_of_row w (g+2) _ _ _ H.r,frozen_of_row w (g+2) _ _ _ H.r⟩
end
theorem x8J {w:World} {p q s t:Option Addr} {n c m e k f l h:Nat} {R S T U:List Int} (h1:Ints w p n c R) (h2:Ints w q m e S) (h3:Ints w s k f T) (h4:Ints w t l h U):
  BH (((w.alloc (.cells #[.slice p n c,.slice q m e] 32)).alloc (.cells #[.slice s k f,.slice t l h] 32)).alloc (.cells #[.slice none 0 0,.slice none 0 0] 32)) w.heap.size p q s t n c m e k f l h R S T U∧
  Below w.heap.size w (((w.alloc (.cells #[.slice p n c,.slice q m e] 32)).alloc (.cells #[.slice s k f,.slice t l h] 32)).alloc (.cells #[.slice none 0 0,.slice none 0 0] 32))∧
  (((w.alloc (.cells #[.slice p n c,.slice q m e] 32)).alloc (.cells #[.slice s k f,.slice t l h] 32)).alloc (.cells #[.slice none 0 0,.slice none 0 0] 32)).heap.size=w.heap.size+3:=by
 have I:=heap_alloc_new w (.cells #[.slice p n c,.slice q m e] 32 (0,0))
 have b1:Below w.heap.size w (w.alloc (.cells #[.slice p n c,.slice q m e] 32)):=(Below.refl _ _).alloc (Nat.le_refl _) _
 have s1:(w.alloc (.cells #[.slice p n c,.slice q m e] 32)).heap.size=w.heap.size+1:=by simp
 generalize w.alloc (.cells #[.slice p n c,.slice q m e] 32)=w1 at *
 have E:=heap_alloc_new w1 (.cells #[.slice s k f,.slice t l h] 32 (0,0))
 have J:Below w1.heap.size w1 (w1.alloc (.cells #[.slice s k f,.slice t l h] 32)):=(Below.refl _ _).alloc (Nat.le_refl _) _
 have H:(w1.alloc (.cells #[.slice s k f,.slice t l h] 32)).heap.size=w1.heap.size+1:=by simp
 generalize w1.alloc (.cells #[.slice s k f,.slice t l h] 32)=w2 at *
 have G:=heap_alloc_new w2 (.cells #[.slice none 0 0,.slice none 0 0] 32 (0,0))
 have C:Below w2.heap.size w2 (w2.alloc (.cells #[.slice none 0 0,.slice none 0 0] 32)):=(Below.refl _ _).alloc (Nat.le_refl _) _
 have K:(w2.alloc (.cells #[.slice none 0 0,.slice none 0 0] 32)).heap.size=w2.heap.size+1:=by simp
 generalize w2.alloc (.cells #[.slice none 0 0,.slice none 0 0] 32)=w3 at *
 have B:=J.trans (C.mono (by omega))
 have A:=b1.trans (B.mono (by omega))
 rw [s1] at E
 rw [H,s1] at G
 refine ⟨⟨(B.block _ (by omega)).trans I,(C.block _ (by omega)).trans E,G,h1.later A,h2.later A,h3.later A,h4.later A⟩,A,by omega⟩
theorem x5d {w00 w0 w:World} {gb:Nat} {u v:Value} {nu nv:Nat} {A B:List Int} (h:TwoR w0 w gb u v nu nv A B) (hb:Below w00.heap.size w00 w0) (x o:Nat) (z:Value) (hx:w00.heap.size≤x) (hx2:x<gb):TwoR w00 (w.setCell ⟨x,o,none⟩ z) gb u v nu nv A B:=
 ⟨(heap_setCell_other _ _ _ _ (by show gb≠x;omega)).trans h.row,
  x1O h.own1 (fun g e=>heap_setCell_other _ _ _ _ (by show g≠x;have:=(h.own1.lt g e).1;omega)),
  x1O h.own2 (fun g e=>heap_setCell_other _ _ _ _ (by show g≠x;have:=(h.own2.lt g e).1;omega)),
  h.apart,(hb.trans (h.low.mono hb.size)).setCell hx _,Nat.le_trans hb.size h.ge⟩
theorem x2W (w:World) (p:Option Addr) (c:Nat):Ints w p 0 c []:=⟨rfl,Nat.zero_le _,fun x hx=>by simp at hx,Or.inl rfl⟩
theorem x8K {w w':World} {p q:Option Addr} {n c m e:Nat} {A B:List Int} (h1:Ints w p n c A) (h2:Ints w q m e B) (hb:Below w.heap.size w w'):x6I w A B (.agg #[.slice p n c,.slice q m e]) w':=by
 have C:=h1.size
 have E:=h2.size
 subst C
 subst E
 exact ⟨p,c,q,e,rfl,h1.later hb,h2.later hb,hb⟩
def two (f:Int→Int→Int) (R T:List Int) (k:Nat):List Int:=(List.range k).map fun i=>f (R.getD i 0) (T.getD i 0)
theorem x8L (f:Int→Int→Int) (R T:List Int) (k:Nat):two f R T (k+1)=two f R T k++[f (R.getD k 0) (T.getD k 0)]:=by simp [two,List.range_succ]
theorem x3g (f:Int→Int→Int) (R T:List Int) (k:Nat):(two f R T k).length=k:=by simp [two]
theorem x2X (f:Int→Int→Int) (R T:List Int) (k i:Nat) (h:i<k):(two f R T k).getD i 0=f (R.getD i 0) (T.getD i 0):=by simp [two,List.getD_eq_getElem?_getD,h]
def rb (R S:List Int):Bool:=x0d R S R.length S.length R.length
def hull (A B:List Int×List Int):List Int×List Int:=
 if rb A.1 A.2=true∧rb B.1 B.2=false then A
 else if rb B.1 B.2=true∧rb A.1 A.2=false then B
 else if rb A.1 A.2=false∨A.1.length≠B.1.length then ([],[])
 else (two min A.1 B.1 A.1.length,two max A.2 B.2 A.1.length)
theorem x6v {R S:List Int} (h:rb R S=true):1≤R.length∧R.length≤8∧S.length=R.length:=by
 unfold rb x0d at h
 rw [Bool.and_eq_true,decide_eq_true_eq] at h
 omega
theorem y3f {f:Int→Int→Int} (hf:∀x y,f x y=x∨f x y=y) {R T:List Int} {k:Nat} (h1:∀i,i<k→ -9223372036854775808≤R.getD i 0∧R.getD i 0≤9223372036854775807) (h2:∀i,i<k→ -9223372036854775808≤T.getD i 0∧T.getD i 0≤9223372036854775807):Mm.inI (two f R T k):=by
 intro x hx
 simp only [two,List.mem_map,List.mem_range] at hx
 obtain ⟨i,A,rfl⟩:=hx
 rcases hf (R.getD i 0) (T.getD i 0) with e | e
 ·rw [e];exact h1 i A
 ·rw [e];exact h2 i A
end Go.Proofs.YtinihaflmdihaaaGreat.Nd
namespace Go.Proofs.YtinihaflmdihaaaGreat.Nd
structure PK where
 sum:List Nat
 lo:List Int
 hi:List Int
 live:Int
 size:Int
 key:List Int
deriving DecidableEq
structure PE where
 row:List Int
 live:Bool
deriving DecidableEq
structure PN where
 kind:Nat
 rows:List PE
 kids:List PK
deriving DecidableEq
def PK.none:PK:=⟨zeros 32,[],[],0,0,[]⟩
def PK.right (k:PK) (d:Int):Bool:=
 if k=PK.none then true
 else if k.size<1∨1048576<k.size∨k.live<0∨k.size<k.live then false
 else if k.live=0 then decide (k.lo.length+k.hi.length=0)
 else x0d k.lo k.hi k.lo.length k.hi.length d
def PE.long (d:Int) (e:PE):Bool:=decide ((e.row.length:Int)=d)
def PK.keyed (d:Int) (k:PK):Bool:=decide ((k.key.length:Int)=d)&& !decide (k=PK.none)
def PK.keyless (k:PK):Bool:=decide (k.key.length=0)
def PN.right (n:PN) (d:Int):Bool:=
 if ¬(1≤d∧d≤8) then false
 else if n.rows.all (PE.long d)=false then false
 else if n.kids.all (PK.right · d)=false then false
 else if n.kind=1 then if n.rows.length=1∧n.kids.length=2 then n.kids.all PK.keyless else false
 else if n.kind=2 then if 0<n.rows.length∧n.rows.length<5∧n.kids.length=0 then n.rows.all PE.live else false
 else if n.kind=3∧n.rows.length=0∧1<n.kids.length∧n.kids.length<5 then n.kids.all (PK.keyed d) else false
def allT {α:Type} (f:α→Bool) (L:List α) (k:Nat):Bool:=(L.take k).all f
theorem y2E {α:Type} (f:α→Bool) (L:List α):allT f L L.length=L.all f:=by
 unfold allT
 rw [List.take_length]
end Go.Proofs.YtinihaflmdihaaaGreat.Nd
namespace Go.Proofs.YtinihaflmdihaaaGreat.Nd
open Go.RowKit
structure Kd where
 sum:List Nat
 lo:Rw
 hi:Rw
 live:Int
 size:Int
 key:Rw
instance:Inhabited Kd:=⟨⟨zeros 32,default,default,0,0,default⟩⟩
def Kd.cells (k:Kd):List Value:=vals k.sum++[k.lo.val,k.hi.val,.int .i64 k.live,.int .i64 k.size,k.key.val]
def Kd.val (k:Kd):Value:=.agg k.cells.toArray
def Kd.pk (k:Kd):PK:=⟨k.sum,k.lo.R,k.hi.R,k.live,k.size,k.key.R⟩
def In64 (n:Int):Prop:= -9223372036854775808≤n∧n≤9223372036854775807
structure Kd.Ok (w:World) (k:Kd):Prop where
 len:k.sum.length=32
 ok:Sm.allB k.sum
 lo:k.lo.Ok w
 hi:k.hi.Ok w
 key:k.key.Ok w
 live:In64 k.live
 size:In64 k.size
theorem Kd.Ok.later {w w':World} {k:Kd} (h:k.Ok w) (hb:Below w.heap.size w w'):k.Ok w':=⟨h.len,h.ok,h.lo.later hb,h.hi.later hb,h.key.later hb,h.live,h.size⟩
theorem Kd.cells_length {k:Kd} (h:k.sum.length=32):k.cells.length=37:=by simp [Kd.cells,x00,h]
structure KAt (w:World) (g o:Nat) (k:Kd):Prop where
 sum:w.rangeAt g o (vals k.sum)
 lo:w.cell? ⟨g,o+32,Option.none⟩=some k.lo.val
 hi:w.cell? ⟨g,o+33,Option.none⟩=some k.hi.val
 live:w.cell? ⟨g,o+34,Option.none⟩=some (.int .i64 k.live)
 size:w.cell? ⟨g,o+35,Option.none⟩=some (.int .i64 k.size)
 key:w.cell? ⟨g,o+36,Option.none⟩=some k.key.val
theorem x8M {w:World} {g o:Nat} {k:Kd} (h:w.rangeAt g o k.cells) (hs:k.sum.length=32):KAt w g o k:=by
 have B:(vals k.sum).length=32:=by rw [x00,hs]
 have A:∀j u,[k.lo.val,k.hi.val,.int .i64 k.live,.int .i64 k.size,k.key.val][j]? =some u→w.cell? ⟨g,o+(32+j),Option.none⟩=some u:=fun j u hu=>h (32+j) u (by
  unfold Kd.cells
  rw [List.getElem?_append_right (by omega),B,Nat.add_sub_cancel_left]
  exact hu)
 exact ⟨fun j v hj=>h j v (by
  unfold Kd.cells
  rw [List.getElem?_append_left (List.getElem?_eq_some_iff.1 hj).1]
  exact hj),A 0 _ rfl,A 1 _ rfl,A 2 _ rfl,A 3 _ rfl,A 4 _ rfl⟩
theorem x0E {w:World} {g:Nat} {k:Kd} {t:TypeId} (h:w.heap[g]? =some (.cells k.cells.toArray t (0,0))):w.rangeAt g 0 k.cells:=fun j v hv=>by
 rw [Nat.zero_add,cell_of_row w g j _ _ _ h]
 simpa using hv
theorem x0M {w:World} {g:Nat} {k:Kd} {t:TypeId} (h:w.heap[g]? =some (.cells k.cells.toArray t (0,0))) (hs:k.sum.length=32):KAt w g 0 k:=x8M (x0E h) hs
theorem UKd0:(Tryz.prog.underlying 34).map (·.isRow)=some true:=by kernel_rfl
theorem UKd:∃d,Tryz.prog.underlying 34=some d∧d.isRow=true:=by
 have h:=UKd0
 revert h
 cases Tryz.prog.underlying 34 with
 | none=>intro h;cases h
 | some d=>intro h;exact ⟨d,rfl,by simpa using h⟩
theorem SKd:(Tryz.prog.info? 34).map (·.size)=some 37:=by kernel_rfl
theorem x0k {P:Program} {ops:Array Oper} {rest:List Oper} {o:Oper} {a:Act} {w:World} {Q:Exit→Act→World→Prop} (hw:Region.wanted o (yielded ops a.tmps)=true) (ty:TypeId) (x:Operand) (ho:o.op= .load ty x)
  (b off:Nat) (hx:a.eval x= .pointer (some ⟨b,off,Option.none⟩)) (cs:List Value) (d:TypeDesc) (hc:w.rangeAt b off cs)
  (hu:P.underlying ty=some d) (hd:d.isRow=true) (hi:(P.info? ty).map (·.size)=some cs.length)
  (h:wpList P ops Q rest (a.put o.dst (.agg cs.toArray)) w):wpList P ops Q (o::rest) a w:=
 BigFrame.wpList_want hw fun _ hK=>wp_load_mid ty x ho b off hx cs d hc hu hd hi (hK _ _ h)
theorem x07 {P:Program} {w:World} {ops:Array Oper} {rest:List Oper} {o:Oper} {a:Act} {Q:Exit→Act→World→Prop} (hgd:o.guard=Option.none) {t:TypeId} {parts:Array (Nat×Operand)} {cells:Array Value} (ho:o.op= .build t parts)
  (h:P.built t (parts.map fun (i,x)=>(i,a.eval x)).toList=some cells) (hk:wpList P ops Q rest (a.put o.dst (.agg cells)) w):wpList P ops Q (o::rest) a w:=
 wpList_plain hgd fun _ hK=>by
  unfold Oper.wp execOp
  simp only [ho,Sem.run_bind,run_build w t _ cells h,Result.andThen_ok,Sem.run_pure]
  exact hK _ _ hk
def kd0:Kd:=⟨zeros 32,⟨Option.none,0,0,[]⟩,⟨Option.none,0,0,[]⟩,0,0,⟨Option.none,0,0,[]⟩⟩
theorem x0T:Tryz.prog.built 34 []=some kd0.cells.toArray:=by kernel_rfl
theorem x4k (w:World):(⟨Option.none,0,0,[]⟩:Rw).Ok w:=⟨⟨rfl,Nat.le_refl _,fun x hx=>by simp at hx,Or.inl rfl⟩,by simp⟩
theorem x1u (w:World):kd0.Ok w:=⟨by simp [kd0,zeros],x1l 32,x4k w,x4k w,x4k w,⟨by simp [kd0],by simp [kd0]⟩,⟨by simp [kd0],by simp [kd0]⟩⟩
theorem x8N:kd0.pk=PK.none:=rfl
end Go.Proofs.YtinihaflmdihaaaGreat.Nd
namespace Go.Proofs.YtinihaflmdihaaaGreat
open Go.RowKit
def eqs (P Q:List Int):Nat→Bool
 | 0=>true
 | k+1=>eqs P Q k&&(P.getD k 0==Q.getD k 0)
theorem y0K (P Q:List Int):∀n,eqs P Q n=true↔∀k,k<n→P.getD k 0=Q.getD k 0
 | 0=>⟨fun _ k hk=>by omega,fun _=>rfl⟩
 | n+1=>by
  show (eqs P Q n&&(P.getD n 0==Q.getD n 0))=true↔_
  rw [Bool.and_eq_true,y0K P Q n,beq_iff_eq]
  constructor
  ·rintro ⟨h1,h2⟩ k hk
   by_cases hkn:k=n
   ·rw [hkn];exact h2
   ·exact h1 k (by omega)
  ·intro h
   exact ⟨fun k hk=>h k (by omega),h n (by omega)⟩
theorem y3g {R S:List Int} (h:R.length=S.length) (he:eqs R S R.length=true):R=S:=by
 apply List.ext_getElem h
 intro i h1 h2
 have:=(y0K R S R.length).1 he i h1
 simpa [List.getD_eq_getElem?_getD,h1,h2] using this
def y3h (w:World) (R S:List Int) (n:Nat) (i:Value) (wr:World):Prop:=∃k j:Nat,k≤n∧i= .int .i64 k∧eqs R S k=true∧wr=w.drewN j
theorem x7m {p:Prop} [Decidable p] (h:p):Ending.returned (.bool true)=Ending.returned (.bool (decide p)):=by rw [decide_eq_true h]
theorem x0j {p:Prop} [Decidable p] (h:¬p):Ending.returned (.bool false)=Ending.returned (.bool (decide p)):=by rw [decide_eq_false h]
theorem x1e (p q:Option Addr) (n c m e:Nat) (R S:List Int) (w:World) (h:Ints w p n c R) (h2:Ints w q m e S) (hn9:n≤9223372036854775807):
  Calls Tryz.prog 28 #[.slice p n c,.slice q m e] w fun e w'=>e= .returned (.bool (decide (R=S)))∧∃j,w'=w.drewN j:=by
 have C:=yH h
 have E:=yH h2
 clear h h2
 by_cases hn:(n:Int)=m
 case neg=>
  have A:¬R=S:=fun h=>hn (by rw [C.out.size,E.out.size,h])
  have H:=yH A
  clear A
  go_enter Tryz.func28,Tryz.ntmps28
  go_wp2_with fail
  go_ret
  exact ⟨x0j H.out,0,rfl⟩
 obtain rfl:m=n:=by omega
 go_enter Tryz.func28,Tryz.ntmps28
 go_wp2_with fail
 go_loopw [5] (fun i wr=>y3h w R S m i wr) (fun i _=>m - (intOf i).toNat)
 case atStart=>exact ⟨0,0,by omega,rfl,rfl,rfl⟩
 case round=>
  obtain ⟨k,j,Q,rfl,B,rfl⟩:=hrel
  have HL:=yH B
  clear B
  by_cases hlt:k<m
  ·obtain ⟨P,o,rfl,J⟩:=C.out.cell k hlt
   obtain ⟨U,N,rfl,K⟩:=E.out.cell k hlt
   have O:(0:Int)≤k∧(k:Int)<m:=by omega
   have I:eqs R S (k+1)=(eqs R S k&&(R.getD k 0==S.getD k 0)):=rfl
   have HS:=yH I
   have M:=yH (show ¬R.getD k 0=S.getD k 0→¬R=S from fun h h3=>h (by rw [h3]))
   clear I
   generalize R.getD k 0=x at *
   generalize S.getD k 0=y at *
   by_cases hxy:x=y
   ·subst hxy
    go_upto_region 6 with fail
    go_quiet (fail)
    go_wp2_with fail
    go_roundw
    case rel=>exact ⟨k+1,j+nq,by omega,by go_num,by rw [HS.out,HL.out];simp,rfl⟩
    case measure=>simp [intOf];omega
   ·go_upto_region 6 with fail
    go_quiet (fail)
    go_wp2_with fail
    go_ret
    exact ⟨x0j (M.out hxy),j+nq,by first | rfl | (simp only [World.drewN];done) | simp [World.drewN_drewN]⟩
  ·obtain rfl:k=m:=by omega
   have G:=HL.out
   rw [C.out.size] at G
   have L:=yH (y3g (C.out.size.symm.trans E.out.size) G)
   clear G
   go_wp2_with fail
   go_ret
   exact ⟨x7m L.out,_,rfl⟩
def hasB (R S P:List Int) (n m l:Nat):Bool:=x0d R S n m l&&(les R P l&&les P S l)
theorem x4l {R S:List Int} {n m:Nat} {d:Int} (h:x0d R S n m d=true):1≤d∧d≤8∧(n:Int)=d∧(m:Int)=d:=by
 unfold x0d at h
 rw [Bool.and_eq_true,decide_eq_true_eq] at h
 exact h.1
theorem x4m (p q r s:Option Addr) (n c m e k f l g:Nat) (R S T U:List Int) (w:World) (h1:Ints w p n c R) (h2:Ints w q m e S) (h3:Ints w r k f T) (h4:Ints w s l g U)
  (hn:n≤9223372036854775807) (hm:m≤9223372036854775807):
  Calls Tryz.prog 69 #[.agg #[.slice p n c,.slice q m e],.agg #[.slice r k f,.slice s l g]] w fun e w'=>e= .returned (.bool (decide (R=T∧S=U)))∧Below w.heap.size w w':=by
 have B:Below w.heap.size w (w.alloc (.cells #[.slice p n c,.slice q m e] 32)):=(Below.refl _ _).alloc (Nat.le_refl _) _
 have C:(w.alloc (.cells #[.slice p n c,.slice q m e] 32)).heap.size=w.heap.size+1:=by simp
 obtain ⟨M,O⟩:=x0W w (.slice p n c) (.slice q m e) 32
 go_enter Tryz.func69,Tryz.ntmps69
 go_upto_region 1 with fail
 generalize w.alloc (.cells #[.slice p n c,.slice q m e] 32)=w1 at *
 have A:Below w1.heap.size w1 (w1.alloc (.cells #[.slice r k f,.slice s l g] 32)):=(Below.refl _ _).alloc (Nat.le_refl _) _
 obtain ⟨b0,b1⟩:=x0W w1 (.slice r k f) (.slice s l g) 32
 rw [C] at b0 b1
 have Z:=(A.cell (p:=⟨w.heap.size,0,none⟩) (by show w.heap.size<_;omega)).trans M
 have L:=(A.cell (p:=⟨w.heap.size,1,none⟩) (by show w.heap.size<_;omega)).trans O
 have P:=yH ((h1.later B).later A)
 have a:=yH ((h2.later B).later A)
 have N:=yH ((h3.later B).later A)
 have t:=yH ((h4.later B).later A)
 have I:=yH (B.trans (A.mono (by omega)))
 generalize w1.alloc (.cells #[.slice r k f,.slice s l g] 32)=w2 at *
 clear B C M O A h1 h2 h3 h4
 clear w1
 by_cases hRT:R=T
 case neg=>
  have i:=yH (show ¬(R=T∧S=U) from fun h=>hRT h.1)
  have K:=yH hRT
  clear hRT
  go_wp2_with fail
  refine (x1e p r n c k f R T w2 P.out N.out hn).mono ?_
  rintro _ J ⟨rfl,j,rfl⟩
  rw [decide_eq_false K.out]
  go_wp2_with fail
  go_ret
  exact ⟨x0j i.out,Below.drewN I.out _⟩
 have d:=yH (show decide (S=U)=decide (R=T∧S=U) from decide_eq_decide.2 ⟨fun h=>⟨hRT,h⟩,fun h=>h.2⟩)
 have K:=yH hRT
 clear hRT
 go_wp2_with fail
 refine (x1e p r n c k f R T w2 P.out N.out hn).mono ?_
 rintro _ J ⟨rfl,j,H⟩
 have E:=yH (show Below w2.heap.size w2 J by rw [H];exact Below.drewN (Below.refl _ _) _)
 have u:=(E.out.cell (p:=⟨w.heap.size,1,none⟩) (block_lt_of_cell L)).trans L
 have x:=(E.out.cell (p:=⟨w.heap.size+1,1,none⟩) (block_lt_of_cell b1)).trans b1
 have Q:=yH (a.out.later E.out)
 have X:=yH (t.out.later E.out)
 have W:=yH (I.out.trans (E.out.mono I.out.size))
 clear H Z L b0 b1
 rw [decide_eq_true K.out]
 go_wp2_with fail
 refine (x1e q s m e l g S U J Q.out X.out hm).mono ?_
 rintro _ o ⟨rfl,v,G⟩
 have Y:=yH (show Below w.heap.size w o by rw [G];exact Below.drewN W.out _)
 clear G
 go_wp2_with fail
 go_ret
 exact ⟨congrArg (fun b=>Ending.returned (.bool b)) d.out,Y.out⟩
end Go.Proofs.YtinihaflmdihaaaGreat
namespace Go.Proofs.YtinihaflmdihaaaGreat.Nd
open Go.RowKit
theorem pk_eq (a b:Kd):a.pk=b.pk↔a.sum=b.sum∧a.live=b.live∧a.size=b.size∧(a.lo.R=b.lo.R∧a.hi.R=b.hi.R)∧a.key.R=b.key.R:=by
 simp only [Kd.pk,PK.mk.injEq]
 constructor
 ·rintro ⟨B,A,C,E,H,G⟩
  exact ⟨B,E,H,⟨A,C⟩,G⟩
 ·rintro ⟨B,E,H,⟨A,C⟩,G⟩
  exact ⟨B,A,C,E,H,G⟩
theorem y0L (a b:Kd) (w:World) (ha:a.Ok w) (hb:b.Ok w):
  Calls Tryz.prog 21 #[.agg a.cells.toArray,.agg b.cells.toArray] w fun e w'=>e= .returned (.bool (decide (a.pk=b.pk)))∧Below w.heap.size w w':=by
 have Q:Below w.heap.size w (w.alloc (.cells a.cells.toArray 34)):=(Below.refl _ _).alloc (Nat.le_refl _) _
 have Y:=heap_alloc_new w (.cells a.cells.toArray 34)
 have o:(w.alloc (.cells a.cells.toArray 34)).heap.size=w.heap.size+1:=by simp
 have L:Below (w.heap.size+1) (w.alloc (.cells a.cells.toArray 34)) ((w.alloc (.cells a.cells.toArray 34)).alloc (.cells b.cells.toArray 34)):=(Below.refl _ _).alloc (by omega) _
 have f:=heap_alloc_new (w.alloc (.cells a.cells.toArray 34)) (.cells b.cells.toArray 34)
 rw [o] at f
 have B:=Q.trans (L.mono (by omega))
 have Y:=(L.block w.heap.size (by omega)).trans Y
 have j:=yH ha
 have J:=yH hb
 clear ha hb Q L o
 go_enter Tryz.func21,Tryz.ntmps21
 go_upto_region 1 with fail
 generalize (w.alloc (.cells a.cells.toArray 34)).alloc (.cells b.cells.toArray 34)=W at *
 have G:=yH (x0M Y j.out.len)
 have E:=yH (x0M f J.out.len)
 have A:=yH (j.out.later B)
 have C:=yH (J.out.later B)
 have P:=yH j.out.len
 have O:=yH J.out.len
 have K:=yH B
 have X:=yH (pk_eq a b)
 have n:(Op.equalIn 10000 30 (.agg (u8s a.sum)) (.agg (u8s b.sum))).run Tryz.prog W= .ok (decide (a.sum=b.sum)) W:=x4C a.sum b.sum P.out O.out 9998 W
 have q:=G.out.live
 have r:=G.out.size
 have a4:=G.out.lo
 have z:=G.out.hi
 have Z:=G.out.key
 have u:=E.out.live
 have c3:=E.out.size
 have t:=E.out.lo
 have c5:=E.out.hi
 have c:=E.out.key
 simp only [Nat.zero_add] at q r a4 z Z u c3 t c5 c
 clear Y f B
 by_cases h1:a.sum=b.sum
 case neg=>
  rw [decide_eq_false h1] at n
  have M:=yH (fun h=>h1 (X.out.1 h).1)
  clear h1
  go_wp2_with (first | (refine wpList_load_mid (by rfl) 30 _ (by rfl) _ 0 (by rfl) (vals a.sum) _ G.out.sum A25 (by rfl) (by rw [x00,P.out];exact S25) ?_;rw [x06]) | (refine wpList_load_mid (by rfl) 30 _ (by rfl) _ 0 (by rfl) (vals b.sum) _ E.out.sum A25 (by rfl) (by rw [x00,O.out];exact S25) ?_;rw [x06]))
  go_ret
  exact ⟨x0j M.out,K.out⟩
 rw [decide_eq_true h1] at n
 have v:=yH h1
 clear h1
 by_cases h2:a.live=b.live
 case neg=>
  have k:(a.live==b.live)=false:=by simp [h2]
  have M:=yH (fun h=>h2 (X.out.1 h).2.1)
  clear h2
  go_wp2_with (first | (refine wpList_load_mid (by rfl) 30 _ (by rfl) _ 0 (by rfl) (vals a.sum) _ G.out.sum A25 (by rfl) (by rw [x00,P.out];exact S25) ?_;rw [x06]) | (refine wpList_load_mid (by rfl) 30 _ (by rfl) _ 0 (by rfl) (vals b.sum) _ E.out.sum A25 (by rfl) (by rw [x00,O.out];exact S25) ?_;rw [x06]))
  go_ret
  exact ⟨x0j M.out,K.out⟩
 have k:(a.live==b.live)=true:=by simp [h2]
 have y:=yH h2
 clear h2
 by_cases h3:a.size=b.size
 case neg=>
  have l:(a.size==b.size)=false:=by simp [h3]
  have M:=yH (fun h=>h3 (X.out.1 h).2.2.1)
  clear h3
  go_wp2_with (first | (refine wpList_load_mid (by rfl) 30 _ (by rfl) _ 0 (by rfl) (vals a.sum) _ G.out.sum A25 (by rfl) (by rw [x00,P.out];exact S25) ?_;rw [x06]) | (refine wpList_load_mid (by rfl) 30 _ (by rfl) _ 0 (by rfl) (vals b.sum) _ E.out.sum A25 (by rfl) (by rw [x00,O.out];exact S25) ?_;rw [x06]))
  go_ret
  exact ⟨x0j M.out,K.out⟩
 have l:(a.size==b.size)=true:=by simp [h3]
 have s:=yH h3
 clear h3
 by_cases h4:a.lo.R=b.lo.R∧a.hi.R=b.hi.R
 case neg=>
  have M:=yH (fun h=>h4 (X.out.1 h).2.2.2.1)
  have g:=yH (decide_eq_false h4)
  clear h4
  go_wp2_with (first | (refine wpList_load_mid (by rfl) 30 _ (by rfl) _ 0 (by rfl) (vals a.sum) _ G.out.sum A25 (by rfl) (by rw [x00,P.out];exact S25) ?_;rw [x06]) | (refine wpList_load_mid (by rfl) 30 _ (by rfl) _ 0 (by rfl) (vals b.sum) _ E.out.sum A25 (by rfl) (by rw [x00,O.out];exact S25) ?_;rw [x06]) | (refine (x4m _ _ _ _ _ _ _ _ _ _ _ _ _ _ _ _ W A.out.lo.ints A.out.hi.ints C.out.lo.ints C.out.hi.ints A.out.lo.top A.out.hi.top).mono ?_;rintro _ m ⟨rfl,H⟩;rw [g.out];have N:=yH (K.out.trans (H.mono K.out.size));clear H))
  go_ret
  exact ⟨x0j M.out,N.out⟩
 have g:=yH (decide_eq_true h4)
 have i:=yH h4
 clear h4
 have I:=X.out
 have p:=yH (show decide (a.pk=b.pk)=decide (a.key.R=b.key.R) from by
  rw [Bool.eq_iff_iff,decide_eq_true_iff,decide_eq_true_iff,I]
  exact ⟨fun h=>h.2.2.2.2,fun h=>⟨v.out,y.out,s.out,i.out,h⟩⟩)
 clear I
 go_wp2_with (first | (refine wpList_load_mid (by rfl) 30 _ (by rfl) _ 0 (by rfl) (vals a.sum) _ G.out.sum A25 (by rfl) (by rw [x00,P.out];exact S25) ?_;rw [x06]) | (refine wpList_load_mid (by rfl) 30 _ (by rfl) _ 0 (by rfl) (vals b.sum) _ E.out.sum A25 (by rfl) (by rw [x00,O.out];exact S25) ?_;rw [x06]) | (refine (x4m _ _ _ _ _ _ _ _ _ _ _ _ _ _ _ _ W A.out.lo.ints A.out.hi.ints C.out.lo.ints C.out.hi.ints A.out.lo.top A.out.hi.top).mono ?_;rintro _ m ⟨rfl,H⟩;rw [g.out];have e6:=(H.cell (block_lt_of_cell Z)).trans Z;have f6:=(H.cell (block_lt_of_cell c)).trans c;have N:=yH (K.out.trans (H.mono K.out.size));have U:=yH (A.out.later H);have d:=yH (C.out.later H);clear H Z c) | (refine (x1e _ _ _ _ _ _ _ _ m U.out.key.ints d.out.key.ints U.out.key.top).mono ?_;rintro _ w6 ⟨rfl,x,rfl⟩))
 rw [p.out]
 go_ret
 exact ⟨rfl,Below.drewN N.out x⟩
theorem x3F (p q:Option Addr) (n c m e:Nat) (R S:List Int) (w:World) (h:Ints w p n c R) (h2:Ints w q m e S) (hn9:n≤9223372036854775807):
  Calls Tryz.prog 64 #[.slice p n c,.slice q m e] w fun e w'=>e= .returned (.bool (decide (R=S)))∧∃j,w'=w.drewN j:=by
 have C:=yH h
 have E:=yH h2
 clear h h2
 by_cases hn:(n:Int)=m
 case neg=>
  have A:¬R=S:=fun h=>hn (by rw [C.out.size,E.out.size,h])
  have H:=yH A
  have b0:((n:Int) !=m)=true:=by simpa using hn
  clear A
  go_enter Tryz.func64,Tryz.ntmps64
  go_wp2_with fail
  go_ret
  exact ⟨x0j H.out,0,rfl⟩
 obtain rfl:m=n:=by omega
 go_enter Tryz.func64,Tryz.ntmps64
 go_wp2_with fail
 go_loopw [13] (fun i wr=>y3h w R S m i wr) (fun i _=>m - (intOf i).toNat)
 case atStart=>exact ⟨0,0,by omega,rfl,rfl,rfl⟩
 case round=>
  obtain ⟨k,j,Q,rfl,B,rfl⟩:=hrel
  have HL:=yH B
  clear B
  by_cases hlt:k<m
  ·obtain ⟨P,o,rfl,J⟩:=C.out.cell k hlt
   obtain ⟨U,N,rfl,K⟩:=E.out.cell k hlt
   have O:(0:Int)≤k∧(k:Int)<m:=by omega
   have I:eqs R S (k+1)=(eqs R S k&&(R.getD k 0==S.getD k 0)):=rfl
   have HS:=yH I
   have M:=yH (show ¬R.getD k 0=S.getD k 0→¬R=S from fun h h3=>h (by rw [h3]))
   clear I
   generalize R.getD k 0=x at *
   generalize S.getD k 0=y at *
   by_cases hxy:x=y
   ·subst hxy
    go_upto_region 6 with fail
    go_quiet (fail)
    go_wp2_with fail
    go_roundw
    case rel=>exact ⟨k+1,j+nq,by omega,by go_num,by rw [HS.out,HL.out];simp,rfl⟩
    case measure=>simp [intOf];omega
   ·have b1:(x !=y)=true:=by simpa using hxy
    go_upto_region 6 with fail
    go_quiet (fail)
    go_wp2_with fail
    go_ret
    exact ⟨x0j (M.out hxy),j+nq,by first | rfl | (simp only [World.drewN];done) | simp [World.drewN_drewN]⟩
  ·obtain rfl:k=m:=by omega
   have G:=HL.out
   rw [C.out.size] at G
   have L:=yH (y3g (C.out.size.symm.trans E.out.size) G)
   clear G
   go_wp2_with fail
   go_ret
   exact ⟨x7m L.out,_,rfl⟩
theorem x3h (p q r s:Option Addr) (n c m e k f l g:Nat) (R S T U:List Int) (w:World) (h1:Ints w p n c R) (h2:Ints w q m e S) (h3:Ints w r k f T) (h4:Ints w s l g U)
  (hn:n≤9223372036854775807) (hm:m≤9223372036854775807):
  Calls Tryz.prog 112 #[.agg #[.slice p n c,.slice q m e],.agg #[.slice r k f,.slice s l g]] w fun e w'=>e= .returned (.bool (decide (R=T∧S=U)))∧Below w.heap.size w w':=by
 have B:Below w.heap.size w (w.alloc (.cells #[.slice p n c,.slice q m e] 32)):=(Below.refl _ _).alloc (Nat.le_refl _) _
 have C:(w.alloc (.cells #[.slice p n c,.slice q m e] 32)).heap.size=w.heap.size+1:=by simp
 obtain ⟨M,O⟩:=x0W w (.slice p n c) (.slice q m e) 32
 go_enter Tryz.func112,Tryz.ntmps112
 go_upto_region 1 with fail
 generalize w.alloc (.cells #[.slice p n c,.slice q m e] 32)=w1 at *
 have A:Below w1.heap.size w1 (w1.alloc (.cells #[.slice r k f,.slice s l g] 32)):=(Below.refl _ _).alloc (Nat.le_refl _) _
 obtain ⟨b0,b1⟩:=x0W w1 (.slice r k f) (.slice s l g) 32
 rw [C] at b0 b1
 have Z:=(A.cell (p:=⟨w.heap.size,0,none⟩) (by show w.heap.size<_;omega)).trans M
 have L:=(A.cell (p:=⟨w.heap.size,1,none⟩) (by show w.heap.size<_;omega)).trans O
 have P:=yH ((h1.later B).later A)
 have a:=yH ((h2.later B).later A)
 have N:=yH ((h3.later B).later A)
 have t:=yH ((h4.later B).later A)
 have I:=yH (B.trans (A.mono (by omega)))
 generalize w1.alloc (.cells #[.slice r k f,.slice s l g] 32)=w2 at *
 clear B C M O A h1 h2 h3 h4
 clear w1
 by_cases hRT:R=T
 case neg=>
  have i:=yH (show ¬(R=T∧S=U) from fun h=>hRT h.1)
  have K:=yH hRT
  clear hRT
  go_wp2_with fail
  refine (x3F p r n c k f R T w2 P.out N.out hn).mono ?_
  rintro _ J ⟨rfl,j,rfl⟩
  rw [decide_eq_false K.out]
  go_wp2_with fail
  go_ret
  exact ⟨x0j i.out,Below.drewN I.out _⟩
 have d:=yH (show decide (S=U)=decide (R=T∧S=U) from decide_eq_decide.2 ⟨fun h=>⟨hRT,h⟩,fun h=>h.2⟩)
 have K:=yH hRT
 clear hRT
 go_wp2_with fail
 refine (x3F p r n c k f R T w2 P.out N.out hn).mono ?_
 rintro _ J ⟨rfl,j,H⟩
 have E:=yH (show Below w2.heap.size w2 J by rw [H];exact Below.drewN (Below.refl _ _) _)
 have u:=(E.out.cell (p:=⟨w.heap.size,1,none⟩) (block_lt_of_cell L)).trans L
 have x:=(E.out.cell (p:=⟨w.heap.size+1,1,none⟩) (block_lt_of_cell b1)).trans b1
 have Q:=yH (a.out.later E.out)
 have X:=yH (t.out.later E.out)
 have W:=yH (I.out.trans (E.out.mono I.out.size))
 clear H Z L b0 b1
 rw [decide_eq_true K.out]
 go_wp2_with fail
 refine (x3F q s m e l g S U J Q.out X.out hm).mono ?_
 rintro _ o ⟨rfl,v,G⟩
 have Y:=yH (show Below w.heap.size w o by rw [G];exact Below.drewN W.out _)
 clear G
 go_wp2_with fail
 go_ret
 exact ⟨congrArg (fun b=>Ending.returned (.bool b)) d.out,Y.out⟩
theorem x4n (a b:Kd) (w:World) (ha:a.Ok w) (hb:b.Ok w):
  Calls Tryz.prog 68 #[.agg a.cells.toArray,.agg b.cells.toArray] w fun e w'=>e= .returned (.bool (decide (a.pk=b.pk)))∧Below w.heap.size w w':=by
 have Q:Below w.heap.size w (w.alloc (.cells a.cells.toArray 34)):=(Below.refl _ _).alloc (Nat.le_refl _) _
 have Y:=heap_alloc_new w (.cells a.cells.toArray 34)
 have o:(w.alloc (.cells a.cells.toArray 34)).heap.size=w.heap.size+1:=by simp
 have L:Below (w.heap.size+1) (w.alloc (.cells a.cells.toArray 34)) ((w.alloc (.cells a.cells.toArray 34)).alloc (.cells b.cells.toArray 34)):=(Below.refl _ _).alloc (by omega) _
 have f:=heap_alloc_new (w.alloc (.cells a.cells.toArray 34)) (.cells b.cells.toArray 34)
 rw [o] at f
 have B:=Q.trans (L.mono (by omega))
 have Y:=(L.block w.heap.size (by omega)).trans Y
 have j:=yH ha
 have J:=yH hb
 clear ha hb Q L o
 go_enter Tryz.func68,Tryz.ntmps68
 go_upto_region 1 with fail
 generalize (w.alloc (.cells a.cells.toArray 34)).alloc (.cells b.cells.toArray 34)=W at *
 have G:=yH (x0M Y j.out.len)
 have E:=yH (x0M f J.out.len)
 have A:=yH (j.out.later B)
 have C:=yH (J.out.later B)
 have P:=yH j.out.len
 have O:=yH J.out.len
 have K:=yH B
 have X:=yH (pk_eq a b)
 have n:(Op.equalIn 10000 30 (.agg (u8s a.sum)) (.agg (u8s b.sum))).run Tryz.prog W= .ok (decide (a.sum=b.sum)) W:=x4C a.sum b.sum P.out O.out 9998 W
 have q:=G.out.live
 have r:=G.out.size
 have a4:=G.out.lo
 have z:=G.out.hi
 have Z:=G.out.key
 have u:=E.out.live
 have c3:=E.out.size
 have t:=E.out.lo
 have c5:=E.out.hi
 have c:=E.out.key
 simp only [Nat.zero_add] at q r a4 z Z u c3 t c5 c
 clear Y f B
 by_cases h1:a.sum=b.sum
 case neg=>
  rw [decide_eq_false h1] at n
  have M:=yH (fun h=>h1 (X.out.1 h).1)
  clear h1
  go_wp2_with (first | (refine wpList_load_mid (by rfl) 30 _ (by rfl) _ 0 (by rfl) (vals a.sum) _ G.out.sum A25 (by rfl) (by rw [x00,P.out];exact S25) ?_;rw [x06]) | (refine wpList_load_mid (by rfl) 30 _ (by rfl) _ 0 (by rfl) (vals b.sum) _ E.out.sum A25 (by rfl) (by rw [x00,O.out];exact S25) ?_;rw [x06]))
  go_ret
  exact ⟨x0j M.out,K.out⟩
 rw [decide_eq_true h1] at n
 have v:=yH h1
 clear h1
 by_cases h2:a.live=b.live
 case neg=>
  have k:(a.live==b.live)=false:=by simp [h2]
  have M:=yH (fun h=>h2 (X.out.1 h).2.1)
  clear h2
  go_wp2_with (first | (refine wpList_load_mid (by rfl) 30 _ (by rfl) _ 0 (by rfl) (vals a.sum) _ G.out.sum A25 (by rfl) (by rw [x00,P.out];exact S25) ?_;rw [x06]) | (refine wpList_load_mid (by rfl) 30 _ (by rfl) _ 0 (by rfl) (vals b.sum) _ E.out.sum A25 (by rfl) (by rw [x00,O.out];exact S25) ?_;rw [x06]))
  go_ret
  exact ⟨x0j M.out,K.out⟩
 have k:(a.live==b.live)=true:=by simp [h2]
 have y:=yH h2
 clear h2
 by_cases h3:a.size=b.size
 case neg=>
  have l:(a.size==b.size)=false:=by simp [h3]
  have M:=yH (fun h=>h3 (X.out.1 h).2.2.1)
  clear h3
  go_wp2_with (first | (refine wpList_load_mid (by rfl) 30 _ (by rfl) _ 0 (by rfl) (vals a.sum) _ G.out.sum A25 (by rfl) (by rw [x00,P.out];exact S25) ?_;rw [x06]) | (refine wpList_load_mid (by rfl) 30 _ (by rfl) _ 0 (by rfl) (vals b.sum) _ E.out.sum A25 (by rfl) (by rw [x00,O.out];exact S25) ?_;rw [x06]))
  go_ret
  exact ⟨x0j M.out,K.out⟩
 have l:(a.size==b.size)=true:=by simp [h3]
 have s:=yH h3
 clear h3
 by_cases h4:a.lo.R=b.lo.R∧a.hi.R=b.hi.R
 case neg=>
  have M:=yH (fun h=>h4 (X.out.1 h).2.2.2.1)
  have g:=yH (decide_eq_false h4)
  clear h4
  go_wp2_with (first | (refine wpList_load_mid (by rfl) 30 _ (by rfl) _ 0 (by rfl) (vals a.sum) _ G.out.sum A25 (by rfl) (by rw [x00,P.out];exact S25) ?_;rw [x06]) | (refine wpList_load_mid (by rfl) 30 _ (by rfl) _ 0 (by rfl) (vals b.sum) _ E.out.sum A25 (by rfl) (by rw [x00,O.out];exact S25) ?_;rw [x06]) | (refine (x3h _ _ _ _ _ _ _ _ _ _ _ _ _ _ _ _ W A.out.lo.ints A.out.hi.ints C.out.lo.ints C.out.hi.ints A.out.lo.top A.out.hi.top).mono ?_;rintro _ m ⟨rfl,H⟩;rw [g.out];have N:=yH (K.out.trans (H.mono K.out.size));clear H))
  go_ret
  exact ⟨x0j M.out,N.out⟩
 have g:=yH (decide_eq_true h4)
 have i:=yH h4
 clear h4
 have I:=X.out
 have p:=yH (show decide (a.pk=b.pk)=decide (a.key.R=b.key.R) from by
  rw [Bool.eq_iff_iff,decide_eq_true_iff,decide_eq_true_iff,I]
  exact ⟨fun h=>h.2.2.2.2,fun h=>⟨v.out,y.out,s.out,i.out,h⟩⟩)
 clear I
 go_wp2_with (first | (refine wpList_load_mid (by rfl) 30 _ (by rfl) _ 0 (by rfl) (vals a.sum) _ G.out.sum A25 (by rfl) (by rw [x00,P.out];exact S25) ?_;rw [x06]) | (refine wpList_load_mid (by rfl) 30 _ (by rfl) _ 0 (by rfl) (vals b.sum) _ E.out.sum A25 (by rfl) (by rw [x00,O.out];exact S25) ?_;rw [x06]) | (refine (x3h _ _ _ _ _ _ _ _ _ _ _ _ _ _ _ _ W A.out.lo.ints A.out.hi.ints C.out.lo.ints C.out.hi.ints A.out.lo.top A.out.hi.top).mono ?_;rintro _ m ⟨rfl,H⟩;rw [g.out];have e6:=(H.cell (block_lt_of_cell Z)).trans Z;have f6:=(H.cell (block_lt_of_cell c)).trans c;have N:=yH (K.out.trans (H.mono K.out.size));have U:=yH (A.out.later H);have d:=yH (C.out.later H);clear H Z c) | (refine (x3F _ _ _ _ _ _ _ _ m U.out.key.ints d.out.key.ints U.out.key.top).mono ?_;rintro _ w6 ⟨rfl,x,rfl⟩))
 rw [p.out]
 go_ret
 exact ⟨rfl,Below.drewN N.out x⟩
theorem x1a (a:Kd) (w:World) (ha:a.Ok w):
  Calls Tryz.prog 20 #[.agg a.cells.toArray] w fun e w'=>e= .returned (.bool (decide (a.pk=PK.none)))∧Below w.heap.size w w':=by
 have A:Below w.heap.size w (w.alloc (.cells a.cells.toArray 34)):=(Below.refl _ _).alloc (Nat.le_refl _) _
 have I:=heap_alloc_new w (.cells a.cells.toArray 34)
 obtain ⟨d,G,B⟩:=UKd
 have J:=yH ha
 have N:=yH G
 have E:=yH B
 clear ha G B
 go_enter Tryz.func20,Tryz.ntmps20
 go_upto_region 1 with fail
 generalize w.alloc (.cells a.cells.toArray 34)=W at *
 have M:=yH (x0E I)
 have C:=yH (J.out.later A)
 have L:=yH (Kd.cells_length J.out.len)
 have H:=yH A
 clear I A
 go_wp2_with (first
  | (refine wpList_load_mid (by rfl) 34 _ (by rfl) _ 0 (by rfl) a.cells d M.out N.out E.out (by rw [L.out];exact SKd) ?_)
  | (refine x07 (by rfl) (by rfl) x0T ?_)
  | (refine (x4n a kd0 W C.out (x1u W)).mono ?_;rintro _ O ⟨rfl,K⟩;rw [x8N]))
 go_ret
 exact ⟨rfl,H.out.trans (K.mono H.out.size)⟩
end Go.Proofs.YtinihaflmdihaaaGreat.Nd
namespace Go.Proofs.YtinihaflmdihaaaGreat
open Go.RowKit
def BoxAt (w:World) (B:Nat) (p:Option Addr) (n c:Nat) (q:Option Addr) (m d:Nat):Prop:=w.cell? ⟨B,0,none⟩=some (.slice p n c)∧w.cell? ⟨B,1,none⟩=some (.slice q m d)
theorem x3i {F:Nat} {fn:Func} {c:Code} (hf:Tryz.prog.funcs[F]? =some fn) (hname:(fn.name== "runtime.NumGoroutine")=false) (hb:fn.body=some c):∀args w,(callFunc F args).run Tryz.prog w= .ok (.enter F args) w:=fun args w=>by
 have h1:fn.name≠ "runtime.NumGoroutine" :=by simpa using hname
 simp [callFunc,hf,h1,hb,mark]
theorem boxed (w:World) (v:Value) (t:TypeId):(w.alloc (.cells #[v] t)).cell? ⟨w.heap.size,0,none⟩=some v:=cell_of_row _ _ 0 _ t (0,0) (heap_alloc_new w _)
end Go.Proofs.YtinihaflmdihaaaGreat
