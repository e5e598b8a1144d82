/- BoxRefA, NdTwo, NdMath, NdLay, NdNode, NdOpen, KlOps, MorOpen, KtMath, KtTree, KrLess. -/
import Derived.Maps.AppendAt
import Derived.Laws.OwnMore
import Derived.Great.BuildSlice
import Derived.OpenShut
import Derived.Deep.Slices
import Derived.Laws.AppendOwn
import Derived.BigQuiet
import Derived.Test.YtenenciaggbjnaaGreatP1
set_option maxRecDepth 100000
set_option maxHeartbeats 8000000
set_option linter.all false
namespace Go.Proofs.YtenenciaggbjnaaGreat
section
open Go.RowKit
def les (R S:List Int):Nat->Bool
 | 0=>true
 | k+1=>les R S k&&decide (R.getD k 0<=S.getD k 0)
theorem x4K (R S:List Int):∀n,les R S n=true↔∀k,k<n->R.getD k 0<=S.getD k 0
 | 0=>⟨fun _ k hk=>by omega,fun _=>rfl⟩
 | n+1=>by
  show (les R S n&&decide (R.getD n 0<=S.getD n 0))=true↔_
  rw [Bool.and_eq_true,x4K R S n,decide_eq_true_eq]
  constructor
  ·rintro ⟨h1,h2⟩ k hk
   by_cases hkn:k=n
   ·rw [hkn];exact h2
   ·exact h1 k (by omega)
  ·intro h
   exact ⟨fun k hk=>h k (by omega),h n (by omega)⟩
def x0g (R S:List Int) (n m:Nat) (d:Int):Bool:=decide (1<=d/\d<=8/\(n:Int)=d/\(m:Int)=d)&&les R S n
theorem x1N {R S:List Int} {n m:Nat} {d:Int} (h:¬(1<=d/\d<=8/\(n:Int)=d/\(m:Int)=d)):x0g R S n m d=false:=by
 unfold x0g;rw [kE h,Bool.false_and]
theorem x6c {R S:List Int} {n:Nat} (h:1<=n/\n<=8):x0g R S n n n=les R S n:=by
 unfold x0g;rw [kF (by omega),Bool.true_and]
def y3q (w0:World) (R S:List Int) (n:Nat) (i:Value) (wr:World):Prop:=∃k j:Nat,k<=n/\i= .int .i64 k/\les R S k=true/\wr=w0.drewN j
theorem y1q {R S:List Int} {k n:Nat} (hk:k<n) (h:¬R.getD k 0<=S.getD k 0):les R S n=false:=by
 cases e:les R S n with
 | false=>rfl
 | true=>exact absurd ((x4K R S n).1 e k hk) h
theorem x0a (w:World) (v u:Value) (t:TypeId):(w.alloc (.cells #[v,u] t)).cell? ⟨w.heap.size,0,none⟩=some v/\(w.alloc (.cells #[v,u] t)).cell? ⟨w.heap.size,1,none⟩=some u:=
 ⟨jH _ _ 0 _ t (0,0) (jE w _),jH _ _ 1 _ t (0,0) (jE w _)⟩
theorem x4y (p q:Option Addr) (n c m e:Nat) (R S:List Int) (d:Int) (w:World) (h:Ints w p n c R) (h2:Ints w q m e S):
  Calls Tryz.prog 63 #[.agg #[.slice p n c,.slice q m e],.int .i64 d] w fun e w'=>e= .returned (.bool (x0g R S n m d))/\Below w.heap.size w w':=by
 have E:=jA w (.cells #[.slice p n c,.slice q m e] 32);obtain ⟨Q,U⟩:=x0a w (.slice p n c) (.slice q m e) 32;have M:=yH (h.later E);have N:=yH (h2.later E);have B:=yH E;clear h h2 E;by_cases hd1:d<1
 ·rw [x1N (by omega)]
  go_enter Tryz.func63,Tryz.ntmps63
  go_wp2_with fail
  go_ret;exact ⟨rfl,B.out⟩
 by_cases hd2:8<d
 ·rw [x1N (by omega)]
  go_enter Tryz.func63,Tryz.ntmps63
  go_wp2_with fail
  go_ret;exact ⟨rfl,B.out⟩
 by_cases hn:(n:Int)=d
 case neg=>
  rw [x1N (fun h=>hn h.2.2.1)]
  go_enter Tryz.func63,Tryz.ntmps63
  go_wp2_with fail
  go_ret;exact ⟨rfl,B.out⟩
 by_cases hm:(m:Int)=d
 case neg=>
  rw [x1N (fun h=>hm h.2.2.2)]
  go_enter Tryz.func63,Tryz.ntmps63
  go_wp2_with fail
  go_ret;exact ⟨rfl,B.out⟩
 subst hn;obtain rfl:m=n:=by omega
 rw [x6c (by omega)];clear hm
 go_enter Tryz.func63,Tryz.ntmps63
 go_wp2_with fail
 have O:=yH Q;have P:=yH U;generalize hw0:w.alloc (.cells #[.slice p m c,.slice q m e] 32)=w0 at *;clear hw0;go_loopw [5] (fun i wr=>y3q w0 R S m i wr) (fun i _=>m - (intOf i).toNat)
 case atStart=>exact ⟨0,0,by omega,rfl,rfl,rfl⟩
 case round=>
  obtain ⟨k,j,X,rfl,A,rfl⟩:=hrel;have HL:=yH A;clear A;by_cases hlt:k<m
  ·obtain ⟨Y,o,rfl,K⟩:=M.cell k hlt;obtain ⟨Z,W,rfl,L⟩:=N.cell k hlt;have a:(0:Int)<=k/\(k:Int)<m:=by omega
   have J:=fun h=>y1q (R:=R) (S:=S) hlt h;have H:les R S (k+1)=(les R S k&&decide (R.getD k 0<=S.getD k 0)):=rfl;have I:=yH J;have HS:=yH H;clear J H;generalize R.getD k 0=x at *;generalize S.getD k 0=y at *;by_cases hgt:y<x
   ·have C:=I.out (by omega);have G:=yH C;clear I HS C;go_upto_region 6 with fail
    go_quiet (fail)
    go_wp2_with fail
    go_ret;exact ⟨congrArg (fun b=>Ending.returned (.bool b)) G.symm,Below.drewN (Below.drewN B _) _⟩
   ·go_upto_region 6 with fail
    go_quiet (fail)
    go_wp2_with fail
    go_roundw
    case rel=>exact ⟨k+1,j+nq,by omega,by go_num,by rw [HS.out,HL.out,kF (by omega)];rfl,rfl⟩
    case measure=>simp [intOf];omega
  ·obtain rfl:k=m:=by omega
   go_wp2_with fail
   go_ret;exact ⟨congrArg (fun b=>Ending.returned (.bool b)) HL.symm,Below.drewN B _⟩
end
namespace Nd
open Go.RowKit Mo Zr
theorem I2h:(Tryz.prog.info? 2).map (fun i=>(i.zero,i.size,i.bytes))=some (some (.int .i64 0),1,8):=by kernel_rfl
theorem URh:Tryz.prog.underlying 24=some (.slice 2):=by kernel_rfl
theorem x2e {w:World} {base n:Nat} {e:TypeId} {v:Value} {xs:List Value} (h:w.ownsRow base e 1 v n xs):∃q c,v= .slice q n c:=by
 rcases h.2 with ⟨rfl,C⟩ | ⟨g,A,B,rfl,I,G,E,J,H,K⟩
 ·subst C;exact ⟨none,0,rfl⟩
 ·exact ⟨some ⟨g,0,none⟩,A,rfl⟩
theorem x0l {P:Program} {w:World} {o:Oper} {a:Act} {K:Act->World->Prop} {Q:Exit->Act->World->Prop} (s x:Operand) (t:TypeId)
  (ho:o.op= .call {callee:=.builtin .append,args:= #[s,x],argTypes:= #[t,t]})
  (base:Nat) (e:TypeId) (i:TypeInfo) (z:Value) (size bytes:Nat) (ht:P.underlying t=some (.slice e)) (hi:P.info? e=some i) (hz:i.zero=some z)
  (hsize:i.size=size) (hby:i.bytes=bytes) (hzs:z.cells.size=size) (hsz:0<size)
  (v:Value) (n:Nat) (xs:List Value) (hs:a.eval s=v) (hown:w.ownsRow base e size v n xs)
  (ad:Addr) (m c:Nat) (news:List Value) (hx:a.eval x= .slice (some ad) m c) (hl:news.length=m*size) (hnews:∀j u,news[j]? =some u->w.cell? (ad.add j)=some u) (h1:∀u∈news,u.oneCell'=true)
  (h63:n+m<=maxLen) (hbytes:(n+m)*bytes<=140737488355328) (hbase:base<=w.heap.size)
  (h:∀v' w',w'.ownsRow base e size v' (n+m) (xs++news)->w.grownBy w' v.ownBlock->(v'.ownBlock=v.ownBlock\/v'.ownBlock=some w.heap.size)->K (a.put o.dst v') w'):o.wp P a w K Q:=by
 obtain ⟨v',w',E,A,C,_,B⟩:=run_append_own_at (P:=P) w base t o.type e i z size bytes ht hi hz hsize hby hzs hsz v n xs hown ad m c news hl hnews h1 h63 hbytes hbase;unfold Oper.wp execOp;simp only [ho,resolve,invoke,builtin,Sem.run_bind,Sem.run_pure,Result.andThen_ok,kA,kB,kC,hs,hx,E];exact h v' w' A C B
structure BH (w:World) (g:Nat) (p q s t:Option Addr) (n c m e k f l h:Nat) (R S T U:List Int):Prop where
 a:w.heap[g]? =some (.cells #[.slice p n c,.slice q m e] 32 (0,0))
 b:w.heap[g+1]? =some (.cells #[.slice s k f,.slice t l h] 32 (0,0))
 r:w.heap[g+2]? =some (.cells #[.slice none 0 0,.slice none 0 0] 32 (0,0))
 i1:Ints w p n c R
 i2:Ints w q m e S
 i3:Ints w s k f T
 i4:Ints w t l h U
section
variable {w w':World} {g:Nat} {p q s t:Option Addr} {n c m e k f l h:Nat} {R S T U:List Int}
theorem BH.later (H:BH w g p q s t n c m e k f l h R S T U) (hb:Below w.heap.size w w'):BH w' g p q s t n c m e k f l h R S T U:=
 ⟨(hb.block _ (yL H.a)).trans H.a,(hb.block _ (yL H.b)).trans H.b,(hb.block _ (yL H.r)).trans H.r,H.i1.later hb,H.i2.later hb,H.i3.later hb,H.i4.later hb⟩
theorem BH.cells (H:BH w g p q s t n c m e k f l h R S T U):
  w.cell? ⟨g,0,none⟩=some (.slice p n c)/\w.cell? ⟨g,1,none⟩=some (.slice q m e)/\w.cell? ⟨g+1,0,none⟩=some (.slice s k f)/\w.cell? ⟨g+1,1,none⟩=some (.slice t l h)/\
  w.cell? ⟨g+2,0,none⟩=some (.slice none 0 0)/\w.cell? ⟨g+2,1,none⟩=some (.slice none 0 0)/\w.frozen? ⟨g+2,0,none⟩=false/\w.frozen? ⟨g+2,1,none⟩=false:=
 ⟨jH w g 0 _ _ _ H.a,jH w g 1 _ _ _ H.a,jH w (g+1) 0 _ _ _ H.b,jH w (g+1) 1 _ _ _ H.b,jH w (g+2) 0 _ _ _ H.r,jH w (g+2) 1 _ _ _ H.r,jS w (g+2) _ _ _ H.r,jS w (g+2) _ _ _ H.r⟩
end
theorem x9l {w:World} {p q s t:Option Addr} {n c m e k f l h:Nat} {R S T U:List Int} (h1:Ints w p n c R) (h2:Ints w q m e S) (h3:Ints w s k f T) (h4:Ints w t l h U):
  BH (((w.alloc (.cells #[.slice p n c,.slice q m e] 32)).alloc (.cells #[.slice s k f,.slice t l h] 32)).alloc (.cells #[.slice none 0 0,.slice none 0 0] 32)) w.heap.size p q s t n c m e k f l h R S T U/\
  Below w.heap.size w (((w.alloc (.cells #[.slice p n c,.slice q m e] 32)).alloc (.cells #[.slice s k f,.slice t l h] 32)).alloc (.cells #[.slice none 0 0,.slice none 0 0] 32))/\
  (((w.alloc (.cells #[.slice p n c,.slice q m e] 32)).alloc (.cells #[.slice s k f,.slice t l h] 32)).alloc (.cells #[.slice none 0 0,.slice none 0 0] 32)).heap.size=w.heap.size+3:=by
 have I:=jE w (.cells #[.slice p n c,.slice q m e] 32 (0,0));have b1:=jA w (.cells #[.slice p n c,.slice q m e] 32);have s1:(w.alloc (.cells #[.slice p n c,.slice q m e] 32)).heap.size=w.heap.size+1:=by simp
 generalize w.alloc (.cells #[.slice p n c,.slice q m e] 32)=w1 at *;have E:=jE w1 (.cells #[.slice s k f,.slice t l h] 32 (0,0));have H:=jA w1 (.cells #[.slice s k f,.slice t l h] 32);have J:(w1.alloc (.cells #[.slice s k f,.slice t l h] 32)).heap.size=w1.heap.size+1:=by simp
 generalize w1.alloc (.cells #[.slice s k f,.slice t l h] 32)=w2 at *;have C:=jE w2 (.cells #[.slice none 0 0,.slice none 0 0] 32 (0,0));have G:=jA w2 (.cells #[.slice none 0 0,.slice none 0 0] 32);have K:(w2.alloc (.cells #[.slice none 0 0,.slice none 0 0] 32)).heap.size=w2.heap.size+1:=by simp
 generalize w2.alloc (.cells #[.slice none 0 0,.slice none 0 0] 32)=w3 at *;have B:=H.trans (G.mono (by omega));have A:=b1.trans (B.mono (by omega));rw [s1] at E;rw [J,s1] at C;refine ⟨⟨(B.block _ (by omega)).trans I,(G.block _ (by omega)).trans E,C,h1.later A,h2.later A,h3.later A,h4.later A⟩,A,by omega⟩
theorem x6d {w00 w0 w:World} {gb:Nat} {u v:Value} {nu nv:Nat} {A B:List Int} (h:TwoR w0 w gb u v nu nv A B) (hb:Below w00.heap.size w00 w0) (x o:Nat) (z:Value) (hx:w00.heap.size<=x) (hx2:x<gb):TwoR w00 (w.setCell ⟨x,o,none⟩ z) gb u v nu nv A B:=
 ⟨(kG _ _ _ _ (by show gb≠x;omega)).trans h.row,
  x1n h.own1 (fun g e=>kG _ _ _ _ (by show g≠x;have:=(h.own1.lt g e).1;omega)),
  x1n h.own2 (fun g e=>kG _ _ _ _ (by show g≠x;have:=(h.own2.lt g e).1;omega)),
  h.apart,(hb.trans (h.low.mono hb.size)).setCell hx _,jJ hb.size h.ge⟩
theorem x39 (w:World) (p:Option Addr) (c:Nat):Ints w p 0 c []:=⟨rfl,Nat.zero_le _,fun x hx=>by simp at hx,Or.inl rfl⟩
theorem x9m {w w':World} {p q:Option Addr} {n c m e:Nat} {A B:List Int} (h1:Ints w p n c A) (h2:Ints w q m e B) (hb:Below w.heap.size w w'):x7M w A B (.agg #[.slice p n c,.slice q m e]) w':=by
 have C:=h1.size;have E:=h2.size;subst C;subst E;exact ⟨p,c,q,e,rfl,h1.later hb,h2.later hb,hb⟩
def two (f:Int->Int->Int) (R T:List Int) (k:Nat):List Int:=(List.range k).map fun i=>f (R.getD i 0) (T.getD i 0)
theorem x9n (f:Int->Int->Int) (R T:List Int) (k:Nat):two f R T (k+1)=two f R T k++[f (R.getD k 0) (T.getD k 0)]:=by simp [two,List.range_succ]
theorem x4L (f:Int->Int->Int) (R T:List Int) (k:Nat):(two f R T k).length=k:=by simp [two]
theorem x3A (f:Int->Int->Int) (R T:List Int) (k i:Nat) (h:i<k):(two f R T k).getD i 0=f (R.getD i 0) (T.getD i 0):=by simp [two,jG,h]
def rb (R S:List Int):Bool:=x0g R S R.length S.length R.length
def hull (A B:List Int×List Int):List Int×List Int:=
 if rb A.1 A.2=true/\rb B.1 B.2=false then A
 else if rb B.1 B.2=true/\rb A.1 A.2=false then B
 else if rb A.1 A.2=false\/A.1.length≠B.1.length then ([],[])
 else (two min A.1 B.1 A.1.length,two max A.2 B.2 A.1.length)
theorem x89 {R S:List Int} (h:rb R S=true):1<=R.length/\R.length<=8/\S.length=R.length:=by
 unfold rb x0g at h;rw [Bool.and_eq_true,decide_eq_true_eq] at h;omega
theorem y5P {f:Int->Int->Int} (hf:∀x y,f x y=x\/f x y=y) {R T:List Int} {k:Nat} (h1:∀i,i<k-> -9223372036854775808<=R.getD i 0/\R.getD i 0<=9223372036854775807) (h2:∀i,i<k-> -9223372036854775808<=T.getD i 0/\T.getD i 0<=9223372036854775807):Mm.inI (two f R T k):=by
 intro x hx;simp only [two,kJ,List.mem_range] at hx;obtain ⟨i,A,rfl⟩:=hx;rcases hf (R.getD i 0) (T.getD i 0) with e | e
 ·rw [e];exact h1 i A
 ·rw [e];exact h2 i A
end Nd
namespace Nd
structure PK where
 sum:List Nat
 lo:List Int
 hi:List Int
 live:Int
 size:Int
 key:List Int
deriving DecidableEq
structure PE where
 row:List Int
 live:Bool
deriving DecidableEq
structure PN where
 kind:Nat
 rows:List PE
 kids:List PK
deriving DecidableEq
def PK.none:PK:=⟨zeros 32,[],[],0,0,[]⟩
def PK.right (k:PK) (d:Int):Bool:=
 if k=PK.none then true
 else if k.size<1\/1048576<k.size\/k.live<0\/k.size<k.live then false
 else if k.live=0 then decide (k.lo.length+k.hi.length=0)
 else x0g k.lo k.hi k.lo.length k.hi.length d
def PE.long (d:Int) (e:PE):Bool:=decide ((e.row.length:Int)=d)
def PK.keyed (d:Int) (k:PK):Bool:=decide ((k.key.length:Int)=d)&& !decide (k=PK.none)
def PK.keyless (k:PK):Bool:=decide (k.key.length=0)
def PN.right (n:PN) (d:Int):Bool:=
 if ¬(1<=d/\d<=8) then false
 else if n.rows.all (PE.long d)=false then false
 else if n.kids.all (PK.right · d)=false then false
 else if n.kind=1 then if n.rows.length=1/\n.kids.length=2 then n.kids.all PK.keyless else false
 else if n.kind=2 then if 0<n.rows.length/\n.rows.length<5/\n.kids.length=0 then n.rows.all PE.live else false
 else if n.kind=3/\n.rows.length=0/\1<n.kids.length/\n.kids.length<5 then n.kids.all (PK.keyed d) else false
def allT {α:Type} (f:α->Bool) (L:List α) (k:Nat):Bool:=(L.take k).all f
theorem y3r {α:Type} (f:α->Bool) (L:List α):allT f L L.length=L.all f:=by
 unfold allT;rw [List.take_length]
end Nd
namespace Nd
open Go.RowKit
structure Kd where
 sum:List Nat
 lo:Rw
 hi:Rw
 live:Int
 size:Int
 key:Rw
instance:Inhabited Kd:=⟨⟨zeros 32,default,default,0,0,default⟩⟩
def Kd.cells (k:Kd):List Value:=vals k.sum++[k.lo.val,k.hi.val,.int .i64 k.live,.int .i64 k.size,k.key.val]
def Kd.val (k:Kd):Value:=.agg k.cells.toArray
def Kd.pk (k:Kd):PK:=⟨k.sum,k.lo.R,k.hi.R,k.live,k.size,k.key.R⟩
def In64 (n:Int):Prop:= -9223372036854775808<=n/\n<=9223372036854775807
structure Kd.Ok (w:World) (k:Kd):Prop where
 len:k.sum.length=32
 ok:Sm.allB k.sum
 lo:k.lo.Ok w
 hi:k.hi.Ok w
 key:k.key.Ok w
 live:In64 k.live
 size:In64 k.size
theorem Kd.Ok.later {w w':World} {k:Kd} (h:k.Ok w) (hb:Below w.heap.size w w'):k.Ok w':=⟨h.len,h.ok,h.lo.later hb,h.hi.later hb,h.key.later hb,h.live,h.size⟩
theorem Kd.cells_length {k:Kd} (h:k.sum.length=32):k.cells.length=37:=by simp [Kd.cells,x00,h]
structure KAt (w:World) (g o:Nat) (k:Kd):Prop where
 sum:w.rangeAt g o (vals k.sum)
 lo:w.cell? ⟨g,o+32,Option.none⟩=some k.lo.val
 hi:w.cell? ⟨g,o+33,Option.none⟩=some k.hi.val
 live:w.cell? ⟨g,o+34,Option.none⟩=some (.int .i64 k.live)
 size:w.cell? ⟨g,o+35,Option.none⟩=some (.int .i64 k.size)
 key:w.cell? ⟨g,o+36,Option.none⟩=some k.key.val
theorem x9o {w:World} {g o:Nat} {k:Kd} (h:w.rangeAt g o k.cells) (hs:k.sum.length=32):KAt w g o k:=by
 have B:(vals k.sum).length=32:=by rw [x00,hs]
 have A:∀j u,[k.lo.val,k.hi.val,.int .i64 k.live,.int .i64 k.size,k.key.val][j]? =some u->w.cell? ⟨g,o+(32+j),Option.none⟩=some u:=fun j u hu=>h (32+j) u (by
  unfold Kd.cells;rw [kS (by omega),B,Nat.add_sub_cancel_left];exact hu)
 exact ⟨fun j v hj=>h j v (by
  unfold Kd.cells;rw [kR (List.getElem?_eq_some_iff.1 hj).1];exact hj),A 0 _ rfl,A 1 _ rfl,A 2 _ rfl,A 3 _ rfl,A 4 _ rfl⟩
theorem x0E {w:World} {g:Nat} {k:Kd} {t:TypeId} (h:w.heap[g]? =some (.cells k.cells.toArray t (0,0))):w.rangeAt g 0 k.cells:=fun j v hv=>by
 rw [Nat.zero_add,jH w g j _ _ _ h]
 simpa using hv
theorem x0N {w:World} {g:Nat} {k:Kd} {t:TypeId} (h:w.heap[g]? =some (.cells k.cells.toArray t (0,0))) (hs:k.sum.length=32):KAt w g 0 k:=x9o (x0E h) hs
theorem UKd0:(Tryz.prog.underlying 34).map (·.isRow)=some true:=by kernel_rfl
theorem UKd:∃d,Tryz.prog.underlying 34=some d/\d.isRow=true:=by
 have h:=UKd0
 revert h
 cases Tryz.prog.underlying 34 with
 | none=>intro h;cases h
 | some d=>intro h;exact ⟨d,rfl,by simpa using h⟩
theorem SKd:(Tryz.prog.info? 34).map (·.size)=some 37:=by kernel_rfl
theorem x0q {P:Program} {ops:Array Oper} {rest:List Oper} {o:Oper} {a:Act} {w:World} {Q:Exit->Act->World->Prop} (hw:Region.wanted o (yielded ops a.tmps)=true) (ty:TypeId) (x:Operand) (ho:o.op= .load ty x)
  (b off:Nat) (hx:a.eval x= .pointer (some ⟨b,off,Option.none⟩)) (cs:List Value) (d:TypeDesc) (hc:w.rangeAt b off cs)
  (hu:P.underlying ty=some d) (hd:d.isRow=true) (hi:(P.info? ty).map (·.size)=some cs.length)
  (h:wpList P ops Q rest (a.put o.dst (.agg cs.toArray)) w):wpList P ops Q (o::rest) a w:=
 BigFrame.wpList_want hw fun _ hK=>wp_load_mid ty x ho b off hx cs d hc hu hd hi (hK _ _ h)
structure En where
 row:Rw
 live:Bool
instance:Inhabited En:=⟨⟨default,false⟩⟩
def En.pe (e:En):PE:=⟨e.row.R,e.live⟩
structure EntsIn (w:World) (p:Option Addr) (n c:Nat) (E:List En):Prop where
 size:n=E.length
 le:n<=c
 top:n<=9223372036854775807
 each:∀e∈E,e.row.Ok w
 at':E=[]\/∃g o,p=some ⟨g,o,Option.none⟩/\∀i,i<E.length->w.cell? ⟨g,o+i*2,Option.none⟩=some (E.getD i default).row.val/\w.cell? ⟨g,o+i*2+1,Option.none⟩=some (.bool (E.getD i default).live)
structure KidsIn (w:World) (p:Option Addr) (n c:Nat) (K:List Kd):Prop where
 size:n=K.length
 le:n<=c
 top:n<=9223372036854775807
 each:∀k∈K,k.Ok w
 at':K=[]\/∃g o,p=some ⟨g,o,Option.none⟩/\∀i,i<K.length->w.rangeAt g (o+i*37) (K.getD i default).cells
theorem x01 {w w':World} {g o:Nat} {cs:List Value} (h:w.rangeAt g o cs) (hb:Below w.heap.size w w'):w'.rangeAt g o cs:=fun j v hv=>
 (hb.cell (p:=⟨g,o+j,Option.none⟩) (jI (h j v hv))).trans (h j v hv)
theorem EntsIn.later {w w':World} {p:Option Addr} {n c:Nat} {E:List En} (h:EntsIn w p n c E) (hb:Below w.heap.size w w'):EntsIn w' p n c E:=
 ⟨h.size,h.le,h.top,fun e he=>(h.each e he).later hb,h.at'.imp id fun ⟨g,o,hp,hx⟩=>⟨g,o,hp,fun i hi=>
  ⟨(hb.cell (p:=⟨g,o+i*2,Option.none⟩) (jI (hx i hi).1)).trans (hx i hi).1,(hb.cell (p:=⟨g,o+i*2+1,Option.none⟩) (jI (hx i hi).2)).trans (hx i hi).2⟩⟩⟩
theorem KidsIn.later {w w':World} {p:Option Addr} {n c:Nat} {K:List Kd} (h:KidsIn w p n c K) (hb:Below w.heap.size w w'):KidsIn w' p n c K:=
 ⟨h.size,h.le,h.top,fun e he=>(h.each e he).later hb,h.at'.imp id fun ⟨g,o,hp,hx⟩=>⟨g,o,hp,fun i hi=>x01 (hx i hi) hb⟩⟩
theorem getD_mem {α:Type} [Inhabited α] (L:List α) (k:Nat) (h:k<L.length):L.getD k default∈L:=by
 rw [jG,jM h];exact kM h
theorem EntsIn.get {w:World} {p:Option Addr} {n c:Nat} {E:List En} (h:EntsIn w p n c E) (k:Nat) (hk:k<n):∃g o,p=some ⟨g,o,Option.none⟩/\w.cell? ⟨g,o+k*2,Option.none⟩=some (E.getD k default).row.val/\w.cell? ⟨g,o+k*2+1,Option.none⟩=some (.bool (E.getD k default).live)/\(E.getD k default).row.Ok w:=by
 have A:k<E.length:=by rw [<- h.size];exact hk
 rcases h.at' with G | ⟨g,o,C,B⟩
 ·rw [G] at A;exact absurd A (by simp)
 ·exact ⟨g,o,C,(B k A).1,(B k A).2,h.each _ (getD_mem E k A)⟩
theorem KidsIn.get {w:World} {p:Option Addr} {n c:Nat} {K:List Kd} (h:KidsIn w p n c K) (k:Nat) (hk:k<n):∃g o,p=some ⟨g,o,Option.none⟩/\w.rangeAt g (o+k*37) (K.getD k default).cells/\(K.getD k default).Ok w:=by
 have A:k<K.length:=by rw [<- h.size];exact hk
 rcases h.at' with E | ⟨g,o,C,B⟩
 ·rw [E] at A;exact absurd A (by simp)
 ·exact ⟨g,o,C,B k A,h.each _ (getD_mem K k A)⟩
structure NodeAt (w:World) (g kind:Nat) (p:Option Addr) (n c:Nat) (q:Option Addr) (m d:Nat):Prop where
 row:w.heap[g]? =some (.cells #[.int .u8 kind,.slice p n c,.slice q m d] 97 (0,0))
theorem NodeAt.later {w w':World} {g kind:Nat} {p:Option Addr} {n c:Nat} {q:Option Addr} {m d:Nat} (h:NodeAt w g kind p n c q m d) (hb:Below w.heap.size w w'):NodeAt w' g kind p n c q m d:=⟨(hb.block _ (yL h.row)).trans h.row⟩
theorem NodeAt.cells {w:World} {g kind:Nat} {p:Option Addr} {n c:Nat} {q:Option Addr} {m d:Nat} (h:NodeAt w g kind p n c q m d):w.cell? ⟨g,0,Option.none⟩=some (.int .u8 kind)/\w.cell? ⟨g,1,Option.none⟩=some (.slice p n c)/\w.cell? ⟨g,2,Option.none⟩=some (.slice q m d):=
 ⟨jH w g 0 _ _ _ h.row,jH w g 1 _ _ _ h.row,jH w g 2 _ _ _ h.row⟩
theorem NodeAt.start (w:World) (kind:Nat) (p:Option Addr) (n c:Nat) (q:Option Addr) (m d:Nat):NodeAt (w.alloc (.cells #[.int .u8 kind,.slice p n c,.slice q m d] 97)) w.heap.size kind p n c q m d:=⟨jE w _⟩
def pnOf (kind:Nat) (E:List En) (K:List Kd):PN:=⟨kind,E.map En.pe,K.map Kd.pk⟩
end Nd
namespace Nd
open Go.ChangeShapes Go.WideShapes Go.ChangeAt Go.RowKit Go.Deep
def x7N:Option TypeDesc->Option (List (Nat×TypeId))
 | some (.struct fs)=>some (fs.toList.map fun f=>(f.offset,f.type))
 | _=>none
theorem y3s {fs:Array Field} {l:List (Nat×TypeId)} (h:fs.toList.map (fun f=>(f.offset,f.type))=l) {i o:Nat} {t:TypeId} (hi:l[i]? =some (o,t)):∃f,fs[i]? =some f/\f.offset=o/\f.type=t:=by
 subst h;rw [kN,Option.map_eq_some_iff] at hi;obtain ⟨f,B,A⟩:=hi;simp only [Prod.mk.injEq] at A;exact ⟨f,by rw [<- Array.getElem?_toList];exact B,A.1,A.2⟩
theorem CI64o:Tryz.prog.cellsOf 2=1:=by kernel_rfl
theorem CU8o:Tryz.prog.cellsOf 5=1:=by kernel_rfl
theorem CRowo:Tryz.prog.cellsOf 24=1:=by kernel_rfl
theorem UI64o:Tryz.prog.underlying 2=some (.int .i64):=by kernel_rfl
theorem UU8o:Tryz.prog.underlying 5=some (.int .u8):=by kernel_rfl
theorem URo:Tryz.prog.underlying 24=some (.slice 2):=by kernel_rfl
section
variable {H:Type} {enc:TypeId×Value->H} {W:World} {base:Nat} {held:Bool} {fuel:Nat} {cs:List Value} {x:DataW H×List MemPlace}
theorem x94 {t:TypeId} {l:List (Nat×TypeId)} (hF:x7N (Tryz.prog.underlying t)=some l) (h:DataW.trod enc Tryz.prog W base (fun _=>true) held fuel t cs=some x):
  cs.length=Tryz.prog.cellsOf t/\∃n,∀(i o:Nat) (u:TypeId),l[i]? =some (o,u)->∃y,DataW.trod enc Tryz.prog W base (fun _=>true) held n u ((cs.drop o).take (Tryz.prog.cellsOf u))=some y:=by
 unfold x7N at hF;split at hF
 case h_2=>cases hF
 case h_1 fs hu=>
 simp only [Option.some.injEq] at hF;obtain ⟨E,n,_,_,A,C,K⟩:=DataW.trod_struct hu h;refine ⟨A,n,fun i o t hi=>?_⟩;obtain ⟨f,G,I,J⟩:=y3s hF hi;have H:=K i f G;rw [I,J] at H;have B:i<E.length:=by rw [C];exact (yL G)
 exact ⟨E[i],by rw [H,jM B]⟩
theorem y1r (h:DataW.trod enc Tryz.prog W base (fun _=>true) held fuel 24 cs=some x):∃r:Rw,cs=[r.val]/\r.Ok W:=by
 rcases open_ints URo UI64o CI64o h with ⟨C,_⟩ | ⟨a,B,N,zs,C,_,I,M,K,_,G,L⟩
 ·exact ⟨⟨_,_,_,[]⟩,C,⟨rfl,jB _,fun x G=>by simp at G,Or.inl rfl⟩,by show (0:Nat)<=_;omega⟩
 ·simp only [if_true] at K;refine ⟨⟨_,_,_,zs.take B⟩,C,⟨by rw [kX,K];exact (Nat.min_eq_left I).symm,I,fun y hy=>bounds_i64 (L y (List.mem_of_mem_take hy)),?_⟩,by show B<=_;unfold maxLen at M;omega⟩;rcases Nat.eq_zero_or_pos B with J | J
  ·exact Or.inl (by rw [J,List.take_zero])
  ·right;have H:=World.cell?_spot (G 0 (by omega));obtain ⟨g,o,E⟩:=a;have A:E=none:=by simpa [Addr.add] using H
   subst A;refine ⟨g,o,rfl,fun i hi=>?_⟩;rw [kX] at hi;have:=G i (by omega);rw [show (⟨g,o,none⟩:Addr).add i=⟨g,o+i,none⟩ from by unfold Addr.add;split<;>simp_all] at this;rw [this,jG,jG,List.getElem?_take_of_lt (by omega)]
theorem x8A (cs:List Value) (o n:Nat):cs.drop o=(cs.drop o).take n++cs.drop (o+n):=by
 rw [<- List.drop_drop];exact (List.take_append_drop n _).symm
end
theorem x9p (b o n:Nat):(⟨b,o,none⟩:Addr).add n=⟨b,o+n,none⟩:=by unfold Addr.add;split<;>simp_all
theorem x8B {α:Type} [Inhabited α] (cells:α->List Value) (P:α->Prop) (sz:Nat) (hsz:0<sz) {t e:TypeId} (hu:Tryz.prog.underlying t=some (.slice e)) (hc:Tryz.prog.cellsOf e=sz)
  {H:Type} {enc:TypeId×Value->H} {W:World} {base:Nat} {held:Bool} {fuel:Nat} {cs:List Value} {x:DataW H×List MemPlace}
  (hone:∀(n:Nat) (cs:List Value) (y:DataW H×List MemPlace),DataW.trod enc Tryz.prog W base (fun _=>true) held n e cs=some y->∃a:α,cs=cells a/\P a)
  (h:DataW.trod enc Tryz.prog W base (fun _=>true) held fuel t cs=some x):
  ∃(a0:Option Addr) (n c:Nat) (L:List α),cs=[.slice a0 n c]/\n=L.length/\n<=c/\n<=9223372036854775807/\(∀a∈L,P a)/\(L=[]\/∃g o,a0=some ⟨g,o,none⟩/\∀i,i<L.length->W.rangeAt g (o+i*sz) (cells (L.getD i default))):=by
 rcases open_slice hu h with ⟨G,_⟩ | ⟨a,A,O,m,n,r,s,G,_,f,k,X,_,Y⟩
 ·exact ⟨none,0,0,[],G,rfl,jB _,by omega,(fun a ha=>by cases ha),Or.inl rfl⟩
 ·simp only [if_true] at X;rw [hc] at Y;obtain ⟨V,R⟩:=choose_lt (α:=α) (n:=A) (p:=fun i t=>W.cells? base (a.add (i*sz)) sz=some (cells t)/\P t) (fun i M=>by
   obtain ⟨q,b,l⟩:=Y i (by omega);obtain ⟨t,rfl,N⟩:=hone _ _ _ l;exact ⟨t,b,N⟩)
  refine ⟨some a,A,O,(List.range A).map V,G,by simp,f,by unfold maxLen at k;omega,fun t N=>?_,?_⟩
  ·simp only [kJ,List.mem_range] at N;obtain ⟨i,M,rfl⟩:=N;exact (R i M).2
  rcases Nat.eq_zero_or_pos A with Q | Q
  ·exact Or.inl (by subst Q;rfl)
  right;obtain ⟨g,o,I⟩:=a;have C:I=none:=by
   obtain ⟨_,B,E⟩:=World.cells?_some (R 0 Q).1;have U:=E 0 hsz;have Z:(cells (V 0))[0]? ≠none:=by rw [jM (by omega)];simp
   obtain ⟨v,K⟩:=Option.ne_none_iff_exists'.1 Z;have:=World.cell?_spot (U.trans K)
   simpa [Addr.add] using this
  subst C;refine ⟨g,o,rfl,fun i M=>?_⟩;have J:i<A:=by simpa using M
  have e:((List.range A).map V).getD i default=V i:=by simp [jG,J]
  rw [e];intro j v K;obtain ⟨_,B,E⟩:=World.cells?_some (R i J).1;have d:j<sz:=by rw [<- B];exact (List.getElem?_eq_some_iff.1 K).1
  have:=E j d;rw [K,x9p,x9p] at this;exact this
section
variable {H:Type} {enc:TypeId×Value->H} {W:World} {base:Nat} {held:Bool} {fuel:Nat} {cs:List Value} {x:DataW H×List MemPlace}
end
end Nd
namespace Kt
open Go.ChangeShapes Go.WideShapes Go.ChangeAt Go.RowKit Go.Deep Nd
structure KOp where
 kind:Nat
 row:Rw
instance:Inhabited KOp:=⟨⟨0,default⟩⟩
def KOp.cells (o:KOp):List Value:=[.int .u8 o.kind,o.row.val]
structure Ops (w:World) (p:Option Addr) (n c:Nat) (L:List KOp):Prop where
 size:n=L.length
 le:n<=c
 each:∀o∈L,o.kind<256/\o.row.Ok w
 at':L=[]\/∃g o,p=some ⟨g,o,none⟩/\∀i,i<L.length->w.rangeAt g (o+i*2) (L.getD i default).cells
theorem Ops.later {w w':World} {p:Option Addr} {n c:Nat} {L:List KOp} (h:Ops w p n c L) (hb:Below w.heap.size w w'):Ops w' p n c L:=
 ⟨h.size,h.le,fun o ho=>⟨(h.each o ho).1,(h.each o ho).2.later hb⟩,h.at'.imp id fun ⟨g,o,hp,hx⟩=>⟨g,o,hp,fun i hi=>x01 (hx i hi) hb⟩⟩
theorem Ops.get {w:World} {p:Option Addr} {n c:Nat} {L:List KOp} (h:Ops w p n c L) (k:Nat) (hk:k<n):∃g o,p=some ⟨g,o,none⟩/\w.cell? ⟨g,o+k*2,none⟩=some (.int .u8 (L.getD k default).kind)/\w.cell? ⟨g,o+k*2+1,none⟩=some (L.getD k default).row.val/\(L.getD k default).kind<256/\(L.getD k default).row.Ok w:=by
 have A:k<L.length:=by rw [<- h.size];exact hk
 rcases h.at' with G | ⟨g,o,E,B⟩
 ·rw [G] at A;exact absurd A (by simp)
 ·have C:=getD_mem L k A;exact ⟨g,o,E,B k A 0 _ rfl,B k A 1 _ rfl,(h.each _ C).1,(h.each _ C).2⟩
theorem FOp:x7N (Tryz.prog.underlying 38)=some [(0,5),(1,24)]:=by kernel_rfl
theorem COp:Tryz.prog.cellsOf 38=2:=by kernel_rfl
theorem UOps:Tryz.prog.underlying 22=some (.slice 38):=by kernel_rfl
section
variable {H:Type} {enc:TypeId×Value->H} {W:World} {base:Nat} {held:Bool} {fuel:Nat} {cs:List Value} {x:DataW H×List MemPlace}
theorem y1s (h:DataW.trod enc Tryz.prog W base (fun _=>true) held fuel 38 cs=some x):∃o:KOp,cs=o.cells/\(o.kind<256/\o.row.Ok W):=by
 obtain ⟨A,n,B⟩:=x94 FOp h;rw [COp] at A;obtain ⟨M,G⟩:=B 0 0 _ rfl;obtain ⟨N,C⟩:=B 1 1 _ rfl;rw [CU8o] at G;rw [CRowo] at C;obtain ⟨I,H,_,J⟩:=DataW.trod_int UU8o G;obtain ⟨r,K,L⟩:=y1r C;have O:=bounds_u8 J;obtain ⟨E,rfl⟩:∃m:Nat,I=m:=⟨I.toNat,by omega⟩
 refine ⟨⟨E,r⟩,?_,by show E<256;omega,L⟩;have:=x8A cs 0 1;rw [List.drop_zero] at this;rw [List.drop_zero] at H;rw [this,H,x8A cs 1 1,K,List.drop_eq_nil_of_le (by omega)];rfl
theorem open_ops {a0:Option Addr} {len0 cap0:Nat} (h:DataW.trod enc Tryz.prog W base (fun _=>true) held fuel 22 (Value.slice a0 len0 cap0).cells.toList=some x):(∃L,Ops W a0 len0 cap0 L)/\len0<=9223372036854775807:=by
 obtain ⟨p,n,c,L,A,E,B,C,H,G⟩:=x8B KOp.cells (fun o=>o.kind<256/\o.row.Ok W) 2 (by omega) UOps COp (fun _ _ _ h=>y1s h) h;simp [Value.cells] at A;obtain ⟨rfl,rfl,rfl⟩:=A;exact ⟨⟨L,E,B,H,G⟩,C⟩
end
end Kt
section
open Go.ChangeShapes Go.WideShapes Go.ChangeAt Go.RowKit Go.Deep
theorem CI64:Tryz.prog.cellsOf 2=1:=by kernel_rfl
theorem UI64:Tryz.prog.underlying 2=some (.int .i64):=by kernel_rfl
theorem UR:Tryz.prog.underlying 24=some (.slice 2):=by kernel_rfl
theorem y3t {H:Type} {enc:TypeId×Value->H} {W:World} {base b0:Nat} {held:Bool} {r:Reach} {v:Value} {d:DataW H} {ps:List MemPlace}
  (hv:Value.okWide Tryz.prog W r b0 24 v) (h:DataW.Trod enc Tryz.prog W base (fun _=>true) held 24 v d ps):∃p n c R,v= .slice p n c/\Ints W p n c R/\n<=9223372036854775807:=by
 obtain ⟨Y,G,P,rfl⟩:=okWide_slice UR hv;obtain ⟨J,O⟩:=h;refine ⟨Y,G,P,?_⟩;rcases open_ints UR UI64 CI64 O with ⟨A,_⟩ | ⟨a,X,N,zs,A,_,L,U,K,_,E,Q⟩
 ·simp [Value.cells] at A;obtain ⟨rfl,rfl,rfl⟩:=A;exact ⟨[],rfl,⟨rfl,jB _,fun x E=>by simp at E,Or.inl rfl⟩,by omega⟩
 ·simp [Value.cells] at A;obtain ⟨rfl,rfl,rfl⟩:=A;simp only [if_true] at K;refine ⟨zs.take G,rfl,⟨by rw [kX,K];exact (Nat.min_eq_left L).symm,L,fun y hy=>bounds_i64 (Q y (List.mem_of_mem_take hy)),?_⟩,by unfold maxLen at U;omega⟩;rcases Nat.eq_zero_or_pos G with M | M
  ·exact Or.inl (by rw [M,List.take_zero])
  ·right;have I:=World.cell?_spot (E 0 (by omega));obtain ⟨g,o,C⟩:=a;have B:C=none:=by simpa [Addr.add] using I
   subst B;refine ⟨g,o,rfl,fun i hi=>?_⟩;rw [kX] at hi;have:=E i (by omega);rw [Addr.add_mid] at this;rw [this,jG,jG,List.getElem?_take_of_lt (by omega)]
end
namespace Kt
open Go.RowKit
def lexLt:List Int->List Int->Bool
 | a::p,b::q=>if a=b then lexLt p q else decide (a<b)
 | _,_=>false
def lessP (k:Nat) (p q:List Int):Bool:=if p.getD k 0=q.getD k 0 then lexLt p q else decide (p.getD k 0<q.getD k 0)
def insP (k:Nat) (out:List (List Int)) (x:List Int):List (List Int):=out.takeWhile (fun y=>lessP k y x)++x::out.dropWhile (fun y=>lessP k y x)
def sortP (k:Nat) (L:List (List Int)):List (List Int):=L.foldl (insP k) []
inductive T where
 | nil:T
 | fork (row:List Int) (live:Bool) (l r:T):T
def T.size:T->Nat
 | .nil=>0
 | .fork _ _ l r=>1+l.size+r.size
def T.all:T->List (List Int)
 | .nil=>[]
 | .fork p v l r=>l.all++r.all++if v then [p] else []
def T.height:T->Nat
 | .nil=>0
 | .fork _ _ l r=>1+max l.height r.height
def layP:Nat->List (List Int)->Nat->T
 | 0,_,_=>.nil
 | n+1,L,t=>if L=[] then .nil else .fork ((sortP (t%(L.headD []).length) L).getD (L.length/2) []) true (layP n ((sortP (t%(L.headD []).length) L).take (L.length/2)) (t+1)) (layP n ((sortP (t%(L.headD []).length) L).drop (L.length/2+1)) (t+1))
def lay (L:List (List Int)) (t:Nat):T:=layP L.length L t
theorem x2A {α:Type} (f:α->Bool) (L:List α):(L.takeWhile f).length+(L.dropWhile f).length=L.length:=by
 rw [<- jQ,List.takeWhile_append_dropWhile]
theorem x95 (k:Nat) (out:List (List Int)) (x:List Int):(insP k out x).length=out.length+1:=by
 unfold insP;have:=x2A (fun y=>lessP k y x) out;rw [jQ,kI];omega
theorem x5W (k:Nat):∀(L out:List (List Int)),(L.foldl (insP k) out).length=out.length+L.length
 |[],out=>by simp
 | x::L,out=>by
  rw [List.foldl_cons,x5W k L,x95,kI]
  omega
theorem x0I (k:Nat) (L:List (List Int)):(sortP k L).length=L.length:=by
 unfold sortP;rw [x5W];simp
theorem x8C (k:Nat) (out:List (List Int)) (x:List Int):(insP k out x).Perm (x::out):=by
 unfold insP;have h:out.takeWhile (fun y=>lessP k y x)++out.dropWhile (fun y=>lessP k y x)=out:=List.takeWhile_append_dropWhile;exact (List.perm_middle).trans (by rw [h])
theorem x8D (k:Nat):∀(L out:List (List Int)),(L.foldl (insP k) out).Perm (L++out)
 |[],out=>List.Perm.refl _
 | x::L,out=>by
  rw [List.foldl_cons]
  refine (x8D k L _).trans ?_
  exact ((x8C k out x).append_left L).trans List.perm_middle
theorem x17 (k:Nat) (L:List (List Int)):(sortP k L).Perm L:=by
 have:=x8D k L []
 rwa [kW] at this
theorem x3q:∀(n m:Nat) (L:List (List Int)) (t:Nat),L.length<=n->L.length<=m->layP n L t=layP m L t
 | 0,0,_,_,_,_=>rfl
 | 0,m+1,L,t,h,_=>by
  have:L=[]:=jZ.1 (by omega)
  rw [this]
  simp [layP]
 | n+1,0,L,t,_,h=>by
  have:L=[]:=jZ.1 (by omega)
  rw [this]
  simp [layP]
 | n+1,m+1,L,t,h1,h2=>by
  rw [layP,layP]
  by_cases hL:L=[]
  ·rw [if_pos hL,if_pos hL]
  ·rw [if_neg hL,if_neg hL]
   have hp:=kP.2 hL
   have l1:((sortP (t%(L.headD []).length) L).take (L.length/2)).length<=L.length/2:=by rw [kX];omega
   have A:((sortP (t%(L.headD []).length) L).drop (L.length/2+1)).length<=L.length - (L.length/2+1):=by rw [kY,x0I];omega
   rw [x3q n m _ (t+1) (by omega) (by omega),x3q n m _ (t+1) (by omega) (by omega)]
theorem x9q {L:List (List Int)} {t:Nat} (hL:L≠[]):lay L t= .fork ((sortP (t%(L.headD []).length) L).getD (L.length/2) []) true (lay ((sortP (t%(L.headD []).length) L).take (L.length/2)) (t+1)) (lay ((sortP (t%(L.headD []).length) L).drop (L.length/2+1)) (t+1)):=by
 have E:=kP.2 hL;unfold lay;obtain ⟨n,A⟩:∃n,L.length=n+1:=⟨L.length - 1,by omega⟩
 have B:((sortP (t%(L.headD []).length) L).take (L.length/2)).length<=L.length/2:=by rw [kX];omega
 have C:((sortP (t%(L.headD []).length) L).drop (L.length/2+1)).length<=L.length - (L.length/2+1):=by rw [kY,x0I];omega
 conv=>lhs;rw [A,layP,if_neg hL]
 rw [x3q n _ _ (t+1) (by omega) (jB _),x3q n _ _ (t+1) (by omega) (jB _)]
def light (u:T) (t:Nat):T:=
 match u with
 | .nil=>.nil
 | .fork p v l r=>if 2*(1+l.size+r.size)/3+1<max l.size r.size then lay (T.fork p v l r).all t else .fork p v l r
def x0A:T->List Int->Nat->T×Bool
 | .nil,p,_=>(.fork p true .nil .nil,true)
 | .fork q v l r,p,t=>
  if q=p then (light (.fork q true l r) t,!v)
  else if lessP (t%p.length) p q then (light (.fork q v (x0A l p (t+1)).1 r) t,(x0A l p (t+1)).2)
  else (light (.fork q v l (x0A r p (t+1)).1) t,(x0A r p (t+1)).2)
def x0B:T->List Int->Nat->T×Bool
 | .nil,_,_=>(.nil,false)
 | .fork q v l r,p,t=>
  if q=p then (.fork q false l r,v)
  else if lessP (t%p.length) p q then (.fork q v (x0B l p (t+1)).1 r,(x0B l p (t+1)).2)
  else (.fork q v l (x0B r p (t+1)).1,(x0B r p (t+1)).2)
def x0h (u:T) (p:List Int):T×Bool:=
 if (x0B u p 0).2=true/\2*(x0B u p 0).1.all.length<(x0B u p 0).1.size then (lay (x0B u p 0).1.all 0,true) else x0B u p 0
def T.dims (d:Nat):T->Prop
 | .nil=>True
 | .fork p _ l r=>p.length=d/\l.dims d/\r.dims d
theorem x1E {d:Nat}:∀ {u:T},u.dims d->∀p∈u.all,p.length=d
 | .nil,_,p,hp=>by cases hp
 | .fork q v l r,h,p,hp=>by
  unfold T.all at hp
  rcases jP.1 hp with hp | hp
  ·rcases jP.1 hp with hp | hp
   ·exact x1E h.2.1 p hp
   ·exact x1E h.2.2 p hp
  ·cases v with
   | true=>
    simp only [if_true,kZ] at hp
    rw [hp]
    exact h.1
   | false=>simp at hp
theorem x5X {d:Nat}:∀(n:Nat) (L:List (List Int)) (t:Nat),(∀p∈L,p.length=d)->(layP n L t).dims d
 | 0,_,_,_=>trivial
 | n+1,L,t,h=>by
  rw [layP]
  by_cases hL:L=[]
  ·rw [if_pos hL]
   trivial
  ·rw [if_neg hL]
   have hm:∀p∈sortP (t%(L.headD []).length) L,p.length=d:=fun p hp=>h p ((x17 _ L).mem_iff.1 hp)
   have hp:=kP.2 hL
   refine ⟨hm _ ?_,x5X n _ _ (fun p hp=>hm p (List.mem_of_mem_take hp)),x5X n _ _ (fun p hp=>hm p (List.mem_of_mem_drop hp))⟩
   rw [jG,jM (by rw [x0I];omega)]
   exact kM _
theorem x3B {d:Nat} {L:List (List Int)} {t:Nat} (h:∀p∈L,p.length=d):(lay L t).dims d:=x5X _ L t h
theorem x4M {d:Nat} {u:T} {t:Nat} (h:u.dims d):(light u t).dims d:=by
 cases u with
 | nil=>exact h
 | fork p v l r=>
  unfold light;simp only;split
  ·exact x3B (x1E h)
  ·exact h
theorem x1J {d:Nat}:∀ {u:T} {p:List Int} {t:Nat},u.dims d->p.length=d->(x0A u p t).1.dims d
 | .nil,p,t,_,hp=>⟨hp,trivial,trivial⟩
 | .fork q v l r,p,t,h,hp=>by
  unfold x0A
  split
  ·exact x4M (u:=.fork q true l r) ⟨h.1,h.2.1,h.2.2⟩
  ·split
   ·exact x4M (u:=.fork q v (x0A l p (t+1)).1 r) ⟨h.1,x1J h.2.1 hp,h.2.2⟩
   ·exact x4M (u:=.fork q v l (x0A r p (t+1)).1) ⟨h.1,h.2.1,x1J h.2.2 hp⟩
theorem x0x {d:Nat}:∀ {u:T} {p:List Int} {t:Nat},u.dims d->(x0B u p t).1.dims d
 | .nil,p,t,_=>trivial
 | .fork q v l r,p,t,h=>by
  unfold x0B
  split
  ·exact ⟨h.1,h.2.1,h.2.2⟩
  ·split
   ·exact ⟨h.1,x0x h.2.1,h.2.2⟩
   ·exact ⟨h.1,h.2.1,x0x h.2.2⟩
theorem x96 {d:Nat} {u:T} {p:List Int} (h:u.dims d):(x0h u p).1.dims d:=by
 unfold x0h;split
 ·exact x3B (x1E (x0x h))
 ·exact x0x h
def RwIn (F:Nat->Prop) (r:Rw):Prop:=∀x,r.p=some x->r.R≠[]->F x.block
inductive TAt (F:Nat->Prop) (w:World):Option Addr->T->Prop
 | nil:TAt F w none .nil
 | fork {g:Nat} {r:Rw} {v:Bool} {p q:Option Addr} {l u:T} (row:w.heap[g]? =some (.cells #[r.val,.bool v,.pointer p,.pointer q] 121 (0,0))) (ok:r.Ok w) (hg:F g) (hF:RwIn F r) (hl:TAt F w p l) (hr:TAt F w q u):TAt F w (some ⟨g,0,none⟩) (.fork r.R v l u)
section
variable {F F':Nat->Prop} {w w':World} {p:Option Addr} {u:T}
theorem rw_lt {r:Rw} (h:r.Ok w):∀x,r.p=some x->r.R≠[]->x.block<w.heap.size:=fun x hx hR=>by
 rcases h.ints.at' with h0 | ⟨g,o,hp,hc⟩
 ·exact absurd h0 hR
 ·rw [hx] at hp
  obtain rfl:x=⟨g,o,none⟩:=by simpa using hp
  exact jI (hc 0 (kP.2 hR))
theorem x9r {r:Rw} (h:r.Ok w) (hF:RwIn F r) (hk:∀k,F k->k<w.heap.size->w'.heap[k]? =w.heap[k]?):r.Ok w':=
 ⟨⟨h.ints.size,h.ints.le,h.ints.ok,by
  have hlt:=rw_lt h
  refine h.ints.at'.imp id fun ⟨g,o,hp,hx⟩=>⟨g,o,hp,fun i hi=>?_⟩
  have hR:r.R≠[]:=by rintro e;rw [e] at hi;simp at hi
  rw [jX (w:=w) (w':=w') (a:=⟨g,o+i,none⟩) (hk g (hF ⟨g,o,none⟩ hp hR) (hlt ⟨g,o,none⟩ hp hR))]
  exact hx i hi⟩,h.top⟩
theorem TAt.keep (h:TAt F w p u) (hk:∀k,F k->k<w.heap.size->w'.heap[k]? =w.heap[k]?):TAt F w' p u:=by
 induction h with
 | nil=>exact .nil
 | fork row ok hg hF _ _ h1 h2=>exact .fork ((hk _ hg (yL row)).trans row) (x9r ok hF hk) hg hF h1 h2
theorem TAt.later (h:TAt F w p u) (hb:Below w.heap.size w w'):TAt F w' p u:=h.keep fun k _ hk=>hb.block k hk
theorem TAt.wide (h:TAt F w p u) (hF:∀k,F k->F' k):TAt F' w p u:=by
 induction h with
 | nil=>exact .nil
 | fork row ok hg hR _ _ h1 h2=>exact .fork row ok (hF _ hg) (fun x hx hr=>hF _ (hR x hx hr)) h1 h2
theorem TAt.lt (h:TAt F w p u):TAt (fun k=>F k/\k<w.heap.size) w p u:=by
 induction h with
 | nil=>exact .nil
 | fork row ok hg hR _ _ h1 h2=>exact .fork row ok ⟨hg,(yL row)⟩ (fun x hx hr=>⟨hR x hx hr,rw_lt ok x hx hr⟩) h1 h2
theorem TAt.go {x:List Int} {v:Bool} {l u:T} (h:TAt F w p (.fork x v l u)):∃(g:Nat) (r:Rw) (a b:Option Addr),p=some ⟨g,0,none⟩/\x=r.R/\w.heap[g]? =some (.cells #[r.val,.bool v,.pointer a,.pointer b] 121 (0,0))/\r.Ok w/\F g/\RwIn F r/\TAt F w a l/\TAt F w b u:=by
 cases h with
 | fork row ok hg hR hl hr=>exact ⟨_,_,_,_,rfl,rfl,row,ok,hg,hR,hl,hr⟩
end
def hds (L:List Rw):List Value:=L.map Rw.val
theorem x1O (L:List Rw):(hds L).length=L.length:=by simp [hds]
theorem x0t (A B:List Rw):hds (A++B)=hds A++hds B:=by simp [hds]
theorem x1q (L:List Rw):∀u∈hds L,u.oneCell'=true:=by
 intro u hu;simp only [hds,kJ] at hu;obtain ⟨x,_,rfl⟩:=hu;rfl
structure Own (B:Nat) (w:World) (v:Value) (n:Nat) (L:List Rw):Prop where
 own:w.ownsRow B 24 1 v n (hds L)
 ok:∀r∈L,r.Ok w
section
variable {B:Nat} {w w':World} {v:Value} {n:Nat} {L:List Rw}
theorem Own.len (h:Own B w v n L):n=L.length:=by
 have:=h.own.1;rw [x1O,Nat.mul_one] at this;exact this.symm
theorem Own.later (h:Own B w v n L) (hb:Below w.heap.size w w'):Own B w' v n L:=by
 obtain ⟨I,G⟩:=h.own;refine ⟨⟨I,G.imp id ?_⟩,fun r hr=>(h.ok r hr).later hb⟩;rintro ⟨g,C,A,J,H,E,r⟩;exact ⟨g,C,A,J,H,(hb.block _ (yL E)).trans E,r⟩
theorem Own.base {B':Nat} (h:Own B w v n L) (hB:B'<=B):Own B' w v n L:=
 ⟨⟨h.own.1,h.own.2.imp id fun ⟨g,cap,cur,hv,hl,r⟩=>⟨g,cap,cur,hv,jJ hB hl,r⟩⟩,h.ok⟩
theorem y5j (B:Nat) (w:World):Own B w (.slice none 0 0) 0 []:=⟨⟨rfl,Or.inl ⟨rfl,rfl⟩⟩,fun r hr=>by cases hr⟩
theorem Own.form (h:Own B w v n L):∃q c,v= .slice q n c:=by
 rcases h.own.2 with ⟨rfl,E⟩ | ⟨g,A,C,rfl,_⟩
 ·exact ⟨none,0,by rw [E]⟩
 ·exact ⟨_,A,rfl⟩
theorem x2U {w w':World} {base:Nat} {v:Value} {n:Nat} {xs:List Value} (h:w.ownsRow base 24 1 v n xs) (hb:Below w.heap.size w w'):w'.ownsRow base 24 1 v n xs:=by
 obtain ⟨H,E⟩:=h;refine ⟨H,E.imp id ?_⟩;rintro ⟨g,B,A,I,G,C,r⟩;exact ⟨g,B,A,I,G,(hb.block _ (yL C)).trans C,r⟩
theorem Own.rows (h:Own B w v n L):∃q c,v= .slice q n c/\RowsIn w q n c L:=by
 have C:=h.len;rcases h.own.2 with ⟨rfl,I⟩ | ⟨g,E,A,rfl,M,H,G,N,K,J⟩
 ·subst I;exact ⟨none,0,rfl,C,jB _,h.ok,Or.inl (jZ.1 C.symm)⟩
 ·refine ⟨_,E,rfl,C,G,h.ok,Or.inr ⟨g,0,rfl,fun i hi=>?_⟩⟩;rw [Nat.zero_add,jH w g i A _ _ H];have e:(A.toList.take (n*1))[i]? =(hds L)[i]? :=by rw [J]
  rw [List.getElem?_take_of_lt (by omega)] at e;simp [hds,jM hi] at e;rw [e];simp [jG,jM hi]
end
theorem x6e {L:List Rw} {i:Nat} (h:i<L.length):(L.map Rw.R).getD i []=(L.getD i default).R:=by
 rw [jG,jG,kN,jM h];rfl
theorem x3e {L:List Rw} {i:Nat} (h:i<L.length):L.getD i default∈L:=by
 rw [jG,jM h];exact kM h
theorem x4N:∀R:List Int,lexLt R R=false
 |[]=>rfl
 | x::R=>by
  unfold lexLt
  rw [if_pos rfl]
  exact x4N R
theorem x9s:∀(R S:List Int) (k:Nat),R.length=S.length->k<R.length->R.take k=S.take k->R.getD k 0≠S.getD k 0->lexLt R S=decide (R.getD k 0<S.getD k 0)
 |[],_,k,_,h,_,_=>by simp at h
 | x::R,[],k,h,_,_,_=>by simp at h
 | x::R,y::S,0,_,_,_,h=>by
  have h:x≠y:=h
  unfold lexLt
  rw [if_neg h]
  rfl
 | x::R,y::S,k+1,hl,hk,ht,h=>by
  have ht:x::R.take k=y::S.take k:=ht
  simp only [List.cons.injEq] at ht
  unfold lexLt
  rw [if_pos ht.1]
  exact x9s R S k (by simpa using hl) (by simpa using hk) ht.2 h
theorem y1t {R S:List Int} {k:Nat} (hl:R.length=S.length) (hk:k<R.length) (ht:R.take k=S.take k) (h:R.getD k 0=S.getD k 0):R.take (k+1)=S.take (k+1):=by
 rw [List.take_succ_eq_append_getElem hk,List.take_succ_eq_append_getElem (by omega),ht];rw [jG,jG,jM hk,jM (by omega)] at h;simp only [Option.getD_some] at h;rw [h]
theorem y0p {R S:List Int} {k:Nat} (hl:R.length=S.length) (hk:k=R.length) (ht:R.take k=S.take k):R=S:=by
 rw [kQ (by omega),kQ (by omega)] at ht;exact ht
def y78 (w:World) (R S:List Int) (n:Nat) (i:Value) (wr:World):Prop:=∃(k j:Nat),k<=n/\i= .int .i64 k/\R.take k=S.take k/\wr=w.drewN j
theorem ret_b {x:Bool} {y:Bool} (h:x=y):Ending.returned (.bool x)= .returned (.bool y):=by rw [h]
theorem x5Y (p q:Option Addr) (n c m e:Nat) (R S:List Int) (a:Nat) (w:World) (h1:Ints w p n c R) (h2:Ints w q m e S) (hmn:m=n) (ha:a<n) (hn9:n<=9223372036854775807):
  Calls Tryz.prog 76 #[.slice p n c,.slice q m e,.int .i64 a] w fun e w'=>e= .returned (.bool (lessP a R S))/\∃j,w'=w.drewN j:=by
 subst hmn;have Q:=yH h1;have U:=yH h2;have A:=yH h1.size;have B:=yH h2.size;obtain ⟨d,o,rfl,E⟩:=h1.cell a ha;obtain ⟨f,Y,rfl,G⟩:=h2.cell a ha;have W:(0:Int)<=a/\(a:Int)<m:=by omega
 have C:lessP a R S=if R.getD a 0=S.getD a 0 then lexLt R S else decide (R.getD a 0<S.getD a 0):=rfl;clear h1 h2 ha;generalize R.getD a 0=x0 at *;generalize S.getD a 0=y0 at *
 go_enter Tryz.func76,Tryz.ntmps76
 by_cases hxy:x0=y0
 case neg=>
  rw [if_neg hxy] at C;have K:=yH C;have b1:(x0 !=y0)=true:=by simpa using hxy
  clear C hxy;go_upto_region 1 with fail
  go_quiet (fail)
  go_upto_region 2 with fail
  go_quiet (fail)
  go_wp2_with fail
  go_ret;refine ⟨ret_b K.symm,?_⟩;first | exact ⟨_,rfl⟩ | (simp only [World.drewN_drewN];exact ⟨_,rfl⟩)
 rw [if_pos hxy] at C;have K:=yH C;subst hxy;clear C;go_upto_region 1 with fail
 go_quiet (fail)
 clear E G W;go_wp2_with fail
 go_loopw [7] (fun i wr=>y78 w R S m i wr) (fun i _=>m - (intOf i).toNat)
 case atStart=>exact ⟨0,_,by omega,rfl,rfl,rfl⟩
 case round=>
  obtain ⟨k,j,b,rfl,H,rfl⟩:=hrel;have O:=yH H;clear H;by_cases hlt:k<m
  ·obtain ⟨g,Z,I,E⟩:=Q.cell k hlt;obtain ⟨r,s,J,G⟩:=U.cell k hlt;simp only [Option.some.injEq,Addr.mk.injEq,and_true] at I J;obtain ⟨rfl,rfl⟩:=I;obtain ⟨rfl,rfl⟩:=J;have l:(0:Int)<=k/\(k:Int)<m:=by omega
   have N:=yH (fun (h:R.getD k 0≠S.getD k 0)=>x9s R S k (by rw [<- A.out,<- B.out]) (by rw [<- A.out];exact hlt) O h);have M:=yH (fun (h:R.getD k 0=S.getD k 0)=>y1t (by rw [<- A.out,<- B.out]) (by rw [<- A.out];exact hlt) O h);generalize R.getD k 0=x at *;generalize S.getD k 0=y at *;by_cases hxy:x=y
   ·have HM2:=yH (M.out hxy);subst hxy;clear N M;go_upto_region 6 with fail
    go_quiet (fail)
    go_wp2_with fail
    go_roundw
    case rel=>exact ⟨k+1,_,by omega,by go_num,HM2.out,by first | rfl | simp [World.drewN_drewN]⟩
    case measure=>simp [intOf];omega
   ·have b1:(x !=y)=true:=by simpa using hxy
    have L:=yH (N.out hxy);clear N M hxy;go_upto_region 6 with fail
    go_quiet (fail)
    go_upto_region 7 with fail
    go_quiet (fail)
    go_wp2_with fail
    go_ret;refine ⟨ret_b (by rw [K.out,L.out]),?_⟩;first | exact ⟨_,rfl⟩ | (simp only [World.drewN_drewN];exact ⟨_,rfl⟩)
  ·obtain rfl:k=m:=by omega
   have P:=y0p (by rw [<- A.out,<- B.out]) A O;have X:=yH (show lexLt R S=false from by rw [P];exact x4N S);clear P;go_wp2_with fail
   go_ret;exact ⟨ret_b (by rw [K.out,X.out]),_,rfl⟩
end Kt
end Go.Proofs.YtenenciaggbjnaaGreat
