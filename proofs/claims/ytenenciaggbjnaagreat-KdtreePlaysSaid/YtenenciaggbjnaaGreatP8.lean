/- NdTally, ShaMath, ShaPreMath, ShaSumOk, PgMath, NdSays, KtKid, NdSides, KtRight, NdTwoKids. -/
import Derived.Deep.AppendLies
import Derived.Laws.AppendOwnNone
import Derived.Test.YtenenciaggbjnaaGreatP7
set_option maxRecDepth 100000
set_option maxHeartbeats 8000000
set_option linter.all false
namespace Go.Proofs.YtenenciaggbjnaaGreat
namespace Nd
open Go.RowKit Dk
def boxE (b:List Int×List Int) (e:PE):List Int×List Int:=if e.live then hull b (e.row,e.row) else b
def boxK (b:List Int×List Int) (k:PK):List Int×List Int:=hull b (k.lo,k.hi)
def boxR (L:List PE):List Int×List Int:=L.foldl boxE ([],[])
def liveR (L:List PE):Int:=(L.map fun e=>if e.live then (1:Int) else 0).sum
def PN.box (n:PN):List Int×List Int:=n.kids.foldl boxK (boxR n.rows)
def PN.live (n:PN):Int:=liveR n.rows+(n.kids.map PK.live).sum
def PN.size (n:PN):Int:=n.rows.length+(n.kids.map PK.size).sum
def PN.tally (n:PN):PK:=⟨zeros 32,n.box.1,n.box.2,n.live,n.size,n.keyOf⟩
theorem x3x {α β:Type} [Inhabited α] (f:β->α->β) (b:β) (L:List α) (k:Nat) (h:k<L.length):(L.take (k+1)).foldl f b=f ((L.take k).foldl f b) (L.getD k default):=by
 rw [List.take_succ_eq_append_getElem h,List.foldl_append,jG,jM h];rfl
theorem x3E {α:Type} [Inhabited α] (f:α->Int) (L:List α) (k:Nat) (h:k<L.length):((L.take (k+1)).map f).sum=((L.take k).map f).sum+f (L.getD k default):=by
 rw [List.take_succ_eq_append_getElem h,List.map_append,List.sum_append,jG,jM h];simp
theorem x1i {α β:Type} [Inhabited α] [Inhabited β] (g:α->β) (L:List α) (k:Nat) (h:k<L.length):(L.map g).getD k default=g (L.getD k default):=by
 rw [jG,jG,kN,jM h];rfl
instance:Inhabited PE:=⟨⟨[],false⟩⟩
instance:Inhabited PK:=⟨PK.none⟩
theorem x6l {α:Type} (f:α->Int) (B:Int):∀L:List α,(∀x∈L,0<=f x/\f x<=B)->0<=(L.map f).sum/\(L.map f).sum<=B*L.length
 |[],_=>by simp
 | x::L,h=>by
  have h1:=h x (by simp)
  have h2:=x6l f B L (fun y hy=>h y (by simp [hy]))
  simp only [kB,List.sum_cons,kI,Int.natCast_add,Int.natCast_one,Int.mul_add,Int.mul_one]
  omega
theorem x4X (L:List PE):0<=liveR L/\liveR L<=L.length:=by
 have:=x6l (fun e:PE=>if e.live then (1:Int) else 0) 1 L (fun e _=>by split<;>omega);unfold liveR;omega
def Away (X:Nat) (r:Rw):Prop:=∀x,r.p=some x->r.R≠[]->x.block≠X
theorem FrRw.away {w:World} {base X:Nat} {r:Rw} (h:FrRw w base r) (hX:X<base):Away X r:=fun x hx hR=>by have:=h.lo x hx hR;omega
theorem x1w (X:Nat) {r:Rw} (h:r.R=[]):Away X r:=fun _ _ hR=>absurd h hR
structure TaSt (w0 w:World) (gn kind:Nat) (p:Option Addr) (n c:Nat) (q:Option Addr) (m f gr gx:Nat) (kd:Kd):Prop where
 node:NodeAt w gn kind p n c q m f
 res:w.heap[gr]? =some (.cells kd0.cells.toArray 34 (0,0))
 row:w.heap[gx]? =some (.cells kd.cells.toArray 34 (0,0))
 ok:kd.Ok w
 away:∀r∈kd.rows,Away gx r/\Away gr r
 low:Below w0.heap.size w0 w
 ge:w0.heap.size<=gn/\w0.heap.size<=gr/\w0.heap.size<=gx
 ne:gn≠gx/\gr≠gx/\gn≠gr
section
variable {w0 w w':World} {gn kind:Nat} {p:Option Addr} {n c:Nat} {q:Option Addr} {m f gr gx:Nat} {kd kd':Kd}
theorem TaSt.later (h:TaSt w0 w gn kind p n c q m f gr gx kd) (hb:Below w.heap.size w w'):TaSt w0 w' gn kind p n c q m f gr gx kd:=
 ⟨h.node.later hb,(hb.block _ (yL h.res)).trans h.res,(hb.block _ (yL h.row)).trans h.row,h.ok.later hb,h.away,h.low.trans (hb.mono h.low.size),h.ge,h.ne⟩
theorem TaSt.cell (h:TaSt w0 w gn kind p n c q m f gr gx kd):KAt w gx 0 kd:=x0N h.row h.ok.len
theorem TaSt.turn (h:TaSt w0 w gn kind p n c q m f gr gx kd) (hrow:w'.heap[gx]? =some (.cells kd'.cells.toArray 34 (0,0))) (ho:Only (fun j=>j=gx) w w') (hs:kd'.sum=kd.sum) (hr:∀r∈kd'.rows,r.Ok w/\Away gx r/\Away gr r) (hl:In64 kd'.live) (hz:In64 kd'.size):TaSt w0 w' gn kind p n c q m f gr gx kd':=by
 have A:∀r:Rw,r.Ok w/\Away gx r/\Away gr r->r.Ok w':=fun r hr=>rw_keep hr.1 fun x hx hR=>ho.block _ (by
  rcases hr.1.ints.at' with E | ⟨g,o,B,C⟩
  ·exact absurd E hR
  ·rw [hx] at B;obtain rfl:x=⟨g,o,Option.none⟩:=by simpa using B
   have:=C 0 (kP.2 hR);exact jI this) (hr.2.1 x hx hR)
 refine ⟨⟨(ho.block _ (yL h.node.row) h.ne.1).trans h.node.row⟩,(ho.block _ (yL h.res) h.ne.2.1).trans h.res,hrow,⟨by rw [hs];exact h.ok.len,by rw [hs];exact h.ok.ok,A _ (hr _ (by simp [Kd.rows])),A _ (hr _ (by simp [Kd.rows])),A _ (hr _ (by simp [Kd.rows])),hl,hz⟩,fun r hm=>(hr r hm).2,h.low.trans (ho.below (by have:=h.low.size;omega) (fun j e=>by rw [e];exact h.ge.2.2)),h.ge,h.ne⟩
theorem TaSt.rows (h:TaSt w0 w gn kind p n c q m f gr gx kd):∀r∈kd.rows,r.Ok w/\Away gx r/\Away gr r:=fun r hr=>by
 refine ⟨?_,h.away r hr⟩
 simp only [Kd.rows,jW,jV,or_false] at hr
 rcases hr with rfl | rfl | rfl
 ·exact h.ok.lo
 ·exact h.ok.hi
 ·exact h.ok.key
theorem TaSt.setLive (h:TaSt w0 w gn kind p n c q m f gr gx kd) (x:Int) (hx:In64 x):TaSt w0 (w.setCell ⟨gx,34,none⟩ (.int .i64 x)) gn kind p n c q m f gr gx {kd with live:=x}:=by
 have r:=jU w gx 34 _ _ (.int .i64 x) h.row;rw [x5j h.ok.len] at r;exact h.turn r (Only.setCell (P:=fun j=>j=gx) _ (a:=⟨gx,34,none⟩) rfl _) rfl h.rows hx h.ok.size
theorem TaSt.setSize (h:TaSt w0 w gn kind p n c q m f gr gx kd) (x:Int) (hx:In64 x):TaSt w0 (w.setCell ⟨gx,35,none⟩ (.int .i64 x)) gn kind p n c q m f gr gx {kd with size:=x}:=by
 have r:=jU w gx 35 _ _ (.int .i64 x) h.row;rw [x5k h.ok.len] at r;exact h.turn r (Only.setCell (P:=fun j=>j=gx) _ (a:=⟨gx,35,none⟩) rfl _) rfl h.rows h.ok.live hx
theorem y7B {w:World} {g:Nat} {k:Kd} {r1 r2:Rw} (h:w.heap[g]? =some (.cells k.cells.toArray 34 (0,0))) (hl:k.sum.length=32):(w.setCells g 32 [r1.val,r2.val]).heap[g]? =some (.cells ({k with lo:=r1,hi:=r2}:Kd).cells.toArray 34 (0,0)):=by
 have:=x0R g 34 [r1.val,r2.val] (vals k.sum) [k.lo.val,k.hi.val] [.int .i64 k.live,.int .i64 k.size,k.key.val] w (by simpa [Kd.cells] using h) rfl;rw [x00,hl] at this
 simpa [Kd.cells] using this
theorem x3y {w:World} {g:Nat} {k:Kd} (h:w.heap[g]? =some (.cells k.cells.toArray 34 (0,0))) (hl:k.sum.length=32) (r1 r2:Rw):w.there g 32 (#[r1.val,r2.val]:Array Value).size:=fun j hj=>by
 refine ⟨?_,jS w g _ _ _ h⟩
 have hj:j<2:=hj
 rw [jH w g _ _ _ _ h]
 rw [Array.getElem?_eq_getElem (by rw [jF,Kd.cells_length hl];omega)]
 rfl
theorem TaSt.setBox (h:TaSt w0 w gn kind p n c q m f gr gx kd) {r1 r2:Rw} (h1:r1.Ok w/\Away gx r1/\Away gr r1) (h2:r2.Ok w/\Away gx r2/\Away gr r2):TaSt w0 (w.setCells gx 32 [r1.val,r2.val]) gn kind p n c q m f gr gx {kd with lo:=r1,hi:=r2}:=by
 refine h.turn (y7B h.row h.ok.len) (x1P _ _ _ _) rfl (fun r hr=>?_) h.ok.live h.ok.size;simp only [Kd.rows,jW,jV,or_false] at hr;rcases hr with rfl | rfl | rfl
 ·exact h1
 ·exact h2
 ·exact h.rows _ (by simp [Kd.rows])
end
theorem x7Y (x:Int) (r:Rw):(⟨zeros 32,⟨none,0,0,[]⟩,⟨none,0,0,[]⟩,0,x,r⟩:Kd).cells.length=37:=Kd.cells_length (by simp [zeros])
section
variable {w0 w w':World} {gn kind:Nat} {p:Option Addr} {n c:Nat} {q:Option Addr} {m f gr gx:Nat}
theorem y03 {r:Rw} {x:Int} {O:Array Value} (hn:NodeAt w gn kind p n c q m f) (hr:w.heap[gr]? =some (.cells kd0.cells.toArray 34 (0,0))) (hx:w.heap[gx]? =some (.cells O 34 (0,0))) (hro:r.Ok w/\Away gx r/\Away gr r) (hl:Below w0.heap.size w0 w) (ge:w0.heap.size<=gn/\w0.heap.size<=gr/\w0.heap.size<=gx) (ne:gn≠gx/\gr≠gx/\gn≠gr) (h64:In64 x):
  TaSt w0 (w.setRow gx (⟨zeros 32,⟨none,0,0,[]⟩,⟨none,0,0,[]⟩,0,x,r⟩:Kd).cells.toArray) gn kind p n c q m f gr gx ⟨zeros 32,⟨none,0,0,[]⟩,⟨none,0,0,[]⟩,0,x,r⟩:=by
 have A:Below gx w (w.setRow gx (⟨zeros 32,⟨none,0,0,[]⟩,⟨none,0,0,[]⟩,0,x,r⟩:Kd).cells.toArray):=Below.setRow (jC _ _) (jB _) _;refine ⟨⟨(setRow_other _ _ _ _ ne.1).trans hn.row⟩,(setRow_other _ _ _ _ ne.2.1).trans hr,jT _ _ _ _ _ _ hx,⟨by simp [zeros],x2C 32,x5c _,x5c _,rw_keep hro.1 (fun y hy hR=>setRow_other _ _ _ _ (hro.2.1 y hy hR)),⟨by show -9223372036854775808<=(0:Int);omega,by show (0:Int)<=9223372036854775807;omega⟩,h64⟩,fun r' hr'=>?_,hl.trans (A.mono ge.2.2),ge,ne⟩;simp only [Kd.rows,jW,jV,or_false] at hr';rcases hr' with rfl | rfl | rfl
 ·exact ⟨x1w _ rfl,x1w _ rfl⟩
 ·exact ⟨x1w _ rfl,x1w _ rfl⟩
 ·exact hro.2
theorem IBx:(Tryz.prog.info? 32).map (·.size)=some 2:=by kernel_rfl
theorem x7Z (r1 r2:Rw):(#[r1.val,r2.val]:Array Value).all (·.oneCell')=true:=by
 simp [Rw.val,Value.oneCell']
end
theorem x1A {P:Program} {ρ:Operand->Value} {o:Oper} {t:TypeId} {parts:Array (Nat×Operand)} {cells:Array Value} (ho:o.op= .build t parts) (h:P.built t (parts.map fun (i,x)=>(i,ρ x)).toList=some cells) (w:World):
  (execOp ρ o).run P w= .ok (.value (.agg cells)) w:=by
 unfold execOp;simp only [ho,Sem.run_bind,run_build w t _ cells h,Result.andThen_ok,Sem.run_pure]
theorem y04 (x:Int) (p:Option Addr) (n c:Nat) (R:List Int):Tryz.prog.built 34 [(3,.int .i64 x),(4,.slice p n c)]=some (⟨zeros 32,⟨none,0,0,[]⟩,⟨none,0,0,[]⟩,0,x,⟨p,n,c,R⟩⟩:Kd).cells.toArray:=by kernel_rfl
end Nd
namespace Sm
def rot (n x:Nat):Nat:=(x*2^(32 - n))%4294967296||| x/2^n
def s0 (x:Nat):Nat:=(rot 7 x^^^rot 18 x)^^^x/8
def s1 (x:Nat):Nat:=(rot 17 x^^^rot 19 x)^^^x/1024
def b0 (a:Nat):Nat:=(rot 2 a^^^rot 13 a)^^^rot 22 a
def b1 (e:Nat):Nat:=(rot 6 e^^^rot 11 e)^^^rot 25 e
def ch (e f g:Nat):Nat:=(e&&& f)^^^((4294967295 - e)&&& g)
def mj (a b c:Nat):Nat:=((a&&& b)^^^(a&&& c))^^^(b&&& c)
structure V8 where
 (a b c d e f g h:Nat)
def V8.ok (v:V8):Prop:=v.a<4294967296/\v.b<4294967296/\v.c<4294967296/\v.d<4294967296/\v.e<4294967296/\v.f<4294967296/\v.g<4294967296/\v.h<4294967296
def V8.list (v:V8):List Nat:=[v.a,v.b,v.c,v.d,v.e,v.f,v.g,v.h]
def t1 (k w:Nat) (v:V8):Nat:=(v.h+b1 v.e+ch v.e v.f v.g+k+w)%4294967296
def t2 (v:V8):Nat:=(b0 v.a+mj v.a v.b v.c)%4294967296
def step (k w:Nat) (v:V8):V8:=⟨(t1 k w v+t2 v)%4294967296,v.a,v.b,v.c,(v.d+t1 k w v)%4294967296,v.e,v.f,v.g⟩
def rounds (K W:List Nat) (v:V8):Nat->V8
 | 0=>v
 | n+1=>step (K.getD n 0) (W.getD n 0) (rounds K W v n)
def add8 (v u:V8):V8:=⟨(v.a+u.a)%4294967296,(v.b+u.b)%4294967296,(v.c+u.c)%4294967296,(v.d+u.d)%4294967296,(v.e+u.e)%4294967296,(v.f+u.f)%4294967296,(v.g+u.g)%4294967296,(v.h+u.h)%4294967296⟩
def turn (K W:List Nat) (v:V8):V8:=add8 v (rounds K W v 64)
def word (B:List Nat) (i:Nat):Nat:=B.getD (4*i) 0*16777216+B.getD (4*i+1) 0*65536+B.getD (4*i+2) 0*256+B.getD (4*i+3) 0
def words (B:List Nat):Nat->List Nat
 | 0=>[]
 | n+1=>words B n++[word B n]
def more (l:List Nat):Nat->List Nat
 | 0=>l
 | n+1=>more l n++[((more l n).getD n 0+s0 ((more l n).getD (n+1) 0)+(more l n).getD (n+9) 0+s1 ((more l n).getD (n+14) 0))%4294967296]
def sched (B:List Nat):List Nat:=more (words B 16) 48
def ks:List Nat:=[0x428a2f98,0x71374491,0xb5c0fbcf,0xe9b5dba5,0x3956c25b,0x59f111f1,0x923f82a4,0xab1c5ed5,0xd807aa98,0x12835b01,0x243185be,0x550c7dc3,0x72be5d74,0x80deb1fe,0x9bdc06a7,0xc19bf174,0xe49b69c1,0xefbe4786,0x0fc19dc6,0x240ca1cc,0x2de92c6f,0x4a7484aa,0x5cb0a9dc,0x76f988da,0x983e5152,0xa831c66d,0xb00327c8,0xbf597fc7,0xc6e00bf3,0xd5a79147,0x06ca6351,0x14292967,0x27b70a85,0x2e1b2138,0x4d2c6dfc,0x53380d13,0x650a7354,0x766a0abb,0x81c2c92e,0x92722c85,0xa2bfe8a1,0xa81a664b,0xc24b8b70,0xc76c51a3,0xd192e819,0xd6990624,0xf40e3585,0x106aa070,0x19a4c116,0x1e376c08,0x2748774c,0x34b0bcb5,0x391c0cb3,0x4ed8aa4a,0x5b9cca4f,0x682e6ff3,0x748f82ee,0x78a5636f,0x84c87814,0x8cc70208,0x90befffa,0xa4506ceb,0xbef9a3f7,0xc67178f2]
def first:V8:=⟨0x6a09e667,0xbb67ae85,0x3c6ef372,0xa54ff53a,0x510e527f,0x9b05688c,0x1f83d9ab,0x5be0cd19⟩
def blocks (B:List Nat) (v:V8):Nat->V8
 | 0=>v
 | n+1=>turn ks (sched (B.drop (64*n))) (blocks B v n)
def big (n:Nat) (k:Nat):Nat:=n/2^(8*(7 - k))%256
def bigs (n:Nat):List Nat:=[big n 0,big n 1,big n 2,big n 3,big n 4,big n 5,big n 6,big n 7]
def fill (n:Nat):List Nat:=128::(List.replicate ((119 - n%64)%64) 0++bigs (8*n))
def bytes4 (w:Nat):List Nat:=[w/16777216%256,w/65536%256,w/256%256,w%256]
def bytesOf (v:V8):List Nat:=v.list.flatMap bytes4
def full (T:List Nat):List Nat:=T++fill T.length
def sum (T:List Nat):List Nat:=bytesOf (blocks (full T) first ((full T).length/64))
theorem x1Z {n x:Nat} (h:x<4294967296):rot n x<4294967296:=by
 unfold rot;have A:x/2^n<2^32:=Nat.lt_of_le_of_lt (Nat.div_le_self _ _) (by omega);have B:x*2^(32 - n)%4294967296<2^32:=by have:=Nat.mod_lt (x*2^(32 - n)) (show 0<4294967296 by omega);omega
 have:=Nat.or_lt_two_pow B A;omega
theorem x8R {a b:Nat} (h1:a<4294967296) (h2:b<4294967296):a^^^b<4294967296:=by
 have:=Nat.xor_lt_two_pow (n:=32) (x:=a) (y:=b) (by omega) (by omega);omega
theorem and_lt {a b:Nat} (h2:b<4294967296):a&&& b<4294967296:=by
 have:=Nat.and_lt_two_pow (n:=32) a (y:=b) (by omega);omega
theorem y64 {k w:Nat} {v:V8} (h:v.ok):(step k w v).ok:=by
 obtain ⟨E,C,B,I,H,G,A,J⟩:=h;exact ⟨Nat.mod_lt _ (by omega),E,C,B,Nat.mod_lt _ (by omega),H,G,A⟩
theorem rounds_ok {K W:List Nat} {v:V8} (h:v.ok) (n:Nat):(rounds K W v n).ok:=by
 induction n with
 | zero=>exact h
 | succ n ih=>exact y64 ih
theorem y65 {v u:V8}:(add8 v u).ok:=by
 refine ⟨?_,?_,?_,?_,?_,?_,?_,?_⟩<;>exact Nat.mod_lt _ (by omega)
theorem first_ok:first.ok:=by unfold V8.ok first;decide
theorem blocks_ok {B:List Nat} {v:V8} (h:v.ok) (n:Nat):(blocks B v n).ok:=by
 cases n with
 | zero=>exact h
 | succ n=>exact y65
theorem length_words (B:List Nat) (n:Nat):(words B n).length=n:=by
 induction n with
 | zero=>rfl
 | succ n ih=>simp [words,ih]
theorem length_more (l:List Nat) (n:Nat):(more l n).length=l.length+n:=by
 induction n with
 | zero=>rfl
 | succ n ih=>simp [more,ih];omega
theorem length_sched (B:List Nat):(sched B).length=64:=by simp [sched,length_more,length_words]
def allW (l:List Nat):Prop:=∀x∈l,x<4294967296
theorem y66 {B:List Nat} (h:allB B) (i:Nat):word B i<4294967296:=by
 have G:=getD_lt h (by omega) (4*i);have C:=getD_lt h (by omega) (4*i+1);have A:=getD_lt h (by omega) (4*i+2);have E:=getD_lt h (by omega) (4*i+3);unfold word;omega
theorem words_ok {B:List Nat} (h:allB B) (n:Nat):allW (words B n):=by
 induction n with
 | zero=>intro x A;simp [words] at A
 | succ n ih=>
  intro x A;simp only [words,jP,kZ] at A;rcases A with A | rfl
  ·exact ih x A
  ·exact y66 h n
theorem more_ok {l:List Nat} (h:allW l) (n:Nat):allW (more l n):=by
 induction n with
 | zero=>exact h
 | succ n ih=>
  intro x A;simp only [more,jP,kZ] at A;rcases A with A | rfl
  ·exact ih x A
  ·exact Nat.mod_lt _ (by omega)
theorem sched_ok {B:List Nat} (h:allB B):allW (sched B):=more_ok (words_ok h 16) 48
theorem ks_ok:allW ks:=by unfold allW ks;decide
theorem big_lt (n k:Nat):big n k<256:=Nat.mod_lt _ (by omega)
theorem y67 {e:Nat} (h:e<4294967296):4294967295^^^e=4294967295 - e:=by
 have A:(BitVec.allOnes 32^^^BitVec.ofNat 32 e).toNat=(~~~ BitVec.ofNat 32 e).toNat:=by rw [BitVec.allOnes_xor]
 rw [BitVec.toNat_xor,BitVec.toNat_not,BitVec.toNat_allOnes,BitVec.toNat_ofNat,Nat.mod_eq_of_lt (by omega)] at A;exact A
theorem y68:IntKind.u32.max=4294967295:=by decide
theorem b1_int {e:Nat} (h:e<4294967296):bits .xor .u32 (bits .xor .u32 (rot 6 e:Nat) (rot 11 e:Nat)) (rot 25 e:Nat)=((b1 e:Nat):Int):=by
 rw [u32_xor_nat _ _ (x1Z h) (x1Z h),u32_xor_nat _ _ (x8R (x1Z h) (x1Z h)) (x1Z h)];rfl
theorem b0_int {e:Nat} (h:e<4294967296):bits .xor .u32 (bits .xor .u32 (rot 2 e:Nat) (rot 13 e:Nat)) (rot 22 e:Nat)=((b0 e:Nat):Int):=by
 rw [u32_xor_nat _ _ (x1Z h) (x1Z h),u32_xor_nat _ _ (x8R (x1Z h) (x1Z h)) (x1Z h)];rfl
theorem y7C {e f g:Nat} (he:e<4294967296) (hf:f<4294967296) (hg:g<4294967296):
  bits .xor .u32 (bits .and .u32 (e:Nat) (f:Nat)) (bits .and .u32 (bits .xor .u32 IntKind.u32.max (e:Nat)) (g:Nat))=((ch e f g:Nat):Int):=by
 have A:bits .xor .u32 IntKind.u32.max (e:Nat)=((4294967295 - e:Nat):Int):=by
  rw [y68];have:=u32_xor_nat 4294967295 e (by omega) he;rw [y67 he] at this;exact this
 rw [A,u32_and_nat _ _ he hf,u32_and_nat _ _ (by omega) hg,u32_xor_nat _ _ (and_lt hf) (and_lt hg)];rfl
theorem mj_int {a b c:Nat} (ha:a<4294967296) (hb:b<4294967296) (hc:c<4294967296):
  bits .xor .u32 (bits .xor .u32 (bits .and .u32 (a:Nat) (b:Nat)) (bits .and .u32 (a:Nat) (c:Nat))) (bits .and .u32 (b:Nat) (c:Nat))=((mj a b c:Nat):Int):=by
 rw [u32_and_nat _ _ ha hb,u32_and_nat _ _ ha hc,u32_and_nat _ _ hb hc,u32_xor_nat _ _ (and_lt hb) (and_lt hc),u32_xor_nat _ _ (x8R (and_lt hb) (and_lt hc)) (and_lt hc)];rfl
theorem t1_int {u:V8} (hu:u.ok) (k w:Nat):
  ((u.h:Nat)+bits .xor .u32 (bits .xor .u32 (rot 6 u.e:Nat) (rot 11 u.e:Nat)) (rot 25 u.e:Nat)+bits .xor .u32 (bits .and .u32 (u.e:Nat) (u.f:Nat)) (bits .and .u32 (bits .xor .u32 IntKind.u32.max (u.e:Nat)) (u.g:Nat))+(k:Nat)+(w:Nat))%4294967296=((t1 k w u:Nat):Int):=by
 obtain ⟨J,H,E,G,A,C,B,I⟩:=hu;rw [b1_int A,y7C A C B];unfold t1;omega
theorem t2_int {u:V8} (hu:u.ok):
  (bits .xor .u32 (bits .xor .u32 (rot 2 u.a:Nat) (rot 13 u.a:Nat)) (rot 22 u.a:Nat)+bits .xor .u32 (bits .xor .u32 (bits .and .u32 (u.a:Nat) (u.b:Nat)) (bits .and .u32 (u.a:Nat) (u.c:Nat))) (bits .and .u32 (u.b:Nat) (u.c:Nat)))%4294967296=((t2 u:Nat):Int):=by
 obtain ⟨A,C,B,G,J,I,E,H⟩:=hu;rw [b0_int A,mj_int A C B];unfold t2;omega
theorem y2I {a b n:Nat} (h:b<2^n):a*2^n||| b=a*2^n+b:=by
 have:=Nat.shiftLeft_add_eq_or_of_lt h a;rw [Nat.shiftLeft_eq] at this;exact this.symm
theorem y4A {x0 x1 x2 x3:Nat} (h1:x1<256) (h2:x2<256) (h3:x3<256):((x0*16777216||| x1*65536)||| x2*256)||| x3=x0*16777216+x1*65536+x2*256+x3:=by
 have A:x0*16777216||| x1*65536=x0*16777216+x1*65536:=y2I (n:=24) (by omega)
 have B:(x0*16777216+x1*65536)||| x2*256=x0*16777216+x1*65536+x2*256:=by
  have:=y2I (a:=x0*256+x1) (n:=16) (b:=x2*256) (by omega);rw [show (x0*256+x1)*2^16=x0*16777216+x1*65536 from by omega] at this;exact this
 have C:(x0*16777216+x1*65536+x2*256)||| x3=x0*16777216+x1*65536+x2*256+x3:=by
  have:=y2I (a:=x0*65536+x1*256+x2) (n:=8) (b:=x3) (by omega);rw [show (x0*65536+x1*256+x2)*2^8=x0*16777216+x1*65536+x2*256 from by omega] at this;exact this
 rw [A,B,C]
theorem word_int {x0 x1 x2 x3:Nat} (h0:x0<256) (h1:x1<256) (h2:x2<256) (h3:x3<256):
  bits .or .u32 (bits .or .u32 (bits .or .u32 ((x0:Nat)*16777216) ((x1:Nat)*65536)) ((x2:Nat)*256)) (x3:Nat)=((x0*16777216+x1*65536+x2*256+x3:Nat):Int):=by
 have C:((x0:Nat):Int)*16777216=((x0*16777216:Nat):Int):=by omega
 have E:((x1:Nat):Int)*65536=((x1*65536:Nat):Int):=by omega
 have G:((x2:Nat):Int)*256=((x2*256:Nat):Int):=by omega
 have A:x0*16777216||| x1*65536<4294967296:=by have:=Nat.or_lt_two_pow (n:=32) (x:=x0*16777216) (y:=x1*65536) (by omega) (by omega);omega
 have B:(x0*16777216||| x1*65536)||| x2*256<4294967296:=by have:=Nat.or_lt_two_pow (n:=32) (x:=x0*16777216||| x1*65536) (y:=x2*256) (by omega) (by omega);omega
 rw [C,E,G,u32_or_nat _ _ (by omega) (by omega),u32_or_nat _ _ A (by omega),u32_or_nat _ _ B (by omega),y4A h1 h2 h3]
theorem s0_int {x:Nat} (h:x<4294967296):bits .xor .u32 (bits .xor .u32 (rot 7 x:Nat) (rot 18 x:Nat)) ((x:Nat)/8)=((s0 x:Nat):Int):=by
 have e:((x:Nat):Int)/8=((x/8:Nat):Int):=by omega
 rw [e,u32_xor_nat _ _ (x1Z h) (x1Z h),u32_xor_nat _ _ (x8R (x1Z h) (x1Z h)) (by omega)];rfl
theorem s1_int {x:Nat} (h:x<4294967296):bits .xor .u32 (bits .xor .u32 (rot 17 x:Nat) (rot 19 x:Nat)) ((x:Nat)/1024)=((s1 x:Nat):Int):=by
 have e:((x:Nat):Int)/1024=((x/1024:Nat):Int):=by omega
 rw [e,u32_xor_nat _ _ (x1Z h) (x1Z h),u32_xor_nat _ _ (x8R (x1Z h) (x1Z h)) (by omega)];rfl
end Sm
section
open Go.RowKit
def tpart (t:List Nat):List Nat:=Sm.bigs t.length++t
def pre (tag:Nat) (L:List (List Nat)):List Nat:=tag::L.flatMap tpart
def tot (L:List (List Nat)):Nat:=(pre 0 L).length
theorem x4Y (tag:Nat) (L:List (List Nat)):(pre tag L).length=tot L:=by simp [pre,tot]
theorem x5F (tag:Nat) (L:List (List Nat)) (k:Nat) (h:k<L.length):pre tag (L.take (k+1))=pre tag (L.take k)++tpart (L.getD k []):=by
 rw [x6R L k h];simp [pre]
theorem x2i (t:List Nat):(tpart t).length=8+t.length:=by simp [tpart,Sm.bigs];omega
theorem y05 (L:List (List Nat)) (k:Nat) (h:k<L.length):tot (L.take (k+1))=tot (L.take k)+(8+(L.getD k []).length):=by
 have:=congrArg List.length (x5F 0 L k h);rw [jQ,x2i] at this;exact this
theorem y2J (L:List (List Nat)) (k:Nat):tot L=tot (L.take k)+((L.drop k).flatMap tpart).length:=by
 have h:L.flatMap tpart=(L.take k).flatMap tpart++(L.drop k).flatMap tpart:=by rw [<- List.flatMap_append,List.take_append_drop]
 simp only [tot,pre,kI];rw [h,jQ];omega
theorem x5l (L:List (List Nat)) (k:Nat):tot (L.take k)<=tot L:=by
 have:=y2J L k;omega
theorem x9F (M:List (List Nat)):M.length<=(M.flatMap tpart).length:=by
 induction M with
 | nil=>simp
 | cons t M ih=>rw [List.flatMap_cons,jQ,x2i];simp only [kI];omega
theorem x6m (L:List (List Nat)):L.length<=tot L:=by
 have:=x9F L;simp only [tot,pre,kI];omega
def y7D (w:World) (tag len:Nat) (L:List (List Nat)) (v i:Value) (wr:World):Prop:=
 ∃k:Nat,k<=len/\i= .int .i64 k/\wr.ownsRow w.heap.size 5 1 v (tot (L.take k)) (vals (pre tag (L.take k)))/\Below w.heap.size w wr
theorem y06 (n:Nat):Sm.allB (Sm.bigs n):=by
 have h:∀k,Sm.big n k<256:=fun k=>by unfold Sm.big;exact Nat.mod_lt _ (by omega)
 intro x hx;simp only [Sm.bigs,jW,jV,or_false] at hx;rcases hx with rfl | rfl | rfl | rfl | rfl | rfl | rfl | rfl<;>exact h _
end
theorem y7E (B:List Nat):Sm.allB (Sm.sum B):=by
 intro x A;simp only [Sm.sum,Sm.bytesOf,List.mem_flatMap] at A;obtain ⟨w,_,A⟩:=A;simp only [Sm.bytes4,jW,jV,or_false] at A;rcases A with rfl | rfl | rfl | rfl<;>exact Nat.mod_lt _ (by omega)
namespace Pg
open Go.RowKit
def sumOf (b:List Nat):List Nat:=Sm.sum (pre 80 [b])
theorem x8S (b:List Nat):(sumOf b).length=32:=rfl
theorem x3z (b:List Nat):Sm.allB (sumOf b):=y7E _
abbrev Pages:=List (List Nat×List Nat)
def idx (d:List Nat):Pages->Nat
 |[]=>0
 | x::r=>if x.1=d then 0 else idx d r+1
theorem y5V (d:List Nat):∀W:Pages,idx d W<=W.length
 |[]=>jB _
 | x::r=>by
  rw [idx]
  split
  ·omega
  ·have:=y5V d r;simp;omega
theorem x6n {d:List Nat}:∀ {W:Pages},idx d W<W.length->(W.getD (idx d W) default).1=d
 |[],h=>absurd h (Nat.not_lt_zero _)
 | x::r,h=>by
  rw [idx] at h ⊢
  split
  ·next e=>exact e
  ·next e=>
   rw [if_neg e] at h
   simpa using x6n (W:=r) (by simpa using h)
theorem x2L {d:List Nat}:∀ {W:Pages} {i:Nat},i<idx d W->(W.getD i default).1≠d
 |[],i,h=>absurd h (Nat.not_lt_zero _)
 | x::r,i,h=>by
  rw [idx] at h
  split at h
  ·omega
  ·next e=>
   cases i with
   | zero=>simpa using e
   | succ i=>simpa using x2L (W:=r) (by omega:i<idx d r)
theorem y5W {d:List Nat} {W:Pages} {i:Nat} (hi:i<W.length) (h:(W.getD i default).1=d) (hb:∀j,j<i->(W.getD j default).1≠d):idx d W=i:=by
 rcases Nat.lt_trichotomy (idx d W) i with A | A | A
 ·exact absurd (x6n (Nat.lt_trans A hi)) (hb _ A)
 ·exact A
 ·exact absurd h (x2L A)
def x0J (W:Pages) (d:List Nat):Option (List Nat):=if idx d W<W.length then some (W.getD (idx d W) default).2 else none
structure S where
 W:Pages
 cl:Option (List Nat×List Nat)
def putW (W:Pages) (b:List Nat):Pages:=if idx (sumOf b) W<W.length then W else W++[(sumOf b,b)]
def S.put (s:S) (b:List Nat):S:=
 ⟨putW s.W b,match s.cl with
  | some x=>some x
  | none=>match x0J s.W (sumOf b) with
   | none=>none
   | some t=>if t=b then none else some (t,b)⟩
def keepW (W:Pages) (K:List (List Nat)):Pages:=W.filter (fun x=>decide (x.1∈K))
def S.keep (s:S) (K:List (List Nat)):S:=⟨keepW s.W K,s.cl⟩
structure S.ok (s:S):Prop where
 one:(s.W.map (·.1)).Nodup
 sum:∀x∈s.W,x.1=sumOf x.2
 bytes:∀x∈s.W,Sm.allB x.2
 clash:∀x,s.cl=some x->x.1≠x.2/\sumOf x.1=sumOf x.2
theorem x9G {d:List Nat} {W:Pages}:idx d W<W.length↔d∈W.map (·.1):=by
 constructor
 ·intro h;have A:=x6n h;rw [<- A,jG,jM h,Option.getD_some];exact List.mem_map_of_mem (kM h)
 ·intro h;obtain ⟨x,B,rfl⟩:=kJ.1 h;obtain ⟨i,C,rfl⟩:=List.getElem_of_mem B;rcases Nat.lt_or_ge (idx W[i].1 W) W.length with A | A
  ·exact A
  ·exact absurd (show (W.getD i default).1=W[i].1 from by rw [jG,jM C];rfl) (x2L (by omega))
theorem x25 {W:Pages} {d:List Nat} (h:idx d W<W.length):x0J W d=some (W.getD (idx d W) default).2:=if_pos h
theorem x3j {W:Pages} {d:List Nat} (h:¬idx d W<W.length):x0J W d=none:=if_neg h
theorem S.new_ok:S.ok ⟨[],none⟩:=⟨List.nodup_nil,(fun x hx=>by cases hx),(fun x hx=>by cases hx),fun x hx=>by cases hx⟩
theorem getD_mem {W:Pages} {i:Nat} (h:i<W.length):W.getD i default∈W:=by
 rw [jG,jM h];exact kM h
theorem S.put_ok {s:S} (h:s.ok) {b:List Nat} (hb:Sm.allB b):(s.put b).ok:=by
 refine ⟨?_,?_,?_,?_⟩
 ·show ((putW s.W b).map (·.1)).Nodup
  unfold putW;split
  ·exact h.one
  ·next hn=>
   rw [List.map_append,List.nodup_append];refine ⟨h.one,by simp,fun a ha c hc e=>hn (x9G.2 ?_)⟩;simp only [kB,kC,kZ] at hc;rw [<- hc,<- e];exact ha
 ·intro x A;simp only [S.put,putW] at A;split at A
  ·exact h.sum x A
  ·rcases jP.1 A with A | A
   ·exact h.sum x A
   ·rw [kZ.1 A]
 ·intro x A;simp only [S.put,putW] at A;split at A
  ·exact h.bytes x A
  ·rcases jP.1 A with A | A
   ·exact h.bytes x A
   ·rw [kZ.1 A];exact hb
 ·intro x A;simp only [S.put] at A;split at A
  ·next y hy=>exact h.clash x (by rw [hy];exact A)
  ·split at A
   ·cases A
   ·next t ht=>
    split at A
    ·cases A
    ·next hne=>
     cases A
     refine ⟨hne,?_⟩;unfold x0J at ht;split at ht
     ·next hi=>
      cases ht
      have B:=h.sum _ (getD_mem hi);rw [<- B];exact x6n hi
     ·cases ht
theorem y69 {s:S} {b:List Nat} (hc:(s.put b).cl=none):x0J (s.put b).W (sumOf b)=some b:=by
 simp only [S.put] at hc;split at hc
 ·cases hc
 ·show x0J (putW s.W b) (sumOf b)=some b
  unfold putW;split
  ·next hi=>
   rw [x25 hi] at hc;simp only at hc;split at hc
   ·next e=>rw [x25 hi,e]
   ·cases hc
  ·next hi=>
   have A:idx (sumOf b) (s.W++[(sumOf b,b)])=s.W.length:=y5W (by simp) (by simp) (fun j hj=>by
    rw [jG,kR hj,<- jG];exact x2L (by have:=y5V (sumOf b) s.W;omega))
   rw [x25 (by rw [A];simp),A];simp
end Pg
namespace Nd
open Go.RowKit Pg
def PN.says (n:PN):PK:={n.tally with sum:=sumOf n.bytes}
theorem x7a {α:Type} (f:α->List Nat) (B:Nat):∀L:List α,(∀x∈L,(f x).length<=B)->(L.flatMap f).length<=B*L.length
 |[],_=>by simp
 | x::L,h=>by
  have h1:=h x (by simp)
  have h2:=x7a f B L (fun y hy=>h y (by simp [hy]))
  rw [List.flatMap_cons,jQ,kI,Nat.mul_add]
  omega
theorem x1j {n:PN} (h:n.Fit) (hs:∀k∈n.kids,k.sum.length=32):n.bytes.length<=100000:=by
 have B:=x7a PE.bytes 70 n.rows (fun e he=>by
  have:=h.row e he;unfold PE.bytes;rw [kI,x0Z];omega)
 have A:=x7a PK.bytes 300 n.kids (fun k hk=>x3u (h.kid k hk) (hs k hk));have E:=h.rows;have C:=h.kids;unfold PN.bytes;simp only [kI,jQ];omega
theorem x06 {w:World} {kd:Kd} (h:kd.Ok w):∀r∈kd.rows,r.Ok w:=fun r hr=>by
 simp only [Kd.rows,jW,jV,or_false] at hr
 rcases hr with rfl | rfl | rfl
 ·exact h.lo
 ·exact h.hi
 ·exact h.key
end Nd
namespace Kt
open Go.RowKit Nd
def forkN (p:List Int) (v:Bool) (a b:PK):PN:=⟨1,[⟨p,v⟩],[a,b]⟩
def T.kid:T->PK
 | .nil=>PK.none
 | .fork p v l r=>if (forkN p v l.kid r.kid).size<=1048576 then (forkN p v l.kid r.kid).says else PK.none
end Kt
namespace Nd
open Go.RowKit
def BxN (d:Nat) (x:List Int×List Int):Prop:=rb x.1 x.2=true/\x.1.length=d
theorem x6o {d:Nat} {x:List Int×List Int}:BxN d x↔1<=d/\d<=8/\x.1.length=d/\x.2.length=d/\∀i,i<d->x.1.getD i 0<=x.2.getD i 0:=by
 unfold BxN rb x0g;rw [Bool.and_eq_true,decide_eq_true_eq,x4K];constructor
 ·rintro ⟨⟨C,B⟩,A⟩;subst A;exact ⟨by omega,by omega,rfl,by omega,B⟩
 ·rintro ⟨C,B,A,G,E⟩;rw [A,G];exact ⟨⟨by omega,E⟩,rfl⟩
theorem y2K:rb [] []=false:=rfl
def y07 (d:Nat) (L:List (List Int×List Int)) (b:List Int×List Int):Prop:=
 ((∀x∈L,x=([],[]))/\b=([],[]))\/
 (BxN d b/\(∀x∈L,BxN d x->∀i,i<d->b.1.getD i 0<=x.1.getD i 0/\x.2.getD i 0<=b.2.getD i 0)/\(∃x∈L,BxN d x)/\
  ∀i,i<d->(∃x∈L,BxN d x/\x.1.getD i 0=b.1.getD i 0)/\∃x∈L,BxN d x/\x.2.getD i 0=b.2.getD i 0)
theorem x6p {d:Nat}:¬BxN d ([],[]):=fun h=>by have:=(x6o.1 h);simp at this;omega
theorem x6T {d:Nat} {b:List Int×List Int} (h:BxN d b):hull b ([],[])=b:=by
 unfold hull;rw [if_pos ⟨h.1,y2K⟩]
theorem x7b {d:Nat} {b:List Int×List Int} (h:BxN d b):hull ([],[]) b=b:=by
 unfold hull;rw [if_neg (fun k=>by have:=k.1;rw [y2K] at this;cases this),if_pos ⟨h.1,y2K⟩]
theorem y4B:hull ([],[]) ([],[])=([],[]):=rfl
theorem y4C {d:Nat} {a b:List Int×List Int} (ha:BxN d a) (hb:BxN d b):hull a b=(two min a.1 b.1 d,two max a.2 b.2 d):=by
 unfold hull;rw [if_neg (fun k=>by have:=k.2;rw [hb.1] at this;cases this),if_neg (fun k=>by have:=k.2;rw [ha.1] at this;cases this),if_neg (fun k=>by
  rcases k with k | k
  ·rw [ha.1] at k;cases k
  ·exact k (ha.2.trans hb.2.symm)),ha.2]
theorem y7F {d:Nat} {a b:List Int×List Int} (ha:BxN d a) (_hb:BxN d b):BxN d (two min a.1 b.1 d,two max a.2 b.2 d):=by
 have A:=x6o.1 ha;refine x6o.2 ⟨A.1,A.2.1,x4L _ _ _ _,x4L _ _ _ _,fun i hi=>?_⟩;rw [x3A _ _ _ _ _ hi,x3A _ _ _ _ _ hi];have:=A.2.2.2.2 i hi;omega
theorem y11 {d:Nat} {L:List (List Int×List Int)} {b x:List Int×List Int} (h:y07 d L b) (hx:x=([],[])\/BxN d x):y07 d (L++[x]) (hull b x):=by
 rcases h with ⟨C,rfl⟩ | ⟨C,I,M,J⟩
 ·rcases hx with rfl | hx
  ·refine Or.inl ⟨fun y A=>?_,y4B⟩;rcases jP.1 A with A | A
   ·exact C y A
   ·simpa using A
  ·rw [x7b hx];have E:x∈L++[x]:=by simp
   refine Or.inr ⟨hx,fun y A B i hi=>?_,⟨x,E,hx⟩,fun i hi=>⟨⟨x,E,hx,rfl⟩,⟨x,E,hx,rfl⟩⟩⟩;rcases jP.1 A with A | A
   ·exact absurd (C y A▸B) x6p
   ·obtain rfl:y=x:=by simpa using A
    exact ⟨Int.le_refl _,Int.le_refl _⟩
 ·rcases hx with rfl | hx
  ·rw [x6T C];refine Or.inr ⟨C,fun y A B i hi=>?_,?_,fun i hi=>?_⟩
   ·rcases jP.1 A with A | A
    ·exact I y A B i hi
    ·obtain rfl:y=([],[]):=by simpa using A
     exact absurd B x6p
   ·obtain ⟨y,A,B⟩:=M;exact ⟨y,List.mem_append_left _ A,B⟩
   ·obtain ⟨⟨y,A,B,e⟩,⟨z,H,G,K⟩⟩:=J i hi;exact ⟨⟨y,List.mem_append_left _ A,B,e⟩,⟨z,List.mem_append_left _ H,G,K⟩⟩
  ·rw [y4C C hx];have E:x∈L++[x]:=by simp
   refine Or.inr ⟨y7F C hx,fun y A B i hi=>?_,⟨x,E,hx⟩,fun i hi=>?_⟩
   ·show (two min b.1 x.1 d).getD i 0<=_/\_<=(two max b.2 x.2 d).getD i 0
    rw [x3A _ _ _ _ _ hi,x3A _ _ _ _ _ hi];rcases jP.1 A with A | A
    ·have:=I y A B i hi;omega
    ·obtain rfl:y=x:=by simpa using A
     omega
   ·show (∃y∈L++[x],BxN d y/\y.1.getD i 0=(two min b.1 x.1 d).getD i 0)/\(∃y∈L++[x],BxN d y/\y.2.getD i 0=(two max b.2 x.2 d).getD i 0)
    rw [x3A _ _ _ _ _ hi,x3A _ _ _ _ _ hi];obtain ⟨⟨y,A,B,e⟩,⟨z,H,G,K⟩⟩:=J i hi;constructor
    ·by_cases hc:b.1.getD i 0<=x.1.getD i 0
     ·exact ⟨y,List.mem_append_left _ A,B,by omega⟩
     ·exact ⟨x,E,hx,by omega⟩
    ·by_cases hc:x.2.getD i 0<=b.2.getD i 0
     ·exact ⟨z,List.mem_append_left _ H,G,by omega⟩
     ·exact ⟨x,E,hx,by omega⟩
theorem x6q {d:Nat}:∀(L M:List (List Int×List Int)) (b:List Int×List Int),y07 d M b->(∀x∈L,x=([],[])\/BxN d x)->y07 d (M++L) (L.foldl hull b)
 |[],M,b,h,_=>by rw [kW];exact h
 | x::L,M,b,h,hL=>by
  have:=x6q L (M++[x]) (hull b x) (y11 h (hL x (by simp))) (fun y hy=>hL y (by simp [hy]))
  rw [jR] at this
  exact this
def PN.boxes (n:PN):List (List Int×List Int):=(n.rows.filter PE.live).map (fun e=>(e.row,e.row))++n.kids.map fun k=>(k.lo,k.hi)
theorem x8T:∀(L:List PE) (b:List Int×List Int),L.foldl boxE b=((L.filter PE.live).map fun e=>(e.row,e.row)).foldl hull b
 |[],_=>rfl
 | e::L,b=>by
  rw [List.foldl_cons,x8T L]
  cases he:e.live with
  | true=>rw [List.filter_cons_of_pos he];simp [boxE,he]
  | false=>rw [List.filter_cons_of_neg (by simp [he])];simp [boxE,he]
theorem y12 (n:PN):n.box=n.boxes.foldl hull ([],[]):=by
 unfold PN.box PN.boxes boxR;rw [List.foldl_append,<- x8T,List.foldl_map];rfl
def mkE (A:List Int) (L:List PE) (i:Nat):Bool:=L.any fun e=>e.live&&(e.row.getD i 0==A.getD i 0)
def mkK (f:PK->List Int) (A:List Int) (L:List PK) (i:Nat):Bool:=L.any fun k=> !(k.live==0)&&((f k).getD i 0==A.getD i 0)
theorem x1a {n:PN} {d:Int} (h:n.right d=true):1<=d/\d<=8/\(∀e∈n.rows,(e.row.length:Int)=d)/\∀k∈n.kids,k.right d=true:=by
 unfold PN.right at h;split at h
 ·cases h
 rename_i h1
 split at h
 ·cases h
 rename_i h2
 split at h
 ·cases h
 rename_i h3
 simp only [Bool.not_eq_false,List.all_eq_true] at h2 h3;exact ⟨by omega,by omega,fun e he=>by simpa [PE.long] using h2 e he,h3⟩
theorem x0r {k:PK} {d:Nat} (h:k.right d=true):0<=k.live/\(k.live=0->(k.lo,k.hi)=([],[]))/\(k.live≠0->BxN d (k.lo,k.hi)):=by
 unfold PK.right at h;split at h
 ·rename_i e
  subst e;exact ⟨Int.le_refl _,fun _=>rfl,fun h=>absurd rfl h⟩
 split at h
 ·cases h
 rename_i h1
 split at h
 ·rename_i h2
  simp only [decide_eq_true_eq] at h;exact ⟨by omega,fun _=>by rw [jZ.1 (by omega:k.lo.length=0),jZ.1 (by omega:k.hi.length=0)],fun h=>absurd h2 h⟩
 ·rename_i h2
  refine ⟨by omega,fun h=>absurd h h2,fun _=>?_⟩;have A:=x5d h;have e:k.lo.length=d:=by omega
  refine ⟨?_,e⟩;show x0g k.lo k.hi k.lo.length k.hi.length k.lo.length=true
  rw [e] at h ⊢;exact h
theorem y08 {α:Type} (f:α->Int):∀L:List α,(∀x∈L,0<=f x)->0<=(L.map f).sum
 |[],_=>by simp
 | y::L,h=>by
  have:=h y (by simp)
  have:=y08 f L fun x hx=>h x (by simp [hx])
  rw [kB,List.sum_cons]
  omega
theorem x7c {α:Type} (f:α->Int):∀L:List α,(∀x∈L,0<=f x)->(L.map f).sum=0->∀x∈L,f x=0
 |[],_,_=>by simp
 | y::L,h,h0=>by
  have h1:=h y (by simp)
  have h2:0<=(L.map f).sum:=y08 f L fun x hx=>h x (by simp [hx])
  rw [kB,List.sum_cons] at h0
  have h3:=x7c f L (fun x hx=>h x (by simp [hx])) (by omega)
  intro x hx
  rcases jW.1 hx with rfl | hx
  ·omega
  ·exact h3 x hx
theorem y13 {n:PN} {d:Nat} (h:n.right d=true):
  (n.live=0->n.box=([],[]))/\
  (n.live≠0->n.box.1.length=d/\n.box.2.length=d/\(∀e∈n.rows,e.live=true->hasB n.box.1 n.box.2 e.row d d d=true)/\
   (∀k∈n.kids,k.live≠0->k.lo.length=d/\k.hi.length=d/\hasB n.box.1 n.box.2 k.lo d d d=true/\hasB n.box.1 n.box.2 k.hi d d d=true)/\
   ∀i,i<d->(mkE n.box.1 n.rows i||mkK PK.lo n.box.1 n.kids i)=true/\(mkE n.box.2 n.rows i||mkK PK.hi n.box.2 n.kids i)=true):=by
 obtain ⟨t,u,Z,G⟩:=x1a h;have b:∀e∈n.rows,BxN d (e.row,e.row):=fun e C=>by
  have hl:e.row.length=d:=by have:=Z e C;omega
  exact x6o.2 ⟨by omega,by omega,hl,hl,fun i _=>Int.le_refl _⟩
 have X:∀x∈n.boxes,x=([],[])\/BxN d x:=fun x B=>by
  rcases jP.1 B with B | B
  ·obtain ⟨e,C,rfl⟩:=kJ.1 B;exact Or.inr (b e (List.mem_filter.1 C).1)
  ·obtain ⟨k,A,rfl⟩:=kJ.1 B;have R:=x0r (G k A);by_cases hl:k.live=0
   ·exact Or.inl (R.2.1 hl)
   ·exact Or.inr (R.2.2 hl)
 have H:=x6q n.boxes [] ([],[]) (d:=d) (Or.inl ⟨(fun x B=>by cases B),rfl⟩) X;rw [kV,<- y12] at H;have J:∀e∈n.rows,e.live=true->(e.row,e.row)∈n.boxes:=fun e C hl=>List.mem_append_left _ (kJ.2 ⟨e,List.mem_filter.2 ⟨C,hl⟩,rfl⟩);have K:∀k∈n.kids,(k.lo,k.hi)∈n.boxes:=fun k G=>List.mem_append_right _ (kJ.2 ⟨k,G,rfl⟩);have f:0<=liveR n.rows:=(x4X n.rows).1;have q:0<=(n.kids.map PK.live).sum:=y08 PK.live n.kids fun k A=>(x0r (G k A)).1;constructor
 ·intro h0;unfold PN.live at h0;have s:=x7c PK.live n.kids (fun k A=>(x0r (G k A)).1) (by omega);have g:=x7c (fun e:PE=>if e.live then (1:Int) else 0) n.rows (fun e _=>by split<;>omega) (by unfold liveR at h0 f;omega);rcases H with H | H
  ·exact H.2
  ·obtain ⟨x,B,N⟩:=H.2.2.1;rcases jP.1 B with B | B
   ·obtain ⟨e,C,rfl⟩:=kJ.1 B;have I:=List.mem_filter.1 C;have:=g e I.1;rw [if_pos I.2] at this;omega
   ·obtain ⟨k,A,rfl⟩:=kJ.1 B;rw [(x0r (G k A)).2.1 (s k A)] at N;exact absurd N x6p
 ·intro h0;have j:∃x∈n.boxes,BxN d x:=by
   apply Classical.byContradiction;intro hno;apply h0;unfold PN.live;have v:liveR n.rows=0:=by
    unfold liveR;have:n.rows.map (fun e:PE=>if e.live then (1:Int) else 0)=n.rows.map fun _=>0:=List.map_congr_left fun e C=>by
     split
     ·rename_i hl
      exact absurd ⟨_,J e C hl,b e C⟩ hno
     ·rfl
    rw [this]
    induction n.rows with
    | nil=>rfl
    | cons a l ih=>rw [kB,List.sum_cons,ih];rfl
   have p:(n.kids.map PK.live).sum=0:=by
    have:n.kids.map PK.live=n.kids.map fun _=>(0:Int):=List.map_congr_left fun k A=>by
     apply Classical.byContradiction;intro hl;exact hno ⟨_,K k A,(x0r (G k A)).2.2 hl⟩
    rw [this]
    induction n.kids with
    | nil=>rfl
    | cons a l ih=>rw [kB,List.sum_cons,ih];rfl
   rw [v,p];rfl
  rcases H with H | ⟨N,U,-,c⟩
  ·obtain ⟨x,B,N⟩:=j;exact absurd (H.1 x B▸N) x6p
  have M:=x6o.1 N;have L:∀r:List Int,(∀i,i<d->n.box.1.getD i 0<=r.getD i 0/\r.getD i 0<=n.box.2.getD i 0)->hasB n.box.1 n.box.2 r d d d=true:=fun r Z=>by
   unfold hasB x0g;rw [Bool.and_eq_true,Bool.and_eq_true,Bool.and_eq_true,decide_eq_true_eq,x4K,x4K,x4K];exact ⟨⟨by omega,M.2.2.2.2⟩,fun i hi=>(Z i hi).1,fun i hi=>(Z i hi).2⟩
  refine ⟨M.2.2.1,M.2.2.2.1,fun e C hl=>L _ fun i hi=>U _ (J e C hl) (b e C) i hi,fun k A hl=>?_,fun i hi=>?_⟩
  ·have P:=(x0r (G k A)).2.2 hl;have E:=x6o.1 P;have Y:=U _ (K k A) P;refine ⟨E.2.2.1,E.2.2.2.1,L _ fun i hi=>⟨(Y i hi).1,?_⟩,L _ fun i hi=>⟨?_,(Y i hi).2⟩⟩
   ·exact Int.le_trans (E.2.2.2.2 i hi) (Y i hi).2
   ·exact Int.le_trans (Y i hi).1 (E.2.2.2.2 i hi)
  ·obtain ⟨⟨x,B,O,o⟩,⟨y,W,Q,m⟩⟩:=c i hi;rw [Bool.or_eq_true,Bool.or_eq_true];constructor
   ·rcases jP.1 B with B | B
    ·obtain ⟨e,C,rfl⟩:=kJ.1 B;have I:=List.mem_filter.1 C;exact Or.inl (List.any_eq_true.2 ⟨e,I.1,by rw [Bool.and_eq_true,beq_iff_eq];exact ⟨I.2,o⟩⟩)
    ·obtain ⟨k,A,rfl⟩:=kJ.1 B;refine Or.inr (List.any_eq_true.2 ⟨k,A,?_⟩);rw [Bool.and_eq_true,beq_iff_eq];refine ⟨?_,o⟩;by_cases hl:k.live=0
     ·rw [(x0r (G k A)).2.1 hl] at O;exact absurd O x6p
     ·simp [hl]
   ·rcases jP.1 W with W | W
    ·obtain ⟨e,C,rfl⟩:=kJ.1 W;have I:=List.mem_filter.1 C;exact Or.inl (List.any_eq_true.2 ⟨e,I.1,by rw [Bool.and_eq_true,beq_iff_eq];exact ⟨I.2,m⟩⟩)
    ·obtain ⟨k,A,rfl⟩:=kJ.1 W;refine Or.inr (List.any_eq_true.2 ⟨k,A,?_⟩);rw [Bool.and_eq_true,beq_iff_eq];refine ⟨?_,m⟩;by_cases hl:k.live=0
     ·rw [(x0r (G k A)).2.1 hl] at Q;exact absurd Q x6p
     ·simp [hl]
end Nd
namespace Kt
open Go.RowKit Nd
theorem y09 {k:PK} {d:Int} (h:k.right d=true):k.live<=k.size:=by
 unfold PK.right at h;split at h
 ·rename_i e
  rw [e];exact Int.le_refl _
 ·split at h
  ·cases h
  ·omega
theorem y0A {α:Type} (f g:α->Int):∀L:List α,(∀x∈L,f x<=g x)->(L.map f).sum<=(L.map g).sum
 |[],_=>Int.le_refl _
 | x::L,h=>by
  have h1:=h x (by simp)
  have h2:=y0A f g L fun y hy=>h y (by simp [hy])
  simp only [kB,List.sum_cons]
  omega
theorem x2M {n:PN} {d:Nat} (h:n.right d=true) (h1:1<=n.size) (hz:n.size<=1048576):n.says.right d=true:=by
 obtain ⟨N,P,H,J⟩:=x1a h;have E:=y13 h;have K:0<=n.live/\n.live<=n.size:=by
  unfold PN.live PN.size;have W:=x4X n.rows;have X:=y08 PK.live n.kids fun k hk'=>(x0r (J k hk')).1;have U:=y0A PK.live PK.size n.kids fun k hk'=>y09 (J k hk');omega
 unfold PK.right;by_cases G:n.says=PK.none
 ·rw [if_pos G]
 have R:¬(n.says.size<1\/1048576<n.says.size\/n.says.live<0\/n.says.size<n.says.live):=by
  show ¬(n.size<1\/1048576<n.size\/n.live<0\/n.size<n.live)
  omega
 rw [if_neg G,if_neg R];by_cases hl:n.live=0
 ·rw [if_pos (show n.says.live=0 from hl)];have:=E.1 hl;show decide (n.box.1.length+n.box.2.length=0)=true
  rw [this];rfl
 ·rw [if_neg (show ¬n.says.live=0 from hl)];obtain ⟨b1,Q,L,M,O⟩:=E.2 hl;show x0g n.box.1 n.box.2 n.box.1.length n.box.2.length d=true
  rw [b1,Q];have A:=(O 0 (by omega)).1;rw [Bool.or_eq_true] at A;have B:∀r:List Int,hasB n.box.1 n.box.2 r d d d=true->x0g n.box.1 n.box.2 d d d=true:=fun r H=>by
   unfold hasB at H;rw [Bool.and_eq_true] at H;exact H.1
  rcases A with A | A
  ·obtain ⟨e,G,C⟩:=List.any_eq_true.1 A;rw [Bool.and_eq_true] at C;exact B _ (L e G C.1)
  ·obtain ⟨k,I,C⟩:=List.any_eq_true.1 A;rw [Bool.and_eq_true] at C;exact B _ (M k I (by simpa using C.1)).2.2.1
theorem x1b {d:Nat} {p:List Int} {v:Bool} {a b:PK} (hd:1<=d/\d<=8) (hp:p.length=d) (ha:a.right d=true) (hb:b.right d=true) (ka:a.key=[]) (kb:b.key=[]):(forkN p v a b).right d=true:=by
 unfold PN.right forkN;rw [if_neg (by omega),if_neg (by simp [PE.long,hp]),if_neg (by simp [ha,hb]),if_pos rfl,if_pos ⟨rfl,rfl⟩];simp [PK.keyless,ka,kb]
theorem x1V {d:Nat} (hd:1<=d/\d<=8):∀u:T,u.dims d->u.kid.right d=true/\u.kid.key=[]
 | .nil,_=>⟨rfl,rfl⟩
 | .fork p v l r,h=>by
  have hl:=x1V hd l h.2.1
  have hr:=x1V hd r h.2.2
  have hf:=x1b (v:=v) hd h.1 hl.1 hr.1 hl.2 hr.2
  unfold T.kid
  split
  ·rename_i hz
   refine ⟨x2M hf ?_ hz,rfl⟩
   show (1:Int)<=((1:Nat):Int)+(l.kid.size+(r.kid.size+0))
   have h1:=x0r hl.1
   have h2:=x0r hr.1
   have h3:=y09 hl.1
   have h4:=y09 hr.1
   omega
  ·exact ⟨rfl,rfl⟩
end Kt
namespace Nd
open Go.RowKit
theorem y2L (q1 q2 q3:Option Addr) (m1 c1 m2 c2 m3 c3:Nat) (x y:Int) (q1' q2' q3':Option Addr) (m1' c1' m2' c2' m3' c3':Nat) (x' y':Int):∀(D F:List Nat),D.length=32->F.length=32->Instr.fill (fun i=>some (i*37,37)) ((Array.range (2*37)).map ((Value.agg kd0.cells.toArray).cells[·%(Value.agg kd0.cells.toArray).cells.size]!)) [(0,.agg (vals D++[Value.slice q1 m1 c1,.slice q2 m2 c2,.int .i64 x,.int .i64 y,.slice q3 m3 c3]).toArray),(1,.agg (vals F++[Value.slice q1' m1' c1',.slice q2' m2' c2',.int .i64 x',.int .i64 y',.slice q3' m3' c3']).toArray)]=some ((vals D++[Value.slice q1 m1 c1,.slice q2 m2 c2,.int .i64 x,.int .i64 y,.slice q3 m3 c3])++(vals F++[Value.slice q1' m1' c1',.slice q2' m2' c2',.int .i64 x',.int .i64 y',.slice q3' m3' c3'])).toArray
 |[a0,a1,a2,a3,a4,a5,a6,a7,a8,a9,a10,a11,a12,a13,a14,a15,a16,a17,a18,a19,a20,a21,a22,a23,a24,a25,a26,a27,a28,a29,a30,a31],[b0,b1,b2,b3,b4,b5,b6,b7,b8,b9,b10,b11,b12,b13,b14,b15,b16,b17,b18,b19,b20,b21,b22,b23,b24,b25,b26,b27,b28,b29,b30,b31],_,_=>by kernel_rfl
theorem x2N {w:World} {o:Oper} {a:Act} {K:Act->World->Prop} {Q:Exit->Act->World->Prop} (x y:Operand) (ho:o.op= .buildSlice 95 2 #[(0,x),(1,y)]) {k l:Kd} (hk:k.sum.length=32) (hl:l.sum.length=32) (hx:a.eval x= .agg k.cells.toArray) (hy:a.eval y= .agg l.cells.toArray)
  (h:K (a.put o.dst (.slice (some ⟨w.heap.size,0,none⟩) 2 2)) (w.alloc (.cells (k.cells++l.cells).toArray 34))):o.wp Tryz.prog a w K Q:=by
 obtain ⟨i,C,B,A,E⟩:=info_parts IKd;refine wp_buildSlice 95 34 2 #[(0,x),(1,y)] ho (k.cells++l.cells).toArray i _ UKs C B (by rw [A];omega) (by rw [A];omega) ?_ h;rw [A];simp only [kA,kB,kC,hx,hy];exact y2L _ _ _ _ _ _ _ _ _ _ _ _ _ _ _ _ _ _ _ _ _ _ k.sum l.sum hk hl
theorem x5m {w:World} {ops:Array Oper} {rest:List Oper} {o:Oper} {a:Act} {Q:Exit->Act->World->Prop} (hw:Region.wanted o (yielded ops a.tmps)=true) (x y:Operand) (ho:o.op= .buildSlice 95 2 #[(0,x),(1,y)]) {k l:Kd} (hk:k.sum.length=32) (hl:l.sum.length=32) (hx:a.eval x= .agg k.cells.toArray) (hy:a.eval y= .agg l.cells.toArray)
  (h:wpList Tryz.prog ops Q rest (a.put o.dst (.slice (some ⟨w.heap.size,0,none⟩) 2 2)) (w.alloc (.cells (k.cells++l.cells).toArray 34))):wpList Tryz.prog ops Q (o::rest) a w:=
 BigFrame.wpList_want hw fun _ hK=>x2N x y ho hk hl hx hy (hK _ _ h)
theorem y0B {w:World} {g:Nat} {a b:Kd} {t:TypeId} (h:w.heap[g]? =some (.cells (a.cells++b.cells).toArray t (0,0))) (ha:a.Ok w) (hb:b.Ok w):KidsIn w (some ⟨g,0,none⟩) 2 2 [a,b]:=by
 have C:=Kd.cells_length ha.len;refine ⟨rfl,jB _,by omega,fun k hk=>?_,Or.inr ⟨g,0,rfl,fun i hi=>?_⟩⟩
 ·simp only [jW,jV,or_false] at hk;rcases hk with rfl | rfl
  ·exact ha
  ·exact hb
 ·have B:i=0\/i=1:=by simp at hi;omega
  intro j v hv;rcases B with rfl | rfl
  ·have A:a.cells[j]? =some v:=hv;rw [jH w g _ _ _ _ h];have E:=(List.getElem?_eq_some_iff.1 A).1;simp only [Nat.zero_mul,Nat.zero_add,List.getElem?_toArray];rw [kR E];exact A
  ·have A:b.cells[j]? =some v:=hv;rw [jH w g _ _ _ _ h];simp only [Nat.one_mul,Nat.zero_add,List.getElem?_toArray];rw [kS (by omega),C,Nat.add_sub_cancel_left];exact A
end Nd
end Go.Proofs.YtenenciaggbjnaaGreat
