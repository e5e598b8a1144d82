/- NdTally, ShaMath, ShaPreMath, ShaSumOk, PgMath, NdSays, KtKid. -/
import Derived.Deep.AppendLies
import Derived.Laws.AppendOwnNone
import Derived.Test.YtinihaflmdihaaaGreatW1
import Derived.Test.YtinihaflmdihaaaGreatW2
import Derived.Test.YtinihaflmdihaaaGreatW3
import Derived.Test.YtinihaflmdihaaaGreatW9
set_option maxRecDepth 100000
set_option maxHeartbeats 8000000
set_option linter.unusedVariables false
set_option linter.unusedSimpArgs false
namespace Go.Proofs.YtinihaflmdihaaaGreat.Nd
open Go.RowKit Go.Proofs.YtinihaflmdihaaaGreat.Dk
open List renaming setIfInBounds_toArray → sA, set_cons_zero → sZ, set_cons_succ → sS
def boxE (b:List Int×List Int) (e:PE):List Int×List Int:=if e.live then hull b (e.row,e.row) else b
def boxK (b:List Int×List Int) (k:PK):List Int×List Int:=hull b (k.lo,k.hi)
def boxR (L:List PE):List Int×List Int:=L.foldl boxE ([],[])
def liveR (L:List PE):Int:=(L.map fun e=>if e.live then (1:Int) else 0).sum
def PN.box (n:PN):List Int×List Int:=n.kids.foldl boxK (boxR n.rows)
def PN.live (n:PN):Int:=liveR n.rows+(n.kids.map PK.live).sum
def PN.size (n:PN):Int:=n.rows.length+(n.kids.map PK.size).sum
def PN.tally (n:PN):PK:=⟨zeros 32,n.box.1,n.box.2,n.live,n.size,n.keyOf⟩
theorem take_fold {α β:Type} [Inhabited α] (f:β→α→β) (b:β) (L:List α) (k:Nat) (h:k<L.length):(L.take (k+1)).foldl f b=f ((L.take k).foldl f b) (L.getD k default):=by
 rw [List.take_succ_eq_append_getElem h,List.foldl_append,List.getD_eq_getElem?_getD,List.getElem?_eq_getElem h]
 rfl
theorem take_sum {α:Type} [Inhabited α] (f:α→Int) (L:List α) (k:Nat) (h:k<L.length):((L.take (k+1)).map f).sum=((L.take k).map f).sum+f (L.getD k default):=by
 rw [List.take_succ_eq_append_getElem h,List.map_append,List.sum_append,List.getD_eq_getElem?_getD,List.getElem?_eq_getElem h]
 simp
theorem map_getD {α β:Type} [Inhabited α] [Inhabited β] (g:α→β) (L:List α) (k:Nat) (h:k<L.length):(L.map g).getD k default=g (L.getD k default):=by
 rw [List.getD_eq_getElem?_getD,List.getD_eq_getElem?_getD,List.getElem?_map,List.getElem?_eq_getElem h]
 rfl
instance:Inhabited PE:=⟨⟨[],false⟩⟩
instance:Inhabited PK:=⟨PK.none⟩
theorem sum_le {α:Type} (f:α→Int) (B:Int):∀L:List α,(∀x∈L,0≤f x∧f x≤B)→0≤(L.map f).sum∧(L.map f).sum≤B*L.length
 |[],_=>by simp
 | x::L,h=>by
  have h1:=h x (by simp)
  have h2:=sum_le f B L (fun y hy=>h y (by simp [hy]))
  simp only [List.map_cons,List.sum_cons,List.length_cons,Int.natCast_add,Int.natCast_one,Int.mul_add,Int.mul_one]
  omega
theorem live_le (L:List PE):0≤liveR L∧liveR L≤L.length:=by
 have:=sum_le (fun e:PE=>if e.live then (1:Int) else 0) 1 L (fun e _=>by split<;>omega)
 unfold liveR
 omega
def Away (X:Nat) (r:Rw):Prop:=∀x,r.p=some x→r.R≠[]→x.block≠X
theorem FrRw.away {w:World} {base X:Nat} {r:Rw} (h:FrRw w base r) (hX:X<base):Away X r:=fun x hx hR=>by have:=h.lo x hx hR;omega
theorem away_nil (X:Nat) {r:Rw} (h:r.R=[]):Away X r:=fun _ _ hR=>absurd h hR
structure TaSt (w0 w:World) (gn kind:Nat) (p:Option Addr) (n c:Nat) (q:Option Addr) (m f gr gx:Nat) (kd:Kd):Prop where
 node:NodeAt w gn kind p n c q m f
 res:w.heap[gr]? =some (.cells kd0.cells.toArray 34 (0,0))
 row:w.heap[gx]? =some (.cells kd.cells.toArray 34 (0,0))
 ok:kd.Ok w
 away:∀r∈kd.rows,Away gx r∧Away gr r
 low:Below w0.heap.size w0 w
 ge:w0.heap.size≤gn∧w0.heap.size≤gr∧w0.heap.size≤gx
 ne:gn≠gx∧gr≠gx∧gn≠gr
section
variable {w0 w w':World} {gn kind:Nat} {p:Option Addr} {n c:Nat} {q:Option Addr} {m f gr gx:Nat} {kd kd':Kd}
theorem TaSt.later (h:TaSt w0 w gn kind p n c q m f gr gx kd) (hb:Below w.heap.size w w'):TaSt w0 w' gn kind p n c q m f gr gx kd:=
 ⟨h.node.later hb,(hb.block _ (Array.getElem?_eq_some_iff.1 h.res).1).trans h.res,(hb.block _ (Array.getElem?_eq_some_iff.1 h.row).1).trans h.row,h.ok.later hb,h.away,h.low.trans (hb.mono h.low.size),h.ge,h.ne⟩
theorem TaSt.cell (h:TaSt w0 w gn kind p n c q m f gr gx kd):KAt w gx 0 kd:=kat_row h.row h.ok.len
theorem TaSt.turn (h:TaSt w0 w gn kind p n c q m f gr gx kd) (hrow:w'.heap[gx]? =some (.cells kd'.cells.toArray 34 (0,0))) (ho:Only (fun j=>j=gx) w w') (hs:kd'.sum=kd.sum) (hr:∀r∈kd'.rows,r.Ok w∧Away gx r∧Away gr r) (hl:In64 kd'.live) (hz:In64 kd'.size):TaSt w0 w' gn kind p n c q m f gr gx kd':=by
 have key:∀r:Rw,r.Ok w∧Away gx r∧Away gr r→r.Ok w':=fun r hr=>rw_keep hr.1 fun x hx hR=>ho.block _ (by
  rcases hr.1.ints.at' with h0 | ⟨g,o,hp,hc⟩
  ·exact absurd h0 hR
  ·rw [hx] at hp
   obtain rfl:x=⟨g,o,Option.none⟩:=by simpa using hp
   have:=hc 0 (List.length_pos_iff.2 hR)
   exact block_lt_of_cell this) (hr.2.1 x hx hR)
 refine ⟨⟨(ho.block _ (Array.getElem?_eq_some_iff.1 h.node.row).1 h.ne.1).trans h.node.row⟩,(ho.block _ (Array.getElem?_eq_some_iff.1 h.res).1 h.ne.2.1).trans h.res,hrow,⟨by rw [hs];exact h.ok.len,by rw [hs];exact h.ok.ok,key _ (hr _ (by simp [Kd.rows])),key _ (hr _ (by simp [Kd.rows])),key _ (hr _ (by simp [Kd.rows])),hl,hz⟩,fun r hm=>(hr r hm).2,h.low.trans (ho.below (by have:=h.low.size;omega) (fun j e=>by rw [e];exact h.ge.2.2)),h.ge,h.ne⟩
theorem TaSt.rows (h:TaSt w0 w gn kind p n c q m f gr gx kd):∀r∈kd.rows,r.Ok w∧Away gx r∧Away gr r:=fun r hr=>by
 refine ⟨?_,h.away r hr⟩
 simp only [Kd.rows,List.mem_cons,List.not_mem_nil,or_false] at hr
 rcases hr with rfl | rfl | rfl
 ·exact h.ok.lo
 ·exact h.ok.hi
 ·exact h.ok.key
theorem TaSt.setLive (h:TaSt w0 w gn kind p n c q m f gr gx kd) (x:Int) (hx:In64 x):TaSt w0 (w.setCell ⟨gx,34,none⟩ (.int .i64 x)) gn kind p n c q m f gr gx {kd with live:=x}:=by
 have r:=heap_setCell_same w gx 34 _ _ (.int .i64 x) h.row
 rw [kd_set_live h.ok.len] at r
 exact h.turn r (Only.setCell (P:=fun j=>j=gx) _ (a:=⟨gx,34,none⟩) rfl _) rfl h.rows hx h.ok.size
theorem TaSt.setSize (h:TaSt w0 w gn kind p n c q m f gr gx kd) (x:Int) (hx:In64 x):TaSt w0 (w.setCell ⟨gx,35,none⟩ (.int .i64 x)) gn kind p n c q m f gr gx {kd with size:=x}:=by
 have r:=heap_setCell_same w gx 35 _ _ (.int .i64 x) h.row
 rw [kd_set_size h.ok.len] at r
 exact h.turn r (Only.setCell (P:=fun j=>j=gx) _ (a:=⟨gx,35,none⟩) rfl _) rfl h.rows h.ok.live hx
theorem kd_box {w:World} {g:Nat} {k:Kd} {r1 r2:Rw} (h:w.heap[g]? =some (.cells k.cells.toArray 34 (0,0))) (hl:k.sum.length=32):(w.setCells g 32 [r1.val,r2.val]).heap[g]? =some (.cells ({k with lo:=r1,hi:=r2}:Kd).cells.toArray 34 (0,0)):=by
 have:=heap_setCells_same g 34 [r1.val,r2.val] (vals k.sum) [k.lo.val,k.hi.val] [.int .i64 k.live,.int .i64 k.size,k.key.val] w (by simpa [Kd.cells] using h) rfl
 rw [vals_length,hl] at this
 simpa [Kd.cells] using this
theorem kd_there2 {w:World} {g:Nat} {k:Kd} (h:w.heap[g]? =some (.cells k.cells.toArray 34 (0,0))) (hl:k.sum.length=32) (r1 r2:Rw):w.there g 32 (#[r1.val,r2.val]:Array Value).size:=fun j hj=>by
 refine ⟨?_,frozen_of_row w g _ _ _ h⟩
 have hj:j<2:=hj
 rw [cell_of_row w g _ _ _ _ h]
 rw [Array.getElem?_eq_getElem (by rw [List.size_toArray,Kd.cells_length hl];omega)]
 rfl
theorem TaSt.setBox (h:TaSt w0 w gn kind p n c q m f gr gx kd) {r1 r2:Rw} (h1:r1.Ok w∧Away gx r1∧Away gr r1) (h2:r2.Ok w∧Away gx r2∧Away gr r2):TaSt w0 (w.setCells gx 32 [r1.val,r2.val]) gn kind p n c q m f gr gx {kd with lo:=r1,hi:=r2}:=by
 refine h.turn (kd_box h.row h.ok.len) (only_cells _ _ _ _) rfl (fun r hr=>?_) h.ok.live h.ok.size
 simp only [Kd.rows,List.mem_cons,List.not_mem_nil,or_false] at hr
 rcases hr with rfl | rfl | rfl
 ·exact h1
 ·exact h2
 ·exact h.rows _ (by simp [Kd.rows])
end
theorem kdN_len (x:Int) (r:Rw):(⟨zeros 32,⟨none,0,0,[]⟩,⟨none,0,0,[]⟩,0,x,r⟩:Kd).cells.length=37:=Kd.cells_length (by simp [zeros])
section
variable {w0 w w':World} {gn kind:Nat} {p:Option Addr} {n c:Nat} {q:Option Addr} {m f gr gx:Nat}
theorem ta_start {r:Rw} {x:Int} {O:Array Value} (hn:NodeAt w gn kind p n c q m f) (hr:w.heap[gr]? =some (.cells kd0.cells.toArray 34 (0,0))) (hx:w.heap[gx]? =some (.cells O 34 (0,0))) (hro:r.Ok w∧Away gx r∧Away gr r) (hl:Below w0.heap.size w0 w) (ge:w0.heap.size≤gn∧w0.heap.size≤gr∧w0.heap.size≤gx) (ne:gn≠gx∧gr≠gx∧gn≠gr) (h64:In64 x):
  TaSt w0 (w.setRow gx (⟨zeros 32,⟨none,0,0,[]⟩,⟨none,0,0,[]⟩,0,x,r⟩:Kd).cells.toArray) gn kind p n c q m f gr gx ⟨zeros 32,⟨none,0,0,[]⟩,⟨none,0,0,[]⟩,0,x,r⟩:=by
 have hb:Below gx w (w.setRow gx (⟨zeros 32,⟨none,0,0,[]⟩,⟨none,0,0,[]⟩,0,x,r⟩:Kd).cells.toArray):=Below.setRow (Below.refl _ _) (Nat.le_refl _) _
 refine ⟨⟨(setRow_other _ _ _ _ ne.1).trans hn.row⟩,(setRow_other _ _ _ _ ne.2.1).trans hr,setRow_heap _ _ _ _ _ _ hx,⟨by simp [zeros],zeros_ok 32,rw0_ok _,rw0_ok _,rw_keep hro.1 (fun y hy hR=>setRow_other _ _ _ _ (hro.2.1 y hy hR)),⟨by show -9223372036854775808≤(0:Int);omega,by show (0:Int)≤9223372036854775807;omega⟩,h64⟩,fun r' hr'=>?_,hl.trans (hb.mono ge.2.2),ge,ne⟩
 simp only [Kd.rows,List.mem_cons,List.not_mem_nil,or_false] at hr'
 rcases hr' with rfl | rfl | rfl
 ·exact ⟨away_nil _ rfl,away_nil _ rfl⟩
 ·exact ⟨away_nil _ rfl,away_nil _ rfl⟩
 ·exact hro.2
theorem IBx:(Tryz.prog.info? 32).map (·.size)=some 2:=by kernel_rfl
theorem box_one (r1 r2:Rw):(#[r1.val,r2.val]:Array Value).all (·.oneCell')=true:=by
 simp [Rw.val,Value.oneCell']
end
theorem op_buildN {P:Program} {ρ:Operand→Value} {o:Oper} {t:TypeId} {parts:Array (Nat×Operand)} {cells:Array Value} (ho:o.op= .build t parts) (h:P.built t (parts.map fun (i,x)=>(i,ρ x)).toList=some cells) (w:World):
  (execOp ρ o).run P w= .ok (.value (.agg cells)) w:=by
 unfold execOp
 simp only [ho,Sem.run_bind,run_build w t _ cells h,Result.andThen_ok,Sem.run_pure]
theorem kd_built (x:Int) (p:Option Addr) (n c:Nat) (R:List Int):Tryz.prog.built 34 [(3,.int .i64 x),(4,.slice p n c)]=some (⟨zeros 32,⟨none,0,0,[]⟩,⟨none,0,0,[]⟩,0,x,⟨p,n,c,R⟩⟩:Kd).cells.toArray:=by kernel_rfl
end Go.Proofs.YtinihaflmdihaaaGreat.Nd
namespace Go.Proofs.YtinihaflmdihaaaGreat.Sm
open List renaming setIfInBounds_toArray → sA, set_cons_zero → sZ, set_cons_succ → sS
def rot (n x:Nat):Nat:=(x*2^(32 - n))%4294967296||| x/2^n
def s0 (x:Nat):Nat:=(rot 7 x^^^rot 18 x)^^^x/8
def s1 (x:Nat):Nat:=(rot 17 x^^^rot 19 x)^^^x/1024
def b0 (a:Nat):Nat:=(rot 2 a^^^rot 13 a)^^^rot 22 a
def b1 (e:Nat):Nat:=(rot 6 e^^^rot 11 e)^^^rot 25 e
def ch (e f g:Nat):Nat:=(e&&& f)^^^((4294967295 - e)&&& g)
def mj (a b c:Nat):Nat:=((a&&& b)^^^(a&&& c))^^^(b&&& c)
structure V8 where
 (a b c d e f g h:Nat)
def V8.ok (v:V8):Prop:=v.a<4294967296∧v.b<4294967296∧v.c<4294967296∧v.d<4294967296∧v.e<4294967296∧v.f<4294967296∧v.g<4294967296∧v.h<4294967296
def V8.list (v:V8):List Nat:=[v.a,v.b,v.c,v.d,v.e,v.f,v.g,v.h]
def t1 (k w:Nat) (v:V8):Nat:=(v.h+b1 v.e+ch v.e v.f v.g+k+w)%4294967296
def t2 (v:V8):Nat:=(b0 v.a+mj v.a v.b v.c)%4294967296
def step (k w:Nat) (v:V8):V8:=⟨(t1 k w v+t2 v)%4294967296,v.a,v.b,v.c,(v.d+t1 k w v)%4294967296,v.e,v.f,v.g⟩
def rounds (K W:List Nat) (v:V8):Nat→V8
 | 0=>v
 | n+1=>step (K.getD n 0) (W.getD n 0) (rounds K W v n)
def add8 (v u:V8):V8:=⟨(v.a+u.a)%4294967296,(v.b+u.b)%4294967296,(v.c+u.c)%4294967296,(v.d+u.d)%4294967296,(v.e+u.e)%4294967296,(v.f+u.f)%4294967296,(v.g+u.g)%4294967296,(v.h+u.h)%4294967296⟩
def turn (K W:List Nat) (v:V8):V8:=add8 v (rounds K W v 64)
def word (B:List Nat) (i:Nat):Nat:=B.getD (4*i) 0*16777216+B.getD (4*i+1) 0*65536+B.getD (4*i+2) 0*256+B.getD (4*i+3) 0
def words (B:List Nat):Nat→List Nat
 | 0=>[]
 | n+1=>words B n++[word B n]
def more (l:List Nat):Nat→List Nat
 | 0=>l
 | n+1=>more l n++[((more l n).getD n 0+s0 ((more l n).getD (n+1) 0)+(more l n).getD (n+9) 0+s1 ((more l n).getD (n+14) 0))%4294967296]
def sched (B:List Nat):List Nat:=more (words B 16) 48
def ks:List Nat:=[0x428a2f98,0x71374491,0xb5c0fbcf,0xe9b5dba5,0x3956c25b,0x59f111f1,0x923f82a4,0xab1c5ed5,0xd807aa98,0x12835b01,0x243185be,0x550c7dc3,0x72be5d74,0x80deb1fe,0x9bdc06a7,0xc19bf174,0xe49b69c1,0xefbe4786,0x0fc19dc6,0x240ca1cc,0x2de92c6f,0x4a7484aa,0x5cb0a9dc,0x76f988da,0x983e5152,0xa831c66d,0xb00327c8,0xbf597fc7,0xc6e00bf3,0xd5a79147,0x06ca6351,0x14292967,0x27b70a85,0x2e1b2138,0x4d2c6dfc,0x53380d13,0x650a7354,0x766a0abb,0x81c2c92e,0x92722c85,0xa2bfe8a1,0xa81a664b,0xc24b8b70,0xc76c51a3,0xd192e819,0xd6990624,0xf40e3585,0x106aa070,0x19a4c116,0x1e376c08,0x2748774c,0x34b0bcb5,0x391c0cb3,0x4ed8aa4a,0x5b9cca4f,0x682e6ff3,0x748f82ee,0x78a5636f,0x84c87814,0x8cc70208,0x90befffa,0xa4506ceb,0xbef9a3f7,0xc67178f2]
def first:V8:=⟨0x6a09e667,0xbb67ae85,0x3c6ef372,0xa54ff53a,0x510e527f,0x9b05688c,0x1f83d9ab,0x5be0cd19⟩
def blocks (B:List Nat) (v:V8):Nat→V8
 | 0=>v
 | n+1=>turn ks (sched (B.drop (64*n))) (blocks B v n)
def big (n:Nat) (k:Nat):Nat:=n/2^(8*(7 - k))%256
def bigs (n:Nat):List Nat:=[big n 0,big n 1,big n 2,big n 3,big n 4,big n 5,big n 6,big n 7]
def fill (n:Nat):List Nat:=128::(List.replicate ((119 - n%64)%64) 0++bigs (8*n))
def bytes4 (w:Nat):List Nat:=[w/16777216%256,w/65536%256,w/256%256,w%256]
def bytesOf (v:V8):List Nat:=v.list.flatMap bytes4
def full (T:List Nat):List Nat:=T++fill T.length
def sum (T:List Nat):List Nat:=bytesOf (blocks (full T) first ((full T).length/64))
theorem rot_lt {n x:Nat} (h:x<4294967296):rot n x<4294967296:=by
 unfold rot
 have h2:x/2^n<2^32:=Nat.lt_of_le_of_lt (Nat.div_le_self _ _) (by omega)
 have h1:x*2^(32 - n)%4294967296<2^32:=by have:=Nat.mod_lt (x*2^(32 - n)) (show 0<4294967296 by omega);omega
 have:=Nat.or_lt_two_pow h1 h2
 omega
theorem xor_lt {a b:Nat} (h1:a<4294967296) (h2:b<4294967296):a^^^b<4294967296:=by
 have:=Nat.xor_lt_two_pow (n:=32) (x:=a) (y:=b) (by omega) (by omega);omega
theorem and_lt {a b:Nat} (h2:b<4294967296):a&&& b<4294967296:=by
 have:=Nat.and_lt_two_pow (n:=32) a (y:=b) (by omega);omega
theorem step_ok {k w:Nat} {v:V8} (h:v.ok):(step k w v).ok:=by
 obtain ⟨ha,hb,hc,hd,he,hf,hg,hh⟩:=h
 exact ⟨Nat.mod_lt _ (by omega),ha,hb,hc,Nat.mod_lt _ (by omega),he,hf,hg⟩
theorem rounds_ok {K W:List Nat} {v:V8} (h:v.ok) (n:Nat):(rounds K W v n).ok:=by
 induction n with
 | zero=>exact h
 | succ n ih=>exact step_ok ih
theorem add8_ok {v u:V8}:(add8 v u).ok:=by
 refine ⟨?_,?_,?_,?_,?_,?_,?_,?_⟩<;>exact Nat.mod_lt _ (by omega)
theorem first_ok:first.ok:=by unfold V8.ok first;decide
theorem blocks_ok {B:List Nat} {v:V8} (h:v.ok) (n:Nat):(blocks B v n).ok:=by
 cases n with
 | zero=>exact h
 | succ n=>exact add8_ok
theorem length_words (B:List Nat) (n:Nat):(words B n).length=n:=by
 induction n with
 | zero=>rfl
 | succ n ih=>simp [words,ih]
theorem length_more (l:List Nat) (n:Nat):(more l n).length=l.length+n:=by
 induction n with
 | zero=>rfl
 | succ n ih=>simp [more,ih];omega
theorem length_sched (B:List Nat):(sched B).length=64:=by simp [sched,length_more,length_words]
def allW (l:List Nat):Prop:=∀x∈l,x<4294967296
theorem word_lt {B:List Nat} (h:allB B) (i:Nat):word B i<4294967296:=by
 have h0:=getD_lt h (by omega) (4*i)
 have h1:=getD_lt h (by omega) (4*i+1)
 have h2:=getD_lt h (by omega) (4*i+2)
 have h3:=getD_lt h (by omega) (4*i+3)
 unfold word;omega
theorem words_ok {B:List Nat} (h:allB B) (n:Nat):allW (words B n):=by
 induction n with
 | zero=>intro x hx;simp [words] at hx
 | succ n ih=>
  intro x hx
  simp only [words,List.mem_append,List.mem_singleton] at hx
  rcases hx with hx | rfl
  ·exact ih x hx
  ·exact word_lt h n
theorem more_ok {l:List Nat} (h:allW l) (n:Nat):allW (more l n):=by
 induction n with
 | zero=>exact h
 | succ n ih=>
  intro x hx
  simp only [more,List.mem_append,List.mem_singleton] at hx
  rcases hx with hx | rfl
  ·exact ih x hx
  ·exact Nat.mod_lt _ (by omega)
theorem sched_ok {B:List Nat} (h:allB B):allW (sched B):=more_ok (words_ok h 16) 48
theorem ks_ok:allW ks:=by unfold allW ks;decide
theorem big_lt (n k:Nat):big n k<256:=Nat.mod_lt _ (by omega)
theorem not_nat {e:Nat} (h:e<4294967296):4294967295^^^e=4294967295 - e:=by
 have h1:(BitVec.allOnes 32^^^BitVec.ofNat 32 e).toNat=(~~~ BitVec.ofNat 32 e).toNat:=by rw [BitVec.allOnes_xor]
 rw [BitVec.toNat_xor,BitVec.toNat_not,BitVec.toNat_allOnes,BitVec.toNat_ofNat,Nat.mod_eq_of_lt (by omega)] at h1
 exact h1
theorem max_u32:IntKind.u32.max=4294967295:=by decide
theorem b1_int {e:Nat} (h:e<4294967296):bits .xor .u32 (bits .xor .u32 (rot 6 e:Nat) (rot 11 e:Nat)) (rot 25 e:Nat)=((b1 e:Nat):Int):=by
 rw [u32_xor_nat _ _ (rot_lt h) (rot_lt h),u32_xor_nat _ _ (xor_lt (rot_lt h) (rot_lt h)) (rot_lt h)];rfl
theorem b0_int {e:Nat} (h:e<4294967296):bits .xor .u32 (bits .xor .u32 (rot 2 e:Nat) (rot 13 e:Nat)) (rot 22 e:Nat)=((b0 e:Nat):Int):=by
 rw [u32_xor_nat _ _ (rot_lt h) (rot_lt h),u32_xor_nat _ _ (xor_lt (rot_lt h) (rot_lt h)) (rot_lt h)];rfl
theorem ch_int {e f g:Nat} (he:e<4294967296) (hf:f<4294967296) (hg:g<4294967296):
  bits .xor .u32 (bits .and .u32 (e:Nat) (f:Nat)) (bits .and .u32 (bits .xor .u32 IntKind.u32.max (e:Nat)) (g:Nat))=((ch e f g:Nat):Int):=by
 have h1:bits .xor .u32 IntKind.u32.max (e:Nat)=((4294967295 - e:Nat):Int):=by
  rw [max_u32]
  have:=u32_xor_nat 4294967295 e (by omega) he
  rw [not_nat he] at this
  exact this
 rw [h1,u32_and_nat _ _ he hf,u32_and_nat _ _ (by omega) hg,u32_xor_nat _ _ (and_lt hf) (and_lt hg)];rfl
theorem mj_int {a b c:Nat} (ha:a<4294967296) (hb:b<4294967296) (hc:c<4294967296):
  bits .xor .u32 (bits .xor .u32 (bits .and .u32 (a:Nat) (b:Nat)) (bits .and .u32 (a:Nat) (c:Nat))) (bits .and .u32 (b:Nat) (c:Nat))=((mj a b c:Nat):Int):=by
 rw [u32_and_nat _ _ ha hb,u32_and_nat _ _ ha hc,u32_and_nat _ _ hb hc,u32_xor_nat _ _ (and_lt hb) (and_lt hc),u32_xor_nat _ _ (xor_lt (and_lt hb) (and_lt hc)) (and_lt hc)];rfl
theorem t1_int {u:V8} (hu:u.ok) (k w:Nat):
  ((u.h:Nat)+bits .xor .u32 (bits .xor .u32 (rot 6 u.e:Nat) (rot 11 u.e:Nat)) (rot 25 u.e:Nat)+bits .xor .u32 (bits .and .u32 (u.e:Nat) (u.f:Nat)) (bits .and .u32 (bits .xor .u32 IntKind.u32.max (u.e:Nat)) (u.g:Nat))+(k:Nat)+(w:Nat))%4294967296=((t1 k w u:Nat):Int):=by
 obtain ⟨ha,hb,hc,hd,he,hf,hg,hh⟩:=hu
 rw [b1_int he,ch_int he hf hg];unfold t1;omega
theorem t2_int {u:V8} (hu:u.ok):
  (bits .xor .u32 (bits .xor .u32 (rot 2 u.a:Nat) (rot 13 u.a:Nat)) (rot 22 u.a:Nat)+bits .xor .u32 (bits .xor .u32 (bits .and .u32 (u.a:Nat) (u.b:Nat)) (bits .and .u32 (u.a:Nat) (u.c:Nat))) (bits .and .u32 (u.b:Nat) (u.c:Nat)))%4294967296=((t2 u:Nat):Int):=by
 obtain ⟨ha,hb,hc,hd,he,hf,hg,hh⟩:=hu
 rw [b0_int ha,mj_int ha hb hc];unfold t2;omega
theorem or_shl {a b n:Nat} (h:b<2^n):a*2^n||| b=a*2^n+b:=by
 have:=Nat.shiftLeft_add_eq_or_of_lt h a
 rw [Nat.shiftLeft_eq] at this
 exact this.symm
theorem word_nat {x0 x1 x2 x3:Nat} (h1:x1<256) (h2:x2<256) (h3:x3<256):((x0*16777216||| x1*65536)||| x2*256)||| x3=x0*16777216+x1*65536+x2*256+x3:=by
 have e1:x0*16777216||| x1*65536=x0*16777216+x1*65536:=or_shl (n:=24) (by omega)
 have e2:(x0*16777216+x1*65536)||| x2*256=x0*16777216+x1*65536+x2*256:=by
  have:=or_shl (a:=x0*256+x1) (n:=16) (b:=x2*256) (by omega)
  rw [show (x0*256+x1)*2^16=x0*16777216+x1*65536 from by omega] at this
  exact this
 have e3:(x0*16777216+x1*65536+x2*256)||| x3=x0*16777216+x1*65536+x2*256+x3:=by
  have:=or_shl (a:=x0*65536+x1*256+x2) (n:=8) (b:=x3) (by omega)
  rw [show (x0*65536+x1*256+x2)*2^8=x0*16777216+x1*65536+x2*256 from by omega] at this
  exact this
 rw [e1,e2,e3]
theorem word_int {x0 x1 x2 x3:Nat} (h0:x0<256) (h1:x1<256) (h2:x2<256) (h3:x3<256):
  bits .or .u32 (bits .or .u32 (bits .or .u32 ((x0:Nat)*16777216) ((x1:Nat)*65536)) ((x2:Nat)*256)) (x3:Nat)=((x0*16777216+x1*65536+x2*256+x3:Nat):Int):=by
 have e0:((x0:Nat):Int)*16777216=((x0*16777216:Nat):Int):=by omega
 have e1:((x1:Nat):Int)*65536=((x1*65536:Nat):Int):=by omega
 have e2:((x2:Nat):Int)*256=((x2*256:Nat):Int):=by omega
 have l1:x0*16777216||| x1*65536<4294967296:=by have:=Nat.or_lt_two_pow (n:=32) (x:=x0*16777216) (y:=x1*65536) (by omega) (by omega);omega
 have l2:(x0*16777216||| x1*65536)||| x2*256<4294967296:=by have:=Nat.or_lt_two_pow (n:=32) (x:=x0*16777216||| x1*65536) (y:=x2*256) (by omega) (by omega);omega
 rw [e0,e1,e2,u32_or_nat _ _ (by omega) (by omega),u32_or_nat _ _ l1 (by omega),u32_or_nat _ _ l2 (by omega),word_nat h1 h2 h3]
theorem s0_int {x:Nat} (h:x<4294967296):bits .xor .u32 (bits .xor .u32 (rot 7 x:Nat) (rot 18 x:Nat)) ((x:Nat)/8)=((s0 x:Nat):Int):=by
 have e:((x:Nat):Int)/8=((x/8:Nat):Int):=by omega
 rw [e,u32_xor_nat _ _ (rot_lt h) (rot_lt h),u32_xor_nat _ _ (xor_lt (rot_lt h) (rot_lt h)) (by omega)];rfl
theorem s1_int {x:Nat} (h:x<4294967296):bits .xor .u32 (bits .xor .u32 (rot 17 x:Nat) (rot 19 x:Nat)) ((x:Nat)/1024)=((s1 x:Nat):Int):=by
 have e:((x:Nat):Int)/1024=((x/1024:Nat):Int):=by omega
 rw [e,u32_xor_nat _ _ (rot_lt h) (rot_lt h),u32_xor_nat _ _ (xor_lt (rot_lt h) (rot_lt h)) (by omega)];rfl
end Go.Proofs.YtinihaflmdihaaaGreat.Sm
namespace Go.Proofs.YtinihaflmdihaaaGreat
open Go.RowKit
open List renaming setIfInBounds_toArray → sA, set_cons_zero → sZ, set_cons_succ → sS
def tpart (t:List Nat):List Nat:=Sm.bigs t.length++t
def pre (tag:Nat) (L:List (List Nat)):List Nat:=tag::L.flatMap tpart
def tot (L:List (List Nat)):Nat:=(pre 0 L).length
theorem pre_length (tag:Nat) (L:List (List Nat)):(pre tag L).length=tot L:=by simp [pre,tot]
theorem pre_step (tag:Nat) (L:List (List Nat)) (k:Nat) (h:k<L.length):pre tag (L.take (k+1))=pre tag (L.take k)++tpart (L.getD k []):=by
 rw [take_succ_getD L k h];simp [pre]
theorem tpart_length (t:List Nat):(tpart t).length=8+t.length:=by simp [tpart,Sm.bigs];omega
theorem tot_step (L:List (List Nat)) (k:Nat) (h:k<L.length):tot (L.take (k+1))=tot (L.take k)+(8+(L.getD k []).length):=by
 have:=congrArg List.length (pre_step 0 L k h)
 rw [List.length_append,tpart_length] at this
 exact this
theorem tot_split (L:List (List Nat)) (k:Nat):tot L=tot (L.take k)+((L.drop k).flatMap tpart).length:=by
 have h:L.flatMap tpart=(L.take k).flatMap tpart++(L.drop k).flatMap tpart:=by rw [← List.flatMap_append,List.take_append_drop]
 simp only [tot,pre,List.length_cons]
 rw [h,List.length_append]
 omega
theorem tot_take_le (L:List (List Nat)) (k:Nat):tot (L.take k)≤tot L:=by
 have:=tot_split L k
 omega
theorem len_le_flat (M:List (List Nat)):M.length≤(M.flatMap tpart).length:=by
 induction M with
 | nil=>simp
 | cons t M ih=>rw [List.flatMap_cons,List.length_append,tpart_length];simp only [List.length_cons];omega
theorem len_le_tot (L:List (List Nat)):L.length≤tot L:=by
 have:=len_le_flat L
 simp only [tot,pre,List.length_cons]
 omega
theorem bigs_all (n:Nat):Sm.allB (Sm.bigs n):=by
 have h:∀k,Sm.big n k<256:=fun k=>by unfold Sm.big;exact Nat.mod_lt _ (by omega)
 intro x hx
 simp only [Sm.bigs,List.mem_cons,List.not_mem_nil,or_false] at hx
 rcases hx with rfl | rfl | rfl | rfl | rfl | rfl | rfl | rfl<;>exact h _
end Go.Proofs.YtinihaflmdihaaaGreat
namespace Go.Proofs.YtinihaflmdihaaaGreat
open List renaming setIfInBounds_toArray → sA, set_cons_zero → sZ, set_cons_succ → sS
theorem sum_ok (B:List Nat):Sm.allB (Sm.sum B):=by
 intro x hx
 simp only [Sm.sum,Sm.bytesOf,List.mem_flatMap] at hx
 obtain ⟨w,_,hx⟩:=hx
 simp only [Sm.bytes4,List.mem_cons,List.not_mem_nil,or_false] at hx
 rcases hx with rfl | rfl | rfl | rfl<;>exact Nat.mod_lt _ (by omega)
end Go.Proofs.YtinihaflmdihaaaGreat
namespace Go.Proofs.YtinihaflmdihaaaGreat.Pg
open Go.RowKit
open List renaming setIfInBounds_toArray → sA, set_cons_zero → sZ, set_cons_succ → sS
def sumOf (b:List Nat):List Nat:=Sm.sum (pre 80 [b])
theorem sumOf_length (b:List Nat):(sumOf b).length=32:=rfl
theorem sumOf_ok (b:List Nat):Sm.allB (sumOf b):=sum_ok _
abbrev Pages:=List (List Nat×List Nat)
def idx (d:List Nat):Pages→Nat
 |[]=>0
 | x::r=>if x.1=d then 0 else idx d r+1
theorem idx_le (d:List Nat):∀W:Pages,idx d W≤W.length
 |[]=>Nat.le_refl _
 | x::r=>by
  rw [idx]
  split
  ·omega
  ·have:=idx_le d r;simp;omega
theorem idx_at {d:List Nat}:∀ {W:Pages},idx d W<W.length→(W.getD (idx d W) default).1=d
 |[],h=>absurd h (Nat.not_lt_zero _)
 | x::r,h=>by
  rw [idx] at h ⊢
  split
  ·next e=>exact e
  ·next e=>
   rw [if_neg e] at h
   simpa using idx_at (W:=r) (by simpa using h)
theorem idx_before {d:List Nat}:∀ {W:Pages} {i:Nat},i<idx d W→(W.getD i default).1≠d
 |[],i,h=>absurd h (Nat.not_lt_zero _)
 | x::r,i,h=>by
  rw [idx] at h
  split at h
  ·omega
  ·next e=>
   cases i with
   | zero=>simpa using e
   | succ i=>simpa using idx_before (W:=r) (by omega:i<idx d r)
theorem idx_is {d:List Nat} {W:Pages} {i:Nat} (hi:i<W.length) (h:(W.getD i default).1=d) (hb:∀j,j<i→(W.getD j default).1≠d):idx d W=i:=by
 rcases Nat.lt_trichotomy (idx d W) i with h1 | h1 | h1
 ·exact absurd (idx_at (Nat.lt_trans h1 hi)) (hb _ h1)
 ·exact h1
 ·exact absurd h (idx_before h1)
def textAt (W:Pages) (d:List Nat):Option (List Nat):=if idx d W<W.length then some (W.getD (idx d W) default).2 else none
structure S where
 W:Pages
 cl:Option (List Nat×List Nat)
def putW (W:Pages) (b:List Nat):Pages:=if idx (sumOf b) W<W.length then W else W++[(sumOf b,b)]
def S.put (s:S) (b:List Nat):S:=
 ⟨putW s.W b,match s.cl with
  | some x=>some x
  | none=>match textAt s.W (sumOf b) with
   | none=>none
   | some t=>if t=b then none else some (t,b)⟩
def keepW (W:Pages) (K:List (List Nat)):Pages:=W.filter (fun x=>decide (x.1∈K))
def S.keep (s:S) (K:List (List Nat)):S:=⟨keepW s.W K,s.cl⟩
structure S.ok (s:S):Prop where
 one:(s.W.map (·.1)).Nodup
 sum:∀x∈s.W,x.1=sumOf x.2
 bytes:∀x∈s.W,Sm.allB x.2
 clash:∀x,s.cl=some x→x.1≠x.2∧sumOf x.1=sumOf x.2
theorem idx_mem {d:List Nat} {W:Pages}:idx d W<W.length↔d∈W.map (·.1):=by
 constructor
 ·intro h
  have h1:=idx_at h
  rw [← h1,List.getD_eq_getElem?_getD,List.getElem?_eq_getElem h,Option.getD_some]
  exact List.mem_map_of_mem (List.getElem_mem h)
 ·intro h
  obtain ⟨x,hx,rfl⟩:=List.mem_map.1 h
  obtain ⟨i,hi,rfl⟩:=List.getElem_of_mem hx
  rcases Nat.lt_or_ge (idx W[i].1 W) W.length with h1 | h1
  ·exact h1
  ·exact absurd (show (W.getD i default).1=W[i].1 from by rw [List.getD_eq_getElem?_getD,List.getElem?_eq_getElem hi];rfl) (idx_before (by omega))
theorem textAt_some {W:Pages} {d:List Nat} (h:idx d W<W.length):textAt W d=some (W.getD (idx d W) default).2:=if_pos h
theorem textAt_none {W:Pages} {d:List Nat} (h:¬idx d W<W.length):textAt W d=none:=if_neg h
theorem S.new_ok:S.ok ⟨[],none⟩:=⟨List.nodup_nil,(fun x hx=>by cases hx),(fun x hx=>by cases hx),fun x hx=>by cases hx⟩
theorem getD_mem {W:Pages} {i:Nat} (h:i<W.length):W.getD i default∈W:=by
 rw [List.getD_eq_getElem?_getD,List.getElem?_eq_getElem h]
 exact List.getElem_mem h
theorem S.put_ok {s:S} (h:s.ok) {b:List Nat} (hb:Sm.allB b):(s.put b).ok:=by
 refine ⟨?_,?_,?_,?_⟩
 ·show ((putW s.W b).map (·.1)).Nodup
  unfold putW
  split
  ·exact h.one
  ·next hn=>
   rw [List.map_append,List.nodup_append]
   refine ⟨h.one,by simp,fun a ha c hc e=>hn (idx_mem.2 ?_)⟩
   simp only [List.map_cons,List.map_nil,List.mem_singleton] at hc
   rw [← hc,← e]
   exact ha
 ·intro x hx
  simp only [S.put,putW] at hx
  split at hx
  ·exact h.sum x hx
  ·rcases List.mem_append.1 hx with hx | hx
   ·exact h.sum x hx
   ·rw [List.mem_singleton.1 hx]
 ·intro x hx
  simp only [S.put,putW] at hx
  split at hx
  ·exact h.bytes x hx
  ·rcases List.mem_append.1 hx with hx | hx
   ·exact h.bytes x hx
   ·rw [List.mem_singleton.1 hx];exact hb
 ·intro x hx
  simp only [S.put] at hx
  split at hx
  ·next y hy=>exact h.clash x (by rw [hy];exact hx)
  ·split at hx
   ·cases hx
   ·next t ht=>
    split at hx
    ·cases hx
    ·next hne=>
     cases hx
     refine ⟨hne,?_⟩
     unfold textAt at ht
     split at ht
     ·next hi=>
      cases ht
      have h1:=h.sum _ (getD_mem hi)
      rw [← h1]
      exact idx_at hi
     ·cases ht
theorem put_got {s:S} {b:List Nat} (hc:(s.put b).cl=none):textAt (s.put b).W (sumOf b)=some b:=by
 simp only [S.put] at hc
 split at hc
 ·cases hc
 ·show textAt (putW s.W b) (sumOf b)=some b
  unfold putW
  split
  ·next hi=>
   rw [textAt_some hi] at hc
   simp only at hc
   split at hc
   ·next e=>rw [textAt_some hi,e]
   ·cases hc
  ·next hi=>
   have h1:idx (sumOf b) (s.W++[(sumOf b,b)])=s.W.length:=idx_is (by simp) (by simp) (fun j hj=>by
    rw [List.getD_eq_getElem?_getD,List.getElem?_append_left hj,← List.getD_eq_getElem?_getD]
    exact idx_before (by have:=idx_le (sumOf b) s.W;omega))
   rw [textAt_some (by rw [h1];simp),h1]
   simp
end Go.Proofs.YtinihaflmdihaaaGreat.Pg
namespace Go.Proofs.YtinihaflmdihaaaGreat.Nd
open Go.RowKit Go.Proofs.YtinihaflmdihaaaGreat.Pg
open List renaming setIfInBounds_toArray → sA, set_cons_zero → sZ, set_cons_succ → sS
def PN.says (n:PN):PK:={n.tally with sum:=sumOf n.bytes}
theorem flat_len {α:Type} (f:α→List Nat) (B:Nat):∀L:List α,(∀x∈L,(f x).length≤B)→(L.flatMap f).length≤B*L.length
 |[],_=>by simp
 | x::L,h=>by
  have h1:=h x (by simp)
  have h2:=flat_len f B L (fun y hy=>h y (by simp [hy]))
  rw [List.flatMap_cons,List.length_append,List.length_cons,Nat.mul_add]
  omega
theorem node_bytes_len {n:PN} (h:n.Fit) (hs:∀k∈n.kids,k.sum.length=32):n.bytes.length≤100000:=by
 have h1:=flat_len PE.bytes 70 n.rows (fun e he=>by
  have:=h.row e he
  unfold PE.bytes
  rw [List.length_cons,rowBs_length]
  omega)
 have h2:=flat_len PK.bytes 300 n.kids (fun k hk=>kid_bytes_len (h.kid k hk) (hs k hk))
 have h3:=h.rows
 have h4:=h.kids
 unfold PN.bytes
 simp only [List.length_cons,List.length_append]
 omega
theorem kd_rows_ok {w:World} {kd:Kd} (h:kd.Ok w):∀r∈kd.rows,r.Ok w:=fun r hr=>by
 simp only [Kd.rows,List.mem_cons,List.not_mem_nil,or_false] at hr
 rcases hr with rfl | rfl | rfl
 ·exact h.lo
 ·exact h.hi
 ·exact h.key
end Go.Proofs.YtinihaflmdihaaaGreat.Nd
namespace Go.Proofs.YtinihaflmdihaaaGreat.Kt
open Go.RowKit Go.Proofs.YtinihaflmdihaaaGreat.Nd
open List renaming setIfInBounds_toArray → sA, set_cons_zero → sZ, set_cons_succ → sS
def forkN (p:List Int) (v:Bool) (a b:PK):PN:=⟨1,[⟨p,v⟩],[a,b]⟩
def T.kid:T→PK
 | .nil=>PK.none
 | .fork p v l r=>if (forkN p v l.kid r.kid).size≤1048576 then (forkN p v l.kid r.kid).says else PK.none
end Go.Proofs.YtinihaflmdihaaaGreat.Kt
