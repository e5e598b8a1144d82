/- BoxEach, NlKid, NdNode, NdRightP, NlEach, WlOut, CodRd, CodW, CodWDg, CodNums, NdByP. -/
import Derived.Maps.AppendAt
import Derived.Laws.AppendOwn
import Derived.Test.YtinihaflmdihaaaGreatL3
set_option maxRecDepth 100000
set_option maxHeartbeats 8000000
set_option linter.all false
namespace Go.Proofs.YtinihaflmdihaaaGreat
open Go.RowKit
theorem x2m (d:Int) (w:World):
  Calls Tryz.prog 263 #[.int .i64 d] w fun e w'=>e= .returned (.bool (decide (1≤d∧d≤8)))∧w=w':=by
 by_cases h1:1≤d
 ·by_cases h2:d≤8
  ·go_enter Tryz.func263,Tryz.ntmps263
   go_wp2_with fail
   go_ret
   exact ⟨x7m ⟨h1,h2⟩,rfl⟩
  ·go_enter Tryz.func263,Tryz.ntmps263
   go_wp2_with fail
   go_ret
   exact ⟨x0j (by omega),rfl⟩
 ·go_enter Tryz.func263,Tryz.ntmps263
  go_wp2_with fail
  go_ret
  exact ⟨congrArg (fun b=>Ending.returned (.bool b)) (by rw [decide_eq_false (show ¬1≤d by omega)];rfl),rfl⟩
def alls (f:Nat→Bool):Nat→Bool
 | 0=>true
 | k+1=>alls f k&&f k
theorem x8O (f:Nat→Bool):∀n,alls f n=true↔∀k,k<n→f k=true
 | 0=>⟨fun _ k hk=>by omega,fun _=>rfl⟩
 | n+1=>by
  show (alls f n&&f n)=true↔_
  rw [Bool.and_eq_true,x8O f n]
  constructor
  ·rintro ⟨h1,h2⟩ k hk
   by_cases hkn:k=n
   ·rw [hkn];exact h2
   ·exact h1 k (by omega)
  ·intro h
   exact ⟨fun k hk=>h k (by omega),h n (by omega)⟩
theorem x9E {f:Nat→Bool} {k n:Nat} (hk:k<n) (h:f k=false):alls f n=false:=by
 cases e:alls f n with
 | false=>rfl
 | true=>rw [(x8O f n).1 e k hk] at h;cases h
theorem x8P (R S:List Int):∀n,alls (fun k=>decide (R.getD k 0≤S.getD k 0)) n=les R S n
 | 0=>rfl
 | n+1=>by
  show (alls _ n&&_)=(les R S n&&_)
  rw [x8P R S n]
def Asks (w:World) (n:Nat) (f:Nat→Bool) (F:Nat) (cap:Array Value):Prop:=
 ∀(k:Nat) (w':World),k<n→Below w.heap.size w w'→Calls Tryz.prog F (#[.int .i64 k]++cap) w' fun e w''=>e= .returned (.bool (f k))∧∃j,w''=w'.drewN j
def y41 (w:World) (f:Nat→Bool) (n:Nat) (i:Value) (wr:World):Prop:=∃k j:Nat,k≤n∧i= .int .i64 k∧alls f k=true∧wr=w.drewN j
theorem y2F (n:Nat) (hn:n<9223372036854775807) (f:Nat→Bool) (F:Nat) (cap:Array Value) (hF:∀args w,(callFunc F args).run Tryz.prog w= .ok (.enter F args) w) (w:World) (hs:Asks w n f F cap):
  Calls Tryz.prog 264 #[.int .i64 n,.func (.func F) #[] cap] w fun e w'=>e= .returned (.bool (alls f n))∧∃j,w'=w.drewN j:=by
 have H:=yH hs
 clear hs
 go_enter Tryz.func264,Tryz.ntmps264
 go_wp2_with fail
 go_loopw [7] (fun i wr=>y41 w f n i wr) (fun i _=>n - (intOf i).toNat)
 case atStart=>exact ⟨0,0,by omega,rfl,rfl,rfl⟩
 case round=>
  obtain ⟨k,j,I,rfl,B,rfl⟩:=hrel
  have G:=yH B
  clear B
  by_cases hlt:k<n
  ·have A:=H.out k (w.drewN j) hlt (Below.drewN (Below.refl _ _) j)
   cases hfk:f k with
   | false=>
    rw [hfk] at A
    have C:=yH A
    have HX:=yH (x9E hlt hfk)
    clear A hfk
    go_wp2_with (refine C.out.mono ?_;rintro e E ⟨rfl,j2,rfl⟩)
    go_ret
    exact ⟨congrArg (fun b=>Ending.returned (.bool b)) HX.out.symm,j+j2,rfl⟩
   | true=>
    rw [hfk] at A
    have C:=yH A
    have HX:=yH (show alls f (k+1)=true by show (alls f k&&f k)=true;rw [G.out,hfk];rfl)
    clear A hfk
    go_wp2_with (refine C.out.mono ?_;rintro e E ⟨rfl,j2,rfl⟩)
    go_roundw
    case rel=>exact ⟨k+1,j+j2,by omega,by go_num,HX.out,rfl⟩
    case measure=>simp [intOf];omega
  ·obtain rfl:k=n:=by omega
   go_wp2_with fail
   go_ret
   exact ⟨congrArg (fun b=>Ending.returned (.bool b)) G.out.symm,j,rfl⟩
theorem y0M (B:Nat) (p q:Option Addr) (n c m e:Nat) (R S:List Int) (k:Nat) (hk:k<n) (hm:k<m) (w:World) (hB:BoxAt w B p n c q m e) (h:Ints w p n c R) (h2:Ints w q m e S):
  Calls Tryz.prog 265 #[.int .i64 k,.pointer (some ⟨B,0,none⟩)] w fun e w'=>e= .returned (.bool (decide (R.getD k 0≤S.getD k 0)))∧∃j,w'=w.drewN j:=by
 obtain ⟨E,A⟩:=hB
 obtain ⟨g,o,rfl,I⟩:=h.cell k hk
 obtain ⟨G,H,rfl,C⟩:=h2.cell k hm
 clear h h2
 generalize R.getD k 0=x at *
 generalize S.getD k 0=y at *
 have b1:(0:Int)≤k∧(k:Int)<n:=by omega
 have J:(0:Int)≤k∧(k:Int)<m:=by omega
 go_enter Tryz.func265,Tryz.ntmps265
 go_wp2_with fail
 go_quiet (fail)
 go_wp2_with fail
 go_ret
 exact ⟨rfl,_,rfl⟩
theorem x2D (p q:Option Addr) (n c m e:Nat) (R S:List Int) (d:Int) (w:World) (h:Ints w p n c R) (h2:Ints w q m e S):
  Calls Tryz.prog 237 #[.agg #[.slice p n c,.slice q m e],.int .i64 d] w fun e w'=>e= .returned (.bool (x0d R S n m d))∧Below w.heap.size w w':=by
 have A:Below w.heap.size w (w.alloc (.cells #[.slice p n c,.slice q m e] 32)):=(Below.refl _ _).alloc (Nat.le_refl _) _
 obtain ⟨K,J⟩:=x0W w (.slice p n c) (.slice q m e) 32
 have L:=yH (h.later A)
 have N:=yH (h2.later A)
 have G:=yH A
 clear h h2 A
 have B:=x2m d
 by_cases hd:1≤d∧d≤8
 case neg=>
  rw [decide_eq_false hd] at B
  have E:=yH B
  rw [x12 (by omega)]
  clear B hd
  go_enter Tryz.func237,Tryz.ntmps237
  go_wp2_with ((go_at_call 263;refine (E.out _).mono ?_;rintro _ w' ⟨rfl,rfl⟩))
  go_ret
  exact ⟨rfl,G.out⟩
 rw [decide_eq_true hd] at B
 have E:=yH B
 clear B
 by_cases hn:(n:Int)=d
 case neg=>
  rw [x12 (fun h=>hn h.2.2.1)]
  have M:((n:Int)==d)=false:=by simpa using hn
  clear hd hn
  go_enter Tryz.func237,Tryz.ntmps237
  go_wp2_with ((go_at_call 263;refine (E.out _).mono ?_;rintro _ w' ⟨rfl,rfl⟩))
  go_ret
  exact ⟨rfl,G.out⟩
 subst hn
 by_cases hm:(m:Int)=n
 case neg=>
  rw [x12 (fun h=>hm h.2.2.2)]
  have M:((m:Int)==n)=false:=by simpa using hm
  clear hd hm
  go_enter Tryz.func237,Tryz.ntmps237
  go_wp2_with ((go_at_call 263;refine (E.out _).mono ?_;rintro _ w' ⟨rfl,rfl⟩))
  go_ret
  exact ⟨rfl,G.out⟩
 obtain rfl:m=n:=by omega
 rw [x5c (by omega)]
 have H:m<9223372036854775807:=by omega
 clear hm hd
 go_enter Tryz.func237,Tryz.ntmps237
 go_upto_region 1 with fail
 have C:w.heap.size<(w.alloc (.cells #[.slice p m c,.slice q m e] 32)).heap.size:=by simp
 generalize w.alloc (.cells #[.slice p m c,.slice q m e] 32)=w0 at *
 have I:=yH (y2F m H (fun k=>decide (R.getD k 0≤S.getD k 0)) 265 #[.pointer (some ⟨w.heap.size,0,none⟩)] (x3i Tryz.func265 (by kernel_rfl) rfl) w0 (fun k w' hk A=>y0M w.heap.size p q m c m e R S k hk hk w' ⟨(A.cell (p:=⟨w.heap.size,0,none⟩) C).trans K,(A.cell (p:=⟨w.heap.size,1,none⟩) C).trans J⟩ (L.out.later A) (N.out.later A)))
 rw [x8P] at I
 go_wp2_with (first | (go_at_call 263;refine (E.out _).mono ?_;rintro _ w' ⟨rfl,rfl⟩) | (go_at_call 264;refine I.out.mono ?_;rintro _ w' ⟨rfl,j,rfl⟩))
 go_ret
 exact ⟨rfl,Below.drewN G.out _⟩
end Go.Proofs.YtinihaflmdihaaaGreat
namespace Go.Proofs.YtinihaflmdihaaaGreat.Nd
open Go.RowKit
theorem y2G (R S:List Int):(decide (R=[])&&decide (S=[]))=decide (R.length+S.length=0):=by
 rw [Bool.eq_iff_iff,Bool.and_eq_true,decide_eq_true_iff,decide_eq_true_iff,decide_eq_true_iff,← List.length_eq_zero_iff,← List.length_eq_zero_iff]
 omega
theorem y2H (a:Kd) (dm:Int) (w:World) (ha:a.Ok w):
  Calls Tryz.prog 204 #[.agg a.cells.toArray,.int .i64 dm] w fun e w'=>e= .returned (.bool (a.pk.right dm))∧Below w.heap.size w w':=by
 have K:Below w.heap.size w (w.alloc (.cells a.cells.toArray 34)):=(Below.refl _ _).alloc (Nat.le_refl _) _
 have Z:=heap_alloc_new w (.cells a.cells.toArray 34)
 obtain ⟨d,g,L⟩:=UKd
 have b:a.pk.right dm=if a.pk=PK.none then true else if a.size<1∨1048576<a.size∨a.live<0∨a.size<a.live then false else if a.live=0 then decide (a.lo.R.length+a.hi.R.length=0) else x0d a.lo.R a.hi.R a.lo.n a.hi.n dm:=by
  rw [ha.lo.ints.size,ha.hi.ints.size]
  rfl
 obtain ⟨X,f⟩:∃X,a.pk.right dm=X:=⟨_,rfl⟩
 rw [f] at b
 rw [f]
 have U:=yH b
 have c:=yH ha
 have i:=yH g
 have M:=yH L
 clear ha g L b f
 go_enter Tryz.func204,Tryz.ntmps204
 go_upto_region 1 with fail
 generalize w.alloc (.cells a.cells.toArray 34)=W at *
 have h:=yH (x0E Z)
 have H:=yH (x0M Z c.out.len)
 have I:=yH (c.out.later K)
 have j:=yH (Kd.cells_length c.out.len)
 have N:=yH K
 clear Z K
 by_cases h0:a.pk=PK.none
 ·have A:=U.out
  rw [if_pos h0] at A
  subst A
  have O:=yH (decide_eq_true h0)
  clear h0
  go_wp2_with (first
   | (refine wpList_load_mid (by rfl) 34 _ (by rfl) _ 0 (by rfl) a.cells d h.out i.out M.out (by rw [j.out];exact SKd) ?_)
   | (refine (x1a a W I.out).mono ?_;rintro _ P ⟨rfl,G⟩;rw [O.out]))
  go_ret
  exact ⟨rfl,N.out.trans (G.mono N.out.size)⟩
 have A:=U.out
 rw [if_neg h0] at A
 have C:=yH A
 have O:=yH (decide_eq_false h0)
 clear h0 A U
 go_upto_region 3 with (first
  | (refine wpList_load_mid (by rfl) 34 _ (by rfl) _ 0 (by rfl) a.cells d h.out i.out M.out (by rw [j.out];exact SKd) ?_)
  | (refine (x1a a W I.out).mono ?_;rintro _ P ⟨rfl,G⟩;rw [O.out];have l:=(G.cell (block_lt_of_cell H.out.live)).trans H.out.live;have m:=(G.cell (block_lt_of_cell H.out.size)).trans H.out.size;have p:=(G.cell (block_lt_of_cell H.out.lo)).trans H.out.lo;have o:=(G.cell (block_lt_of_cell H.out.hi)).trans H.out.hi;have B:=yH (N.out.trans (G.mono N.out.size));have E:=yH (I.out.later G);clear G))
 simp only [Nat.zero_add,Rw.val] at l m p o
 by_cases h1:a.size<1
 ·have A:=C.out
  rw [if_pos (Or.inl h1)] at A
  subst A
  go_wp2_with fail
  go_ret
  exact ⟨rfl,B.out⟩
 by_cases h2:1048576<a.size
 ·have A:=C.out
  rw [if_pos (Or.inr (Or.inl h2))] at A
  subst A
  go_wp2_with fail
  go_ret
  exact ⟨rfl,B.out⟩
 by_cases h3:a.live<0
 ·have A:=C.out
  rw [if_pos (Or.inr (Or.inr (Or.inl h3)))] at A
  subst A
  go_wp2_with fail
  go_ret
  exact ⟨rfl,B.out⟩
 by_cases h4:a.size<a.live
 ·have A:=C.out
  rw [if_pos (Or.inr (Or.inr (Or.inr h4)))] at A
  subst A
  go_wp2_with fail
  go_ret
  exact ⟨rfl,B.out⟩
 have A:=C.out
 rw [if_neg (by omega)] at A
 by_cases h5:a.live=0
 ·have Y:(a.live==0)=true:=by simp [h5]
  rw [if_pos h5,← y2G] at A
  have J:=yH A
  have q:=yH h5
  clear h5 A C
  go_wp2_with (refine (x3h _ _ _ _ _ _ _ _ _ _ _ _ a.lo.R a.hi.R [] [] P E.out.lo.ints E.out.hi.ints (x2W _ _ _) (x2W _ _ _) E.out.lo.top E.out.hi.top).mono ?_;rintro _ k ⟨rfl,Q⟩)
  go_ret
  exact ⟨by rw [J.out];rfl,B.out.trans (Q.mono B.out.size)⟩
 ·have Y:(a.live==0)=false:=by simp [h5]
  rw [if_neg h5] at A
  have J:=yH A
  clear h5 A C
  go_wp2_with (refine (x2D _ _ _ _ _ _ _ _ dm P E.out.lo.ints E.out.hi.ints).mono ?_;rintro _ k ⟨rfl,Q⟩)
  go_ret
  exact ⟨by rw [J.out];rfl,B.out.trans (Q.mono B.out.size)⟩
structure En where
 row:Rw
 live:Bool
instance:Inhabited En:=⟨⟨default,false⟩⟩
def En.pe (e:En):PE:=⟨e.row.R,e.live⟩
structure EntsIn (w:World) (p:Option Addr) (n c:Nat) (E:List En):Prop where
 size:n=E.length
 le:n≤c
 top:n≤9223372036854775807
 each:∀e∈E,e.row.Ok w
 at':E=[]∨∃g o,p=some ⟨g,o,Option.none⟩∧∀i,i<E.length→w.cell? ⟨g,o+i*2,Option.none⟩=some (E.getD i default).row.val∧w.cell? ⟨g,o+i*2+1,Option.none⟩=some (.bool (E.getD i default).live)
structure KidsIn (w:World) (p:Option Addr) (n c:Nat) (K:List Kd):Prop where
 size:n=K.length
 le:n≤c
 top:n≤9223372036854775807
 each:∀k∈K,k.Ok w
 at':K=[]∨∃g o,p=some ⟨g,o,Option.none⟩∧∀i,i<K.length→w.rangeAt g (o+i*37) (K.getD i default).cells
theorem x02 {w w':World} {g o:Nat} {cs:List Value} (h:w.rangeAt g o cs) (hb:Below w.heap.size w w'):w'.rangeAt g o cs:=fun j v hv=>
 (hb.cell (p:=⟨g,o+j,Option.none⟩) (block_lt_of_cell (h j v hv))).trans (h j v hv)
theorem EntsIn.later {w w':World} {p:Option Addr} {n c:Nat} {E:List En} (h:EntsIn w p n c E) (hb:Below w.heap.size w w'):EntsIn w' p n c E:=
 ⟨h.size,h.le,h.top,fun e he=>(h.each e he).later hb,h.at'.imp id fun ⟨g,o,hp,hx⟩=>⟨g,o,hp,fun i hi=>
  ⟨(hb.cell (p:=⟨g,o+i*2,Option.none⟩) (block_lt_of_cell (hx i hi).1)).trans (hx i hi).1,(hb.cell (p:=⟨g,o+i*2+1,Option.none⟩) (block_lt_of_cell (hx i hi).2)).trans (hx i hi).2⟩⟩⟩
theorem KidsIn.later {w w':World} {p:Option Addr} {n c:Nat} {K:List Kd} (h:KidsIn w p n c K) (hb:Below w.heap.size w w'):KidsIn w' p n c K:=
 ⟨h.size,h.le,h.top,fun e he=>(h.each e he).later hb,h.at'.imp id fun ⟨g,o,hp,hx⟩=>⟨g,o,hp,fun i hi=>x02 (hx i hi) hb⟩⟩
theorem getD_mem {α:Type} [Inhabited α] (L:List α) (k:Nat) (h:k<L.length):L.getD k default∈L:=by
 rw [List.getD_eq_getElem?_getD,List.getElem?_eq_getElem h]
 exact List.getElem_mem h
theorem EntsIn.get {w:World} {p:Option Addr} {n c:Nat} {E:List En} (h:EntsIn w p n c E) (k:Nat) (hk:k<n):∃g o,p=some ⟨g,o,Option.none⟩∧w.cell? ⟨g,o+k*2,Option.none⟩=some (E.getD k default).row.val∧w.cell? ⟨g,o+k*2+1,Option.none⟩=some (.bool (E.getD k default).live)∧(E.getD k default).row.Ok w:=by
 have A:k<E.length:=by rw [← h.size];exact hk
 rcases h.at' with C | ⟨g,o,G,B⟩
 ·rw [C] at A;exact absurd A (by simp)
 ·exact ⟨g,o,G,(B k A).1,(B k A).2,h.each _ (getD_mem E k A)⟩
theorem KidsIn.get {w:World} {p:Option Addr} {n c:Nat} {K:List Kd} (h:KidsIn w p n c K) (k:Nat) (hk:k<n):∃g o,p=some ⟨g,o,Option.none⟩∧w.rangeAt g (o+k*37) (K.getD k default).cells∧(K.getD k default).Ok w:=by
 have A:k<K.length:=by rw [← h.size];exact hk
 rcases h.at' with B | ⟨g,o,E,C⟩
 ·rw [B] at A;exact absurd A (by simp)
 ·exact ⟨g,o,E,C k A,h.each _ (getD_mem K k A)⟩
structure NodeAt (w:World) (g kind:Nat) (p:Option Addr) (n c:Nat) (q:Option Addr) (m d:Nat):Prop where
 row:w.heap[g]? =some (.cells #[.int .u8 kind,.slice p n c,.slice q m d] 81 (0,0))
theorem NodeAt.later {w w':World} {g kind:Nat} {p:Option Addr} {n c:Nat} {q:Option Addr} {m d:Nat} (h:NodeAt w g kind p n c q m d) (hb:Below w.heap.size w w'):NodeAt w' g kind p n c q m d:=⟨(hb.block _ (yL h.row)).trans h.row⟩
theorem NodeAt.cells {w:World} {g kind:Nat} {p:Option Addr} {n c:Nat} {q:Option Addr} {m d:Nat} (h:NodeAt w g kind p n c q m d):w.cell? ⟨g,0,Option.none⟩=some (.int .u8 kind)∧w.cell? ⟨g,1,Option.none⟩=some (.slice p n c)∧w.cell? ⟨g,2,Option.none⟩=some (.slice q m d):=
 ⟨cell_of_row w g 0 _ _ _ h.row,cell_of_row w g 1 _ _ _ h.row,cell_of_row w g 2 _ _ _ h.row⟩
theorem NodeAt.start (w:World) (kind:Nat) (p:Option Addr) (n c:Nat) (q:Option Addr) (m d:Nat):NodeAt (w.alloc (.cells #[.int .u8 kind,.slice p n c,.slice q m d] 81)) w.heap.size kind p n c q m d:=⟨heap_alloc_new w _⟩
def pnOf (kind:Nat) (E:List En) (K:List Kd):PN:=⟨kind,E.map En.pe,K.map Kd.pk⟩
def AskE (w:World) (E:List En) (f:PE→Bool) (F:Nat) (cap:Array Value):Prop:=
 ∀(e:En) (w':World),e∈E→e.row.Ok w'→Below w.heap.size w w'→Calls Tryz.prog F (#[.agg #[e.row.val,.bool e.live]]++cap) w' fun r w''=>r= .returned (.bool (f e.pe))∧Below w'.heap.size w' w''
def AskK (w:World) (K:List Kd) (f:PK→Bool) (F:Nat) (cap:Array Value):Prop:=
 ∀(k:Kd) (w':World),k∈K→k.Ok w'→Below w.heap.size w w'→Calls Tryz.prog F (#[.agg k.cells.toArray]++cap) w' fun r w''=>r= .returned (.bool (f k.pk))∧Below w'.heap.size w' w''
theorem x8Q {α β:Type} [Inhabited α] (g:α→β) (f:β→Bool) (L:List α) (k:Nat) (h:k<L.length):allT f (L.map g) (k+1)=(allT f (L.map g) k&&f (g (L.getD k default))):=by
 unfold allT
 rw [← List.map_take,← List.map_take,List.take_succ_eq_append_getElem h,List.map_append,List.all_append,List.getD_eq_getElem?_getD,List.getElem?_eq_getElem h]
 simp
theorem x3G {α β:Type} [Inhabited α] (g:α→β) (f:β→Bool) (L:List α) (k:Nat) (h:k<L.length) (hf:f (g (L.getD k default))=false):(L.map g).all f=false:=by
 rw [List.all_eq_false]
 refine ⟨g L[k],List.mem_map.2 ⟨_,List.getElem_mem h,rfl⟩,?_⟩
 rw [List.getD_eq_getElem?_getD,List.getElem?_eq_getElem h] at hf
 simpa using hf
theorem x5e {α β:Type} (g:α→β) (f:β→Bool) (L:List α):allT f (L.map g) L.length=(L.map g).all f:=by
 have:=y2E f (L.map g)
 rwa [List.length_map] at this
def EaRel {α:Type} (w:World) (n:Nat) (f:α→Bool) (L:List α) (i:Value) (wr:World):Prop:=∃k:Nat,k≤n∧i= .int .i64 k∧allT f L k=true∧Below w.heap.size w wr
theorem UEn0:(Tryz.prog.underlying 85).map (·.isRow)=some true:=by kernel_rfl
theorem UEn:∃d,Tryz.prog.underlying 85=some d∧d.isRow=true:=by
 have h:=UEn0
 revert h
 cases Tryz.prog.underlying 85 with
 | none=>intro h;cases h
 | some d=>intro h;exact ⟨d,rfl,by simpa using h⟩
theorem SEn:(Tryz.prog.info? 85).map (·.size)=some 2:=by kernel_rfl
theorem x6w (p:Option Addr) (n c:Nat) (E:List En) (f:PE→Bool) (F:Nat) (cap:Array Value) (hF:∀args w,(callFunc F args).run Tryz.prog w= .ok (.enter F args) w) (w:World) (hE:EntsIn w p n c E) (hs:AskE w E f F cap):
  Calls Tryz.prog 200 #[.slice p n c,.func (.func F) #[] cap] w fun e w'=>e= .returned (.bool ((E.map En.pe).all f))∧Below w.heap.size w w':=by
 have Z:=yH hs
 have d:=yH hE
 have W:=yH hE.size
 have K:=yH hE.top
 clear hs hE
 go_enter Tryz.func200,Tryz.ntmps200
 go_wp2_with fail
 go_loopw [9] (fun i wr=>EaRel w n f (E.map En.pe) i wr) (fun i _=>n - (intOf i).toNat)
 case atStart=>exact ⟨0,by omega,rfl,rfl,Below.refl _ _⟩
 case round=>
  obtain ⟨k,l,rfl,J,R⟩:=hrel
  have U:=yH J
  have I:=yH R
  have X:=K.out
  clear J R
  by_cases hlt:k<n
  ·obtain ⟨g,o,rfl,a,m,L⟩:=(d.out.later I.out).get k hlt
   have h:(0:Int)≤k∧(k:Int)<n:=by omega
   have B:k<E.length:=by rw [← W.out];exact hlt
   have P:=yH (x8Q En.pe f E k B)
   have N:=yH (x3G En.pe f E k B)
   have G:=getD_mem E k B
   generalize E.getD k default=e at *
   have C:Below wr.heap.size wr (wr.alloc (.cells #[e.row.val,.bool e.live] 85)):=(Below.refl _ _).alloc (Nat.le_refl _) _
   have H:=Z.out e _ G (L.later C) (I.out.trans (C.mono I.out.size))
   have A:=yH (I.out.trans (C.mono I.out.size))
   simp only [Rw.val] at a
   unfold Rw.val at H A
   clear L G C
   go_upto_region 4 with fail
   obtain ⟨j,q⟩:=x0W wr (.slice e.row.p e.row.n e.row.c) (.bool e.live) 85
   generalize wr.alloc (.cells #[.slice e.row.p e.row.n e.row.c,.bool e.live] 85)=w1 at *
   cases hfk:f e.pe with
   | false=>
    rw [hfk] at H
    have Q:=yH H
    have HXX:=yH (N.out hfk)
    clear H hfk N P
    go_wp2_with (refine Q.out.mono ?_;rintro e O ⟨rfl,M⟩)
    go_ret
    exact ⟨congrArg (fun b=>Ending.returned (.bool b)) HXX.out.symm,A.out.trans (M.mono A.out.size)⟩
   | true=>
    rw [hfk] at H
    have Q:=yH H
    have HXX:=yH (show allT f (E.map En.pe) (k+1)=true by rw [P.out,U.out,hfk];rfl)
    clear H hfk N P
    go_wp2_with (refine Q.out.mono ?_;rintro e O ⟨rfl,M⟩;have HB2:=yH (A.out.trans (M.mono A.out.size));clear M)
    go_roundw
    case rel=>exact ⟨k+1,by omega,by go_num,HXX.out,HB2.out⟩
    case measure=>simp [intOf];omega
  ·obtain rfl:n=k:=by omega
   have Y:=yH (show allT f (E.map En.pe) n=(E.map En.pe).all f from by rw [W.out];exact x5e En.pe f E)
   go_wp2_with fail
   go_ret
   exact ⟨congrArg (fun b=>Ending.returned (.bool b)) (by rw [← Y.out,U.out]),I.out⟩
end Go.Proofs.YtinihaflmdihaaaGreat.Nd
namespace Go.Proofs.YtinihaflmdihaaaGreat.Wl
open Go.RowKit
structure Out (w0 w:World) (v:Value) (n:Nat) (B:List Nat):Prop where
 len:n=B.length
 own:w.ownsRow w0.heap.size 5 1 v n (vals B)
 ok:Sm.allB B
 low:Below w0.heap.size w0 w
theorem Out.none (w:World):Out w w (.slice none 0 0) 0 []:=⟨rfl,World.ownsRow_nil w w.heap.size 5 1,(fun x hx=>by cases hx),Below.refl _ _⟩
theorem Out.later {w0 w w':World} {v:Value} {n:Nat} {B:List Nat} (h:Out w0 w v n B) (hb:Below w.heap.size w w'):Out w0 w' v n B:=⟨h.len,x3d h.own hb,h.ok,h.low.trans (hb.mono h.low.size)⟩
theorem Out.put {w0 w1 w7:World} {v v7:Value} {n:Nat} {B P:List Nat} {m:Nat} (h:Out w0 w1 v n B) (hP:Sm.allB P) (hm:P.length=m) (hown:w7.ownsRow w0.heap.size 5 1 v7 (n+m) (vals B++vals P)) (hg:w1.grownBy w7 v.ownBlock):Out w0 w7 v7 (n+m) (B++P):=
 ⟨by rw [List.length_append,hm,h.len],by rw [x0p];exact hown,(fun x hx=>by
  rcases List.mem_append.1 hx with hx | hx
  ·exact h.ok x hx
  ·exact hP x hx),h.low.grown hg h.low.size (fun k hk=>(h.own.lt k hk).1)⟩
theorem Out.form {w0 w:World} {v:Value} {n:Nat} {B:List Nat} (h:Out w0 w v n B):∃q c,v= .slice q n c:=by
 rcases h.own.2 with ⟨rfl,C⟩ | ⟨g,A,E,rfl,_⟩
 ·exact ⟨Option.none,0,by rw [C]⟩
 ·exact ⟨_,A,rfl⟩
theorem Out.tx {w0 w:World} {q:Option Addr} {n c:Nat} {B:List Nat} (h:Out w0 w (.slice q n c) n B):Tx w q n c B:=x0H h.own h.ok
theorem x6x {w:World} {base base' n size:Nat} {e:TypeId} {v:Value} {xs:List Value} (h:w.ownsRow base e size v n xs) (hb:base'≤base):w.ownsRow base' e size v n xs:=
 ⟨h.1,h.2.imp id fun ⟨g,cap,cur,hv,hg,r⟩=>⟨g,cap,cur,hv,Nat.le_trans hb hg,r⟩⟩
end Go.Proofs.YtinihaflmdihaaaGreat.Wl
namespace Go.Proofs.YtinihaflmdihaaaGreat
open Go.RowKit
structure Rd where
 R:List Nat
 e:Nat
theorem Tx.grown {w w':World} {p:Option Addr} {n c:Nat} {B:List Nat} (h:Tx w p n c B) {g:Nat} (hg:w.grownBy w' (some g)) (hn:∀x,p=some x→B≠[]→x.block≠g):Tx w' p n c B:=
 ⟨h.size,h.le,h.ok,h.at'.imp id fun ⟨x,hp,hx⟩=>⟨x,hp,fun j u hu=>by
  have h1:=hx j u hu
  have hB:B≠[]:=by rintro rfl;simp [vals] at hu
  have A:(x.add j).block=x.block:=by cases x;simp [Addr.add];split<;>rfl
  rw [World.cell?_of_block (w:=w) (hg.block _ (block_lt_of_cell h1) (by rw [A];intro e;exact hn x hp hB (by simpa using e)))]
  exact h1⟩,h.sp⟩
theorem y42 (x:Addr) (n j:Nat):(x.add n).add j=x.add (n+j):=by
 simp only [Addr.add]
 by_cases h1:n=0
 ·subst h1;simp
 ·by_cases h2:j=0
  ·subst h2;simp
  ·rw [if_neg h1,if_neg h2,if_neg (by omega)];simp [Nat.add_assoc]
theorem y0N (B:List Nat) (n:Nat):vals (B.take n)=(vals B).take n:=by simp [vals]
theorem Tx.take {w:World} {p:Option Addr} {m c:Nat} {B:List Nat} (h:Tx w p m c B) (n:Nat) (hn:n≤m):Tx w p n c (B.take n):=
 ⟨by have:=h.size;rw [List.length_take];omega,Nat.le_trans hn h.le,fun x hx=>h.ok x (List.mem_of_mem_take hx),h.at'.imp id fun ⟨x,hp,hx⟩=>⟨x,hp,fun j u hu=>hx j u (by
  rw [y0N] at hu
  rw [List.getElem?_take] at hu
  split at hu
  ·exact hu
  ·cases hu)⟩,h.sp⟩
theorem Tx.drop {w:World} {p:Option Addr} {m c:Nat} {B:List Nat} (h:Tx w p m c B) (n:Nat) (hn:n≤m):Tx w (Option.map (fun x=>x.add n) p) (m - n) (c - n) (B.drop n):=by
 have H:=h.size
 have G:=h.le
 refine ⟨by rw [List.length_drop];omega,by omega,fun x A=>h.ok x (List.mem_of_mem_drop A),?_,?_⟩
 ·rcases h.at' with ⟨C,E⟩ | ⟨x,C,A⟩
  ·subst C;subst E
   exact Or.inl ⟨rfl,by omega⟩
  ·subst C
   refine Or.inr ⟨x.add n,rfl,fun j u hu=>?_⟩
   rw [y42]
   refine A (n+j) u ?_
   rw [y08,List.getElem?_drop] at hu
   exact hu
 ·intro x A E
  cases p with
  | none=>cases A
  | some y=>
   simp at A
   subst A
   simp only [Addr.add]
   split
   ·exact h.sp y rfl (by omega)
   ·rfl
theorem Tx.nothing {w:World} {p:Option Addr} {m c:Nat} {B:List Nat} (h:Tx w p m c B):Tx w p 0 0 []:=
 ⟨rfl,Nat.le_refl _,fun x hx=>by simp at hx,by
  cases p with
  | none=>exact Or.inl ⟨rfl,rfl⟩
  | some x=>exact Or.inr ⟨x,rfl,fun j u hu=>by simp [vals] at hu⟩,fun _ _ h=>by omega⟩
theorem y43 {g:Nat} {p:Option Addr} {B:List Nat} (h:∀x,p=some x→B≠[]→x.block<g) (n:Nat):∀x,Option.map (fun x=>x.add n) p=some x→B.drop n≠[]→x.block<g:=by
 intro x hx hB
 cases p with
 | none=>cases hx
 | some y=>
  simp only [Option.map_some,Option.some.injEq] at hx
  subst hx
  have:(y.add n).block=y.block:=by cases y;simp [Addr.add];split<;>rfl
  rw [this]
  exact h y rfl (by rintro rfl;simp at hB)
def Rd.refuse (s:Rd) (k:Nat):Rd:=if s.e=0 then ⟨s.R,k⟩ else s
def Rd.fits (s:Rd) (n:Nat):Prop:=s.e=0∧n≤s.R.length
instance (s:Rd) (n:Nat):Decidable (s.fits n):=by unfold Rd.fits;infer_instance
def Rd.part (s:Rd) (n:Nat):List Nat:=if s.fits n then s.R.take n else []
def Rd.past (s:Rd) (n:Nat):Rd:=if s.fits n then ⟨s.R.drop n,0⟩ else s.refuse 20
theorem x3j (w:World) (r:Option Nat):w.grownBy w r:=⟨rfl,rfl,rfl,Nat.le_refl _,fun _ _ _=>rfl⟩
theorem y3i (w:World):Tx w none 0 0 []:=⟨rfl,Nat.le_refl _,fun x hx=>by simp at hx,Or.inl ⟨rfl,rfl⟩,fun _ h _=>by cases h⟩
theorem Rd.past_len (s:Rd) (n:Nat):(s.past n).R.length≤s.R.length:=by
 unfold Rd.past Rd.refuse
 split
 ·simp
 ·split<;>simp
theorem Rd.refuse_len (s:Rd) (n:Nat):(s.refuse n).R.length≤s.R.length:=by
 unfold Rd.refuse
 split<;>simp
theorem Rd.part_ok {s:Rd} (h:Sm.allB s.R) (n:Nat):Sm.allB (s.part n):=by
 unfold Rd.part
 split
 ·exact fun x hx=>h x (List.mem_of_mem_take hx)
 ·intro x hx;simp at hx
theorem Rd.part_len (s:Rd) (n:Nat):(s.part n).length≤n:=by
 unfold Rd.part
 split
 ·rw [List.length_take];omega
 ·simp
theorem y0O (B:List Nat) (k:Nat) (h:k<B.length):B.take (k+1)=B.take k++[B.getD k 0]:=by
 rw [List.take_succ_eq_append_getElem h,List.getD_eq_getElem?_getD,List.getElem?_eq_getElem h];rfl
theorem y5B (k:Nat) (h:k≤7):256^k≤72057594037927936:=Nat.le_trans (Nat.pow_le_pow_right (by omega) h) (by decide)
theorem val1 {s:Rd} (h:Sm.allB s.R):Cm.val (s.part 1)<256:=by
 have B:=Cm.val_lt (Rd.part_ok h 1)
 have A:256^(s.part 1).length≤256^1:=Nat.pow_le_pow_right (by omega) (Rd.part_len s 1)
 exact Nat.lt_of_lt_of_le B (Nat.le_trans A (by decide))
def Rd.count (s:Rd) (most:Int):Rd:=if min most 1048576<(Cm.val (s.part 3):Nat) then (s.past 3).refuse 10 else s.past 3
def Rd.countV (s:Rd) (most:Int):Int:=if min most 1048576<(Cm.val (s.part 3):Nat) then 0 else (Cm.val (s.part 3):Nat)
theorem val3 {s:Rd} (h:Sm.allB s.R):Cm.val (s.part 3)<16777216:=by
 have B:=Cm.val_lt (Rd.part_ok h 3)
 have A:256^(s.part 3).length≤256^3:=Nat.pow_le_pow_right (by omega) (Rd.part_len s 3)
 exact Nat.lt_of_lt_of_le B (Nat.le_trans A (by decide))
theorem x3H (P R:List Nat) (n:Nat) (h:P.length=n):(Rd.mk (P++R) 0).part n=P∧(Rd.mk (P++R) 0).past n=⟨R,0⟩:=by
 have A:(Rd.mk (P++R) 0).fits n:=⟨rfl,by simp;omega⟩
 unfold Rd.part Rd.past
 rw [if_pos A,if_pos A]
 subst h
 exact ⟨List.take_left' rfl,by rw [show (Rd.mk (P++R) 0).R=P++R from rfl,List.drop_left' rfl]⟩
theorem x1L {w w':World} (hb:Below w.heap.size w w') (r:Option Nat):w.grownBy w' r:=⟨hb.os,hb.tape,hb.output,hb.size,fun k hk _=>hb.block k hk⟩
theorem x0s {w w':World} {r:Option Nat} (h:w.grownBy w' r) {B:Nat} (hB:w.heap.size≤B) {w'':World} (hb:Below B w' w'') (hs:w'.heap.size≤w''.heap.size):w.grownBy w'' r:=
 ⟨hb.os.trans h.os,hb.tape.trans h.tape,hb.output.trans h.output,Nat.le_trans h.size hs,fun k hk hne=>(hb.block k (by omega)).trans (h.block k hk hne)⟩
theorem x2v {w w':World} {g B:Nat} (h:w.grownBy w' (some g)) (hB:B≤g) (hs:B≤w.heap.size:=by omega):Below B w w':=
 ⟨h.os,h.tape,h.output,h.size,fun k hk=>h.block k (by omega) (by simp;omega)⟩
theorem x1T {w:World} {base n:Nat} {v:Value} {xs:List Value} (h:w.ownsRow base 5 1 v n xs):∃q c,v= .slice q n c:=by
 rcases h.2 with ⟨rfl,rfl⟩ | ⟨g,B,A,rfl,_⟩
 ·exact ⟨_,_,rfl⟩
 ·exact ⟨_,_,rfl⟩
structure WStep (w w':World) (g:Nat) (v v':Value):Prop where
 os:w'.os=w.os
 tape:w'.tape=w.tape
 output:w'.output=w.output
 size:w.heap.size≤w'.heap.size
 block:∀k,k<w.heap.size→k≠g→v.ownBlock≠some k→w'.heap[k]? =w.heap[k]?
 own:∀k,v'.ownBlock=some k→v.ownBlock=some k∨w.heap.size≤k
theorem WStep.refl (w:World) (g:Nat) (v:Value):WStep w w g v v:=⟨rfl,rfl,rfl,Nat.le_refl _,fun _ _ _ _=>rfl,fun _ h=>Or.inl h⟩
theorem WStep.trans {a b c:World} {g:Nat} {v1 v2 v3:Value} (h:WStep a b g v1 v2) (k:WStep b c g v2 v3):WStep a c g v1 v3:=
 ⟨k.os.trans h.os,k.tape.trans h.tape,k.output.trans h.output,Nat.le_trans h.size k.size,
  fun i hi hg hv=>(k.block i (Nat.lt_of_lt_of_le hi h.size) hg (fun e=>by rcases h.own i e with h1 | h1;exact hv h1;omega)).trans (h.block i hi hg hv),
  fun i hi=>by
   rcases k.own i hi with h1 | h1
   ·exact h.own i h1
   ·exact Or.inr (Nat.le_trans h.size h1)⟩
theorem WStep.of_below {w w':World} (g:Nat) (v:Value) (h:Below w.heap.size w w'):WStep w w' g v v:=
 ⟨h.os,h.tape,h.output,h.size,fun k hk _ _=>h.block k hk,fun _ h=>Or.inl h⟩
theorem WStep.alloc (w:World) (g:Nat) (v:Value) (o:Obj):WStep w (w.alloc o) g v v:=WStep.of_below g v ((Below.refl _ _).alloc (Nat.le_refl _) _)
theorem WStep.below {w w':World} {base g:Nat} {v v':Value} (h:WStep w w' g v v') (hg:base≤g) (hv:∀k,v.ownBlock=some k→base≤k) (hs:base≤w.heap.size):Below base w w':=
 ⟨h.os,h.tape,h.output,h.size,fun k hk=>h.block k (by omega) (by omega) (fun e=>by have:=hv k e;omega)⟩
structure St where
 B:List Nat
 e:Nat
def St.put (s:St) (P:List Nat):St:=if s.e=0 then ⟨s.B++P,0⟩ else s
def St.no:St:=⟨[],10⟩
structure WS (w:World) (base g:Nat) (v:Value) (s:St):Prop where
 row:w.heap[g]? =some (.cells #[v,.int .i64 s.e] 291 (0,0))
 own:w.ownsRow base 5 1 v s.B.length (vals s.B)
 ok:Sm.allB s.B
 nil:s.e≠0→v= .slice none 0 0∧s.B=[]
theorem WS.lt {w:World} {base g:Nat} {v:Value} {s:St} (h:WS w base g v s):g<w.heap.size:=(yL h.row)
theorem WS.err {w:World} {base g:Nat} {v:Value} {s:St} (h:WS w base g v s):w.cell? ⟨g,1,none⟩=some (.int .i64 s.e):=by
 rw [cell_of_row w g 1 _ _ _ h.row];rfl
theorem WS.out {w:World} {base g:Nat} {v:Value} {s:St} (h:WS w base g v s):w.cell? ⟨g,0,none⟩=some v:=by
 rw [cell_of_row w g 0 _ _ _ h.row];rfl
theorem WS.later {w w':World} {base g:Nat} {v:Value} {s:St} (h:WS w base g v s) (hb:Below w.heap.size w w'):WS w' base g v s:=
 ⟨(hb.block _ h.lt).trans h.row,x3d h.own hb,h.ok,h.nil⟩
theorem x4o {w:World} {base g n:Nat} {v:Value} {xs:List Value} {cs:Array Value} {fr:Nat×Nat} (h:w.ownsRow base 5 1 v n xs) (hr:w.heap[g]? =some (.cells cs 291 fr)):v.ownBlock≠some g:=by
 rcases h.2 with ⟨rfl,_⟩ | ⟨E,C,B,rfl,_,A,_⟩
 ·simp [Value.ownBlock]
 ·intro e
  obtain rfl:E=g:=by simpa [Value.ownBlock] using e
  rw [hr] at A
  simp at A
theorem x7n {w:World} {base n:Nat} {v:Value} {xs:List Value} (h:w.ownsRow base 5 1 v n xs) {a:Addr} (ha:v.ownBlock≠some a.block) (u:Value):(w.setCell a u).ownsRow base 5 1 v n xs:=by
 obtain ⟨E,A⟩:=h
 refine ⟨E,?_⟩
 rcases A with A | ⟨g,C,B,rfl,G,H,r⟩
 ·exact Or.inl A
 ·exact Or.inr ⟨g,C,B,rfl,G,by rw [Below.heap_setCell _ _ _ _ (fun e=>ha (by simp [Value.ownBlock,e]))];exact H,r⟩
theorem Tx.step {w w':World} {p:Option Addr} {n c:Nat} {B:List Nat} (h:Tx w p n c B) {g:Nat} {v v':Value} (hs:WStep w w' g v v') (hg:∀x,p=some x→B≠[]→x.block≠g∧v.ownBlock≠some x.block):Tx w' p n c B:=
 ⟨h.size,h.le,h.ok,h.at'.imp id fun ⟨x,hp,hx⟩=>⟨x,hp,fun j u hu=>by
  have h1:=hx j u hu
  have hB:B≠[]:=by rintro rfl;simp [vals] at hu
  obtain ⟨E,C⟩:=hg x hp hB
  have A:(x.add j).block=x.block:=by cases x;simp [Addr.add];split<;>rfl
  rw [World.cell?_of_block (w:=w) (hs.block _ (block_lt_of_cell h1) (by rw [A];exact E) (by rw [A];exact C))]
  exact h1⟩,h.sp⟩
def WPost (w:World) (base g:Nat) (v:Value) (s:St) (e:Ending) (w':World):Prop:=e= .returned (.tuple #[])∧∃v',WS w' base g v' s∧WStep w w' g v v'
theorem WS.stored {w w2:World} {base g:Nat} {v v2:Value} {s:St} {P:List Nat} (h:WS w base g v s) (he:s.e=0) (hP:Sm.allB P) (ho:w2.ownsRow base 5 1 v2 (s.B.length+P.length) (vals s.B++vals P))
  (hg:w.grownBy w2 v.ownBlock) (hv:∀k,v2.ownBlock=some k→v.ownBlock=some k∨w.heap.size≤k):WS (w2.setCell ⟨g,0,none⟩ v2) base g v2 (s.put P)∧WStep w (w2.setCell ⟨g,0,none⟩ v2) g v v2:=by
 have E:=x4o h.own h.row
 have C:w2.heap[g]? =some (.cells #[v,.int .i64 s.e] 291 (0,0)):=(hg.block g h.lt (fun e=>E e.symm)).trans h.row
 have G:=heap_setCell_same w2 g 0 _ _ v2 C
 have e:s.put P=⟨s.B++P,0⟩:=by unfold St.put;rw [if_pos he]
 rw [e]
 refine ⟨⟨?_,?_,fun x A=>?_,fun hc=>absurd rfl hc⟩,?_⟩
 ·rw [he] at G;exact G
 ·have:=x7n ho (a:=⟨g,0,none⟩) (x4o ho C) v2
  rw [← x0p] at this
  simpa using this
 ·rcases List.mem_append.1 A with A | A
  ·exact h.ok x A
  ·exact hP x A
 ·refine ⟨hg.os,hg.tape,hg.output,by simpa [World.setCell] using hg.size,fun k hk h1 h2=>?_,hv⟩
  rw [Below.heap_setCell _ _ _ _ h1]
  exact hg.block k hk (fun e=>h2 e.symm)
theorem y0P (s:St) (P:List Nat) (base g:Nat) (v:Value) (p:Option Addr) (n c:Nat) (w:World) (hs:WS w base g v s) (hP:Tx w p n c P) (hl:s.B.length+P.length<1099511627776) (hbw:base≤w.heap.size):
  Calls Tryz.prog 266 #[.pointer (some ⟨g,0,none⟩),.slice p n c] w (WPost w base g v (s.put P)):=by
 have R:=hP.size
 by_cases he:s.e=0
 ·obtain ⟨t,c0,M⟩:=x1T hs.own
  obtain ⟨m,I⟩:∃m,m=s.B.length:=⟨_,rfl⟩
  rw [← I] at M
  subst M
  have K:w.cell? ⟨g,1,none⟩=some (.int .i64 0):=by have:=hs.err;rw [he] at this;exact this
  have h0:=hs.out
  have f0:w.frozen? ⟨g,0,none⟩=false:=frozen_of_row w g 0 _ _ hs.row
  obtain ⟨q,l,O,Q,J⟩:=info_parts I5
  have o:=yH l
  have Y:=yH O
  have Z:=yH Q
  have h:=yH J
  have A:=yH hs
  have X:=yH hP
  have r:=yH he
  have HO:=yH hs.own
  have f:=yH R
  have y:n<1099511627776:=by omega
  have b:s.B.length+n<1099511627776:=by omega
  rw [← I] at b
  have j:=yH I
  have C:=hs.own
  rw [← I] at C
  have H:=yH C
  clear l O Q J hs he hl R I C
  have z:=yH A.out.row
  rcases hP.at' with ⟨a,hc⟩ | ⟨x,a,_⟩
  ·subst a
   subst hc
   obtain rfl:n=0:=by have:=hP.le;omega
   have L:P=[]:=List.length_eq_zero_iff.1 f.out.symm
   have i:=yH L
   clear hP L
   go_enter Tryz.func266,Tryz.ntmps266
   go_wp2_with (at_builtin;refine wpList_append_own_none (by rfl) (.tmp 13) (.tmp 14) 45 (by rfl) base 5 q 1 A22 o.out _ m _ (by rfl) H.out (by rfl) ?_)
   go_end0
   refine ⟨rfl,_,A.out.stored r.out X.out.ok ?_ ⟨rfl,rfl,rfl,Nat.le_refl _,fun _ _ _=>rfl⟩ (fun k hk=>Or.inl hk)⟩
   rw [i.out,List.length_nil,Nat.add_zero]
   simpa [vals,← j.out] using H.out
  ·subst a
   clear hP
   go_enter Tryz.func266,Tryz.ntmps266
   go_wp2_with (at_builtin;refine wpList_append_own_at w (by rfl) (.tmp 13) (.tmp 14) 45 (by rfl) base 5 q (.int .u8 0) 1 1 A22 o.out Y.out Z.out h.out (by rfl) (by decide) _ m _ (by rfl) H.out x n c (vals P) (by rfl) (by rw [x00,Nat.mul_one];exact f.out.symm) X.out.cells (x0I _) (by unfold maxLen;omega) (by omega) hbw ?_;intro v2 w2 hown2 hgrow2 _ hat2;obtain ⟨q2,c2,E⟩:=x1T hown2;have G:=(hgrow2.block g A.out.lt (fun e=>x4o A.out.own A.out.row e.symm)).trans z.out;have u:w2.cell? ⟨g,0,none⟩=some (.slice t m c0):=(cell_of_row w2 g 0 _ _ _ G).trans rfl;have A2:w2.frozen? ⟨g,0,none⟩=false:=frozen_of_row w2 g 0 _ _ G;have d:=yH hown2;have W:=yH hgrow2;have U:=yH hat2;have N:=yH E;rw [E];clear hown2 hgrow2 hat2 E G)
   go_end0
   refine ⟨rfl,_,A.out.stored r.out X.out.ok ?_ ?_ (fun k hk=>?_)⟩
   ·have e:m+n=s.B.length+P.length:=by rw [j.out,f.out]
    have:=d.out
    rw [N.out,e] at this
    rw [e]
    exact this
   ·exact W.out
   ·rw [← N.out] at hk
    rcases U.out with K | K
    ·exact Or.inl (K.symm.trans hk)
    ·rw [K] at hk
     cases hk
     exact Or.inr (Nat.le_refl _)
 ·have K:=hs.err
  have b1:((s.e:Int)==0)=false:=by simp;omega
  have e:s.put P=s:=by unfold St.put;rw [if_neg he]
  rw [e]
  have A:=yH hs
  clear hs hP he e hl R
  go_enter Tryz.func266,Tryz.ntmps266
  go_wp2_with fail
  go_end0
  exact ⟨rfl,v,A.out,WStep.refl _ _ _⟩
theorem WPost.trans {w w1:World} {base g:Nat} {v v1:Value} {s:St} (h:WStep w w1 g v v1) {e:Ending} {w':World} (k:WPost w1 base g v1 s e w'):WPost w base g v s e w':=by
 obtain ⟨B,A,C,E⟩:=k
 exact ⟨B,A,C,h.trans E⟩
theorem x22 (s:St) (x:Nat) (hx:x<256) (base g:Nat) (v:Value) (w:World) (hs:WS w base g v s) (hl:s.B.length+1<1099511627776) (hbw:base≤w.heap.size):
  Calls Tryz.prog 238 #[.pointer (some ⟨g,0,none⟩),.int .u8 x] w (WPost w base g v (s.put [x])):=by
 have H:=WStep.alloc w g v (.cells #[.int .u8 x] 5)
 have A:=hs.later ((Below.refl w.heap.size w).alloc (Nat.le_refl _) (.cells #[.int .u8 x] 5))
 have I:Tx (w.alloc (.cells #[.int .u8 x] 5)) (some ⟨w.heap.size,0,none⟩) 1 1 [x]:=(Bytes.row (L:=[x]) (heap_alloc_new w _) (by intro y hy;simp at hy;omega)).tx
 have P:=yH H
 have C:=yH A
 have J:=yH I
 clear H A I hs
 go_enter Tryz.func238,Tryz.ntmps238
 go_wp2_with fail
 refine (y0P s [x] base g v _ 1 1 _ C.out J.out hl (by simp;omega)).mono ?_
 rintro e Q M
 obtain ⟨rfl,K,G,E⟩:=M
 have N:=yH G
 have O:=yH (P.out.trans E)
 clear G E
 go_wp2_with fail
 go_end0
 exact ⟨rfl,K,N.out,O.out⟩
theorem x3k (s:St) (base g:Nat) (v:Value) (w:World) (hs:WS w base g v s):
  Calls Tryz.prog 267 #[.pointer (some ⟨g,0,none⟩)] w (WPost w base g v .no):=by
 have H:=hs.out
 have A:=hs.err
 have G:w.frozen? ⟨g,0,none⟩=false:=frozen_of_row w g 0 _ _ hs.row
 have I:w.frozen? ⟨g,1,none⟩=false:=frozen_of_row w g 1 _ _ hs.row
 have B:=yH hs
 clear hs
 go_enter Tryz.func267,Tryz.ntmps267
 go_wp2_with fail
 go_end0
 have E:=heap_setCell_same w g 0 _ _ (.slice none 0 0) B.out.row
 have C:=heap_setCell_same _ g 1 _ _ (.int .i64 10) E
 refine ⟨rfl,.slice none 0 0,⟨C,World.ownsRow_nil _ _ _ _,fun x hx=>by simp [St.no] at hx,fun _=>⟨rfl,rfl⟩⟩,?_⟩
 refine ⟨rfl,rfl,rfl,by simp [World.setCell],fun k hk A h2=>?_,fun k hk=>by simp [Value.ownBlock] at hk⟩
 rw [Below.heap_setCell _ _ _ _ A,Below.heap_setCell _ _ _ _ A]
def y5C (w:World) (base g:Nat) (v:Value) (s:St) (n size:Nat) (i:Value) (wr:World):Prop:=
 ∃(k:Nat) (v':Value),k≤size∧i= .int .i64 k∧WS wr base g v' (s.put ((Cm.be n size).take k))∧WStep w wr g v v'
theorem St.put_nil {s:St} (h:s.e≠0∨s.e=0):s.put []=s:=by
 unfold St.put
 obtain ⟨B,e⟩:=s
 rcases h with h | h
 ·rw [if_neg h]
 ·rw [if_pos h]
  simp at h
  subst h
  simp
theorem St.put_put (s:St) (P Q:List Nat):(s.put P).put Q=s.put (P++Q):=by
 unfold St.put
 by_cases h:s.e=0
 ·rw [if_pos h,if_pos rfl,if_pos h,List.append_assoc]
 ·rw [if_neg h,if_neg h,if_neg h]
theorem St.put_len (s:St) (P:List Nat):(s.put P).B.length≤s.B.length+P.length:=by
 unfold St.put
 by_cases h:s.e=0
 ·rw [if_pos h,List.length_append];exact Nat.le_refl _
 ·rw [if_neg h];omega
theorem x6y (s:St) (n size:Nat) (_hn:n<18446744073709551616) (hsize:size≤8) (base g:Nat) (v:Value) (w:World) (hs:WS w base g v s) (hl:s.B.length+size<1099511627776) (hbw:base≤w.heap.size):
  Calls Tryz.prog 282 #[.pointer (some ⟨g,0,none⟩),.int .u64 n,.int .i64 size] w (WPost w base g v (s.put (Cm.be n size))):=by
 have HS:=yH hs
 have U:=yH hl
 have H:=yH hbw
 clear hs hl hbw
 go_enter Tryz.func282,Tryz.ntmps282
 go_wp2_with fail
 go_loopw [8] (fun i wr=>y5C w base g v s n size i wr) (fun i _=>size - (intOf i).toNat)
 case atStart=>exact ⟨0,v,by omega,rfl,by rw [List.take_zero,St.put_nil (by omega)];exact HS.out,WStep.refl _ _ _⟩
 case round=>
  obtain ⟨k,J,Z,rfl,M,L⟩:=hrel
  have K:=yH M
  have E:=yH L
  clear M L HS
  by_cases hlt:k<size
  ·have X:(0:Int)≤8*(size - 1 - k)∧8*(size - 1 - (k:Int))≤64:=by omega
   go_wp2_with fail
   rw [show (n:Int)/2^(8*(size - 1 - k))%256=((n/2^(8*(size - 1 - k))%256:Nat):Int) from by rw [Int.natCast_emod,Int.natCast_ediv,Int.natCast_pow];rfl]
   obtain ⟨x,C⟩:∃x,x=n/2^(8*(size - 1 - k))%256:=⟨_,rfl⟩
   rw [← C]
   have G:x<256:=by rw [C];exact Nat.mod_lt _ (by omega)
   have Q:=yH C
   clear C
   have A:=St.put_len s ((Cm.be n size).take k)
   rw [List.length_take,Cm.be_length] at A
   refine (x22 _ x G base g J _ K.out (by have:=U.out;omega) (Nat.le_trans H.out E.out.size)).mono ?_
   rintro e Y P
   obtain ⟨rfl,O,N,I⟩:=P
   have R:=yH N
   have W:=yH (E.out.trans I)
   clear N I A
   go_wp2_with fail
   go_roundw
   case rel=>
    refine ⟨k+1,O,by omega,by go_num,?_,W.out⟩
    have:=R.out
    rw [St.put_put,Q.out,← Cm.be_take n size k hlt] at this
    exact this
   case measure=>simp [intOf];omega
  ·obtain rfl:k=size:=by omega
   go_wp2_with fail
   go_end0
   refine ⟨rfl,J,?_,E.out⟩
   have:=K.out
   rw [List.take_of_length_le (by rw [Cm.be_length];exact Nat.le_refl _)] at this
   exact this
def St.truth (s:St) (x:Bool):St:=s.put [if x then 1 else 0]
def St.count (s:St) (n:Int):St:=if 0≤n∧n≤1048576 then s.put (Cm.be n.toNat 3) else .no
def St.text (s:St) (T:List Nat):St:=(s.count T.length).put T
def St.row (s:St) (R:List Int):St:=if R.length≤255 then R.foldl (fun s n=>s.put (Cm.num n)) (s.put [R.length]) else .no
theorem x6z (s:St) (n:Int) (h1: -9223372036854775808≤n) (h2:n≤9223372036854775807) (base g:Nat) (v:Value) (w:World) (hs:WS w base g v s) (hl:s.B.length+3<1099511627776) (hbw:base≤w.heap.size):
  Calls Tryz.prog 270 #[.pointer (some ⟨g,0,none⟩),.int .i64 n] w (WPost w base g v (s.count n)):=by
 have J:=yH hs
 clear hs
 unfold St.count
 by_cases hn:0≤n∧n≤1048576
 ·rw [if_pos hn]
  obtain ⟨m,rfl⟩:∃m:Nat,n=m:=⟨n.toNat,by omega⟩
  obtain ⟨M,N⟩:=hn
  have b1:¬(m:Int)<0:=by omega
  have L:¬(1048576:Int)<m:=by omega
  rw [Int.toNat_natCast]
  go_enter Tryz.func270,Tryz.ntmps270
  go_wp2_with fail
  refine (x6y s m 3 (by omega) (by omega) base g v _ J.out hl hbw).mono ?_
  rintro e K G
  obtain ⟨rfl,E,C,A⟩:=G
  have H:=yH C
  have I:=yH A
  clear C A
  go_wp2_with fail
  go_end0
  exact ⟨rfl,E,H.out,I.out⟩
 ·rw [if_neg hn]
  by_cases b1:n<0
  ·clear hn
   go_enter Tryz.func270,Tryz.ntmps270
   go_wp2_with fail
   refine (x3k s base g v _ J.out).mono ?_
   rintro e K G
   obtain ⟨rfl,E,C,A⟩:=G
   have H:=yH C
   have I:=yH A
   clear C A
   go_wp2_with fail
   refine bodyPost_ret (results_none rfl _ _ _) rfl ?_
   exact ⟨rfl,E,H.out,I.out⟩
  ·have L:(1048576:Int)<n:=by omega
   clear hn
   go_enter Tryz.func270,Tryz.ntmps270
   go_wp2_with fail
   refine (x3k s base g v _ J.out).mono ?_
   rintro e K G
   obtain ⟨rfl,E,C,A⟩:=G
   have H:=yH C
   have I:=yH A
   clear C A
   go_wp2_with fail
   refine bodyPost_ret (results_none rfl _ _ _) rfl ?_
   exact ⟨rfl,E,H.out,I.out⟩
theorem y44 (s:St) (n:Int) (h1: -9223372036854775808≤n) (h2:n≤9223372036854775807) (base g:Nat) (v:Value) (w:World) (hs:WS w base g v s) (hl:s.B.length+8<1099511627776) (hbw:base≤w.heap.size):
  Calls Tryz.prog 268 #[.pointer (some ⟨g,0,none⟩),.int .i64 n] w (WPost w base g v (s.put (Cm.num n))):=by
 have H:=yH hs
 clear hs
 have A:=Cm.sign_int h1 h2
 have G:=(Cm.z64_lt h1 h2).1
 have I:=yH A
 have L:=yH G
 clear A G
 go_enter Tryz.func268,Tryz.ntmps268
 go_wp2_with fail
 rw [I.out]
 refine (x6y s (Cm.z64 n) 8 L.out (by omega) base g v _ H.out hl hbw).mono ?_
 rintro e O M
 obtain ⟨rfl,J,E,C⟩:=M
 have K:=yH E
 have N:=yH C
 clear E C
 go_wp2_with fail
 go_end0
 exact ⟨rfl,J,K.out,N.out⟩
theorem x4p (g:Nat) (w:World):(Instr.sliceAt 30 (.pointer (some ⟨g,0,none⟩)) none none none).run Tryz.prog w= .ok (.slice (some ⟨g,0,none⟩) 32 32) w:=by
 have B:Tryz.prog.arrayLen 30=32:=by simp [Program.arrayLen]
 have C:Tryz.prog.elem 30=5:=by simp [Program.elem]
 have E:=run_sliceAt_array_all (P:=Tryz.prog) w 30 ⟨g,0,none⟩ (by rw [B,C];exact A25)
 obtain ⟨I,H,_,A,_⟩:=info_parts I5
 have G:(sizeOf 5).run Tryz.prog w= .ok 1 w:=by simp [sizeOf,typeInfo,H,A]
 rw [E,B,C,G]
 simp [slicedAt,Addr.add]
theorem x7o (s:St) (d:List Nat) (hd:d.length=32) (hdb:Sm.allB d) (base g:Nat) (v:Value) (w:World) (hs:WS w base g v s) (hl:s.B.length+32<1099511627776) (hbw:base≤w.heap.size):
  Calls Tryz.prog 269 #[.pointer (some ⟨g,0,none⟩),.agg (u8s d)] w (WPost w base g v (s.put d)):=by
 have O:=fun w'=>x4p w.heap.size w'
 have A:=hs.later ((Below.refl w.heap.size w).alloc (Nat.le_refl _) (.cells (u8s d) 30))
 have E:Tx (w.alloc (.cells (u8s d) 30)) (some ⟨w.heap.size,0,none⟩) d.length d.length d:=(Bytes.row (L:=d) (heap_alloc_new w _) hdb).tx
 rw [hd] at E
 have P:=yH (WStep.alloc w g v (.cells (u8s d) 30))
 have C:=yH A
 have I:=yH E
 have Q:=yH hd
 clear A E hs hd
 go_enter Tryz.func269,Tryz.ntmps269
 go_wp2_with fail
 refine (y0P s d base g v _ 32 32 _ C.out I.out (by have:=Q.out;omega) (by simp;omega)).mono ?_
 rintro e R M
 obtain ⟨rfl,J,G,H⟩:=M
 have K:=yH G
 have N:=yH (P.out.trans H)
 clear G H
 go_wp2_with fail
 go_end0
 exact ⟨rfl,J,K.out,N.out⟩
theorem be3 (n:Nat):Cm.be n 3=[n/65536%256,n/256%256,n%256]:=by
 show [n/2^16%256,n/2^8%256,n/2^0%256]=_
 simp
theorem y45 {n:Int} (h1: -9223372036854775808≤n) (h2:n≤9223372036854775807):IntKind.u64.wrap (IntKind.u64.wrap n+9223372036854775808)=((Cm.z64 n:Nat):Int):=by
 have:=(Cm.z64_lt h1 h2).2
 rw [Cm.wrap_u64,Cm.wrap_u64]
 omega
def nums (R:List Int):List Nat:=R.flatMap Cm.num
theorem x2w (R:List Int):(nums R).length=8*R.length:=by
 induction R with
 | nil=>rfl
 | cons x R ih=>
  show (Cm.num x++nums R).length=_
  rw [List.length_append,ih,Cm.num_length,List.length_cons]
  omega
theorem y46 (R:List Int):Sm.allB (nums R):=fun x hx=>by
 obtain ⟨y,_,hy⟩:=List.mem_flatMap.1 hx
 exact Cm.num_ok y x hy
theorem x70 (R:List Int) (k:Nat) (hk:k<R.length):nums (R.take (k+1))=nums (R.take k)++Cm.num (R.getD k 0):=by
 have e:R.getD k 0=R[k]:=by rw [List.getD_eq_getElem?_getD,List.getElem?_eq_getElem hk];rfl
 rw [e,List.take_succ_eq_append_getElem hk]
 unfold nums
 rw [List.flatMap_append,List.flatMap_cons,List.flatMap_nil,List.append_nil]
def rowB (R:List Int):List Nat:=R.length::nums R
theorem y2I {w:World} {base n:Nat} {q:Option Addr} {c:Nat} {xs:List Value} (h:w.ownsRow base 5 1 (.slice q n c) n xs) (h0:0<n):∃x,q=some x:=by
 rcases h.2 with ⟨A,_⟩ | ⟨g,C,B,A,_⟩
 ·cases A;omega
 ·simp only [Value.slice.injEq] at A
  exact ⟨_,A.1⟩
end Go.Proofs.YtinihaflmdihaaaGreat
namespace Go.Proofs.YtinihaflmdihaaaGreat.Nd
open Go.RowKit Go.Proofs.YtinihaflmdihaaaGreat.Wl
def rowBs (R:List Int):List Nat:=R.length%256::Go.Proofs.YtinihaflmdihaaaGreat.nums R
def PE.bytes (e:PE):List Nat:=(if e.live then 1 else 0)::rowBs e.row
def PK.bytes (k:PK):List Nat:=k.sum++(Cm.be k.live.toNat 3++(Cm.be k.size.toNat 3++(rowBs k.lo++(rowBs k.hi++rowBs k.key))))
def PN.bytes (n:PN):List Nat:=n.kind::n.rows.length%256::(n.rows.flatMap PE.bytes++(n.kids.length%256::n.kids.flatMap PK.bytes))
theorem x0V (R:List Int):(rowBs R).length=1+8*R.length:=by simp [rowBs,x2w];omega
theorem x0v (R:List Int):Sm.allB (rowBs R):=fun x hx=>by
 rcases List.mem_cons.1 hx with rfl | hx
 ·exact Nat.mod_lt _ (by omega)
 ·exact y46 R x hx
theorem x3I {α:Type} [Inhabited α] (f:α→List Nat) (L:List α) (k:Nat) (h:k<L.length):(L.take (k+1)).flatMap f=(L.take k).flatMap f++f (L.getD k default):=by
 rw [List.take_succ_eq_append_getElem h,List.flatMap_append,List.getD_eq_getElem?_getD,List.getElem?_eq_getElem h]
 simp
theorem x2x {w:World} {q:Option Addr} {n c:Nat} {B:List Nat} (h:Tx w q n c B) (hB:B≠[]):∃x,q=some x:=by
 rcases h.at' with ⟨_,C⟩ | ⟨x,A,_⟩
 ·have:=h.size
  have:=h.le
  exact absurd (List.length_eq_zero_iff.1 (by omega)) hB
 ·exact ⟨x,A⟩
structure BySt (w1:World) (gx:Nat) (kd:Kd) (w:World) (v:Value) (n:Nat) (B:List Nat):Prop where
 out:Out w1 w v n B
 row:w.heap[gx]? =some (.cells kd.cells.toArray 34 (0,0))
 ne:v.ownBlock≠some gx
theorem BySt.later {w1 w w':World} {gx:Nat} {kd:Kd} {v:Value} {n:Nat} {B:List Nat} (h:BySt w1 gx kd w v n B) (hb:Below w.heap.size w w'):BySt w1 gx kd w' v n B:=
 ⟨h.out.later hb,(hb.block _ (yL h.row)).trans h.row,h.ne⟩
theorem BySt.put {w1 w w7:World} {gx:Nat} {kd:Kd} {v v7:Value} {n m:Nat} {B P:List Nat} (h:BySt w1 gx kd w v n B) (hP:Sm.allB P) (hm:P.length=m) (hown:w7.ownsRow w1.heap.size 5 1 v7 (n+m) (vals B++vals P)) (hg:w.grownBy w7 v.ownBlock) (hat:v7.ownBlock=v.ownBlock∨v7.ownBlock=some w.heap.size):BySt w1 gx kd w7 v7 (n+m) (B++P):=by
 have C:=(yL h.row)
 refine ⟨h.out.put hP hm hown hg,(hg.block _ C (fun e=>h.ne e.symm)).trans h.row,fun e=>?_⟩
 rcases hat with A | A
 ·exact h.ne (A.symm.trans e)
 ·rw [A] at e
  have:=Option.some.inj e
  omega
theorem BySt.start {w1 w:World} {kd:Kd} {v:Value} {n:Nat} {B:List Nat} (h:Out w1 w v n B):BySt w1 w.heap.size kd (w.alloc (.cells kd.cells.toArray 34)) v n B:=
 ⟨h.later ((Below.refl _ _).alloc (Nat.le_refl _) _),heap_alloc_new w _,fun e=>by have:=(h.own.lt _ e).2;omega⟩
theorem x01:kd0.cells.length=37:=rfl
theorem kz:(Tryz.prog.info? 34).map (fun i=>(i.zero,i.size))=some (some (.agg kd0.cells.toArray),37):=by kernel_rfl
theorem Kd.one {k:Kd}:∀u∈k.cells,u.oneCell'=true:=by
 intro u A
 rcases List.mem_append.1 A with A | A
 ·exact x0I _ u A
 ·simp only [List.mem_cons,List.not_mem_nil,or_false] at A
  rcases A with rfl | rfl | rfl | rfl | rfl<;>rfl
end Go.Proofs.YtinihaflmdihaaaGreat.Nd
