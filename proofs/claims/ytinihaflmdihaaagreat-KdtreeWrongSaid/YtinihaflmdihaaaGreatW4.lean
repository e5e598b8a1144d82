/- NlEmpty, GenBox, BoxEach, NlKid, NdNode, NdRightP, NlEach, WlOut, CodRd. -/
import Derived.Maps.AppendAt
import Derived.Test.YtinihaflmdihaaaGreatW1
import Derived.Test.YtinihaflmdihaaaGreatW2
import Derived.Test.YtinihaflmdihaaaGreatW3
set_option maxRecDepth 100000
set_option maxHeartbeats 8000000
set_option linter.unusedVariables false
set_option linter.unusedSimpArgs false
namespace Go.Proofs.YtinihaflmdihaaaGreat.Nd
open Go.RowKit
open List renaming setIfInBounds_toArray → sA, set_cons_zero → sZ, set_cons_succ → sS
theorem nempty_any (a:Kd) (w:World) (ha:a.Ok w):
  Calls Tryz.prog 20 #[.agg a.cells.toArray] w fun e w'=>e= .returned (.bool (decide (a.pk=PK.none)))∧Below w.heap.size w w':=by
 have hb1:Below w.heap.size w (w.alloc (.cells a.cells.toArray 34)):=(Below.refl _ _).alloc (Nat.le_refl _) _
 have r1:=heap_alloc_new w (.cells a.cells.toArray 34)
 obtain ⟨d,hd,hdr⟩:=UKd
 have HA:=Lib.hid ha
 have HD:=Lib.hid hd
 have HDR:=Lib.hid hdr
 clear ha hd hdr
 go_enter Tryz.func20,Tryz.ntmps20
 go_upto_region 1 with fail
 generalize w.alloc (.cells a.cells.toArray 34)=W at *
 have R1:=Lib.hid (range_kd r1)
 have HOK:=Lib.hid (HA.out.later hb1)
 have HL:=Lib.hid (Kd.cells_length HA.out.len)
 have HB:=Lib.hid hb1
 clear r1 hb1
 go_wp2_with (first
  | (refine wpList_load_mid (by rfl) 34 _ (by rfl) _ 0 (by rfl) a.cells d R1.out HD.out HDR.out (by rw [HL.out];exact SKd) ?_)
  | (refine wpList_build (by rfl) (by rfl) kd0_built ?_)
  | (refine (nsame_any a kd0 W HOK.out (kd0_ok W)).mono ?_;rintro _ w5 ⟨rfl,b5⟩;rw [kd0_pk]))
 go_ret
 exact ⟨rfl,HB.out.trans (b5.mono HB.out.size)⟩
end Go.Proofs.YtinihaflmdihaaaGreat.Nd
namespace Go.Proofs.YtinihaflmdihaaaGreat
open Go.RowKit
open List renaming setIfInBounds_toArray → sA, set_cons_zero → sZ, set_cons_succ → sS
def BoxAt (w:World) (B:Nat) (p:Option Addr) (n c:Nat) (q:Option Addr) (m d:Nat):Prop:=w.cell? ⟨B,0,none⟩=some (.slice p n c)∧w.cell? ⟨B,1,none⟩=some (.slice q m d)
theorem enter_side {F:Nat} {fn:Func} {c:Code} (hf:Tryz.prog.funcs[F]? =some fn) (hname:(fn.name== "runtime.NumGoroutine")=false) (hb:fn.body=some c):∀args w,(callFunc F args).run Tryz.prog w= .ok (.enter F args) w:=fun args w=>by
 have h1:fn.name≠ "runtime.NumGoroutine" :=by simpa using hname
 simp [callFunc,hf,h1,hb,mark]
theorem boxed (w:World) (v:Value) (t:TypeId):(w.alloc (.cells #[v] t)).cell? ⟨w.heap.size,0,none⟩=some v:=cell_of_row _ _ 0 _ t (0,0) (heap_alloc_new w _)
theorem dimensions_any (d:Int) (w:World):
  Calls Tryz.prog 263 #[.int .i64 d] w fun e w'=>e= .returned (.bool (decide (1≤d∧d≤8)))∧w=w':=by
 by_cases h1:1≤d
 ·by_cases h2:d≤8
  ·go_enter Tryz.func263,Tryz.ntmps263
   go_wp2_with fail
   go_ret
   exact ⟨ret_dec ⟨h1,h2⟩,rfl⟩
  ·go_enter Tryz.func263,Tryz.ntmps263
   go_wp2_with fail
   go_ret
   exact ⟨ret_ndec (by omega),rfl⟩
 ·go_enter Tryz.func263,Tryz.ntmps263
  go_wp2_with fail
  go_ret
  exact ⟨congrArg (fun b=>Ending.returned (.bool b)) (by rw [decide_eq_false (show ¬1≤d by omega)];rfl),rfl⟩
def alls (f:Nat→Bool):Nat→Bool
 | 0=>true
 | k+1=>alls f k&&f k
theorem alls_iff (f:Nat→Bool):∀n,alls f n=true↔∀k,k<n→f k=true
 | 0=>⟨fun _ k hk=>by omega,fun _=>rfl⟩
 | n+1=>by
  show (alls f n&&f n)=true↔_
  rw [Bool.and_eq_true,alls_iff f n]
  constructor
  ·rintro ⟨h1,h2⟩ k hk
   by_cases hkn:k=n
   ·rw [hkn];exact h2
   ·exact h1 k (by omega)
  ·intro h
   exact ⟨fun k hk=>h k (by omega),h n (by omega)⟩
theorem alls_false {f:Nat→Bool} {k n:Nat} (hk:k<n) (h:f k=false):alls f n=false:=by
 cases e:alls f n with
 | false=>rfl
 | true=>rw [(alls_iff f n).1 e k hk] at h;cases h
theorem alls_les (R S:List Int):∀n,alls (fun k=>decide (R.getD k 0≤S.getD k 0)) n=les R S n
 | 0=>rfl
 | n+1=>by
  show (alls _ n&&_)=(les R S n&&_)
  rw [alls_les R S n]
def Asks (w:World) (n:Nat) (f:Nat→Bool) (F:Nat) (cap:Array Value):Prop:=
 ∀(k:Nat) (w':World),k<n→Below w.heap.size w w'→Calls Tryz.prog F (#[.int .i64 k]++cap) w' fun e w''=>e= .returned (.bool (f k))∧∃j,w''=w'.drewN j
def EachRel (w:World) (f:Nat→Bool) (n:Nat) (i:Value) (wr:World):Prop:=∃k j:Nat,k≤n∧i= .int .i64 k∧alls f k=true∧wr=w.drewN j
theorem each_any (n:Nat) (hn:n<9223372036854775807) (f:Nat→Bool) (F:Nat) (cap:Array Value) (hF:∀args w,(callFunc F args).run Tryz.prog w= .ok (.enter F args) w) (w:World) (hs:Asks w n f F cap):
  Calls Tryz.prog 264 #[.int .i64 n,.func (.func F) #[] cap] w fun e w'=>e= .returned (.bool (alls f n))∧∃j,w'=w.drewN j:=by
 have HS:=Lib.hid hs
 clear hs
 go_enter Tryz.func264,Tryz.ntmps264
 go_wp2_with fail
 go_loopw [7] (fun i wr=>EachRel w f n i wr) (fun i _=>n - (intOf i).toNat)
 case atStart=>exact ⟨0,0,by omega,rfl,rfl,rfl⟩
 case round=>
  obtain ⟨k,j,hk,rfl,hal,rfl⟩:=hrel
  have HA:=Lib.hid hal
  clear hal
  by_cases hlt:k<n
  ·have hc:=HS.out k (w.drewN j) hlt (Below.drewN (Below.refl _ _) j)
   cases hfk:f k with
   | false=>
    rw [hfk] at hc
    have HC:=Lib.hid hc
    have HX:=Lib.hid (alls_false hlt hfk)
    clear hc hfk
    go_wp2_with (refine HC.out.mono ?_;rintro e w'' ⟨rfl,j2,rfl⟩)
    go_ret
    exact ⟨congrArg (fun b=>Ending.returned (.bool b)) HX.out.symm,j+j2,rfl⟩
   | true=>
    rw [hfk] at hc
    have HC:=Lib.hid hc
    have HX:=Lib.hid (show alls f (k+1)=true by show (alls f k&&f k)=true;rw [HA.out,hfk];rfl)
    clear hc hfk
    go_wp2_with (refine HC.out.mono ?_;rintro e w'' ⟨rfl,j2,rfl⟩)
    go_roundw
    case rel=>exact ⟨k+1,j+j2,by omega,by go_num,HX.out,rfl⟩
    case measure=>simp [intOf];omega
  ·obtain rfl:k=n:=by omega
   go_wp2_with fail
   go_ret
   exact ⟨congrArg (fun b=>Ending.returned (.bool b)) HA.out.symm,j,rfl⟩
theorem rightside (B:Nat) (p q:Option Addr) (n c m e:Nat) (R S:List Int) (k:Nat) (hk:k<n) (hm:k<m) (w:World) (hB:BoxAt w B p n c q m e) (h:Ints w p n c R) (h2:Ints w q m e S):
  Calls Tryz.prog 265 #[.int .i64 k,.pointer (some ⟨B,0,none⟩)] w fun e w'=>e= .returned (.bool (decide (R.getD k 0≤S.getD k 0)))∧∃j,w'=w.drewN j:=by
 obtain ⟨hB0,hB1⟩:=hB
 obtain ⟨g,o,rfl,hc⟩:=h.cell k hk
 obtain ⟨g2,o2,rfl,hc2⟩:=h2.cell k hm
 clear h h2
 generalize R.getD k 0=x at *
 generalize S.getD k 0=y at *
 have b1:(0:Int)≤k∧(k:Int)<n:=by omega
 have b2:(0:Int)≤k∧(k:Int)<m:=by omega
 go_enter Tryz.func265,Tryz.ntmps265
 go_wp2_with fail
 go_quiet (fail)
 go_wp2_with fail
 go_ret
 exact ⟨rfl,_,rfl⟩
theorem right_any (p q:Option Addr) (n c m e:Nat) (R S:List Int) (d:Int) (w:World) (h:Ints w p n c R) (h2:Ints w q m e S):
  Calls Tryz.prog 237 #[.agg #[.slice p n c,.slice q m e],.int .i64 d] w fun e w'=>e= .returned (.bool (rightB R S n m d))∧Below w.heap.size w w':=by
 have hb:Below w.heap.size w (w.alloc (.cells #[.slice p n c,.slice q m e] 32)):=(Below.refl _ _).alloc (Nat.le_refl _) _
 obtain ⟨e0,e1⟩:=pair_alloc w (.slice p n c) (.slice q m e) 32
 have H1:=Lib.hid (h.later hb)
 have H2:=Lib.hid (h2.later hb)
 have HB:=Lib.hid hb
 clear h h2 hb
 have hD:=dimensions_any d
 by_cases hd:1≤d∧d≤8
 case neg=>
  rw [decide_eq_false hd] at hD
  have HD:=Lib.hid hD
  rw [rightB_not (by omega)]
  clear hD hd
  go_enter Tryz.func237,Tryz.ntmps237
  go_wp2_with ((go_at_call 263;refine (HD.out _).mono ?_;rintro _ w' ⟨rfl,rfl⟩))
  go_ret
  exact ⟨rfl,HB.out⟩
 rw [decide_eq_true hd] at hD
 have HD:=Lib.hid hD
 clear hD
 by_cases hn:(n:Int)=d
 case neg=>
  rw [rightB_not (fun h=>hn h.2.2.1)]
  have q1:((n:Int)==d)=false:=by simpa using hn
  clear hd hn
  go_enter Tryz.func237,Tryz.ntmps237
  go_wp2_with ((go_at_call 263;refine (HD.out _).mono ?_;rintro _ w' ⟨rfl,rfl⟩))
  go_ret
  exact ⟨rfl,HB.out⟩
 subst hn
 by_cases hm:(m:Int)=n
 case neg=>
  rw [rightB_not (fun h=>hm h.2.2.2)]
  have q1:((m:Int)==n)=false:=by simpa using hm
  clear hd hm
  go_enter Tryz.func237,Tryz.ntmps237
  go_wp2_with ((go_at_call 263;refine (HD.out _).mono ?_;rintro _ w' ⟨rfl,rfl⟩))
  go_ret
  exact ⟨rfl,HB.out⟩
 obtain rfl:m=n:=by omega
 rw [rightB_les (by omega)]
 have hn8:m<9223372036854775807:=by omega
 clear hm hd
 go_enter Tryz.func237,Tryz.ntmps237
 go_upto_region 1 with fail
 have hs0:w.heap.size<(w.alloc (.cells #[.slice p m c,.slice q m e] 32)).heap.size:=by simp
 generalize w.alloc (.cells #[.slice p m c,.slice q m e] 32)=w0 at *
 have HE:=Lib.hid (each_any m hn8 (fun k=>decide (R.getD k 0≤S.getD k 0)) 265 #[.pointer (some ⟨w.heap.size,0,none⟩)] (enter_side Tryz.func265 (by kernel_rfl) rfl) w0 (fun k w' hk hb=>rightside w.heap.size p q m c m e R S k hk hk w' ⟨(hb.cell (p:=⟨w.heap.size,0,none⟩) hs0).trans e0,(hb.cell (p:=⟨w.heap.size,1,none⟩) hs0).trans e1⟩ (H1.out.later hb) (H2.out.later hb)))
 rw [alls_les] at HE
 go_wp2_with (first | (go_at_call 263;refine (HD.out _).mono ?_;rintro _ w' ⟨rfl,rfl⟩) | (go_at_call 264;refine HE.out.mono ?_;rintro _ w' ⟨rfl,j,rfl⟩))
 go_ret
 exact ⟨rfl,Below.drewN HB.out _⟩
end Go.Proofs.YtinihaflmdihaaaGreat
namespace Go.Proofs.YtinihaflmdihaaaGreat.Nd
open Go.RowKit
open List renaming setIfInBounds_toArray → sA, set_cons_zero → sZ, set_cons_succ → sS
theorem nil_pair (R S:List Int):(decide (R=[])&&decide (S=[]))=decide (R.length+S.length=0):=by
 rw [Bool.eq_iff_iff,Bool.and_eq_true,decide_eq_true_iff,decide_eq_true_iff,decide_eq_true_iff,← List.length_eq_zero_iff,← List.length_eq_zero_iff]
 omega
theorem nkid_any (a:Kd) (dm:Int) (w:World) (ha:a.Ok w):
  Calls Tryz.prog 204 #[.agg a.cells.toArray,.int .i64 dm] w fun e w'=>e= .returned (.bool (a.pk.right dm))∧Below w.heap.size w w':=by
 have hb1:Below w.heap.size w (w.alloc (.cells a.cells.toArray 34)):=(Below.refl _ _).alloc (Nat.le_refl _) _
 have r1:=heap_alloc_new w (.cells a.cells.toArray 34)
 obtain ⟨d,hd,hdr⟩:=UKd
 have hp:a.pk.right dm=if a.pk=PK.none then true else if a.size<1∨1048576<a.size∨a.live<0∨a.size<a.live then false else if a.live=0 then decide (a.lo.R.length+a.hi.R.length=0) else rightB a.lo.R a.hi.R a.lo.n a.hi.n dm:=by
  rw [ha.lo.ints.size,ha.hi.ints.size]
  rfl
 obtain ⟨X,hX⟩:∃X,a.pk.right dm=X:=⟨_,rfl⟩
 rw [hX] at hp
 rw [hX]
 have HX:=Lib.hid hp
 have HA:=Lib.hid ha
 have HD:=Lib.hid hd
 have HDR:=Lib.hid hdr
 clear ha hd hdr hp hX
 go_enter Tryz.func204,Tryz.ntmps204
 go_upto_region 1 with fail
 generalize w.alloc (.cells a.cells.toArray 34)=W at *
 have R1:=Lib.hid (range_kd r1)
 have KA:=Lib.hid (kat_row r1 HA.out.len)
 have HOK:=Lib.hid (HA.out.later hb1)
 have HL:=Lib.hid (Kd.cells_length HA.out.len)
 have HB:=Lib.hid hb1
 clear r1 hb1
 by_cases h0:a.pk=PK.none
 ·have hx:=HX.out
  rw [if_pos h0] at hx
  subst hx
  have H0:=Lib.hid (decide_eq_true h0)
  clear h0
  go_wp2_with (first
   | (refine wpList_load_mid (by rfl) 34 _ (by rfl) _ 0 (by rfl) a.cells d R1.out HD.out HDR.out (by rw [HL.out];exact SKd) ?_)
   | (refine (nempty_any a W HOK.out).mono ?_;rintro _ w5 ⟨rfl,b5⟩;rw [H0.out]))
  go_ret
  exact ⟨rfl,HB.out.trans (b5.mono HB.out.size)⟩
 have hx:=HX.out
 rw [if_neg h0] at hx
 have HX2:=Lib.hid hx
 have H0:=Lib.hid (decide_eq_false h0)
 clear h0 hx HX
 go_upto_region 3 with (first
  | (refine wpList_load_mid (by rfl) 34 _ (by rfl) _ 0 (by rfl) a.cells d R1.out HD.out HDR.out (by rw [HL.out];exact SKd) ?_)
  | (refine (nempty_any a W HOK.out).mono ?_;rintro _ w5 ⟨rfl,b5⟩;rw [H0.out];have a2:=(b5.cell (block_lt_of_cell KA.out.live)).trans KA.out.live;have a3:=(b5.cell (block_lt_of_cell KA.out.size)).trans KA.out.size;have a4:=(b5.cell (block_lt_of_cell KA.out.lo)).trans KA.out.lo;have a5:=(b5.cell (block_lt_of_cell KA.out.hi)).trans KA.out.hi;have HB5:=Lib.hid (HB.out.trans (b5.mono HB.out.size));have HK5:=Lib.hid (HOK.out.later b5);clear b5))
 simp only [Nat.zero_add,Rw.val] at a2 a3 a4 a5
 by_cases h1:a.size<1
 ·have hx:=HX2.out
  rw [if_pos (Or.inl h1)] at hx
  subst hx
  go_wp2_with fail
  go_ret
  exact ⟨rfl,HB5.out⟩
 by_cases h2:1048576<a.size
 ·have hx:=HX2.out
  rw [if_pos (Or.inr (Or.inl h2))] at hx
  subst hx
  go_wp2_with fail
  go_ret
  exact ⟨rfl,HB5.out⟩
 by_cases h3:a.live<0
 ·have hx:=HX2.out
  rw [if_pos (Or.inr (Or.inr (Or.inl h3)))] at hx
  subst hx
  go_wp2_with fail
  go_ret
  exact ⟨rfl,HB5.out⟩
 by_cases h4:a.size<a.live
 ·have hx:=HX2.out
  rw [if_pos (Or.inr (Or.inr (Or.inr h4)))] at hx
  subst hx
  go_wp2_with fail
  go_ret
  exact ⟨rfl,HB5.out⟩
 have hx:=HX2.out
 rw [if_neg (by omega)] at hx
 by_cases h5:a.live=0
 ·have h5b:(a.live==0)=true:=by simp [h5]
  rw [if_pos h5,← nil_pair] at hx
  have HX5:=Lib.hid hx
  have H5:=Lib.hid h5
  clear h5 hx HX2
  go_wp2_with (refine (nbsame_any _ _ _ _ _ _ _ _ _ _ _ _ a.lo.R a.hi.R [] [] w5 HK5.out.lo.ints HK5.out.hi.ints (ints_nil _ _ _) (ints_nil _ _ _) HK5.out.lo.top HK5.out.hi.top).mono ?_;rintro _ w6 ⟨rfl,b6⟩)
  go_ret
  exact ⟨by rw [HX5.out];rfl,HB5.out.trans (b6.mono HB5.out.size)⟩
 ·have h5b:(a.live==0)=false:=by simp [h5]
  rw [if_neg h5] at hx
  have HX5:=Lib.hid hx
  clear h5 hx HX2
  go_wp2_with (refine (right_any _ _ _ _ _ _ _ _ dm w5 HK5.out.lo.ints HK5.out.hi.ints).mono ?_;rintro _ w6 ⟨rfl,b6⟩)
  go_ret
  exact ⟨by rw [HX5.out];rfl,HB5.out.trans (b6.mono HB5.out.size)⟩
structure En where
 row:Rw
 live:Bool
instance:Inhabited En:=⟨⟨default,false⟩⟩
def En.pe (e:En):PE:=⟨e.row.R,e.live⟩
structure EntsIn (w:World) (p:Option Addr) (n c:Nat) (E:List En):Prop where
 size:n=E.length
 le:n≤c
 top:n≤9223372036854775807
 each:∀e∈E,e.row.Ok w
 at':E=[]∨∃g o,p=some ⟨g,o,Option.none⟩∧∀i,i<E.length→w.cell? ⟨g,o+i*2,Option.none⟩=some (E.getD i default).row.val∧w.cell? ⟨g,o+i*2+1,Option.none⟩=some (.bool (E.getD i default).live)
structure KidsIn (w:World) (p:Option Addr) (n c:Nat) (K:List Kd):Prop where
 size:n=K.length
 le:n≤c
 top:n≤9223372036854775807
 each:∀k∈K,k.Ok w
 at':K=[]∨∃g o,p=some ⟨g,o,Option.none⟩∧∀i,i<K.length→w.rangeAt g (o+i*37) (K.getD i default).cells
theorem range_later {w w':World} {g o:Nat} {cs:List Value} (h:w.rangeAt g o cs) (hb:Below w.heap.size w w'):w'.rangeAt g o cs:=fun j v hv=>
 (hb.cell (p:=⟨g,o+j,Option.none⟩) (block_lt_of_cell (h j v hv))).trans (h j v hv)
theorem EntsIn.later {w w':World} {p:Option Addr} {n c:Nat} {E:List En} (h:EntsIn w p n c E) (hb:Below w.heap.size w w'):EntsIn w' p n c E:=
 ⟨h.size,h.le,h.top,fun e he=>(h.each e he).later hb,h.at'.imp id fun ⟨g,o,hp,hx⟩=>⟨g,o,hp,fun i hi=>
  ⟨(hb.cell (p:=⟨g,o+i*2,Option.none⟩) (block_lt_of_cell (hx i hi).1)).trans (hx i hi).1,(hb.cell (p:=⟨g,o+i*2+1,Option.none⟩) (block_lt_of_cell (hx i hi).2)).trans (hx i hi).2⟩⟩⟩
theorem KidsIn.later {w w':World} {p:Option Addr} {n c:Nat} {K:List Kd} (h:KidsIn w p n c K) (hb:Below w.heap.size w w'):KidsIn w' p n c K:=
 ⟨h.size,h.le,h.top,fun e he=>(h.each e he).later hb,h.at'.imp id fun ⟨g,o,hp,hx⟩=>⟨g,o,hp,fun i hi=>range_later (hx i hi) hb⟩⟩
theorem getD_mem {α:Type} [Inhabited α] (L:List α) (k:Nat) (h:k<L.length):L.getD k default∈L:=by
 rw [List.getD_eq_getElem?_getD,List.getElem?_eq_getElem h]
 exact List.getElem_mem h
theorem EntsIn.get {w:World} {p:Option Addr} {n c:Nat} {E:List En} (h:EntsIn w p n c E) (k:Nat) (hk:k<n):∃g o,p=some ⟨g,o,Option.none⟩∧w.cell? ⟨g,o+k*2,Option.none⟩=some (E.getD k default).row.val∧w.cell? ⟨g,o+k*2+1,Option.none⟩=some (.bool (E.getD k default).live)∧(E.getD k default).row.Ok w:=by
 have hk':k<E.length:=by rw [← h.size];exact hk
 rcases h.at' with h0 | ⟨g,o,hp,hx⟩
 ·rw [h0] at hk';exact absurd hk' (by simp)
 ·exact ⟨g,o,hp,(hx k hk').1,(hx k hk').2,h.each _ (getD_mem E k hk')⟩
theorem KidsIn.get {w:World} {p:Option Addr} {n c:Nat} {K:List Kd} (h:KidsIn w p n c K) (k:Nat) (hk:k<n):∃g o,p=some ⟨g,o,Option.none⟩∧w.rangeAt g (o+k*37) (K.getD k default).cells∧(K.getD k default).Ok w:=by
 have hk':k<K.length:=by rw [← h.size];exact hk
 rcases h.at' with h0 | ⟨g,o,hp,hx⟩
 ·rw [h0] at hk';exact absurd hk' (by simp)
 ·exact ⟨g,o,hp,hx k hk',h.each _ (getD_mem K k hk')⟩
structure NodeAt (w:World) (g kind:Nat) (p:Option Addr) (n c:Nat) (q:Option Addr) (m d:Nat):Prop where
 row:w.heap[g]? =some (.cells #[.int .u8 kind,.slice p n c,.slice q m d] 81 (0,0))
theorem NodeAt.later {w w':World} {g kind:Nat} {p:Option Addr} {n c:Nat} {q:Option Addr} {m d:Nat} (h:NodeAt w g kind p n c q m d) (hb:Below w.heap.size w w'):NodeAt w' g kind p n c q m d:=⟨(hb.block _ (Array.getElem?_eq_some_iff.1 h.row).1).trans h.row⟩
theorem NodeAt.cells {w:World} {g kind:Nat} {p:Option Addr} {n c:Nat} {q:Option Addr} {m d:Nat} (h:NodeAt w g kind p n c q m d):w.cell? ⟨g,0,Option.none⟩=some (.int .u8 kind)∧w.cell? ⟨g,1,Option.none⟩=some (.slice p n c)∧w.cell? ⟨g,2,Option.none⟩=some (.slice q m d):=
 ⟨cell_of_row w g 0 _ _ _ h.row,cell_of_row w g 1 _ _ _ h.row,cell_of_row w g 2 _ _ _ h.row⟩
theorem NodeAt.start (w:World) (kind:Nat) (p:Option Addr) (n c:Nat) (q:Option Addr) (m d:Nat):NodeAt (w.alloc (.cells #[.int .u8 kind,.slice p n c,.slice q m d] 81)) w.heap.size kind p n c q m d:=⟨heap_alloc_new w _⟩
def pnOf (kind:Nat) (E:List En) (K:List Kd):PN:=⟨kind,E.map En.pe,K.map Kd.pk⟩
def AskE (w:World) (E:List En) (f:PE→Bool) (F:Nat) (cap:Array Value):Prop:=
 ∀(e:En) (w':World),e∈E→e.row.Ok w'→Below w.heap.size w w'→Calls Tryz.prog F (#[.agg #[e.row.val,.bool e.live]]++cap) w' fun r w''=>r= .returned (.bool (f e.pe))∧Below w'.heap.size w' w''
def AskK (w:World) (K:List Kd) (f:PK→Bool) (F:Nat) (cap:Array Value):Prop:=
 ∀(k:Kd) (w':World),k∈K→k.Ok w'→Below w.heap.size w w'→Calls Tryz.prog F (#[.agg k.cells.toArray]++cap) w' fun r w''=>r= .returned (.bool (f k.pk))∧Below w'.heap.size w' w''
theorem allT_map {α β:Type} [Inhabited α] (g:α→β) (f:β→Bool) (L:List α) (k:Nat) (h:k<L.length):allT f (L.map g) (k+1)=(allT f (L.map g) k&&f (g (L.getD k default))):=by
 unfold allT
 rw [← List.map_take,← List.map_take,List.take_succ_eq_append_getElem h,List.map_append,List.all_append,List.getD_eq_getElem?_getD,List.getElem?_eq_getElem h]
 simp
theorem all_map_false {α β:Type} [Inhabited α] (g:α→β) (f:β→Bool) (L:List α) (k:Nat) (h:k<L.length) (hf:f (g (L.getD k default))=false):(L.map g).all f=false:=by
 rw [List.all_eq_false]
 refine ⟨g L[k],List.mem_map.2 ⟨_,List.getElem_mem h,rfl⟩,?_⟩
 rw [List.getD_eq_getElem?_getD,List.getElem?_eq_getElem h] at hf
 simpa using hf
theorem allT_whole {α β:Type} (g:α→β) (f:β→Bool) (L:List α):allT f (L.map g) L.length=(L.map g).all f:=by
 have:=allT_all f (L.map g)
 rwa [List.length_map] at this
def EaRel {α:Type} (w:World) (n:Nat) (f:α→Bool) (L:List α) (i:Value) (wr:World):Prop:=∃k:Nat,k≤n∧i= .int .i64 k∧allT f L k=true∧Below w.heap.size w wr
theorem UEn0:(Tryz.prog.underlying 85).map (·.isRow)=some true:=by kernel_rfl
theorem UEn:∃d,Tryz.prog.underlying 85=some d∧d.isRow=true:=by
 have h:=UEn0
 revert h
 cases Tryz.prog.underlying 85 with
 | none=>intro h;cases h
 | some d=>intro h;exact ⟨d,rfl,by simpa using h⟩
theorem SEn:(Tryz.prog.info? 85).map (·.size)=some 2:=by kernel_rfl
theorem eachE_any (p:Option Addr) (n c:Nat) (E:List En) (f:PE→Bool) (F:Nat) (cap:Array Value) (hF:∀args w,(callFunc F args).run Tryz.prog w= .ok (.enter F args) w) (w:World) (hE:EntsIn w p n c E) (hs:AskE w E f F cap):
  Calls Tryz.prog 200 #[.slice p n c,.func (.func F) #[] cap] w fun e w'=>e= .returned (.bool ((E.map En.pe).all f))∧Below w.heap.size w w':=by
 have HS:=Lib.hid hs
 have HE:=Lib.hid hE
 have HN:=Lib.hid hE.size
 have HTOP:=Lib.hid hE.top
 clear hs hE
 go_enter Tryz.func200,Tryz.ntmps200
 go_wp2_with fail
 go_loopw [9] (fun i wr=>EaRel w n f (E.map En.pe) i wr) (fun i _=>n - (intOf i).toNat)
 case atStart=>exact ⟨0,by omega,rfl,rfl,Below.refl _ _⟩
 case round=>
  obtain ⟨k,hk,rfl,hal,hb⟩:=hrel
  have HA:=Lib.hid hal
  have HB:=Lib.hid hb
  have htop:=HTOP.out
  clear hal hb
  by_cases hlt:k<n
  ·obtain ⟨g,o,rfl,c1,c2,hok⟩:=(HE.out.later HB.out).get k hlt
   have i1:(0:Int)≤k∧(k:Int)<n:=by omega
   have hlen:k<E.length:=by rw [← HN.out];exact hlt
   have HT:=Lib.hid (allT_map En.pe f E k hlen)
   have HX:=Lib.hid (all_map_false En.pe f E k hlen)
   have hmem:=getD_mem E k hlen
   generalize E.getD k default=e at *
   have hb1:Below wr.heap.size wr (wr.alloc (.cells #[e.row.val,.bool e.live] 85)):=(Below.refl _ _).alloc (Nat.le_refl _) _
   have hc:=HS.out e _ hmem (hok.later hb1) (HB.out.trans (hb1.mono HB.out.size))
   have HB1:=Lib.hid (HB.out.trans (hb1.mono HB.out.size))
   simp only [Rw.val] at c1
   unfold Rw.val at hc HB1
   clear hok hmem hb1
   go_upto_region 4 with fail
   obtain ⟨z0,z1⟩:=pair_alloc wr (.slice e.row.p e.row.n e.row.c) (.bool e.live) 85
   generalize wr.alloc (.cells #[.slice e.row.p e.row.n e.row.c,.bool e.live] 85)=w1 at *
   cases hfk:f e.pe with
   | false=>
    rw [hfk] at hc
    have HC:=Lib.hid hc
    have HXX:=Lib.hid (HX.out hfk)
    clear hc hfk HX HT
    go_wp2_with (refine HC.out.mono ?_;rintro e w'' ⟨rfl,b2⟩)
    go_ret
    exact ⟨congrArg (fun b=>Ending.returned (.bool b)) HXX.out.symm,HB1.out.trans (b2.mono HB1.out.size)⟩
   | true=>
    rw [hfk] at hc
    have HC:=Lib.hid hc
    have HXX:=Lib.hid (show allT f (E.map En.pe) (k+1)=true by rw [HT.out,HA.out,hfk];rfl)
    clear hc hfk HX HT
    go_wp2_with (refine HC.out.mono ?_;rintro e w'' ⟨rfl,b2⟩;have HB2:=Lib.hid (HB1.out.trans (b2.mono HB1.out.size));clear b2)
    go_roundw
    case rel=>exact ⟨k+1,by omega,by go_num,HXX.out,HB2.out⟩
    case measure=>simp [intOf];omega
  ·obtain rfl:n=k:=by omega
   have HW:=Lib.hid (show allT f (E.map En.pe) n=(E.map En.pe).all f from by rw [HN.out];exact allT_whole En.pe f E)
   go_wp2_with fail
   go_ret
   exact ⟨congrArg (fun b=>Ending.returned (.bool b)) (by rw [← HW.out,HA.out]),HB.out⟩
end Go.Proofs.YtinihaflmdihaaaGreat.Nd
namespace Go.Proofs.YtinihaflmdihaaaGreat.Wl
open Go.RowKit
open List renaming setIfInBounds_toArray → sA, set_cons_zero → sZ, set_cons_succ → sS
structure Out (w0 w:World) (v:Value) (n:Nat) (B:List Nat):Prop where
 len:n=B.length
 own:w.ownsRow w0.heap.size 5 1 v n (vals B)
 ok:Sm.allB B
 low:Below w0.heap.size w0 w
theorem Out.none (w:World):Out w w (.slice none 0 0) 0 []:=⟨rfl,World.ownsRow_nil w w.heap.size 5 1,(fun x hx=>by cases hx),Below.refl _ _⟩
theorem Out.later {w0 w w':World} {v:Value} {n:Nat} {B:List Nat} (h:Out w0 w v n B) (hb:Below w.heap.size w w'):Out w0 w' v n B:=⟨h.len,owns_later h.own hb,h.ok,h.low.trans (hb.mono h.low.size)⟩
theorem Out.put {w0 w1 w7:World} {v v7:Value} {n:Nat} {B P:List Nat} {m:Nat} (h:Out w0 w1 v n B) (hP:Sm.allB P) (hm:P.length=m) (hown:w7.ownsRow w0.heap.size 5 1 v7 (n+m) (vals B++vals P)) (hg:w1.grownBy w7 v.ownBlock):Out w0 w7 v7 (n+m) (B++P):=
 ⟨by rw [List.length_append,hm,h.len],by rw [vals_append];exact hown,(fun x hx=>by
  rcases List.mem_append.1 hx with hx | hx
  ·exact h.ok x hx
  ·exact hP x hx),h.low.grown hg h.low.size (fun k hk=>(h.own.lt k hk).1)⟩
theorem Out.form {w0 w:World} {v:Value} {n:Nat} {B:List Nat} (h:Out w0 w v n B):∃q c,v= .slice q n c:=by
 rcases h.own.2 with ⟨rfl,h0⟩ | ⟨g,cap,cur,rfl,_⟩
 ·exact ⟨Option.none,0,by rw [h0]⟩
 ·exact ⟨_,cap,rfl⟩
theorem Out.tx {w0 w:World} {q:Option Addr} {n c:Nat} {B:List Nat} (h:Out w0 w (.slice q n c) n B):Tx w q n c B:=tx_of_owns h.own h.ok
theorem owns_base {w:World} {base base' n size:Nat} {e:TypeId} {v:Value} {xs:List Value} (h:w.ownsRow base e size v n xs) (hb:base'≤base):w.ownsRow base' e size v n xs:=
 ⟨h.1,h.2.imp id fun ⟨g,cap,cur,hv,hg,r⟩=>⟨g,cap,cur,hv,Nat.le_trans hb hg,r⟩⟩
end Go.Proofs.YtinihaflmdihaaaGreat.Wl
namespace Go.Proofs.YtinihaflmdihaaaGreat
open Go.RowKit
open List renaming setIfInBounds_toArray → sA, set_cons_zero → sZ, set_cons_succ → sS
structure Rd where
 R:List Nat
 e:Nat
theorem Tx.grown {w w':World} {p:Option Addr} {n c:Nat} {B:List Nat} (h:Tx w p n c B) {g:Nat} (hg:w.grownBy w' (some g)) (hn:∀x,p=some x→B≠[]→x.block≠g):Tx w' p n c B:=
 ⟨h.size,h.le,h.ok,h.at'.imp id fun ⟨x,hp,hx⟩=>⟨x,hp,fun j u hu=>by
  have h1:=hx j u hu
  have hB:B≠[]:=by rintro rfl;simp [vals] at hu
  have hb:(x.add j).block=x.block:=by cases x;simp [Addr.add];split<;>rfl
  rw [World.cell?_of_block (w:=w) (hg.block _ (block_lt_of_cell h1) (by rw [hb];intro e;exact hn x hp hB (by simpa using e)))]
  exact h1⟩,h.sp⟩
theorem add_add (x:Addr) (n j:Nat):(x.add n).add j=x.add (n+j):=by
 simp only [Addr.add]
 by_cases h1:n=0
 ·subst h1;simp
 ·by_cases h2:j=0
  ·subst h2;simp
  ·rw [if_neg h1,if_neg h2,if_neg (by omega)];simp [Nat.add_assoc]
theorem vals_take (B:List Nat) (n:Nat):vals (B.take n)=(vals B).take n:=by simp [vals]
theorem Tx.take {w:World} {p:Option Addr} {m c:Nat} {B:List Nat} (h:Tx w p m c B) (n:Nat) (hn:n≤m):Tx w p n c (B.take n):=
 ⟨by have:=h.size;rw [List.length_take];omega,Nat.le_trans hn h.le,fun x hx=>h.ok x (List.mem_of_mem_take hx),h.at'.imp id fun ⟨x,hp,hx⟩=>⟨x,hp,fun j u hu=>hx j u (by
  rw [vals_take] at hu
  rw [List.getElem?_take] at hu
  split at hu
  ·exact hu
  ·cases hu)⟩,h.sp⟩
theorem Tx.drop {w:World} {p:Option Addr} {m c:Nat} {B:List Nat} (h:Tx w p m c B) (n:Nat) (hn:n≤m):Tx w (Option.map (fun x=>x.add n) p) (m - n) (c - n) (B.drop n):=by
 have h1:=h.size
 have h2:=h.le
 refine ⟨by rw [List.length_drop];omega,by omega,fun x hx=>h.ok x (List.mem_of_mem_drop hx),?_,?_⟩
 ·rcases h.at' with ⟨hp,hc⟩ | ⟨x,hp,hx⟩
  ·subst hp;subst hc
   exact Or.inl ⟨rfl,by omega⟩
  ·subst hp
   refine Or.inr ⟨x.add n,rfl,fun j u hu=>?_⟩
   rw [add_add]
   refine hx (n+j) u ?_
   rw [vals_drop,List.getElem?_drop] at hu
   exact hu
 ·intro x hx hc
  cases p with
  | none=>cases hx
  | some y=>
   simp at hx
   subst hx
   simp only [Addr.add]
   split
   ·exact h.sp y rfl (by omega)
   ·rfl
theorem Tx.nothing {w:World} {p:Option Addr} {m c:Nat} {B:List Nat} (h:Tx w p m c B):Tx w p 0 0 []:=
 ⟨rfl,Nat.le_refl _,fun x hx=>by simp at hx,by
  cases p with
  | none=>exact Or.inl ⟨rfl,rfl⟩
  | some x=>exact Or.inr ⟨x,rfl,fun j u hu=>by simp [vals] at hu⟩,fun _ _ h=>by omega⟩
theorem lo_drop {g:Nat} {p:Option Addr} {B:List Nat} (h:∀x,p=some x→B≠[]→x.block<g) (n:Nat):∀x,Option.map (fun x=>x.add n) p=some x→B.drop n≠[]→x.block<g:=by
 intro x hx hB
 cases p with
 | none=>cases hx
 | some y=>
  simp only [Option.map_some,Option.some.injEq] at hx
  subst hx
  have:(y.add n).block=y.block:=by cases y;simp [Addr.add];split<;>rfl
  rw [this]
  exact h y rfl (by rintro rfl;simp at hB)
def Rd.refuse (s:Rd) (k:Nat):Rd:=if s.e=0 then ⟨s.R,k⟩ else s
def Rd.fits (s:Rd) (n:Nat):Prop:=s.e=0∧n≤s.R.length
instance (s:Rd) (n:Nat):Decidable (s.fits n):=by unfold Rd.fits;infer_instance
def Rd.part (s:Rd) (n:Nat):List Nat:=if s.fits n then s.R.take n else []
def Rd.past (s:Rd) (n:Nat):Rd:=if s.fits n then ⟨s.R.drop n,0⟩ else s.refuse 20
theorem grown_same (w:World) (r:Option Nat):w.grownBy w r:=⟨rfl,rfl,rfl,Nat.le_refl _,fun _ _ _=>rfl⟩
theorem tx_nil (w:World):Tx w none 0 0 []:=⟨rfl,Nat.le_refl _,fun x hx=>by simp at hx,Or.inl ⟨rfl,rfl⟩,fun _ h _=>by cases h⟩
theorem Rd.past_len (s:Rd) (n:Nat):(s.past n).R.length≤s.R.length:=by
 unfold Rd.past Rd.refuse
 split
 ·simp
 ·split<;>simp
theorem Rd.refuse_len (s:Rd) (n:Nat):(s.refuse n).R.length≤s.R.length:=by
 unfold Rd.refuse
 split<;>simp
theorem Rd.part_ok {s:Rd} (h:Sm.allB s.R) (n:Nat):Sm.allB (s.part n):=by
 unfold Rd.part
 split
 ·exact fun x hx=>h x (List.mem_of_mem_take hx)
 ·intro x hx;simp at hx
theorem Rd.part_len (s:Rd) (n:Nat):(s.part n).length≤n:=by
 unfold Rd.part
 split
 ·rw [List.length_take];omega
 ·simp
theorem take_snoc (B:List Nat) (k:Nat) (h:k<B.length):B.take (k+1)=B.take k++[B.getD k 0]:=by
 rw [List.take_succ_eq_append_getElem h,List.getD_eq_getElem?_getD,List.getElem?_eq_getElem h];rfl
theorem pow256 (k:Nat) (h:k≤7):256^k≤72057594037927936:=Nat.le_trans (Nat.pow_le_pow_right (by omega) h) (by decide)
theorem val1 {s:Rd} (h:Sm.allB s.R):Cm.val (s.part 1)<256:=by
 have h1:=Cm.val_lt (Rd.part_ok h 1)
 have h2:256^(s.part 1).length≤256^1:=Nat.pow_le_pow_right (by omega) (Rd.part_len s 1)
 exact Nat.lt_of_lt_of_le h1 (Nat.le_trans h2 (by decide))
def Rd.count (s:Rd) (most:Int):Rd:=if min most 1048576<(Cm.val (s.part 3):Nat) then (s.past 3).refuse 10 else s.past 3
def Rd.countV (s:Rd) (most:Int):Int:=if min most 1048576<(Cm.val (s.part 3):Nat) then 0 else (Cm.val (s.part 3):Nat)
theorem val3 {s:Rd} (h:Sm.allB s.R):Cm.val (s.part 3)<16777216:=by
 have h1:=Cm.val_lt (Rd.part_ok h 3)
 have h2:256^(s.part 3).length≤256^3:=Nat.pow_le_pow_right (by omega) (Rd.part_len s 3)
 exact Nat.lt_of_lt_of_le h1 (Nat.le_trans h2 (by decide))
theorem good_part (P R:List Nat) (n:Nat) (h:P.length=n):(Rd.mk (P++R) 0).part n=P∧(Rd.mk (P++R) 0).past n=⟨R,0⟩:=by
 have hf:(Rd.mk (P++R) 0).fits n:=⟨rfl,by simp;omega⟩
 unfold Rd.part Rd.past
 rw [if_pos hf,if_pos hf]
 subst h
 exact ⟨List.take_left' rfl,by rw [show (Rd.mk (P++R) 0).R=P++R from rfl,List.drop_left' rfl]⟩
theorem grown_of_below {w w':World} (hb:Below w.heap.size w w') (r:Option Nat):w.grownBy w' r:=⟨hb.os,hb.tape,hb.output,hb.size,fun k hk _=>hb.block k hk⟩
theorem grown_new {w w':World} {r:Option Nat} (h:w.grownBy w' r) {B:Nat} (hB:w.heap.size≤B) {w'':World} (hb:Below B w' w'') (hs:w'.heap.size≤w''.heap.size):w.grownBy w'' r:=
 ⟨hb.os.trans h.os,hb.tape.trans h.tape,hb.output.trans h.output,Nat.le_trans h.size hs,fun k hk hne=>(hb.block k (by omega)).trans (h.block k hk hne)⟩
theorem below_grown {w w':World} {g B:Nat} (h:w.grownBy w' (some g)) (hB:B≤g) (hs:B≤w.heap.size:=by omega):Below B w w':=
 ⟨h.os,h.tape,h.output,h.size,fun k hk=>h.block k (by omega) (by simp;omega)⟩
theorem slice_of_owns {w:World} {base n:Nat} {v:Value} {xs:List Value} (h:w.ownsRow base 5 1 v n xs):∃q c,v= .slice q n c:=by
 rcases h.2 with ⟨rfl,rfl⟩ | ⟨g,cap,cur,rfl,_⟩
 ·exact ⟨_,_,rfl⟩
 ·exact ⟨_,_,rfl⟩
end Go.Proofs.YtinihaflmdihaaaGreat
