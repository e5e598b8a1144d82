/- KdSorts, KdTakes, KdFork, BoxPairFn, BoxBuild, BoxOf. -/
import Derived.Deep.MidRow
import Derived.BigRegion
import Derived.Lib.MinMax
import Derived.Test.YtinihaflmdihaaaGreatL9
set_option maxRecDepth 100000
set_option maxHeartbeats 8000000
set_option linter.all false
namespace Go.Proofs.YtinihaflmdihaaaGreat.Kt
open Go.Proofs Go.RowKit Go.Sort Go.Shelf Go.Proofs.YtinihaflmdihaaaGreat.Nd
theorem y2a (p:Option Addr) (c:Nat) (fv:Value) (w:World):Calls Tryz.prog 212 #[.slice p 0 c,.int .i64 0,.int .i64 0,fv] w fun e w'=>e= .returned (.tuple #[])∧w'=w:=by
 go_enter Tryz.func212,Tryz.ntmps212
 go_wp2_with fail
 refine wp_loop_rounds 1 ?_
 rw [rounds_succ]
 go_wp2_with fail
 go_end0
 exact ⟨rfl,rfl⟩
theorem y2b (p:Option Addr) (c:Nat) (l:Int) (fv:Value) (w:World):Calls Tryz.prog 161 #[.slice p 0 c,.int .i64 0,.int .i64 0,.int .i64 l,fv] w fun e w'=>e= .returned (.tuple #[])∧w'=w:=by
 have A:=fun W=>y2a p c fv W
 go_enter Tryz.func161,Tryz.ntmps161
 go_wp2_with fail
 refine wp_loop_rounds 1 ?_
 rw [rounds_succ]
 go_wp2_with (go_at_call 212;refine (A _).mono ?_;rintro e w' ⟨rfl,rfl⟩)
 (try simp only [Exit.inBlock,Exit.then])
 refine bodyPost_ret (results_none rfl _ _ _) rfl ?_
 exact ⟨rfl,rfl⟩
theorem y0p (p:Option Addr) (c:Nat) (fv:Value) (w:World):Calls Tryz.prog 118 #[.slice p 0 c,fv] w fun e w'=>e= .returned (.tuple #[])∧w'=w:=by
 have B:=fun l W=>y2b p c l fv W
 have A:∀W,Calls Tryz.prog 139 #[.int .u64 0] W fun e w'=>e= .returned (.int .i64 (Lib.bitLen 0:Nat))∧w'=W:=fun W=>
  Any.bits_Len (SlLaysF0.n15.bits (P:=Tryz.prog) (ρ:=y0i) {x8g with }) 0 W (by omega) (by omega)
 go_enter Tryz.func118,Tryz.ntmps118
 go_wp2_with (first | (go_at_call 139;refine (A _).mono ?_;rintro e w' ⟨rfl,rfl⟩) | (go_at_call 161;refine (B _ _).mono ?_;rintro e w' ⟨rfl,rfl⟩))
 go_end0
 exact ⟨rfl,rfl⟩
theorem Turned.after {g o n:Nat} {w w2 w':World} (hb:RowKit.Below w.heap.size w w2) (h:Turned g o n w2 w'):Turned g o n w w':=
 ⟨(Dk.Only.of_below _ hb).trans h.only,fun a ha hlt=>(h.cell a ha (Nat.lt_of_lt_of_le hlt hb.size)).trans (World.cell?_of_block (hb.block _ hlt)),fun a hlt=>(h.frozen a (Nat.lt_of_lt_of_le hlt hb.size)).trans (by unfold World.frozen?;rw [hb.block _ hlt])⟩
theorem Seg.later {w w':World} {g o:Nat} {L:List Rw} (h:Seg w g o L) (hb:RowKit.Below w.heap.size w w') (hg:g<w.heap.size):Seg w' g o L:=fun j hj=>
 ⟨(World.cell?_of_block (hb.block g hg)).trans (h j hj).1,(show w'.frozen? _=w.frozen? _ by unfold World.frozen?;rw [hb.block g hg]).trans (h j hj).2⟩
theorem STr:(Tryz.prog.info? 91).map (·.size)=some 2:=by kernel_rfl
theorem UTr0:(Tryz.prog.underlying 91).map (·.isRow)=some true:=by kernel_rfl
theorem UTr:∃d,Tryz.prog.underlying 91=some d∧d.isRow=true:=by
 have h:=UTr0
 revert h
 cases Tryz.prog.underlying 91 with
 | none=>intro h;cases h
 | some d=>intro h;exact ⟨d,rfl,by simpa using h⟩
theorem x09 {w:World} {g:Nat} {x y:Value} {t:TypeId} (h:w.heap[g]? =some (.cells #[x,y] t (0,0))):w.rangeAt g 0 [x,y]:=fun j v hv=>by
 rw [Nat.zero_add,cell_of_row w g j _ _ _ h]
 simpa using hv
def y4N (w:World) (a:Nat) (e:Ending) (w':World):Prop:=∃gf,e= .returned (.func (.func 162) #[] #[.pointer (some ⟨gf,0,none⟩)])∧w.heap.size≤gf∧w'.cell? ⟨gf,0,none⟩=some (.int .i64 a)∧RowKit.Below w.heap.size w w'
theorem x4z (sp:Option Addr) (d t:Nat) (w:World) (hd:0<d) (ht:t≤1000000000):
  Calls Tryz.prog 119 #[.agg #[.pointer sp,.int .i64 d],.int .i64 t] w (y4N w (t%d)):=by
 have H:(t:Int).tmod d=((t%d:Nat):Int):=by rw [Int.tmod_eq_emod_of_nonneg (by omega)];rfl
 have E:¬(d:Int)=0:=by omega
 have A:RowKit.Below w.heap.size w (w.alloc (.cells #[.pointer sp,.int .i64 d] 91)):=(RowKit.Below.refl _ _).alloc (Nat.le_refl _) _
 have C:=heap_alloc_new w (.cells #[.pointer sp,.int .i64 d] 91)
 have I:w.heap.size<(w.alloc (.cells #[.pointer sp,.int .i64 d] 91)).heap.size:=by simp
 go_enter Tryz.func119,Tryz.ntmps119
 go_upto_region 1 with fail
 generalize w.alloc (.cells #[.pointer sp,.int .i64 d] 91)=w1 at *
 have G:=cell_of_row w1 w.heap.size 1 _ _ _ C
 go_wp2_with fail
 go_ret
 have B:RowKit.Below w1.heap.size w1 (w1.alloc (.cells #[.int .i64 ((t:Int)%d)] 3)):=(RowKit.Below.refl _ _).alloc (Nat.le_refl _) _
 exact ⟨w1.heap.size,rfl,A.size,cell_of_row _ w1.heap.size 0 _ _ _ (heap_alloc_new w1 _),A.trans (B.mono A.size)⟩
def x7E (w:World) (g o a:Nat) (L:List Rw) (e:Ending) (w':World):Prop:=e= .returned (.tuple #[])∧∃M:List Rw,M.Perm L∧M.map Rw.R=sortP a (L.map Rw.R)∧Seg w' g o M∧Turned g o L.length w w'
theorem x7F (sp:Option Addr) (d t g o c:Nat) (L:List Rw) (w:World) (hne:L≠[]) (hS:Seg w g o L) (hok:∀r∈L,r.Ok w∧r.n=d∧Away g r) (hd:0<d) (ht:t≤1000000000) (hg:g<w.heap.size) (hn:L.length≤1000000000):
  Calls Tryz.prog 73 #[.agg #[.pointer sp,.int .i64 d],.slice (some ⟨g,o,none⟩) L.length c,.int .i64 t] w (x7E w g o (t%d) L):=by
 have J:RowKit.Below w.heap.size w (w.alloc (.cells #[.pointer sp,.int .i64 d] 91)):=(RowKit.Below.refl _ _).alloc (Nat.le_refl _) _
 have U:=heap_alloc_new w (.cells #[.pointer sp,.int .i64 d] 91)
 have P:=yH (fun w'=>x4z sp d t w' hd ht)
 have R:=yH (show ∀(C:Nat) (w':World),RowKit.Below w.heap.size w w'→w'.cell? ⟨C,0,none⟩=some (.int .i64 ((t%d:Nat):Int))→w.heap.size≤C→Calls Tryz.prog 118 #[.slice (some ⟨g,o,none⟩) L.length c,.func (.func 162) #[] #[.pointer (some ⟨C,0,none⟩)]] w' (x7E w g o (t%d) L) from fun C w' hb hf A=>
  (y0o g o c (t%d) d C L w' hne (hS.later hb hg) (fun r hr=>⟨(hok r hr).1.later hb,(hok r hr).2.1,(hok r hr).2.2⟩) (Nat.mod_lt _ hd) (Nat.lt_of_lt_of_le hg hb.size) hf (by omega) hn).mono fun e w'' ⟨he,M,h1,h2,h3,h4⟩=>⟨he,M,h1,h2,h3,h4.after hb⟩)
 generalize L.length=n at *
 clear hS hok
 obtain ⟨Z,G,E⟩:=UTr
 have K:=yH G
 have O:=yH E
 clear G E
 go_enter Tryz.func73,Tryz.ntmps73
 go_upto_region 1 with fail
 generalize w.alloc (.cells #[.pointer sp,.int .i64 d] 91)=w1 at *
 have B:=yH J
 have Y:=yH (x09 U)
 clear J U
 go_wp2_with (first
  | (refine wpList_load_mid (by rfl) 91 _ (by rfl) w.heap.size 0 (by rfl) [.pointer sp,.int .i64 d] Z Y.out K.out O.out STr ?_)
  | (go_at_call 119;refine (P.out _).mono ?_;rintro _ b ⟨C,rfl,A,I,H⟩;have X:=yH I;have Q:=yH (B.out.trans (H.mono B.out.size));have N:=yH (Nat.le_trans B.out.size A);clear A I H)
  | (go_at_call 118;refine (R.out C b Q.out X.out N.out).mono ?_;rintro _ f ⟨rfl,W⟩;have a:=yH W;clear W))
 go_end0
 exact ⟨rfl,a.out⟩
theorem x9R (sp:Option Addr) (d t c:Nat) (p:Option Addr) (w:World) (hd:0<d) (ht:t≤1000000000):
  Calls Tryz.prog 73 #[.agg #[.pointer sp,.int .i64 d],.slice p 0 c,.int .i64 t] w fun e w'=>e= .returned (.tuple #[])∧RowKit.Below w.heap.size w w':=by
 have G:RowKit.Below w.heap.size w (w.alloc (.cells #[.pointer sp,.int .i64 d] 91)):=(RowKit.Below.refl _ _).alloc (Nat.le_refl _) _
 have O:=heap_alloc_new w (.cells #[.pointer sp,.int .i64 d] 91)
 have M:=yH (fun w'=>x4z sp d t w' hd ht)
 have K:=yH (fun fv w'=>y0p p c fv w')
 obtain ⟨Q,B,A⟩:=UTr
 have H:=yH B
 have J:=yH A
 clear B A
 go_enter Tryz.func73,Tryz.ntmps73
 go_upto_region 1 with fail
 generalize w.alloc (.cells #[.pointer sp,.int .i64 d] 91)=w1 at *
 have E:=yH G
 have P:=yH (x09 O)
 clear G O
 go_wp2_with (first
  | (refine wpList_load_mid (by rfl) 91 _ (by rfl) w.heap.size 0 (by rfl) [.pointer sp,.int .i64 d] Q P.out H.out J.out STr ?_)
  | (go_at_call 119;refine (M.out _).mono ?_;rintro _ U ⟨W,rfl,I,L,C⟩;have N:=yH (E.out.trans (C.mono E.out.size));clear I L C)
  | (go_at_call 118;refine (K.out _ _).mono ?_;rintro _ R ⟨rfl,rfl⟩))
 go_end0
 exact ⟨rfl,N.out⟩
end Go.Proofs.YtinihaflmdihaaaGreat.Kt
namespace Go.Proofs.YtinihaflmdihaaaGreat.Kt
open Go.RowKit Go.Proofs.YtinihaflmdihaaaGreat.Nd
def AskR (w:World) (L:List Rw) (f:Rw→Bool) (F:Nat) (cap:Array Value):Prop:=∀r∈L,∀w',Below w.heap.size w w'→Calls Tryz.prog F (#[r.val]++cap) w' fun e w''=>e= .returned (.bool (f r))∧Below w'.heap.size w' w''
def IxRel (w:World) (L:List Rw) (f:Rw→Bool) (n:Nat) (i:Value) (wr:World):Prop:=∃k:Nat,k≤n∧i= .int .i64 k∧(∀j,j<k→f (L.getD j default)=false)∧Below w.heap.size w wr
def y5K (w:World) (L:List Rw) (f:Rw→Bool) (e:Ending) (w':World):Prop:=∃i:Int,e= .returned (.int .i64 i)∧((0≤i∧∃r∈L,f r=true)∨(i= -1∧∀r∈L,f r=false))∧Below w.heap.size w w'
theorem y0q (p:Option Addr) (n c:Nat) (L:List Rw) (f:Rw→Bool) (F:Nat) (cap:Array Value) (hF:∀args w,(callFunc F args).run Tryz.prog w= .ok (.enter F args) w) (w:World) (hL:RowsIn w p n c L) (hn:n≤1000000000) (hs:AskR w L f F cap):
  Calls Tryz.prog 111 #[.slice p n c,.func (.func F) #[] cap] w (y5K w L f):=by
 have X:=yH hs
 have Z:=yH hL
 have Q:=yH hL.size
 clear hs hL
 go_enter Tryz.func111,Tryz.ntmps111
 go_wp2_with fail
 go_loopw [5,8] (fun _ i wr=>IxRel w L f n i wr) (fun _ i _=>n - (intOf i).toNat)
 case atStart=>exact ⟨0,by omega,rfl,(fun j hj=>by omega),Below.refl _ _⟩
 case round=>
  obtain ⟨k,b,rfl,G,N⟩:=hrel
  have O:=yH G
  have E:=yH N
  clear G N
  by_cases hlt:k<n
  ·obtain ⟨g,o,rfl,U,M⟩:=(Z.out.later E.out).cell k hlt
   have a:(0:Int)≤k∧(k:Int)<n:=by omega
   have A:k<L.length:=by rw [← Q.out];exact hlt
   have B:L.getD k default∈L:=by
    rw [List.getD_eq_getElem?_getD,List.getElem?_eq_getElem A]
    exact List.getElem_mem A
   have C:=X.out _ B wr E.out
   have J:=yH (show f (L.getD k default)=false→∀j,j<k+1→f (L.getD j default)=false from fun h j hj=>by
    rcases Nat.lt_or_ge j k with P | P
    ·exact O.out j P
    ·obtain rfl:j=k:=by omega
     exact h)
   have Y:=yH B
   clear M B A
   generalize L.getD k default=r at *
   simp only [Rw.val] at U
   unfold Rw.val at C
   cases hfk:f r with
   | true=>
    rw [hfk] at C
    have I:=yH C
    have R:=yH (show ∃r∈L,f r=true from ⟨r,Y.out,hfk⟩)
    clear C hfk J
    go_wp2_with (refine I.out.mono ?_;rintro e K ⟨rfl,H⟩;have HB2:=yH (E.out.trans (H.mono E.out.size));clear H)
    go_ret
    exact ⟨k,rfl,Or.inl ⟨by omega,R.out⟩,HB2.out⟩
   | false=>
    rw [hfk] at C
    have I:=yH C
    have HX2:=yH (J.out hfk)
    clear C hfk J
    go_wp2_with (refine I.out.mono ?_;rintro e K ⟨rfl,H⟩;have HB2:=yH (E.out.trans (H.mono E.out.size));clear H)
    go_roundw
    case rel=>exact ⟨k+1,by omega,by go_num,HX2.out,HB2.out⟩
    case measure=>simp [intOf];omega
  ·obtain rfl:n=k:=by omega
   have W:=yH (show ∀r∈L,f r=false from fun r hr=>by
    obtain ⟨j,hj,rfl⟩:=List.getElem_of_mem hr
    have:=O.out j (by rw [Q.out];exact hj)
    rwa [List.getD_eq_getElem?_getD,List.getElem?_eq_getElem hj] at this)
   go_wp2_with fail
   go_ret
   exact ⟨-1,rfl,Or.inr ⟨rfl,W.out⟩,E.out⟩
theorem x7G (p:Option Addr) (n c:Nat) (L:List Rw) (f:Rw→Bool) (F:Nat) (cap:Array Value) (hF:∀args w,(callFunc F args).run Tryz.prog w= .ok (.enter F args) w) (w:World) (hL:RowsIn w p n c L) (hn:n≤1000000000) (hs:AskR w L f F cap):
  Calls Tryz.prog 117 #[.slice p n c,.func (.func F) #[] cap] w fun e w'=>e= .returned (.bool (L.any f))∧Below w.heap.size w w':=by
 have M:=yH (y0q p n c L f F cap hF w hL hn hs)
 clear hL hs hF
 obtain ⟨b,H⟩:∃b,L.any f=b:=⟨_,rfl⟩
 rw [H]
 have B:=yH H
 clear H
 cases b with
 | true=>
  have I:=yH (show ∀i:Int,((0≤i∧∃r∈L,f r=true)∨(i= -1∧∀r∈L,f r=false))→0≤i from fun i h=>by
   rcases h with h | h
   ·exact h.1
   ·obtain ⟨r,J,G⟩:=List.any_eq_true.1 B.out
    rw [h.2 r J] at G
    cases G)
  go_enter Tryz.func117,Tryz.ntmps117
  go_wp2_with (go_at_call 111;refine M.out.mono ?_;rintro _ N ⟨i,rfl,E,C⟩;have K:=I.out i E;have A:=yH C;clear E C)
  go_ret
  exact ⟨(by first | rfl | exact ret_b (decide_eq_true K)),A.out⟩
 | false=>
  have I:=yH (show ∀i:Int,((0≤i∧∃r∈L,f r=true)∨(i= -1∧∀r∈L,f r=false))→¬0≤i from fun i h=>by
   rcases h with h | h
   ·obtain ⟨r,J,G⟩:=h.2
    have:=List.any_eq_true.2 ⟨r,J,G⟩
    rw [B.out] at this
    cases this
   ·omega)
  go_enter Tryz.func117,Tryz.ntmps117
  go_wp2_with (go_at_call 111;refine M.out.mono ?_;rintro _ N ⟨i,rfl,E,C⟩;have K:=I.out i E;have A:=yH C;clear E C)
  go_ret
  exact ⟨(by first | rfl | exact ret_b (decide_eq_false (by omega))),A.out⟩
theorem x9S (r:Rw) (gb:Nat) (d:Int) (w:World) (hb:w.cell? ⟨gb,1,none⟩=some (.int .i64 d)):
  Calls Tryz.prog 116 #[r.val,.pointer (some ⟨gb,0,none⟩)] w fun e w'=>e= .returned (.bool (decide ((r.n:Int)≠d)))∧w'=w:=by
 obtain ⟨p,n,c,R⟩:=r
 unfold Rw.val
 simp only
 have A:=yH (show ((n:Int) !=d)=decide ((n:Int)≠d) from by rw [Bool.eq_iff_iff];simp)
 go_enter Tryz.func116,Tryz.ntmps116
 go_wp2_with fail
 go_ret
 exact ⟨ret_b A.out,rfl⟩
def x2J (d:Int) (L:List Rw):Bool:=decide (1≤d∧d≤8)&& !(L.any fun r=>decide ((r.n:Int)≠d))
theorem x3S (sp:Option Addr) (d:Int) (p:Option Addr) (n c:Nat) (L:List Rw) (w:World) (hL:RowsIn w p n c L) (hn:n≤1000000000):
  Calls Tryz.prog 72 #[.agg #[.pointer sp,.int .i64 d],.slice p n c] w fun e w'=>e= .returned (.bool (x2J d L))∧Below w.heap.size w w':=by
 have C:Below w.heap.size w (w.alloc (.cells #[.pointer sp,.int .i64 d] 91)):=(Below.refl _ _).alloc (Nat.le_refl _) _
 have G:=heap_alloc_new w (.cells #[.pointer sp,.int .i64 d] 91)
 have H:=yH (x7G p n c L (fun r=>decide ((r.n:Int)≠d)) 116 #[.pointer (some ⟨w.heap.size,0,none⟩)] (fun args w=>by as_aux_lemma=>kernel_rfl) (w.alloc (.cells #[.pointer sp,.int .i64 d] 91)) (hL.later C) hn (fun r _ w' hb=>(x9S r w.heap.size d w' ((hb.cell (block_lt_of_cell (cell_of_row _ _ 1 _ _ _ G))).trans (cell_of_row _ _ 1 _ _ _ G))).mono fun e w'' ⟨he,hw⟩=>⟨he,by rw [hw];exact Below.refl _ _⟩))
 have E:=yH (show x2J d L=(decide (1≤d∧d≤8)&& !(L.any fun r=>decide ((r.n:Int)≠d))) from rfl)
 generalize x2J d L=T at *
 generalize (L.any fun r=>decide ((r.n:Int)≠d))=b at *
 have B:=yH C
 clear hL C
 by_cases h1:1≤d
 ·by_cases h8:d≤8
  ·have A:=yH (show T= !b from by rw [E.out,decide_eq_true ⟨h1,h8⟩];rfl)
   clear E
   go_enter Tryz.func72,Tryz.ntmps72
   go_upto_region 1 with fail
   generalize w.alloc (.cells #[.pointer sp,.int .i64 d] 91)=w1 at *
   have J:=cell_of_row w1 w.heap.size 1 _ _ _ G
   go_wp2_with (go_at_call 117;refine H.out.mono ?_;rintro _ M ⟨rfl,K⟩;have I:=yH (B.out.trans (K.mono B.out.size));clear K)
   go_ret
   exact ⟨ret_b A.out.symm,I.out⟩
  ·have A:=yH (show T=false from by rw [E.out,decide_eq_false (fun h=>h8 h.2)];rfl)
   clear E H
   go_enter Tryz.func72,Tryz.ntmps72
   go_upto_region 1 with fail
   generalize w.alloc (.cells #[.pointer sp,.int .i64 d] 91)=w1 at *
   have J:=cell_of_row w1 w.heap.size 1 _ _ _ G
   go_wp2_with fail
   go_ret
   exact ⟨ret_b A.out.symm,B.out⟩
 ·have A:=yH (show T=false from by rw [E.out,decide_eq_false (fun h=>h1 h.1)];rfl)
  clear E H
  go_enter Tryz.func72,Tryz.ntmps72
  go_upto_region 1 with fail
  generalize w.alloc (.cells #[.pointer sp,.int .i64 d] 91)=w1 at *
  have J:=cell_of_row w1 w.heap.size 1 _ _ _ G
  go_wp2_with fail
  go_ret
  exact ⟨ret_b A.out.symm,B.out⟩
theorem x50 {w:World} {ops:Array Oper} {rest:List Oper} {o:Oper} {a:Act} {Q:Exit→Act→World→Prop} (hg:o.guard=none) (x:Operand) (ho:o.op= .buildSlice 78 1 #[(0,x)]) {q:Option Addr} {m c:Nat} {b:Bool} (hx:a.eval x= .agg #[.slice q m c,.bool b])
  (h:wpList Tryz.prog ops Q rest (a.put o.dst (.slice (some ⟨w.heap.size,0,none⟩) 1 1)) (w.alloc (.cells #[.slice q m c,.bool b] 85))):wpList Tryz.prog ops Q (o::rest) a w:=
 wpList_plain hg fun _ hK=>x15 x ho hx (hK _ _ h)
theorem UEnt0:(Tryz.prog.underlying 85).map (·.isRow)=some true:=by kernel_rfl
theorem UEnt:∃d,Tryz.prog.underlying 85=some d∧d.isRow=true:=by
 have h:=UEnt0
 revert h
 cases Tryz.prog.underlying 85 with
 | none=>intro h;cases h
 | some d=>intro h;exact ⟨d,rfl,by simpa using h⟩
theorem SEnt:(Tryz.prog.info? 85).map (·.size)=some 2:=by kernel_rfl
theorem x5r (w:World) (A B C D:Obj):∃W,(((w.alloc A).alloc B).alloc C).alloc D=W∧W.heap[w.heap.size]? =some A∧W.heap[w.heap.size+1]? =some B∧W.heap[w.heap.size+2]? =some C∧W.heap[w.heap.size+3]? =some D∧Below w.heap.size w W:=by
 have Q:=heap_alloc_new w A
 have O:=heap_alloc_new (w.alloc A) B
 have I:=heap_alloc_new ((w.alloc A).alloc B) C
 have P:=heap_alloc_new (((w.alloc A).alloc B).alloc C) D
 have L:(w.alloc A).heap.size=w.heap.size+1:=by simp
 have K:((w.alloc A).alloc B).heap.size=w.heap.size+2:=by simp
 have M:(((w.alloc A).alloc B).alloc C).heap.size=w.heap.size+3:=by simp
 have b1:Below w.heap.size w (w.alloc A):=(Below.refl _ _).alloc (Nat.le_refl _) _
 have N:Below (w.alloc A).heap.size (w.alloc A) ((w.alloc A).alloc B):=(Below.refl _ _).alloc (Nat.le_refl _) _
 have J:Below ((w.alloc A).alloc B).heap.size ((w.alloc A).alloc B) (((w.alloc A).alloc B).alloc C):=(Below.refl _ _).alloc (Nat.le_refl _) _
 have H:Below (((w.alloc A).alloc B).alloc C).heap.size (((w.alloc A).alloc B).alloc C) ((((w.alloc A).alloc B).alloc C).alloc D):=(Below.refl _ _).alloc (Nat.le_refl _) _
 have G:=J.trans (H.mono J.size)
 have E:=N.trans (G.mono N.size)
 rw [L] at O
 rw [K] at I
 rw [M] at P
 refine ⟨_,rfl,?_,?_,?_,P,b1.trans (E.mono b1.size)⟩
 ·exact (E.block _ (by rw [L];omega)).trans Q
 ·exact (G.block _ (by rw [K];omega)).trans O
 ·exact (H.block _ (by rw [M];omega)).trans I
def y2c (w:World) (r:Rw) (v:Bool) (a b:Kd) (e:Ending) (w':World):Prop:=∃ge gk:Nat,e= .returned (.agg #[.int .u8 1,.slice (some ⟨ge,0,none⟩) 1 1,.slice (some ⟨gk,0,none⟩) 2 2])∧EntsIn w' (some ⟨ge,0,none⟩) 1 1 [⟨r,v⟩]∧KidsIn w' (some ⟨gk,0,none⟩) 2 2 [a,b]∧Below w.heap.size w w'∧w'.heap[ge]? =some (.cells #[r.val,.bool v] 85 (0,0))∧w'.heap[gk]? =some (.cells (a.cells++b.cells).toArray 34 (0,0))∧w.heap.size≤ge∧ge<gk
theorem x6W (r:Rw) (v:Bool) (a b:Kd) (w:World) (hr:r.Ok w) (ha:a.Ok w) (hb:b.Ok w):
  Calls Tryz.prog 110 #[.agg #[r.val,.bool v],.agg a.cells.toArray,.agg b.cells.toArray] w (y2c w r v a b):=by
 have HR:=yH hr
 have t:=yH ha
 have n:=yH hb
 clear hr ha hb
 obtain ⟨P,O,U,rR⟩:=r
 unfold Rw.val
 simp only
 obtain ⟨de,Q,H⟩:=UEnt
 obtain ⟨dk,M,G⟩:=UKd
 obtain ⟨dn,X,E⟩:=UNode
 have f:=yH Q
 have R:=yH H
 have Y:=yH M
 have C:=yH G
 have j:=yH X
 have N:=yH E
 have g:=yH (Kd.cells_length t.out.len)
 have x:=yH (Kd.cells_length n.out.len)
 clear Q H M G X E
 obtain ⟨W,hW,r0,s,o,e,b1⟩:=x5r w (.cells #[.slice P O U,.bool v] 85) (.cells a.cells.toArray 34) (.cells b.cells.toArray 34) (.cells #[.int .u8 0,.slice none 0 0,.slice none 0 0] 81)
 have s1:w.heap.size+4≤W.heap.size:=(yL e)
 go_enter Tryz.func110,Tryz.ntmps110
 go_upto_region 1 with fail
 clear hW
 have R0:=yH (x09 r0)
 have R1:=yH (x0E s)
 have R2:=yH (x0E o)
 obtain ⟨A,K⟩:∃A,W.alloc (.cells #[.slice P O U,.bool v] 85)=A:=⟨_,rfl⟩
 have be:Below W.heap.size W A:=by rw [← K];exact (Below.refl _ _).alloc (Nat.le_refl _) _
 have Z:=heap_alloc_new W (.cells #[.slice P O U,.bool v] 85)
 rw [K] at Z
 obtain ⟨L,J⟩:∃L,A.alloc (.cells (a.cells++b.cells).toArray 34)=L:=⟨_,rfl⟩
 have d:Below A.heap.size A L:=by rw [← J];exact (Below.refl _ _).alloc (Nat.le_refl _) _
 have p:=heap_alloc_new A (.cells (a.cells++b.cells).toArray 34)
 rw [J] at p
 have be3:=(d.block _ (yL Z)).trans Z
 have b3:=b1.trans ((be.trans (d.mono be.size)).mono b1.size)
 have z2:=(be.trans (d.mono be.size)).block _ (yL e)
 have R3:=yH (z2.trans e)
 have A0:=yH (x0E (yK be s))
 have u:=yH (x0E (yK be o))
 have i:=yH be3
 have NK:=yH p
 have B3:=yH b3
 have SZ:=yH (show w.heap.size+4≤A.heap.size from Nat.le_trans s1 be.size)
 have z:=yH (show W.heap.size<A.heap.size from (yL Z))
 clear r0 s o e b1 be Z d p be3 b3 z2
 go_wp2_with (first
  | (refine wpList_load_mid (by rfl) 85 (.tmp 3) (by rfl) w.heap.size 0 (by rfl) [.slice P O U,.bool v] de R0.out f.out R.out SEnt ?_)
  | (refine x50 (by rfl) (.tmp 7) (by rfl) (q:=P) (m:=O) (c:=U) (b:=v) (by rfl) ?_;rw [K])
  | (refine wpList_load_mid (by rfl) 34 (.tmp 4) (by rfl) (w.heap.size+1) 0 (by rfl) a.cells dk A0.out Y.out C.out (by rw [g.out];exact SKd) ?_)
  | (refine wpList_load_mid (by rfl) 34 (.tmp 5) (by rfl) (w.heap.size+2) 0 (by rfl) b.cells dk u.out Y.out C.out (by rw [x.out];exact SKd) ?_)
  | (refine x4v (by rfl) (.tmp 9) (.tmp 10) (by rfl) (k:=a) (l:=b) t.out.len n.out.len (by rfl) (by rfl) ?_;rw [J])
  | (refine x07 (cells:= #[.int .u8 1,.slice (some ⟨W.heap.size,0,none⟩) 1 1,.slice (some ⟨A.heap.size,0,none⟩) 2 2]) (by rfl) (by rfl) (by simp only [List.map_toArray,List.map_cons,List.map_nil];exact x3O _ _ _ _ _ _) ?_)
  | (refine wpList_store_row (by rfl) 81 (.tmp 6) (.tmp 12) (by rfl) (w.heap.size+3) #[.int .u8 1,.slice (some ⟨W.heap.size,0,none⟩) 1 1,.slice (some ⟨A.heap.size,0,none⟩) 2 2] (by rfl) (by rfl) _ _ R3.out SNode rfl (x7B _ _ _ _ _ _) ?_))
 refine x1B 6 (by kernel_rfl) (w.heap.size+3) _ #[.int .u8 1,.slice (some ⟨W.heap.size,0,none⟩) 1 1,.slice (some ⟨A.heap.size,0,none⟩) 2 2] j.out N.out SNode (by rfl) (setRow_heap _ _ _ _ _ _ R3.out) ?_
 have B:∀r:Rw,r.Ok w→r.Ok (L.setRow (w.heap.size+3) #[.int .u8 1,.slice (some ⟨W.heap.size,0,none⟩) 1 1,.slice (some ⟨A.heap.size,0,none⟩) 2 2]):=fun r hr=>Nd.rw_keep (hr.later B3.out) fun y hy hR=>setRow_other _ _ _ _ (y0g hr (by omega) y hy hR)
 have I:∀kd:Kd,kd.Ok w→kd.Ok (L.setRow (w.heap.size+3) #[.int .u8 1,.slice (some ⟨W.heap.size,0,none⟩) 1 1,.slice (some ⟨A.heap.size,0,none⟩) 2 2]):=fun kd h=>⟨h.len,h.ok,B _ h.lo,B _ h.hi,B _ h.key,h.live,h.size⟩
 have he:=(setRow_other L (w.heap.size+3) W.heap.size #[.int .u8 1,.slice (some ⟨W.heap.size,0,none⟩) 1 1,.slice (some ⟨A.heap.size,0,none⟩) 2 2] (by omega)).trans i.out
 have hk:=(setRow_other L (w.heap.size+3) A.heap.size #[.int .u8 1,.slice (some ⟨W.heap.size,0,none⟩) 1 1,.slice (some ⟨A.heap.size,0,none⟩) 2 2] (by have:=SZ.out;omega)).trans NK.out
 exact ⟨W.heap.size,A.heap.size,rfl,x8e he (B _ HR.out),x8c hk (I _ t.out) (I _ n.out),B3.out.trans (Below.setRow (Below.refl _ _) (by omega) _),he,hk,by omega,by have:=z.out;omega⟩
end Go.Proofs.YtinihaflmdihaaaGreat.Kt
namespace Go.Proofs.YtinihaflmdihaaaGreat
open Go.RowKit
def pairB (R S T U:List Int) (n m k l:Nat):Bool:=x0d R S n m n&&x0d T U k l n
theorem y4O (w:World) (v u v2 u2:Value):∀w2,w2=(w.alloc (.cells #[v,u] 32)).alloc (.cells #[v2,u2] 32)→
  (w2.cell? ⟨w.heap.size,0,none⟩=some v∧w2.cell? ⟨w.heap.size,1,none⟩=some u∧w2.cell? ⟨w.heap.size+1,0,none⟩=some v2∧w2.cell? ⟨w.heap.size+1,1,none⟩=some u2)∧Below w.heap.size w w2∧w2.heap.size=w.heap.size+2:=by
 rintro w2 rfl
 obtain ⟨G,C⟩:=x0W w v u 32
 have E:(w.alloc (.cells #[v,u] 32)).heap.size=w.heap.size+1:=by simp
 have B:Below w.heap.size w (w.alloc (.cells #[v,u] 32)):=(Below.refl _ _).alloc (Nat.le_refl _) _
 generalize w.alloc (.cells #[v,u] 32)=w1 at *
 obtain ⟨b0,b1⟩:=x0W w1 v2 u2 32
 have A:Below w1.heap.size w1 (w1.alloc (.cells #[v2,u2] 32)):=(Below.refl _ _).alloc (Nat.le_refl _) _
 rw [E] at b0 b1
 exact ⟨⟨(A.cell (p:=⟨w.heap.size,0,none⟩) (by show w.heap.size<_;omega)).trans G,(A.cell (p:=⟨w.heap.size,1,none⟩) (by show w.heap.size<_;omega)).trans C,b0,b1⟩,B.trans (A.mono (by omega)),by simp;omega⟩
structure Four (w0 w:World) (a b:Nat) (p q r s:Option Addr) (n c m e k f l g:Nat) (R S T U:List Int):Prop where
 ba:BoxAt w a p n c q m e
 bb:BoxAt w b r k f s l g
 la:a<w.heap.size
 lb:b<w.heap.size
 i1:Ints w p n c R
 i2:Ints w q m e S
 i3:Ints w r k f T
 i4:Ints w s l g U
 below:Below w0.heap.size w0 w
theorem Four.later {w0 w w':World} {a b:Nat} {p q r s:Option Addr} {n c m e k f l g:Nat} {R S T U:List Int} (h:Four w0 w a b p q r s n c m e k f l g R S T U) (hb:Below w.heap.size w w'):Four w0 w' a b p q r s n c m e k f l g R S T U:=
 ⟨⟨(hb.cell (p:=⟨a,0,none⟩) h.la).trans h.ba.1,(hb.cell (p:=⟨a,1,none⟩) h.la).trans h.ba.2⟩,⟨(hb.cell (p:=⟨b,0,none⟩) h.lb).trans h.bb.1,(hb.cell (p:=⟨b,1,none⟩) h.lb).trans h.bb.2⟩,Nat.lt_of_lt_of_le h.la hb.size,Nat.lt_of_lt_of_le h.lb hb.size,
  h.i1.later hb,h.i2.later hb,h.i3.later hb,h.i4.later hb,h.below.trans (hb.mono h.below.size)⟩
theorem y4P {w w2:World} {p q r s:Option Addr} {n c m e k f l g:Nat} {R S T U:List Int} (h1:Ints w p n c R) (h2:Ints w q m e S) (h3:Ints w r k f T) (h4:Ints w s l g U)
  (h:w2=(w.alloc (.cells #[.slice p n c,.slice q m e] 32)).alloc (.cells #[.slice r k f,.slice s l g] 32)):Four w w2 w.heap.size (w.heap.size+1) p q r s n c m e k f l g R S T U:=by
 obtain ⟨⟨B,G,C,E⟩,A,H⟩:=y4O w _ _ _ _ w2 h
 exact ⟨⟨B,G⟩,⟨C,E⟩,by omega,by omega,h1.later A,h2.later A,h3.later A,h4.later A,A⟩
theorem x6X (p q r s:Option Addr) (n c m e k f l g:Nat) (R S T U:List Int) (w:World) (h1:Ints w p n c R) (h2:Ints w q m e S) (h3:Ints w r k f T) (h4:Ints w s l g U):
  Calls Tryz.prog 272 #[.agg #[.slice p n c,.slice q m e],.agg #[.slice r k f,.slice s l g]] w fun e w'=>e= .returned (.bool (pairB R S T U n m k l))∧Below w.heap.size w w':=by
 go_enter Tryz.func272,Tryz.ntmps272
 go_upto_region 1 with fail
 obtain ⟨I,B⟩:∃I,I=(w.alloc (.cells #[.slice p n c,.slice q m e] 32)).alloc (.cells #[.slice r k f,.slice s l g] 32):=⟨_,rfl⟩
 have C:=yH (y4P h1 h2 h3 h4 B)
 rw [← B]
 clear B h1 h2 h3 h4
 have b:=C.out.ba
 obtain ⟨b0,b1⟩:=b
 have b:=C.out.bb
 obtain ⟨K,J⟩:=b
 go_wp2_with fail
 refine (x2D p q n c m e R S n I C.out.i1 C.out.i2).mono ?_
 rintro _ M ⟨rfl,E⟩
 have A:=yH (C.out.later E)
 clear E C b0 b1 K J
 have b:=A.out.ba
 obtain ⟨b0,b1⟩:=b
 have b:=A.out.bb
 obtain ⟨K,J⟩:=b
 cases hr:x0d R S n m n with
 | false=>
  have H:=yH (show pairB R S T U n m k l=false by unfold pairB;rw [hr];rfl)
  clear hr
  go_wp2_with fail
  go_ret
  exact ⟨congrArg (fun b=>Ending.returned (.bool b)) H.out.symm,A.out.below⟩
 | true=>
  have H:=yH (show pairB R S T U n m k l=x0d T U k l n by unfold pairB;rw [hr];rfl)
  clear hr
  go_wp2_with fail
  refine (x2D r s k f l g T U n M A.out.i3 A.out.i4).mono ?_
  rintro _ N ⟨rfl,G⟩
  have L:=yH (A.out.below.trans (G.mono A.out.below.size))
  clear G
  go_wp2_with fail
  go_ret
  exact ⟨congrArg (fun b=>Ending.returned (.bool b)) H.out.symm,L.out⟩
def i64s (l:List Int):Array Value:=(l.map fun x=>Value.int .i64 x).toArray
def part (f:Nat→Int) (n k:Nat):List Int:=(List.range n).map fun i=>if i<k then f i else 0
theorem x30 (f:Nat→Int) (n k:Nat):(part f n k).length=n:=by simp [part]
theorem i64s_get (l:List Int) (i:Nat) (h:i<l.length):(i64s l)[i]? =some (.int .i64 (l.getD i 0)):=by
 simp [i64s,List.getD_eq_getElem?_getD,List.getElem?_eq_getElem h]
theorem x8k (f:Nat→Int) (n k:Nat):(i64s (part f n k)).setIfInBounds k (.int .i64 (f k))=i64s (part f n (k+1)):=by
 apply Array.ext'
 simp only [i64s,part,Array.toList_setIfInBounds,List.map_map]
 apply List.ext_getElem (by simp)
 intro i h1 h2
 rw [List.getElem_set]
 simp only [List.length_map,List.length_range] at h2
 by_cases hk:k=i
 ·subst hk;simp
 ·simp only [hk,if_false,List.getElem_map,List.getElem_range,Function.comp]
  by_cases h3:i<k
  ·rw [if_pos h3,if_pos (by omega)]
  ·rw [if_neg h3,if_neg (by omega)]
def RowAt (w:World) (g:Nat) (L:List Int):Prop:=w.heap[g]? =some (.cells (i64s L) 2 (0,0))
theorem RowAt.cell {w:World} {g:Nat} {L:List Int} (h:RowAt w g L) (i:Nat) (hi:i<L.length):w.cell? ⟨g,i,none⟩=some (.int .i64 (L.getD i 0)):=by
 rw [cell_of_row w g i _ _ _ h,i64s_get L i hi]
theorem RowAt.free {w:World} {g:Nat} {L:List Int} (h:RowAt w g L) (i:Nat):w.frozen? ⟨g,i,none⟩=false:=frozen_of_row w g i _ _ h
theorem RowAt.lt {w:World} {g:Nat} {L:List Int} (h:RowAt w g L):g<w.heap.size:=(yL h)
theorem RowAt.later {w w':World} {g:Nat} {L:List Int} (h:RowAt w g L) {n:Nat} (hb:Below n w w') (hn:g<n):RowAt w' g L:=(hb.block _ hn).trans h
theorem RowAt.ints {w:World} {g:Nat} {L:List Int} (h:RowAt w g L) (hL:∀x∈L,-9223372036854775808≤x∧x≤9223372036854775807):Ints w (some ⟨g,0,none⟩) L.length L.length L:=
 ⟨rfl,Nat.le_refl _,hL,Or.inr ⟨g,0,rfl,fun i hi=>by rw [Nat.zero_add];exact h.cell i hi⟩⟩
theorem y0r (f:Nat→Int) (n:Nat):madeCells (Value.cells (.int .i64 0)) n=i64s (part f n 0):=by
 apply Array.ext
 ·simp [size_madeCells,i64s,part,Value.cells]
 ·intro i h1 h2
  simp [madeCells,i64s,part,Value.cells,Nat.mod_one]
theorem A23:Tryz.prog.underlying 24=some (.slice 2):=by kernel_rfl
theorem I2i:(Tryz.prog.info? 2).map (fun i=>(i.zero,i.size,i.bytes))=some (some (.int .i64 0),1,8):=by kernel_rfl
theorem make_row (n:Nat) (h8:n≤8) (f:Nat→Int) (w:World):(Instr.makeSlice 24 (.int .i64 n) (.int .i64 n)).run Tryz.prog w= .ok (.slice (some ⟨w.heap.size,0,none⟩) n n) (w.alloc (.cells (i64s (part f n 0)) 2)):=by
 obtain ⟨E,G,B,A,C⟩:=info_parts I2i
 have:=run_make (P:=Tryz.prog) w 24 2 E _ A23 G B .i64 .i64 n n (by omega) (by omega) (by rw [C];omega) (by omega)
 rw [this,A]
 simp only [Int.toNat_natCast,Nat.mul_one,y0r f]
theorem y0s (f g:Nat→Int) (n:Nat):part f n 0=part g n 0:=by simp [part]
structure Made (w:World) (g1 g2 gb n:Nat) (L M:List Int) (wx:World):Prop where
 r1:RowAt wx g1 L
 r2:RowAt wx g2 M
 bx:wx.heap[gb]? =some (.cells #[.slice (some ⟨g1,0,none⟩) n n,.slice (some ⟨g2,0,none⟩) n n] 32 (0,0))
 res:wx.heap[w.heap.size]? =some (.cells #[.slice none 0 0,.slice none 0 0] 32 (0,0))
 ne:(g1≠g2∧g1≠gb∧g2≠gb)∧w.heap.size<g1∧w.heap.size<g2∧w.heap.size<gb
 below:Below w.heap.size w wx
def Sides (w:World) (n:Nat) (f g:Nat→Int) (F:Nat) (cap:Array Value):Prop:=
 ∀(k:Nat) (w':World),k<n→Below w.heap.size w w'→Calls Tryz.prog F (#[.int .i64 k]++cap) w' fun e w''=>e= .returned (.tuple #[.int .i64 (f k),.int .i64 (g k)])∧∃j,w''=w'.drewN j
theorem heap3 (w:World) (a b c:Array Value) (ta tb tc:TypeId):
  (((w.alloc (.cells a ta)).alloc (.cells b tb)).alloc (.cells c tc)).drew.heap[w.heap.size]? =some (.cells a ta (0,0))∧(((w.alloc (.cells a ta)).alloc (.cells b tb)).alloc (.cells c tc)).drew.heap[w.heap.size+1]? =some (.cells b tb (0,0))∧
  (((w.alloc (.cells a ta)).alloc (.cells b tb)).alloc (.cells c tc)).drew.heap[w.heap.size+1+1]? =some (.cells c tc (0,0))∧Below w.heap.size w (((w.alloc (.cells a ta)).alloc (.cells b tb)).alloc (.cells c tc)).drew:=by
 have s1:(w.alloc (.cells a ta)).heap.size=w.heap.size+1:=by simp
 have H:((w.alloc (.cells a ta)).alloc (.cells b tb)).heap.size=w.heap.size+1+1:=by simp
 have G:=heap_alloc_new w (.cells a ta)
 have b1:Below w.heap.size w (w.alloc (.cells a ta)):=(Below.refl _ _).alloc (Nat.le_refl _) _
 generalize w.alloc (.cells a ta)=w1 at *
 have B:=heap_alloc_new w1 (.cells b tb)
 have E:Below w1.heap.size w1 (w1.alloc (.cells b tb)):=(Below.refl _ _).alloc (Nat.le_refl _) _
 generalize w1.alloc (.cells b tb)=w2 at *
 have C:=heap_alloc_new w2 (.cells c tc)
 have A:Below w2.heap.size w2 (w2.alloc (.cells c tc)):=(Below.refl _ _).alloc (Nat.le_refl _) _
 generalize w2.alloc (.cells c tc)=w3 at *
 rw [s1] at B
 rw [H] at C
 exact ⟨(A.block _ (by omega)).trans ((E.block _ (by omega)).trans G),(A.block _ (by omega)).trans B,C,(b1.trans ((E.trans (A.mono (by omega))).mono (by omega))).drew⟩
theorem y4Q {w w1 W:World} {g1 g2 gb n:Nat} {L M:List Int} (hr:w1.heap[w.heap.size]? =some (.cells #[.slice none 0 0,.slice none 0 0] 32 (0,0))) (hb:Below w.heap.size w w1) (hsz:w1.heap.size=w.heap.size+1) (hW:Below w1.heap.size w1 W)
  (r1:RowAt W g1 L) (r2:RowAt W g2 M) (bx:W.heap[gb]? =some (.cells #[.slice (some ⟨g1,0,none⟩) n n,.slice (some ⟨g2,0,none⟩) n n] 32 (0,0))) (ne:(g1≠g2∧g1≠gb∧g2≠gb)∧w1.heap.size≤g1∧w1.heap.size≤g2∧w1.heap.size≤gb):Made w g1 g2 gb n L M W:=
 ⟨r1,r2,bx,(hW.block _ (by omega)).trans hr,⟨ne.1,by omega,by omega,by omega⟩,hb.trans (hW.mono (by omega))⟩
def At3 (sz:Nat) (a b c:Array Value×TypeId) (g:Nat) (x:Array Value×TypeId):Prop:=(g=sz∧x=a)∨(g=sz+1∧x=b)∨(g=sz+1+1∧x=c)
theorem x5s {w w1:World} {a b c:Array Value} {ta tb tc:TypeId} {g1 g2 gb n:Nat} {L M:List Int} (hr:w1.heap[w.heap.size]? =some (.cells #[.slice none 0 0,.slice none 0 0] 32 (0,0))) (hb:Below w.heap.size w w1) (hsz:w1.heap.size=w.heap.size+1)
  (h3:At3 w1.heap.size (a,ta) (b,tb) (c,tc) gb (#[.slice (some ⟨g1,0,none⟩) n n,.slice (some ⟨g2,0,none⟩) n n],32)) (h1:At3 w1.heap.size (a,ta) (b,tb) (c,tc) g1 (i64s L,2)) (h2:At3 w1.heap.size (a,ta) (b,tb) (c,tc) g2 (i64s M,2)) (ne:g1≠g2∧g1≠gb∧g2≠gb):
  Made w g1 g2 gb n L M (((w1.alloc (.cells a ta)).alloc (.cells b tb)).alloc (.cells c tc)).drew:=by
 obtain ⟨C,B,E,G⟩:=heap3 w1 a b c ta tb tc
 have A:∀g x,At3 w1.heap.size (a,ta) (b,tb) (c,tc) g x→(((w1.alloc (.cells a ta)).alloc (.cells b tb)).alloc (.cells c tc)).drew.heap[g]? =some (.cells x.1 x.2 (0,0))∧w1.heap.size≤g:=by
  rintro g x (⟨rfl,rfl⟩ | ⟨rfl,rfl⟩ | ⟨rfl,rfl⟩)
  ·exact ⟨C,Nat.le_refl _⟩
  ·exact ⟨B,by omega⟩
  ·exact ⟨E,by omega⟩
 exact y4Q hr hb hsz G (A _ _ h1).1 (A _ _ h2).1 (A _ _ h3).1 ⟨ne,(A _ _ h1).2,(A _ _ h2).2,(A _ _ h3).2⟩
theorem Made.later {w w' wx:World} {g1 g2 gb n:Nat} {L M:List Int} (h:Made w g1 g2 gb n L M wx) (hb:Below wx.heap.size wx w'):Made w g1 g2 gb n L M w':=
 ⟨h.r1.later hb h.r1.lt,h.r2.later hb h.r2.lt,(hb.block _ (yL h.bx)).trans h.bx,(hb.block _ (yL h.res)).trans h.res,h.ne,h.below.trans (hb.mono h.below.size)⟩
theorem Made.set {w wx:World} {g1 g2 gb n k:Nat} {f g:Nat→Int} (h:Made w g1 g2 gb n (part f n k) (part g n k) wx):
  Made w g1 g2 gb n (part f n (k+1)) (part g n (k+1)) ((wx.setCell ⟨g1,k,none⟩ (.int .i64 (f k))).setCell ⟨g2,k,none⟩ (.int .i64 (g k))):=by
 have A:=heap_setCell_same wx g1 k _ _ (.int .i64 (f k)) h.r1
 rw [x8k] at A
 have C:RowAt (wx.setCell ⟨g1,k,none⟩ (.int .i64 (f k))) g2 (part g n k):=(heap_setCell_other _ _ _ _ (Ne.symm h.ne.1.1)).trans h.r2
 have B:=heap_setCell_same _ g2 k _ _ (.int .i64 (g k)) C
 rw [x8k] at B
 have o:∀b,b≠g1→b≠g2→((wx.setCell ⟨g1,k,none⟩ (.int .i64 (f k))).setCell ⟨g2,k,none⟩ (.int .i64 (g k))).heap[b]? =wx.heap[b]? :=fun b n1 n2=>(heap_setCell_other _ _ _ _ n2).trans (heap_setCell_other _ _ _ _ n1)
 exact ⟨(heap_setCell_other _ _ _ _ h.ne.1.1).trans A,B,(o _ (Ne.symm h.ne.1.2.1) (Ne.symm h.ne.1.2.2)).trans h.bx,(o _ (Nat.ne_of_lt h.ne.2.1) (Nat.ne_of_lt h.ne.2.2.1)).trans h.res,h.ne,
  (h.below.setCell (p:=⟨g1,k,none⟩) (Nat.le_of_lt h.ne.2.1) _).setCell (p:=⟨g2,k,none⟩) (Nat.le_of_lt h.ne.2.2.1) _⟩
structure x7H (g1 g2 gb n k:Nat) (x y u:Value) (wx:World):Prop where
 b0:wx.cell? ⟨gb,0,none⟩=some (.slice (some ⟨g1,0,none⟩) n n)
 b1:wx.cell? ⟨gb,1,none⟩=some (.slice (some ⟨g2,0,none⟩) n n)
 c1:wx.cell? ⟨g1,k,none⟩=some x
 c2:wx.cell? ⟨g2,k,none⟩=some y
 f1:wx.frozen? ⟨g1,k,none⟩=false
 f2:wx.frozen? ⟨g2,k,none⟩=false
 d1:(wx.setCell ⟨g1,k,none⟩ u).cell? ⟨gb,1,none⟩=some (.slice (some ⟨g2,0,none⟩) n n)
 e2:(wx.setCell ⟨g1,k,none⟩ u).cell? ⟨g2,k,none⟩=some y
 g2:(wx.setCell ⟨g1,k,none⟩ u).frozen? ⟨g2,k,none⟩=false
theorem Made.cells {w wx:World} {g1 g2 gb n k:Nat} {L M:List Int} (h:Made w g1 g2 gb n L M wx) (hL:k<L.length) (hM:k<M.length) (u:Value):x7H g1 g2 gb n k (.int .i64 (L.getD k 0)) (.int .i64 (M.getD k 0)) u wx:=by
 have B:(wx.setCell ⟨g1,k,none⟩ u).heap[gb]? =_:=(heap_setCell_other _ _ _ _ (Ne.symm h.ne.1.2.1)).trans h.bx
 have A:RowAt (wx.setCell ⟨g1,k,none⟩ u) g2 M:=(heap_setCell_other _ _ _ _ (Ne.symm h.ne.1.1)).trans h.r2
 exact ⟨cell_of_row wx gb 0 _ _ _ h.bx,cell_of_row wx gb 1 _ _ _ h.bx,h.r1.cell k hL,h.r2.cell k hM,h.r1.free k,h.r2.free k,cell_of_row _ gb 1 _ _ _ B,A.cell k hM,A.free k⟩
theorem Made.done {w wx:World} {g1 g2 gb n:Nat} {L M:List Int} (h:Made w g1 g2 gb n L M wx):
  (wx.cell? ⟨gb,0,none⟩=some (.slice (some ⟨g1,0,none⟩) n n)∧wx.cell? ⟨gb,1,none⟩=some (.slice (some ⟨g2,0,none⟩) n n)∧wx.cell? ⟨w.heap.size,0,none⟩=some (.slice none 0 0)∧wx.cell? ⟨w.heap.size,1,none⟩=some (.slice none 0 0)∧wx.frozen? ⟨w.heap.size,0,none⟩=false∧wx.frozen? ⟨w.heap.size,1,none⟩=false)∧
  ((wx.setCell ⟨w.heap.size,0,none⟩ (.slice (some ⟨g1,0,none⟩) n n)).setCell ⟨w.heap.size,1,none⟩ (.slice (some ⟨g2,0,none⟩) n n)).heap[w.heap.size]? =some (.cells #[.slice (some ⟨g1,0,none⟩) n n,.slice (some ⟨g2,0,none⟩) n n] 32 (0,0))∧
  (RowAt ((wx.setCell ⟨w.heap.size,0,none⟩ (.slice (some ⟨g1,0,none⟩) n n)).setCell ⟨w.heap.size,1,none⟩ (.slice (some ⟨g2,0,none⟩) n n)) g1 L∧RowAt ((wx.setCell ⟨w.heap.size,0,none⟩ (.slice (some ⟨g1,0,none⟩) n n)).setCell ⟨w.heap.size,1,none⟩ (.slice (some ⟨g2,0,none⟩) n n)) g2 M∧w.heap.size<g1∧w.heap.size<g2∧g1≠g2∧
   Below w.heap.size w ((wx.setCell ⟨w.heap.size,0,none⟩ (.slice (some ⟨g1,0,none⟩) n n)).setCell ⟨w.heap.size,1,none⟩ (.slice (some ⟨g2,0,none⟩) n n))):=by
 have B:=heap_setCell_same wx w.heap.size 0 _ _ (.slice (some ⟨g1,0,none⟩) n n) h.res
 have A:=heap_setCell_same _ w.heap.size 1 _ _ (.slice (some ⟨g2,0,none⟩) n n) B
 have o:∀b,b≠w.heap.size→((wx.setCell ⟨w.heap.size,0,none⟩ (.slice (some ⟨g1,0,none⟩) n n)).setCell ⟨w.heap.size,1,none⟩ (.slice (some ⟨g2,0,none⟩) n n)).heap[b]? =wx.heap[b]? :=fun b nb=>(heap_setCell_other _ _ _ _ nb).trans (heap_setCell_other _ _ _ _ nb)
 exact ⟨⟨cell_of_row wx gb 0 _ _ _ h.bx,cell_of_row wx gb 1 _ _ _ h.bx,cell_of_row wx _ 0 _ _ _ h.res,cell_of_row wx _ 1 _ _ _ h.res,frozen_of_row wx _ 0 _ _ h.res,frozen_of_row wx _ 1 _ _ h.res⟩,A,
  (o _ (Nat.ne_of_gt h.ne.2.1)).trans h.r1,(o _ (Nat.ne_of_gt h.ne.2.2.1)).trans h.r2,h.ne.2.1,h.ne.2.2.1,h.ne.1.1,(h.below.setCell (p:=⟨w.heap.size,0,none⟩) (Nat.le_refl _) _).setCell (p:=⟨w.heap.size,1,none⟩) (Nat.le_refl _) _⟩
theorem x31 {fn:Func} {P:Ending→World→Prop} (p:Tmp) (hr:fn.results= #[.cell p 32]) {tmps:Array Value} {w:World} (g:Nat) (a b:Value)
  (hp:tmps.getD p undef= .pointer (some ⟨g,0,none⟩)) (hg:w.heap[g]? =some (.cells #[a,b] 32 (0,0))) (h:P (.returned (.agg #[a,b])) w):bodyPost Tryz.prog fn P .ret ⟨tmps,[]⟩ w:=by
 have B:=cell_of_row w g 0 _ _ _ hg
 have C:=cell_of_row w g 1 _ _ _ hg
 refine bodyPost_ret (a:=⟨tmps,[]⟩) (v:=.agg #[a,b]) ?_ rfl h
 have A:tmps[p]?.getD undef= .pointer (some ⟨g,0,none⟩):=by simpa using hp
 simp [results,hr,A,go_sem,B,C]
def y2d (w:World) (g1 g2 gb n:Nat) (f g:Nat→Int) (i:Value) (wr:World):Prop:=∃k,k≤n∧i= .int .i64 k∧Made w g1 g2 gb n (part f n k) (part g n k) wr
theorem x7I (n:Nat) (h1:1≤n) (h8:n≤8) (f g:Nat→Int) (F:Nat) (cap:Array Value) (hF:∀args w,(callFunc F args).run Tryz.prog w= .ok (.enter F args) w) (w:World) (hs:Sides w n f g F cap):
  Calls Tryz.prog 273 #[.int .i64 n,.func (.func F) #[] cap] w fun e w'=>∃g1 g2:Nat,e= .returned (.agg #[.slice (some ⟨g1,0,none⟩) n n,.slice (some ⟨g2,0,none⟩) n n])∧RowAt w' g1 (part f n n)∧RowAt w' g2 (part g n n)∧w.heap.size<g1∧w.heap.size<g2∧g1≠g2∧Below w.heap.size w w':=by
 have o:=yH hs
 clear hs
 have z:=make_row n h8 f
 go_enter Tryz.func273,Tryz.ntmps273
 go_upto_region 1 with fail
 have U:(w.alloc (.cells #[.slice none 0 0,.slice none 0 0] 32)).heap[w.heap.size]? =some (.cells #[.slice none 0 0,.slice none 0 0] 32 (0,0)):=heap_alloc_new w _
 have R:Below w.heap.size w (w.alloc (.cells #[.slice none 0 0,.slice none 0 0] 32)):=(Below.refl _ _).alloc (Nat.le_refl _) _
 have M:(w.alloc (.cells #[.slice none 0 0,.slice none 0 0] 32)).heap.size=w.heap.size+1:=by simp
 generalize w.alloc (.cells #[.slice none 0 0,.slice none 0 0] 32)=w1 at *
 have E:=yH U
 have C:=yH R
 have A:=yH M
 clear U R M
 go_cut [5] (fun s5 wx=>∃g1 g2 B,s5= .pointer (some ⟨B,0,none⟩)∧Made w g1 g2 B n (part f n 0) (part f n 0) wx)
 case first=>
  go_region
  all_goals
   go_wp2_with fail
   go_meet
   first
    | exact ⟨w1.heap.size,w1.heap.size+1,w1.heap.size+1+1,rfl,x5s E.out C.out A.out (Or.inr (Or.inr ⟨rfl,rfl⟩)) (Or.inl ⟨rfl,rfl⟩) (Or.inr (Or.inl ⟨rfl,rfl⟩)) (by omega)⟩
    | exact ⟨w1.heap.size,w1.heap.size+1+1,w1.heap.size+1,rfl,x5s E.out C.out A.out (Or.inr (Or.inl ⟨rfl,rfl⟩)) (Or.inl ⟨rfl,rfl⟩) (Or.inr (Or.inr ⟨rfl,rfl⟩)) (by omega)⟩
    | exact ⟨w1.heap.size+1,w1.heap.size,w1.heap.size+1+1,rfl,x5s E.out C.out A.out (Or.inr (Or.inr ⟨rfl,rfl⟩)) (Or.inr (Or.inl ⟨rfl,rfl⟩)) (Or.inl ⟨rfl,rfl⟩) (by omega)⟩
    | exact ⟨w1.heap.size+1,w1.heap.size+1+1,w1.heap.size,rfl,x5s E.out C.out A.out (Or.inl ⟨rfl,rfl⟩) (Or.inr (Or.inl ⟨rfl,rfl⟩)) (Or.inr (Or.inr ⟨rfl,rfl⟩)) (by omega)⟩
    | exact ⟨w1.heap.size+1+1,w1.heap.size,w1.heap.size+1,rfl,x5s E.out C.out A.out (Or.inr (Or.inl ⟨rfl,rfl⟩)) (Or.inr (Or.inr ⟨rfl,rfl⟩)) (Or.inl ⟨rfl,rfl⟩) (by omega)⟩
    | exact ⟨w1.heap.size+1+1,w1.heap.size+1,w1.heap.size,rfl,x5s E.out C.out A.out (Or.inl ⟨rfl,rfl⟩) (Or.inr (Or.inr ⟨rfl,rfl⟩)) (Or.inr (Or.inl ⟨rfl,rfl⟩)) (by omega)⟩
 case rest=>
  obtain ⟨g1,g2,B,rfl,H⟩:=hcut
  have HM:=yH (show Made w g1 g2 B n (part f n 0) (part g n 0) _ from by rw [← y0s f g n];exact H)
  clear H E C A z
  clear w1
  go_wp2_with fail
  go_loopw [13] (fun i wr=>y2d w g1 g2 B n f g i wr) (fun i _=>n - (intOf i).toNat)
  case atStart=>exact ⟨0,by omega,rfl,HM.out⟩
  case round=>
   obtain ⟨k,hk,rfl,H⟩:=hrel
   clear HM
   have HM:=yH H
   clear H
   by_cases hlt:k<n
   ·have u:=yH (show ∀w',Made w g1 g2 B n (part f n k) (part g n k) w'→Calls Tryz.prog F (#[.int .i64 k]++cap) w' fun e L=>e= .returned (.tuple #[.int .i64 (f k),.int .i64 (g k)])∧Made w g1 g2 B n (part f n k) (part g n k) L from fun w' hw'=>
     (o.out k w' hlt hw'.below).mono (by rintro e L ⟨h1,j,rfl⟩;exact ⟨h1,hw'.later (Below.drewN (Below.refl _ _) j)⟩))
    have W:=yH (show ∀w',Made w g1 g2 B n (part f n k) (part g n k) w'→x7H g1 g2 B n k _ _ (.int .i64 (f k)) w' from fun w' hw'=>hw'.cells (by rw [x30];exact hlt) (by rw [x30];exact hlt) _)
    have q:=yH (show ∀w',Made w g1 g2 B n (part f n k) (part g n k) w'→_ from fun w' hw'=>hw'.set)
    have HD:=yH (HM.out.later (Below.refl _ _).drew)
    obtain ⟨a,s,b,p,a4,a5,a6,r,l⟩:=W.out _ HM.out
    generalize (part f n k).getD k 0=x at *
    generalize (part g n k).getD k 0=y at *
    have i1:(0:Int)≤k∧(k:Int)<n:=by omega
    go_wp2_with fail
    go_region_law (go_simp;refine (u.out _ (by first | exact HM.out | exact HD.out)).mono ?_;rintro e c ⟨rfl,G⟩;have P:=yH G;obtain ⟨Y,h,y2,Z,t,X,m,v,d⟩:=W.out _ G;clear G)
    all_goals
     have I:=q.out _ P.out
     generalize (c.setCell ⟨g1,k,none⟩ (.int .i64 (f k))).setCell ⟨g2,k,none⟩ (.int .i64 (g k))=w6 at *
     have HM6:=yH I
     clear I Y h y2 Z t X m v d a s b p a4 a5 a6 r l
     go_wp2_with fail
     go_roundw
     case rel=>exact ⟨k+1,by omega,by go_num,HM6.out⟩
     case measure=>simp [intOf];omega
   ·obtain rfl:k=n:=by omega
    obtain ⟨N,K,J⟩:=HM.out.done
    have Q:=yH K
    have O:=yH J
    obtain ⟨c0,c1,c2,c3,c4,c5⟩:=N
    clear K J
    go_wp2_with fail
    generalize (wr.setCell ⟨w.heap.size,0,none⟩ (.slice (some ⟨g1,0,none⟩) k k)).setCell ⟨w.heap.size,1,none⟩ (.slice (some ⟨g2,0,none⟩) k k)=w9 at *
    exact x31 4 rfl w.heap.size _ _ rfl Q.out ⟨g1,g2,rfl,O.out⟩
theorem y5L (B:Nat) (p:Option Addr) (n c:Nat) (R:List Int) (k:Nat) (hk:k<n) (w:World) (hB:w.cell? ⟨B,0,none⟩=some (.slice p n c)) (h:Ints w p n c R):
  Calls Tryz.prog 275 #[.int .i64 k,.pointer (some ⟨B,0,none⟩)] w fun e w'=>e= .returned (.tuple #[.int .i64 (R.getD k 0),.int .i64 (R.getD k 0)])∧∃j,w'=w.drewN j:=by
 obtain ⟨E,C,rfl,A⟩:=h.cell k hk
 clear h
 generalize R.getD k 0=xR at *
 have b1:(0:Int)≤k∧(k:Int)<n:=by omega
 go_enter Tryz.func275,Tryz.ntmps275
 go_wp2_with fail
 go_quiet (fail)
 go_wp2_with fail
 go_ret2
 exact ⟨rfl,_,rfl⟩
def Bx (w:World) (g:Nat) (a b:Value):Prop:=w.heap[g]? =some (.cells #[a,b] 32 (0,0))
theorem Bx.facts {w:World} {g:Nat} {a b:Value} (h:Bx w g a b):w.cell? ⟨g,0,none⟩=some a∧w.cell? ⟨g,1,none⟩=some b∧w.frozen? ⟨g,0,none⟩=false∧w.frozen? ⟨g,1,none⟩=false:=
 ⟨cell_of_row w g 0 _ _ _ h,cell_of_row w g 1 _ _ _ h,frozen_of_row w g 0 _ _ h,frozen_of_row w g 1 _ _ h⟩
theorem Bx.set {w:World} {g:Nat} {a b:Value} (h:Bx w g a b) (x y:Value):Bx ((w.setCell ⟨g,0,none⟩ x).setCell ⟨g,1,none⟩ y) g x y:=
 heap_setCell_same _ g 1 _ _ y (heap_setCell_same w g 0 _ _ x h)
theorem Bx.lt {w:World} {g:Nat} {a b:Value} (h:Bx w g a b):g<w.heap.size:=(yL h)
theorem Bx.later {w w':World} {g:Nat} {a b:Value} (h:Bx w g a b) (hb:Below w.heap.size w w'):Bx w' g a b:=(hb.block _ h.lt).trans h
theorem Bx.fresh (w:World) (a b:Value):Bx (w.alloc (.cells #[a,b] 32)) w.heap.size a b:=heap_alloc_new w _
theorem RowAt.kept {w:World} {g k:Nat} {L:List Int} (h:RowAt w g L) (hk:g≠k) (x y:Value):RowAt ((w.setCell ⟨k,0,none⟩ x).setCell ⟨k,1,none⟩ y) g L:=
 (heap_setCell_other _ _ _ _ hk).trans ((heap_setCell_other _ _ _ _ hk).trans h)
theorem part_ok {f:Nat→Int} {n k:Nat} (h:∀i,i<n→ -9223372036854775808≤f i∧f i≤9223372036854775807):∀x∈part f n k,-9223372036854775808≤x∧x≤9223372036854775807:=by
 intro x hx
 simp only [part,List.mem_map,List.mem_range] at hx
 obtain ⟨i,A,rfl⟩:=hx
 split
 ·exact h i A
 ·omega
def x7z (w:World) (f g:Nat→Int) (n:Nat) (v:Value) (w':World):Prop:=
 ∃g1 g2:Nat,v= .agg #[.slice (some ⟨g1,0,none⟩) n n,.slice (some ⟨g2,0,none⟩) n n]∧Ints w' (some ⟨g1,0,none⟩) n n (part f n n)∧Ints w' (some ⟨g2,0,none⟩) n n (part g n n)∧Below w.heap.size w w'
theorem RowAt.part {w:World} {g n:Nat} {f:Nat→Int} (h:RowAt w g (part f n n)) (hf:∀i,i<n→ -9223372036854775808≤f i∧f i≤9223372036854775807):Ints w (some ⟨g,0,none⟩) n n (part f n n):=by
 have:=h.ints (part_ok hf)
 rw [x30] at this
 exact this
theorem x4W {w0 w w':World} {R g1 g2 n:Nat} {a b:Value} {f g:Nat→Int} (hx:Bx w R a b) (hR:w0.heap.size≤R) (hw:Below w0.heap.size w0 w) (hb:Below w.heap.size w w')
  (h1:RowAt w' g1 (part f n n)) (h2:RowAt w' g2 (part g n n)) (l1:w.heap.size<g1) (l2:w.heap.size<g2) (hf:∀i,i<n→ -9223372036854775808≤f i∧f i≤9223372036854775807) (hg:∀i,i<n→ -9223372036854775808≤g i∧g i≤9223372036854775807):
  Bx ((w'.setCell ⟨R,0,none⟩ (.slice (some ⟨g1,0,none⟩) n n)).setCell ⟨R,1,none⟩ (.slice (some ⟨g2,0,none⟩) n n)) R (.slice (some ⟨g1,0,none⟩) n n) (.slice (some ⟨g2,0,none⟩) n n)∧
  x7z w0 f g n (.agg #[.slice (some ⟨g1,0,none⟩) n n,.slice (some ⟨g2,0,none⟩) n n]) ((w'.setCell ⟨R,0,none⟩ (.slice (some ⟨g1,0,none⟩) n n)).setCell ⟨R,1,none⟩ (.slice (some ⟨g2,0,none⟩) n n)):=by
 have A:=hx.lt
 refine ⟨(hx.later hb).set _ _,g1,g2,rfl,(h1.kept (by omega) _ _).part hf,(h2.kept (by omega) _ _).part hg,?_⟩
 exact ((hw.trans (hb.mono hw.size)).setCell (p:=⟨R,0,none⟩) hR _).setCell (p:=⟨R,1,none⟩) hR _
theorem y3m (p:Option Addr) (n c:Nat) (R:List Int) (h:1≤n∧n≤8) (w:World) (hR:Ints w p n c R):
  Calls Tryz.prog 245 #[.slice p n c] w fun e w'=>∃v,e= .returned v∧x7z w (fun k=>R.getD k 0) (fun k=>R.getD k 0) n v w':=by
 have E:=x2m (n:Int)
 rw [decide_eq_true (show 1≤(n:Int)∧(n:Int)≤8 by omega)] at E
 have O:=yH E
 have G:=yH hR
 clear E
 go_enter Tryz.func245,Tryz.ntmps245
 go_upto_region 1 with fail
 have K:=boxed w (.slice p n c) 24
 have s0:(w.alloc (.cells #[.slice p n c] 24)).heap.size=w.heap.size+1:=by simp
 have b0:Below w.heap.size w (w.alloc (.cells #[.slice p n c] 24)):=(Below.refl _ _).alloc (Nat.le_refl _) _
 generalize w.alloc (.cells #[.slice p n c] 24)=w0 at *
 have C:=Bx.fresh w0 (.slice none 0 0) (.slice none 0 0)
 have b1:Below w0.heap.size w0 (w0.alloc (.cells #[.slice none 0 0,.slice none 0 0] 32)):=(Below.refl _ _).alloc (Nat.le_refl _) _
 rw [s0] at C
 generalize w0.alloc (.cells #[.slice none 0 0,.slice none 0 0] 32)=w1 at *
 have X:=yH C
 have B:=(b1.cell (p:=⟨w.heap.size,0,none⟩) (by show w.heap.size<_;omega)).trans K
 have B1:=yH (b0.trans (b1.mono (by omega)))
 clear K s0 b0 C b1
 clear w0
 have P:=yH (x7I n h.1 h.2 (fun k=>R.getD k 0) (fun k=>R.getD k 0) 275 #[.pointer (some ⟨w.heap.size,0,none⟩)] (x3i Tryz.func275 (by kernel_rfl) rfl) w1 (fun k w'' hk A=>y5L w.heap.size p n c R k hk w'' ((A.cell (p:=⟨w.heap.size,0,none⟩) (by have:=X.out.lt;show w.heap.size<_;omega)).trans B) ((hR.later B1.out).later A)))
 clear h hR
 go_wp2_with ((go_at_call 263;refine (O.out _).mono ?_;rintro _ w' ⟨rfl,rfl⟩))
 refine P.out.mono ?_
 rintro _ Q ⟨U,N,rfl,J,I,M,H,W,A⟩
 obtain ⟨Z,Y,b,a⟩:=(X.out.later A).facts
 have L:=yH (x4W X.out (Nat.le_succ _) B1.out A J I M H (fun _ hk=>G.out.get _ hk) (fun _ hk=>G.out.get _ hk))
 clear J I M H W A X B1 B
 go_wp2_with fail
 generalize (Q.setCell ⟨w.heap.size+1,0,none⟩ (.slice (some ⟨U,0,none⟩) n n)).setCell ⟨w.heap.size+1,1,none⟩ (.slice (some ⟨N,0,none⟩) n n)=w9 at *
 exact x31 2 rfl (w.heap.size+1) _ _ rfl L.out.1 ⟨_,rfl,L.out.2⟩
end Go.Proofs.YtinihaflmdihaaaGreat
