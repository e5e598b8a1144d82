/- KtNew, KtChg, KlFns, KlBound, KtFine, KlAliveP, KlAliveS, KlAlive. -/
import Derived.Lib.MinMax
import Derived.Test.YtinihaflmdihaaaGreatW1
import Derived.Test.YtinihaflmdihaaaGreatW2
import Derived.Test.YtinihaflmdihaaaGreatW8
import Derived.Test.YtinihaflmdihaaaGreatW16
import Derived.Test.YtinihaflmdihaaaGreatW24
import Derived.Test.YtinihaflmdihaaaGreatW43
import Derived.Test.YtinihaflmdihaaaGreatW44
set_option maxRecDepth 100000
set_option maxHeartbeats 8000000
set_option linter.unusedVariables false
set_option linter.unusedSimpArgs false
namespace Go.Proofs.YtinihaflmdihaaaGreat.Kt
open Go.RowKit Go.Proofs.YtinihaflmdihaaaGreat.Nd Go.Proofs.YtinihaflmdihaaaGreat.Pg
open List renaming setIfInBounds_toArray → sA, set_cons_zero → sZ, set_cons_succ → sS
theorem getD64 {R:List Int} (h:∀x∈R,In64 x) (i:Nat):In64 (R.getD i 0):=by
 rw [List.getD_eq_getElem?_getD]
 rcases Nat.lt_or_ge i R.length with hi | hi
 ·rw [List.getElem?_eq_getElem hi]
  exact h _ (List.getElem_mem _)
 ·rw [List.getElem?_eq_none hi]
  exact ⟨by decide,by decide⟩
theorem two64 {f:Int→Int→Int} (hf:∀x y,f x y=x∨f x y=y) {R T:List Int} (hR:∀x∈R,In64 x) (hT:∀x∈T,In64 x) (k:Nat):∀x∈two f R T k,In64 x:=fun x hx=>by
 unfold two at hx
 obtain ⟨i,-,rfl⟩:=List.mem_map.1 hx
 rcases hf (R.getD i 0) (T.getD i 0) with e | e
 ·rw [e];exact getD64 hR i
 ·rw [e];exact getD64 hT i
def Bx64 (b:List Int×List Int):Prop:=(∀x∈b.1,In64 x)∧∀x∈b.2,In64 x
theorem hull64 {A B:List Int×List Int} (hA:Bx64 A) (hB:Bx64 B):Bx64 (hull A B):=by
 unfold hull
 split
 ·exact hA
 ·split
  ·exact hB
  ·split
   ·exact ⟨fun x hx=>(by cases hx),fun x hx=>by cases hx⟩
   ·exact ⟨two64 (fun x y=>by rcases Int.le_total x y with h | h<;>omega) hA.1 hB.1 _,two64 (fun x y=>by rcases Int.le_total x y with h | h<;>omega) hA.2 hB.2 _⟩
theorem fork_nums {q:List Int} {v:Bool} {a b:PK} (hq:∀x∈q,In64 x) (ha:a.Nums) (hb:b.Nums):(forkN q v a b).Nums∧(forkN q v a b).says.Nums:=by
 have hn:(forkN q v a b).Nums:=⟨fun e he=>by
  have he:e∈[(⟨q,v⟩:PE)]:=he
  rw [List.mem_singleton.1 he]
  exact hq,fun k hk=>by
  have hk:k∈[a,b]:=hk
  simp only [List.mem_cons,List.not_mem_nil,or_false] at hk
  rcases hk with rfl | rfl
  ·exact ha
  ·exact hb⟩
 refine ⟨hn,sumOf_length _,sumOf_ok _,?_,?_,fun x hx=>by cases hx⟩
 all_goals
  have h0:Bx64 (([],[]):List Int×List Int):=⟨fun x hx=>(by cases hx),fun x hx=>by cases hx⟩
  have h1:Bx64 (boxE ([],[]) ⟨q,v⟩):=by
   unfold boxE
   split
   ·exact hull64 h0 ⟨hq,hq⟩
   ·exact h0
  have h2:Bx64 (forkN q v a b).box:=hull64 (hull64 h1 ⟨ha.2.2.1,ha.2.2.2.1⟩) ⟨hb.2.2.1,hb.2.2.2.1⟩
 ·exact h2.1
 ·exact h2.2
theorem none_nums:PK.none.Nums:=⟨by decide,zeros_ok 32,fun x hx=>(by cases hx),fun x hx=>(by cases hx),fun x hx=>by cases hx⟩
structure NewK (d:Nat) (a:PK):Prop where
 right:a.right d=true
 key:a.key=[]
 nums:a.Nums
theorem NewK.size {d:Nat} {a:PK} (h:NewK d a):0≤a.size:=(kid_zero h.right).1
theorem fork_new {d:Nat} (hd:1≤d∧d≤8) {q:List Int} {v:Bool} {a b:PK} (hl:q.length=d) (hq:∀x∈q,In64 x) (ha:NewK d a) (hb:NewK d b) (hz:a.size+b.size+1≤1048576):NewK d (forkN q v a b).says∧Txt d (forkN q v a b).bytes (forkN q v a b)∧(forkN q v a b).says.size=1+(a.size+b.size):=by
 have hf:=fork_size q v a b
 have h1:=ha.size
 have h2:=hb.size
 have hr:=fork_right (v:=v) hd hl ha.right hb.right ha.key hb.key
 have hn:=fork_nums (v:=v) hq ha.nums hb.nums
 exact ⟨⟨says_right hr (by omega) (by omega),rfl,hn.2⟩,txt_of hn.1 hr (by omega),hf⟩
theorem tree_new {d:Nat} (hd:1≤d∧d≤8):∀t:T,t.dims d→(∀y∈t.ents,∀x∈y,In64 x)→t.size≤1048576→NewK d (V.of t).kid∧(∀b∈t.pages,∃N,Txt d b N∧N.kind=1)∧(∀W',(∀b∈t.pages,textAt W' (sumOf b)=some b)→Sees W' d (V.of t))
 | .nil,_,_,_=>⟨⟨rfl,rfl,none_nums⟩,fun b hb=>(by cases hb),fun _ _=>trivial⟩
 | .fork p v l r,hdm,hn,hz=>by
  have hzz:(T.fork p v l r).size=1+l.size+r.size:=rfl
  obtain ⟨l1,l2,l3⟩:=tree_new hd l hdm.2.1 (fun y hy=>hn y (by show y∈p::(l.ents++r.ents);simp [hy])) (by omega)
  obtain ⟨r1,r2,r3⟩:=tree_new hd r hdm.2.2 (fun y hy=>hn y (by show y∈p::(l.ents++r.ents);simp [hy])) (by omega)
  have el:=of_kid (u:=l) (by omega)
  have er:=of_kid (u:=r) (by omega)
  have sl:=kid_size l (by omega)
  have sr:=kid_size r (by omega)
  have hf:=fork_new (v:=v) hd hdm.1 (hn p (by show p∈p::(l.ents++r.ents);simp)) l1 r1 (by rw [el,er,sl,sr];omega)
  have hpg:(T.fork p v l r).pages=l.pages++r.pages++[(forkN p v (V.of l).kid (V.of r).kid).bytes]:=by
   rw [el,er]
   rfl
  rw [hpg]
  refine ⟨hf.1,fun b hb=>?_,fun W' hW=>?_⟩
  ·rcases List.mem_append.1 hb with hb | hb
   ·rcases List.mem_append.1 hb with hb | hb
    ·exact l2 b hb
    ·exact r2 b hb
   ·rw [List.mem_singleton.1 hb]
    exact ⟨_,hf.2.1,rfl⟩
  ·exact ⟨hf.2.1,hW _ (by simp),l3 W' (fun b hb=>hW b (by simp [hb])),r3 W' (fun b hb=>hW b (by simp [hb]))⟩
inductive Path:V→List St→V→Prop
 | nil (u:V):Path u [] u
 | cons {q:List Int} {lv:Bool} {l r:V} {sd:Bool} {L:List St} {v:V} (h:Path (if sd then r else l) L v):Path (.fork q lv l r) (⟨q,lv,l,r,sd,.fork q lv l r⟩::L) v
structure NewV (W:Pages) (d:Nat) (u u':V) (P:List (List Nat)):Prop where
 kid:NewK d u'.kid
 size:u'.kid.size≤u.kid.size+1
 forks:∀b∈P,∃N,Txt d b N∧N.kind=1
 few:(P.length:Int)≤2*u.kid.size+2
 sees:∀W',(∀x t,textAt W x=some t→textAt W' x=some t)→(∀b∈P,textAt W' (sumOf b)=some b)→u.whole=true→Sees W' d u'
theorem NewV.behind {s:Pg.S} {d:Nat} {u u':V} {P:List (List Nat)} (h:NewV s.W d u u' P) (hw:u.whole=true) (hc:(puts s P).cl=none):Sees (puts s P).W d u':=
 h.sees _ (fun _ _ ht=>text_puts P ht) (fun b hb=>puts_got P hc b hb) hw
end Go.Proofs.YtinihaflmdihaaaGreat.Kt
namespace Go.Proofs.YtinihaflmdihaaaGreat.Kt
open Go.RowKit Go.Proofs.YtinihaflmdihaaaGreat.Nd Go.Proofs.YtinihaflmdihaaaGreat.Mo
open List renaming setIfInBounds_toArray → sA, set_cons_zero → sZ, set_cons_succ → sS
end Go.Proofs.YtinihaflmdihaaaGreat.Kt
namespace Go.Proofs.YtinihaflmdihaaaGreat.Kt
open Go.RowKit
open List renaming setIfInBounds_toArray → sA, set_cons_zero → sZ, set_cons_succ → sS
end Go.Proofs.YtinihaflmdihaaaGreat.Kt
namespace Go.Proofs.YtinihaflmdihaaaGreat.Kt
open Go.RowKit Go.Proofs.YtinihaflmdihaaaGreat.Nd Go.Proofs.YtinihaflmdihaaaGreat.Pg
open List renaming setIfInBounds_toArray → sA, set_cons_zero → sZ, set_cons_succ → sS
def T.bal:T→Prop
 | .nil=>True
 | .fork _ _ l r=>max l.size r.size≤2*(1+l.size+r.size)/3+1∧l.bal∧r.bal
structure Fine (d:Nat) (u:T):Prop where
 dims:u.dims d
 bst:u.bst d 0
 bal:u.bal
 few:u.size≤2*u.all.length
 nums:∀y∈u.ents,∀x∈y,In64 x
end Go.Proofs.YtinihaflmdihaaaGreat.Kt
namespace Go.Proofs.YtinihaflmdihaaaGreat.Kt
open Go.RowKit Go.Proofs.YtinihaflmdihaaaGreat.Nd Go.Proofs.YtinihaflmdihaaaGreat.Dk Go.Proofs.YtinihaflmdihaaaGreat.Pg
open List renaming setIfInBounds_toArray → sA, set_cons_zero → sZ, set_cons_succ → sS
def exs:Nat→T
 | 0=>.nil
 | 1=>ex4
 | 2=>ex5
 | _=>ex6
def exPg:Nat→List (List Nat)
 | 0=>[]
 | 1=>ex4.pages
 | 2=>ex4.pages++ex5.pages
 | _=>ex4.pages++ex5.pages++ex6.pages
def exS (j:Nat):Pg.S:=puts (puts ⟨[],none⟩ exT.pages) (exPg j)
theorem ex_ins (j:Nat) (hj:j<3):insV 1 [((4+j:Nat):Int)] (V.of (exs j))= .inr (V.of (exs (j+1)),(exs (j+1)).pages):=by
 match j,hj with
 | 0,_=>rfl
 | 1,_=>rfl
 | 2,_=>rfl
theorem exS_succ (j:Nat) (hj:j<3):puts (exS j) (exs (j+1)).pages=exS (j+1):=by
 unfold exS
 generalize puts ⟨[],none⟩ exT.pages=s
 match j,hj with
 | 0,_=>rfl
 | 1,_=>exact (puts_append s ex4.pages ex5.pages).symm
 | 2,_=>exact (puts_append s (ex4.pages++ex5.pages) ex6.pages).symm
theorem exS_clean (j:Nat) (hj:j≤3):(exS j).cl=none:=by
 have h3:(exS 3).cl=none:=by
  have h:=ex_clean
  unfold exPages at h
  rw [puts_append] at h
  exact h
 have hs:∀j,j<3→(exS (j+1)).cl=none→(exS j).cl=none:=fun j hj h=>by
  rw [← exS_succ j hj] at h
  exact clean_puts _ h
 match j,hj with
 | 3,_=>exact h3
 | 2,_=>exact hs 2 (by omega) h3
 | 1,_=>exact hs 1 (by omega) (hs 2 (by omega) h3)
 | 0,_=>exact hs 0 (by omega) (hs 1 (by omega) (hs 2 (by omega) h3))
theorem in64s {x:Int} (h0:0≤x) (h1:x≤100):In64 x:=⟨by omega,by omega⟩
theorem exs_nums (j:Nat):(exs j).dims 1∧(∀y∈(exs j).ents,∀x∈y,In64 x)∧(exs j).size≤3:=by
 have key:∀t:T,t.dims 1→(t.ents.all fun y=>y.all fun x=>decide (0≤x)&&decide (x≤100))=true→t.size≤3→t.dims 1∧(∀y∈t.ents,∀x∈y,In64 x)∧t.size≤3:=fun t h1 h2 h3=>⟨h1,fun y hy x hx=>by
  have:=List.all_eq_true.1 (List.all_eq_true.1 h2 y hy) x hx
  rw [Bool.and_eq_true,decide_eq_true_eq,decide_eq_true_eq] at this
  exact in64s this.1 this.2,h3⟩
 match j with
 | 0=>exact key _ trivial rfl (by decide)
 | 1=>exact key _ ⟨rfl,trivial,trivial⟩ rfl (by decide)
 | 2=>exact key _ ⟨rfl,trivial,rfl,trivial,trivial⟩ rfl (by decide)
 | j+3=>exact key ex6 ⟨rfl,trivial,rfl,trivial,rfl,trivial,trivial⟩ rfl (by decide)
theorem exT_nums:exT.dims 1∧(∀y∈exT.ents,∀x∈y,In64 x)∧exT.size≤3:=by
 refine ⟨⟨rfl,⟨rfl,trivial,trivial⟩,rfl,trivial,trivial⟩,fun y hy x hx=>?_,by decide⟩
 have h2:(exT.ents.all fun y=>y.all fun x=>decide (0≤x)&&decide (x≤100))=true:=rfl
 have:=List.all_eq_true.1 (List.all_eq_true.1 h2 y hy) x hx
 rw [Bool.and_eq_true,decide_eq_true_eq,decide_eq_true_eq] at this
 exact in64s this.1 this.2
theorem puts_gotP {s:Pg.S} {L:List (List Nat)} (h:(puts s L).cl=none):∀b∈L,textAt (puts s L).W (sumOf b)=some b:=puts_got L h
theorem puts_exPg0 (s:Pg.S):puts s (exPg 0)=s:=rfl
theorem sees_puts {t:T} (h1:t.dims 1) (h2:∀y∈t.ents,∀x∈y,In64 x) (h3:t.size≤3) {s:Pg.S} {L:List (List Nat)} (hc:(puts s L).cl=none) (hL:∀b∈t.pages,b∈L):Sees (puts s L).W 1 (V.of t):=
 (tree_new (d:=1) (by omega) t h1 h2 (by omega)).2.2 _ fun b hb=>puts_gotP hc b (hL b hb)
theorem exT_sees:Sees (exS 0).W 1 (V.of exT):=by
 have hc:=exS_clean 0 (by omega)
 unfold exS at hc ⊢
 rw [puts_exPg0] at hc ⊢
 exact sees_puts exT_nums.1 exT_nums.2.1 exT_nums.2.2 hc (fun b hb=>hb)
theorem exs_in (j:Nat) (hj:j≤3):∀b∈(exs j).pages,b∈exPg j:=fun b hb=>by
 match j,hj with
 | 0,_=>cases hb
 | 1,_=>exact hb
 | 2,_=>exact List.mem_append_right _ hb
 | 3,_=>exact List.mem_append_right _ hb
theorem exs_sees (j:Nat) (hj:j≤3):Sees (exS j).W 1 (V.of (exs j)):=by
 have hc:=exS_clean j hj
 unfold exS at hc ⊢
 exact sees_puts (exs_nums j).1 (exs_nums j).2.1 (exs_nums j).2.2 hc (exs_in j hj)
theorem exS_forks (j:Nat):Forks 1 (exS j).W:=by
 have hp:∀j,∀b∈(exs j).pages,∃N,Txt 1 b N∧N.kind=1:=fun j=>(tree_new (d:=1) (by omega) (exs j) (exs_nums j).1 (exs_nums j).2.1 (by have:=(exs_nums j).2.2;omega)).2.1
 have ht:∀b∈exT.pages,∃N,Txt 1 b N∧N.kind=1:=(tree_new (d:=1) (by omega) exT exT_nums.1 exT_nums.2.1 (by have:=exT_nums.2.2;omega)).2.1
 refine forks_puts _ (forks_puts _ (fun x hx=>by cases hx) ht) fun b hb=>?_
 match j with
 | 0=>cases hb
 | 1=>exact hp 1 b hb
 | 2=>
  rcases List.mem_append.1 hb with hb | hb
  ·exact hp 1 b hb
  ·exact hp 2 b hb
 | j+3=>
  rcases List.mem_append.1 hb with hb | hb
  ·rcases List.mem_append.1 hb with hb | hb
   ·exact hp 1 b hb
   ·exact hp 2 b hb
  ·exact hp 3 b hb
theorem exPg_len (j:Nat):(exPg j).length≤6:=by
 have e4:ex4.pages.length=1:=pages_length ex4
 have e5:ex5.pages.length=2:=pages_length ex5
 have e6:ex6.pages.length=3:=pages_length ex6
 unfold exPg
 generalize ex4.pages=p4 at *
 generalize ex5.pages=p5 at *
 generalize ex6.pages=p6 at *
 split
 ·exact Nat.zero_le _
 ·omega
 ·rw [List.length_append];omega
 ·rw [List.length_append,List.length_append];omega
theorem exS_len (j:Nat):(exS j).W.length≤20:=by
 have h1:=puts_few exT.pages ⟨[],none⟩
 have h2:=puts_few (exPg j) (puts ⟨[],none⟩ exT.pages)
 have e0:exT.pages.length=3:=pages_length exT
 have e4:ex4.pages.length=1:=pages_length ex4
 have e5:ex5.pages.length=2:=pages_length ex5
 have e6:ex6.pages.length=3:=pages_length ex6
 have h0:(⟨[],none⟩:Pg.S).W.length=0:=rfl
 unfold exS
 generalize ex4.pages=p4 at *
 generalize ex5.pages=p5 at *
 generalize ex6.pages=p6 at *
 generalize puts ⟨[],none⟩ exT.pages=s at *
 have e:(exPg j).length≤6:=exPg_len j
 omega
theorem exs_size (j:Nat):(V.of (exs j)).kid.size≤3:=by
 rw [of_kid (by have:=(exs_nums j).2.2;omega),kid_size _ (by have:=(exs_nums j).2.2;omega)]
 have:=(exs_nums j).2.2
 omega
theorem ints_one {w:World} {g:Nat} {a:Int} (ha:In64 a) (h:w.heap[g]? =some (.cells #[.int .i64 a] 2 (0,0))):(⟨some ⟨g,0,none⟩,1,1,[a]⟩:Rw).Ok w:=by
 refine ⟨⟨rfl,Nat.le_refl _,fun x hx=>?_,Or.inr ⟨g,0,rfl,fun i hi=>?_⟩⟩,by show 1≤_;omega⟩
 ·rw [List.mem_singleton.1 hx]
  exact ha
 ·have hi:i<1:=hi
  obtain rfl:i=0:=by omega
  exact cell_of_row w g 0 _ _ _ h
def rows3 (b:Nat):List Rw:=[⟨some ⟨b,0,none⟩,1,1,[3]⟩,⟨some ⟨b+1,0,none⟩,1,1,[1]⟩,⟨some ⟨b+1+1,0,none⟩,1,1,[2]⟩]
theorem laid3 (w:World):
  RowsIn ((((w.alloc (.cells #[.int .i64 3] 2)).alloc (.cells #[.int .i64 1] 2)).alloc (.cells #[.int .i64 2] 2)).alloc (.cells #[.slice (some ⟨w.heap.size,0,none⟩) 1 1,.slice (some ⟨w.heap.size+1,0,none⟩) 1 1,.slice (some ⟨w.heap.size+1+1,0,none⟩) 1 1] 24)) (some ⟨w.heap.size+1+1+1,0,none⟩) 3 3 (rows3 w.heap.size)∧
  Below w.heap.size w ((((w.alloc (.cells #[.int .i64 3] 2)).alloc (.cells #[.int .i64 1] 2)).alloc (.cells #[.int .i64 2] 2)).alloc (.cells #[.slice (some ⟨w.heap.size,0,none⟩) 1 1,.slice (some ⟨w.heap.size+1,0,none⟩) 1 1,.slice (some ⟨w.heap.size+1+1,0,none⟩) 1 1] 24)):=by
 obtain ⟨W,hW,r0,r1,r2,r3,b⟩:=four_alloc w (.cells #[.int .i64 3] 2) (.cells #[.int .i64 1] 2) (.cells #[.int .i64 2] 2) (.cells #[.slice (some ⟨w.heap.size,0,none⟩) 1 1,.slice (some ⟨w.heap.size+1,0,none⟩) 1 1,.slice (some ⟨w.heap.size+1+1,0,none⟩) 1 1] 24)
 rw [hW]
 refine ⟨⟨rfl,Nat.le_refl _,fun r hr=>?_,Or.inr ⟨w.heap.size+1+1+1,0,rfl,fun i hi=>?_⟩⟩,b⟩
 ·simp only [rows3,List.mem_cons,List.not_mem_nil,or_false] at hr
  rcases hr with rfl | rfl | rfl
  ·exact ints_one ⟨by omega,by omega⟩ r0
  ·exact ints_one ⟨by omega,by omega⟩ r1
  ·exact ints_one ⟨by omega,by omega⟩ r2
 ·have hi:i<3:=hi
  have h:=cell_of_row W (w.heap.size+3) i _ _ _ r3
  rw [Nat.zero_add]
  match i,hi with
  | 0,_=>exact h
  | 1,_=>exact h
  | 2,_=>exact h
theorem aw_kd0 (Q:Nat→Prop):Aw Q kd0:=fun r hr x hx hR=>by
 have e:r=⟨none,0,0,[]⟩:=by simpa [Kd.rows,kd0] using hr
 subst e
 cases hx
structure AlSt (w w7:World) (g B3 bT m:Nat) (kt:Kd) (Q:Nat→Prop) (wr:World):Prop where
 ok:kt.Ok wr
 pk:kt.pk=(V.of (exs (m - 4))).kid
 aw:Aw Q kt
 row:wr.heap[bT]? =some (.cells kt.cells.toArray 34 (0,0))
 st:PL wr g Q (exS (m - 4))
 own:∀k,Q k→(w.heap.size≤k∧k<B3)∨w7.heap.size≤k
 kept:∀k,B3≤k→k<w7.heap.size→k≠bT→wr.heap[k]? =w7.heap[k]?
 low:Below w.heap.size w wr
 size:w7.heap.size≤wr.heap.size
def AlRel (w w7:World) (g B3 bT:Nat) (i:Value) (wr:World):Prop:=∃(m:Nat) (kt:Kd) (Q:Nat→Prop),4≤m∧m≤7∧i= .int .i64 (m:Int)∧AlSt w w7 g B3 bT m kt Q wr
theorem AlSt.next {w w7 wr wr1 wr2:World} {g B3 bT m:Nat} {kt kd:Kd} {Q Q':Nat→Prop} (h:AlSt w w7 g B3 bT m kt Q wr) (hw:w.heap.size≤bT) (hB:B3≤bT) (hT:bT<w7.heap.size) (hb:Below wr.heap.size wr wr1) (hok:kd.Ok wr2) (hpk:kd.pk=(V.of (exs (m+1 - 4))).kid) (hf:Fsh wr1 kd) (hp:PL wr2 g Q' (exS (m+1 - 4))) (hq:∀k,Q' k→Q k∨wr1.heap.size≤k) (ha:Aw Q' kd) (ho:Only Q wr1 wr2):AlSt w w7 g B3 bT (m+1) kd Q' (wr2.setRow bT kd.cells.toArray):=by
 have s0:=h.size
 have s1:=hb.size
 have s2:=ho.size
 have hnq:¬Q bT:=fun e=>by rcases h.own bT e with e | e<;>omega
 have hnq':¬Q' bT:=fun e=>(hq bT e).elim hnq (fun e=>by omega)
 have hos:=only_setRow wr2 bT kd.cells.toArray
 have hrow2:wr2.heap[bT]? =some (.cells kt.cells.toArray 34 (0,0)):=(ho.block bT (by omega) hnq).trans ((hb.block bT (by omega)).trans h.row)
 refine ⟨kd_keep hok fun r hr x hx hR=>hos.block _ (rw_lt (kd_rows_ok hok r hr) x hx hR) (by have:=hf r hr x hx hR;omega),hpk,ha,setRow_heap _ _ _ _ _ _ hrow2,hp.keep _ hos (fun k hk e=>hnq' (e▸hk)),fun k hk=>?_,fun k h1 h2 h3=>?_,?_,Nat.le_trans (by omega) hos.size⟩
 ·rcases hq k hk with e | e
  ·exact h.own k e
  ·right;omega
 ·have hnk:¬Q k:=fun e=>by rcases h.own k e with e | e<;>omega
  rw [hos.block k (by omega) h3,ho.block k (by omega) hnk,hb.block k (by omega)]
  exact h.kept k h1 h2 h3
 ·have l0:=h.low.size
  refine (h.low.trans (hb.mono l0)).trans (((ho.below (by omega) (fun k hk=>?_))).trans (Below.setRow (Below.refl _ _) hw _))
  rcases h.own k hk with e | e
  ·exact e.1
  ·have:=(Nat.le_trans hw (Nat.le_of_lt hT))
   omega
theorem exT_says:(V.of exT).kid.size=3:=by
 rw [of_kid (by decide),kid_size _ (by decide)]
 rfl
theorem ex6_says:(V.of (exs (7 - 4))).kid.live=3:=by
 rw [of_kid (by decide),kid_live _ (by decide)]
 rfl
theorem ex6_deep:deepE ((V.of (exs (7 - 4))).ents 1)=3:=by
 rw [deepE_ents _ _ (by omega)]
 rfl
theorem alive_any (w:World):
  Calls Tryz.prog 11 #[] w fun e w'=>e= .returned (.bool true)∧Below w.heap.size w w':=by
 obtain ⟨du,hdu,hdr⟩:=UKd
 have HDU:=Lib.hid hdu
 have HDR:=Lib.hid hdr
 have HZ:=Lib.hid (zero_of_info kz)
 have HZN:=Lib.hid (zero_of_info nz)
 have hz0:=HZ.out.1
 have hz1:=HZN.out.1
 clear hdu hdr
 have e0:exS 0=puts ⟨[],none⟩ exT.pages:=by
  unfold exS
  exact puts_exPg0 _
 have HE0:=Lib.hid e0
 clear e0
 go_enter Tryz.func11,Tryz.ntmps11
 go_upto_region 2 with (go_at_call 13;refine (Pg.new_any w).mono ?_;rintro e w1 ⟨g,Q,rfl,l1,q1,b1⟩;have HP1:=Lib.hid l1;have HQ1:=Lib.hid q1;have HB1:=Lib.hid b1;clear l1 q1 b1)
 obtain ⟨hL,hB⟩:=laid3 w1
 generalize hW:(((w1.alloc (.cells #[.int .i64 3] 2)).alloc (.cells #[.int .i64 1] 2)).alloc (.cells #[.int .i64 2] 2)).alloc (.cells #[.slice (some ⟨w1.heap.size,0,none⟩) 1 1,.slice (some ⟨w1.heap.size+1,0,none⟩) 1 1,.slice (some ⟨w1.heap.size+1+1,0,none⟩) 1 1] 24)=w2 at *
 have hPL2:=HP1.out.keep (fun _=>False) (Only.of_below _ hB) (fun _ _ e=>e)
 have hbld:=Build_some (d:=1) (by omega) (some ⟨w1.heap.size+1+1+1,0,none⟩) 3 3 (rows3 w1.heap.size) w2 hL (by omega) (fun r hr=>by
  simp only [rows3,List.mem_cons,List.not_mem_nil,or_false] at hr
  rcases hr with rfl | rfl | rfl<;>rfl) (fun r hr x hx hR e=>by
  have:=HP1.out.lt _ e
  simp only [rows3,List.mem_cons,List.not_mem_nil,or_false] at hr
  rcases hr with rfl | rfl | rfl<;>(cases hx;simp only at this;omega)) hPL2 (by decide)
 have HBLD:=Lib.hid (show Calls Tryz.prog 32 #[.pointer (some ⟨g,0,none⟩),.slice (some ⟨w1.heap.size+1+1+1,0,none⟩) 3 3,.int .i64 1] w2 fun e w3=>∃(kd:Kd) (Q':Nat→Prop),e= .returned (.tuple #[.agg kd.cells.toArray,.int .i64 0])∧kd.pk=(V.of exT).kid∧kd.Ok w3∧PL w3 g Q' (exS 0)∧(∀k,Q' k→w.heap.size≤k)∧Below w.heap.size w w3 from hbld.mono fun e w3 h=>by
  have hmap:(rows3 w1.heap.size).map Rw.R=[[3],[1],[2]]:=rfl
  unfold BuiltPost at h
  rw [hmap,ex_lay] at h
  rcases h with ⟨h,-⟩ | ⟨-,kd,Q',rfl,h1,h2,-,h4,h5,h6,h7⟩
  ·exact absurd (by decide) h
  ·have hs1:=HB1.out.size
   have hs2:=hB.size
   refine ⟨kd,Q',rfl,by rw [h1,of_kid (by decide)],h2,by rw [HE0.out];exact h5,fun k hk=>(h6 k hk).elim (fun e=>HQ1.out k e) (fun e=>by omega),(HB1.out.trans (hB.mono hs1)).trans (h7.below (by omega) (fun k hk=>HQ1.out k hk))⟩)
 clear hbld hL hPL2 hB HP1 HQ1 HB1 HE0
 go_upto_region 3 with (first
  | (go_at_call 32;refine HBLD.out.mono ?_;rintro _ w3 ⟨kd,Q3,rfl,hpk,hok,hp3,hq3,hb3⟩;have HPK:=Lib.hid hpk;have HOK:=Lib.hid hok;have HP3:=Lib.hid hp3;have HQ3:=Lib.hid hq3;have HB3:=Lib.hid hb3;have HCL:=Lib.hid (Kd.cells_length hok.len);clear hpk hok hp3 hq3 hb3)
  | (refine wpList_store_row (by rfl) 34 (.tmp 2) (.tmp 18) (by rfl) w3.heap.size kd.cells.toArray (by rfl) (by rfl) _ _ (heap_alloc_new w3 _) (by rw [List.size_toArray,HCL.out];exact SKd) (by simp only [List.size_toArray,HCL.out,kd0_size]) (all_oneCell_toArray Kd.one) ?_;rw [setRow_alloc]))
 clear hW HBLD
 have hbK:Below w3.heap.size w3 (w3.alloc (.cells kd.cells.toArray 34)):=(Below.refl _ _).alloc (Nat.le_refl _) _
 have hrK:=heap_alloc_new w3 (.cells kd.cells.toArray 34)
 have hsK:(w3.alloc (.cells kd.cells.toArray 34)).heap.size=w3.heap.size+1:=by simp
 generalize w3.alloc (.cells kd.cells.toArray 34)=w4 at *
 obtain ⟨bK,hbKe⟩:∃b,b=w3.heap.size:=⟨_,rfl⟩
 rw [← hbKe] at hrK ⊢
 have RK4:=Lib.hid (range_kd hrK)
 have HRK:=Lib.hid hrK
 have HSK:=Lib.hid (show bK=w3.heap.size∧w4.heap.size=bK+1 from ⟨hbKe,by omega⟩)
 have HP4:=Lib.hid (HP3.out.keep (fun _=>False) (Only.of_below _ hbK) (fun _ _ e=>e))
 have HB4:=Lib.hid (HB3.out.trans (hbK.mono HB3.out.size))
 have HNG:=Lib.hid (show Calls Tryz.prog 52 #[.pointer (some ⟨g,0,none⟩),.agg kd.cells.toArray,.int .i64 1] w4 fun e w5=>Below w4.heap.size w4 w5∧∃ge gk ce ck ew k1 k2 mid,e= .returned (.tuple #[.agg #[.int .u8 1,.slice (some ⟨ge,0,none⟩) 1 ce,.slice (some ⟨gk,0,none⟩) 2 ck],.int .i64 0])∧ew.row.R=[2]∧Fresh w4.heap.size mid w5 (some ⟨ge,0,none⟩) 1 ce (some ⟨gk,0,none⟩) 2 ck [ew] [k1,k2] from
  (node_good (d:=1) HP4.out (HOK.out.later hbK) HPK.out exT_sees w4 (Below.refl _ _)).mono fun e w5 ⟨h1,p,n,c,q,m,f,E,K,mid,he,hpn,hfr⟩=>by
   obtain ⟨ew,k1,k2,rfl,rfl,hR,-,-,-⟩:=fork_kids hpn
   obtain ⟨rfl,rfl,ge,gk,rfl,rfl,-⟩:=fresh_parts hfr
   exact ⟨h1,ge,gk,c,f,ew,k1,k2,mid,he,hR,hfr⟩)
 have HP3L:=Lib.hid (show ∀k,Q3 k→k<w3.heap.size from HP3.out.lt)
 have HB3S:=Lib.hid (show w.heap.size≤w3.heap.size from HB3.out.size)
 clear hbK hrK hsK hbKe HP3 HB3
 go_upto_region 4 with (first
  | (refine wpList_load_mid (by rfl) 34 _ (by rfl) bK 0 (by rfl) kd.cells du RK4.out HDU.out HDR.out (by rw [HCL.out];exact SKd) ?_)
  | (go_at_call 52;refine HNG.out.mono ?_;rintro _ w5 ⟨hb5,ge,gk,ce,ck,ew,k1,k2,mid,rfl,hR,hfr⟩;have HR:=Lib.hid hR;have HFR:=Lib.hid hfr;have HB5:=Lib.hid hb5;clear hR hfr hb5)
  | (refine wpList_store_row (by rfl) 81 (.tmp 4) (.tmp 24) (by rfl) w5.heap.size #[.int .u8 1,.slice (some ⟨ge,0,none⟩) 1 ce,.slice (some ⟨gk,0,none⟩) 2 ck] (by rfl) (by rfl) _ _ (heap_alloc_new w5 _) SNo rfl (nd3_one 1 _ _ _ _ _ _) ?_;rw [setRow_alloc]))
 obtain ⟨bN,hbN⟩:∃b,b=w5.heap.size:=⟨_,rfl⟩
 have hb6:Below w5.heap.size w5 (w5.alloc (.cells #[.int .u8 1,.slice (some ⟨ge,0,none⟩) 1 ce,.slice (some ⟨gk,0,none⟩) 2 ck] 81)):=(Below.refl _ _).alloc (Nat.le_refl _) _
 have hr6:=heap_alloc_new w5 (.cells #[.int .u8 1,.slice (some ⟨ge,0,none⟩) 1 ce,.slice (some ⟨gk,0,none⟩) 2 ck] 81)
 have hs6:(w5.alloc (.cells #[.int .u8 1,.slice (some ⟨ge,0,none⟩) 1 ce,.slice (some ⟨gk,0,none⟩) 2 ck] 81)).heap.size=w5.heap.size+1:=by simp
 generalize w5.alloc (.cells #[.int .u8 1,.slice (some ⟨ge,0,none⟩) 1 ce,.slice (some ⟨gk,0,none⟩) 2 ck] 81)=w6 at *
 rw [← hbN] at hr6 ⊢
 obtain ⟨⟨rp,rn,rc,rR⟩,lw⟩:=ew
 obtain rfl:rR=[2]:=HR.out
 obtain ⟨-,-,ge',gk',h1,h2,hrow,-,-,hrok,-,-,hge,hgk⟩:=fresh_parts HFR.out
 simp only [Option.some.injEq,Addr.mk.injEq,and_true] at h1 h2
 subst h1 h2
 have hlo:=(HFR.out.ents.each _ (List.mem_singleton.2 rfl) _ (List.mem_singleton.2 rfl)).1.lo
 obtain rfl:rn=1:=hrok.ints.size
 obtain ⟨gr,orr,hrp,hcr⟩:=hrok.ints.at'.resolve_left (by simp)
 simp only at hrp hlo
 subst hrp
 have hgr:w4.heap.size≤gr:=hlo ⟨gr,orr,none⟩ rfl (by simp)
 have hrow0:w6.cell? ⟨ge,0,none⟩=some (.slice (some ⟨gr,orr,none⟩) 1 rc):=(hb6.cell (block_lt_of_cell (hrow 0 _ rfl))).trans (hrow 0 _ rfl)
 have hrow1:w6.cell? ⟨gr,orr,none⟩=some (.int .i64 2):=(hb6.cell (block_lt_of_cell (hcr 0 (by simp)))).trans (hcr 0 (by simp))
 have HC:=Lib.hid (And.intro hrow0 hrow1)
 have HG:=Lib.hid (And.intro hge hgr)
 have HR6:=Lib.hid hr6
 have B56:=Lib.hid (HB5.out.trans (hb6.mono HB5.out.size))
 have HP6:=Lib.hid (HP4.out.keep (fun _=>False) (Only.of_below _ B56.out) (fun _ _ e=>e))
 have HS6:=Lib.hid (show bN=w5.heap.size∧w6.heap.size=bN+1∧w4.heap.size≤bN from ⟨hbN,by omega,by have:=HB5.out.size;omega⟩)
 have HB6:=Lib.hid (HB4.out.trans (B56.out.mono HB4.out.size))
 have HRK6:=Lib.hid ((B56.out.block _ (Array.getElem?_eq_some_iff.1 HRK.out).1).trans HRK.out)
 have HQ3L:=Lib.hid (show ∀k,Q3 k→w.heap.size≤k∧k<bK from fun k hk=>⟨HQ3.out k hk,by rw [HSK.out.1];exact HP3L.out k hk⟩)
 clear hb6 hr6 hs6 hbN hge hgk hrok hlo hcr hgr hrow hrow0 hrow1 HR HFR RK4 HRK HP4 HB4 HB5 HNG HQ3 HP3L
 go_upto_region 5 with fail
 obtain ⟨bT,hbT⟩:∃b,b=w6.heap.size:=⟨_,rfl⟩
 have hb7:Below w6.heap.size w6 (w6.alloc (.cells kd0.cells.toArray 34)):=(Below.refl _ _).alloc (Nat.le_refl _) _
 have hr7:=heap_alloc_new w6 (.cells kd0.cells.toArray 34)
 have hs7:(w6.alloc (.cells kd0.cells.toArray 34)).heap.size=w6.heap.size+1:=by simp
 generalize w6.alloc (.cells kd0.cells.toArray 34)=w7 at *
 rw [← hbT] at hr7 ⊢
 have HT:=Lib.hid (show bT=w6.heap.size∧w7.heap.size=bT+1 from ⟨hbT,by omega⟩)
 have HC7:=Lib.hid (show w7.cell? ⟨ge,0,none⟩=some (.slice (some ⟨gr,orr,none⟩) 1 rc)∧w7.cell? ⟨gr,orr,none⟩=some (.int .i64 2)∧ge<bT∧gr<bT from ⟨(hb7.cell (block_lt_of_cell HC.out.1)).trans HC.out.1,(hb7.cell (block_lt_of_cell HC.out.2)).trans HC.out.2,by rw [hbT];exact block_lt_of_cell HC.out.1,by rw [hbT];exact block_lt_of_cell HC.out.2⟩)
 have HR7:=Lib.hid ((hb7.block _ (Array.getElem?_eq_some_iff.1 HR6.out).1).trans HR6.out)
 have HRK7:=Lib.hid ((hb7.block _ (Array.getElem?_eq_some_iff.1 HRK6.out).1).trans HRK6.out)
 have HW:=Lib.hid (show w.heap.size≤bK∧bK<bN∧bN<bT from ⟨by rw [HSK.out.1];exact HB3S.out,by have:=HSK.out.2;have:=HS6.out.2.2;omega,by have:=HS6.out.2.1;have:=HT.out.1;omega⟩)
 have HST:=Lib.hid (show AlSt w w7 g bK bT 4 kd0 Q3 w7 from ⟨kd0_ok w7,kd0_pk,aw_kd0 _,hr7,HP6.out.keep (fun _=>False) (Only.of_below _ hb7) (fun _ _ e=>e),fun k hk=>Or.inl (HQ3L.out k hk),fun _ _ _ _=>rfl,HB6.out.trans (hb7.mono HB6.out.size),Nat.le_refl _⟩)
 clear hb7 hr7 hs7 hbT HC HR6 HRK6 HB6 HP6 B56 HQ3L hz1
 go_upto_region 6 with fail
 go_loopw [7] (fun i wr=>AlRel w w7 g bK bT i wr) (fun i _=>7 - (intOf i).toNat)
 case atStart=>exact ⟨4,kd0,Q3,by omega,by omega,rfl,HST.out⟩
 case round=>
  obtain ⟨m,kt,Q,hm1,hm2,rfl,hst⟩:=hrel
  have ST:=Lib.hid hst
  have HCT:=Lib.hid (Kd.cells_length hst.ok.len)
  have RT:=Lib.hid (range_kd hst.row)
  clear hst HST
  by_cases hlt:m<7
  ·have l1:(m:Int)<7:=by omega
   have hba:Below wr.heap.size wr (wr.alloc (.cells #[.int .i64 (m:Int)] 2)):=(Below.refl _ _).alloc (Nat.le_refl _) _
   have hra:=heap_alloc_new wr (.cells #[.int .i64 (m:Int)] 2)
   have hins:=Insert_any (gs:=g) (d:=1) (by omega) (exS_forks (m - 4)).texts (V.of (exs (m - 4))) kt ⟨some ⟨wr.heap.size,0,none⟩,1,1,[(m:Int)]⟩ _ (ST.out.st.keep (fun _=>False) (Only.of_below _ hba) (fun _ _ e=>e)) (exs_sees (m - 4) (by omega)) (ST.out.ok.later hba) ST.out.pk (ints_one ⟨by omega,by omega⟩ hra) rfl (by have:=exs_size (m - 4);omega) ST.out.aw (fun y hy _ e=>by
    cases hy
    have:=ST.out.st.lt _ e
    simp only at this
    omega) (by have:=exS_len (m - 4);omega)
   have hi:=ex_ins (m - 4) (by omega)
   rw [show 4+(m - 4)=m by omega] at hi
   simp only at hins
   rw [hi] at hins
   clear hi
   have HINS:=Lib.hid (show Calls Tryz.prog 15 #[.pointer (some ⟨g,0,none⟩),.agg kt.cells.toArray,.slice (some ⟨wr.heap.size,0,none⟩) 1 1,.int .i64 1] (wr.alloc (.cells #[.int .i64 (m:Int)] 2)) fun e w2=>∃(kd':Kd) (Q':Nat→Prop),e= .returned (.tuple #[.agg kd'.cells.toArray,.int .i64 0])∧AlSt w w7 g bK bT (m+1) kd' Q' (w2.setRow bT kd'.cells.toArray)∧kd'.cells.length=37∧w2.heap[bT]? =some (.cells kt.cells.toArray 34 (0,0)) from hins.mono fun e w2 h=>by
    have h:Told2 _ g Q (V.of (exs (m - 4+1))) (puts (exS (m - 4)) (exs (m - 4+1)).pages) e w2:=h
    rw [exS_succ (m - 4) (by omega),show m - 4+1=m+1 - 4 by omega] at h
    obtain ⟨kd',Q',rfl,h1,h2,h3,h4,h5,h6,h7⟩:=h
    have s1:=hba.size
    have s2:=ST.out.size
    have s3:=HT.out.2
    have s4:=HW.out
    have s5:bT<(wr.alloc (.cells #[.int .i64 (m:Int)] 2)).heap.size:=by omega
    refine ⟨kd',Q',rfl,ST.out.next (by omega) (by omega) (by omega) hba h2 h1 h3 h4 h5 h6 h7,Kd.cells_length h2.len,(h7.block bT s5 (fun e=>?_)).trans ((hba.block bT (by omega)).trans ST.out.row)⟩
    rcases ST.out.own bT e with e | e<;>omega)
   clear hins hba hra
   go_wp2_with (first
    | (refine wpList_load_mid (by rfl) 34 _ (by rfl) bT 0 (by rfl) kt.cells du RT.out HDU.out HDR.out (by rw [HCT.out];exact SKd) ?_)
    | (go_at_call 15;refine HINS.out.mono ?_;rintro _ w8 ⟨kd',Q',rfl,hst,hcl,hrow⟩;have ST8:=Lib.hid hst;have HCL8:=Lib.hid hcl;have ROW8:=Lib.hid hrow;clear hst hcl hrow)
    | (refine wpList_store_row (by rfl) 34 (.tmp 6) (.tmp 36) (by rfl) bT kd'.cells.toArray (by rfl) (by rfl) _ _ ROW8.out (by rw [List.size_toArray,HCL8.out];exact SKd) (by simp only [List.size_toArray,HCL8.out,HCT.out]) (all_oneCell_toArray Kd.one) ?_))
   go_roundw
   case rel=>exact ⟨m+1,kd',Q',by omega,by omega,by go_num,ST8.out⟩
   case measure=>simp [intOf];omega
  ·obtain rfl:m=7:=by omega
   have hh:=Height_any (gs:=g) (d:=1) (by omega) (exS_forks (7 - 4)).texts (V.of (exs (7 - 4))) kt wr ST.out.st (exs_sees (7 - 4) (by omega)) ST.out.ok ST.out.pk (by have:=exs_size (7 - 4);omega)
   have HH:=Lib.hid (show Calls Tryz.prog 24 #[.pointer (some ⟨g,0,none⟩),.agg kt.cells.toArray,.int .i64 1] wr fun e w8=>e= .returned (.tuple #[.int .i64 3,.int .i64 0])∧Below wr.heap.size wr w8 from hh.mono fun e w8 ⟨h1,h2,_⟩=>⟨by
    have h:=h2 (of_whole _)
    rw [ex6_deep] at h
    exact h,h1⟩)
   clear hh
   have hcell:∀a:Addr,bK≤a.block→a.block<bT→wr.cell? a=w7.cell? a:=fun a h1 h2=>World.cell?_of_block (ST.out.kept a.block h1 (by have:=HT.out.2;omega) (by omega))
   have hks:kd.size=3:=(congrArg PK.size HPK.out).trans exT_says
   have hkl:kt.live=3:=(congrArg PK.live ST.out.pk).trans ex6_says
   have hk35:=(kat_row HRK7.out HOK.out.len).size
   have hk34:=(kat_row ST.out.row ST.out.ok.len).live
   rw [hks] at hk35
   rw [hkl] at hk34
   rw [Nat.zero_add] at hk35 hk34
   have HCC:=Lib.hid (show wr.cell? ⟨bN,1,none⟩=some (.slice (some ⟨ge,0,none⟩) 1 ce)∧wr.cell? ⟨ge,0,none⟩=some (.slice (some ⟨gr,orr,none⟩) 1 rc)∧wr.cell? ⟨gr,orr,none⟩=some (.int .i64 2)∧wr.cell? ⟨bK,35,none⟩=some (.int .i64 3)∧wr.cell? ⟨bT,34,none⟩=some (.int .i64 3) from by
    have s:=HSK.out.2
    have s2:=HW.out
    have s3:=HG.out
    have s4:=HC7.out.2.2
    refine ⟨(hcell ⟨bN,1,none⟩ (by show bK≤bN;omega) (by show bN<bT;omega)).trans (cell_of_row w7 bN 1 _ _ _ HR7.out),(hcell ⟨ge,0,none⟩ (by show bK≤ge;omega) (by show ge<bT;omega)).trans HC7.out.1,(hcell ⟨gr,orr,none⟩ (by show bK≤gr;omega) (by show gr<bT;omega)).trans HC7.out.2.1,(hcell ⟨bK,35,none⟩ (by show bK≤bK;omega) (by show bK<bT;omega)).trans hk35,hk34⟩)
   clear hcell hks hkl hk35 hk34 hlt
   go_upto_region 10 with (first
    | (refine wpList_load_mid (by rfl) 34 _ (by rfl) bT 0 (by rfl) kt.cells du RT.out HDU.out HDR.out (by rw [HCT.out];exact SKd) ?_)
    | (go_at_call 24;refine HH.out.mono ?_;rintro _ w8 ⟨rfl,hb8⟩;have HB8:=Lib.hid hb8;clear hb8))
   have c1:=(HB8.out.cell (block_lt_of_cell HCC.out.1)).trans HCC.out.1
   have c2:=(HB8.out.cell (block_lt_of_cell HCC.out.2.1)).trans HCC.out.2.1
   have c3:=(HB8.out.cell (block_lt_of_cell HCC.out.2.2.1)).trans HCC.out.2.2.1
   have c4:=(HB8.out.cell (block_lt_of_cell HCC.out.2.2.2.1)).trans HCC.out.2.2.2.1
   have c5:=(HB8.out.cell (block_lt_of_cell HCC.out.2.2.2.2)).trans HCC.out.2.2.2.2
   go_wp2_with fail
   go_ret
   exact ⟨rfl,ST.out.low.trans (HB8.out.mono ST.out.low.size)⟩
end Go.Proofs.YtinihaflmdihaaaGreat.Kt
