/- NdSides, KtRight, NdTwoKids, KrNode, KdSortLay, GenCmp, KdCmp. -/
import Derived.BigRegion
import Derived.Shelf.SlSortCmp.Whole1
import Derived.BigQuiet
import Derived.Test.YtinihaflmdihaaaGreatW1
import Derived.Test.YtinihaflmdihaaaGreatW2
import Derived.Test.YtinihaflmdihaaaGreatW3
import Derived.Test.YtinihaflmdihaaaGreatW4
import Derived.Test.YtinihaflmdihaaaGreatW8
import Derived.Test.YtinihaflmdihaaaGreatW9
import Derived.Test.YtinihaflmdihaaaGreatW10
set_option maxRecDepth 100000
set_option maxHeartbeats 8000000
set_option linter.unusedVariables false
set_option linter.unusedSimpArgs false
namespace Go.Proofs.YtinihaflmdihaaaGreat.Nd
open Go.RowKit
open List renaming setIfInBounds_toArray → sA, set_cons_zero → sZ, set_cons_succ → sS
def BxN (d:Nat) (x:List Int×List Int):Prop:=rb x.1 x.2=true∧x.1.length=d
theorem bx_iff {d:Nat} {x:List Int×List Int}:BxN d x↔1≤d∧d≤8∧x.1.length=d∧x.2.length=d∧∀i,i<d→x.1.getD i 0≤x.2.getD i 0:=by
 unfold BxN rb rightB
 rw [Bool.and_eq_true,decide_eq_true_eq,les_iff]
 constructor
 ·rintro ⟨⟨h1,h2⟩,h3⟩
  subst h3
  exact ⟨by omega,by omega,rfl,by omega,h2⟩
 ·rintro ⟨h1,h2,h3,h4,h5⟩
  rw [h3,h4]
  exact ⟨⟨by omega,h5⟩,rfl⟩
theorem rb_nil:rb [] []=false:=rfl
def SidesN (d:Nat) (L:List (List Int×List Int)) (b:List Int×List Int):Prop:=
 ((∀x∈L,x=([],[]))∧b=([],[]))∨
 (BxN d b∧(∀x∈L,BxN d x→∀i,i<d→b.1.getD i 0≤x.1.getD i 0∧x.2.getD i 0≤b.2.getD i 0)∧(∃x∈L,BxN d x)∧
  ∀i,i<d→(∃x∈L,BxN d x∧x.1.getD i 0=b.1.getD i 0)∧∃x∈L,BxN d x∧x.2.getD i 0=b.2.getD i 0)
theorem bx_nil {d:Nat}:¬BxN d ([],[]):=fun h=>by have:=(bx_iff.1 h);simp at this;omega
theorem hull_nil_right {d:Nat} {b:List Int×List Int} (h:BxN d b):hull b ([],[])=b:=by
 unfold hull
 rw [if_pos ⟨h.1,rb_nil⟩]
theorem hull_nil_left {d:Nat} {b:List Int×List Int} (h:BxN d b):hull ([],[]) b=b:=by
 unfold hull
 rw [if_neg (fun k=>by have:=k.1;rw [rb_nil] at this;cases this),if_pos ⟨h.1,rb_nil⟩]
theorem hull_nil:hull ([],[]) ([],[])=([],[]):=rfl
theorem hull_two {d:Nat} {a b:List Int×List Int} (ha:BxN d a) (hb:BxN d b):hull a b=(two min a.1 b.1 d,two max a.2 b.2 d):=by
 unfold hull
 rw [if_neg (fun k=>by have:=k.2;rw [hb.1] at this;cases this),if_neg (fun k=>by have:=k.2;rw [ha.1] at this;cases this),if_neg (fun k=>by
  rcases k with k | k
  ·rw [ha.1] at k;cases k
  ·exact k (ha.2.trans hb.2.symm)),ha.2]
theorem bx_two {d:Nat} {a b:List Int×List Int} (ha:BxN d a) (_hb:BxN d b):BxN d (two min a.1 b.1 d,two max a.2 b.2 d):=by
 have h1:=bx_iff.1 ha
 refine bx_iff.2 ⟨h1.1,h1.2.1,two_length _ _ _ _,two_length _ _ _ _,fun i hi=>?_⟩
 rw [two_getD _ _ _ _ _ hi,two_getD _ _ _ _ _ hi]
 have:=h1.2.2.2.2 i hi
 omega
theorem sides_snoc {d:Nat} {L:List (List Int×List Int)} {b x:List Int×List Int} (h:SidesN d L b) (hx:x=([],[])∨BxN d x):SidesN d (L++[x]) (hull b x):=by
 rcases h with ⟨h1,rfl⟩ | ⟨h1,h2,h3,h4⟩
 ·rcases hx with rfl | hx
  ·refine Or.inl ⟨fun y hy=>?_,hull_nil⟩
   rcases List.mem_append.1 hy with hy | hy
   ·exact h1 y hy
   ·simpa using hy
  ·rw [hull_nil_left hx]
   have hm:x∈L++[x]:=by simp
   refine Or.inr ⟨hx,fun y hy hy2 i hi=>?_,⟨x,hm,hx⟩,fun i hi=>⟨⟨x,hm,hx,rfl⟩,⟨x,hm,hx,rfl⟩⟩⟩
   rcases List.mem_append.1 hy with hy | hy
   ·exact absurd (h1 y hy▸hy2) bx_nil
   ·obtain rfl:y=x:=by simpa using hy
    exact ⟨Int.le_refl _,Int.le_refl _⟩
 ·rcases hx with rfl | hx
  ·rw [hull_nil_right h1]
   refine Or.inr ⟨h1,fun y hy hy2 i hi=>?_,?_,fun i hi=>?_⟩
   ·rcases List.mem_append.1 hy with hy | hy
    ·exact h2 y hy hy2 i hi
    ·obtain rfl:y=([],[]):=by simpa using hy
     exact absurd hy2 bx_nil
   ·obtain ⟨y,hy,hy2⟩:=h3
    exact ⟨y,List.mem_append_left _ hy,hy2⟩
   ·obtain ⟨⟨y,hy,hy2,e⟩,⟨z,hz,hz2,e2⟩⟩:=h4 i hi
    exact ⟨⟨y,List.mem_append_left _ hy,hy2,e⟩,⟨z,List.mem_append_left _ hz,hz2,e2⟩⟩
  ·rw [hull_two h1 hx]
   have hm:x∈L++[x]:=by simp
   refine Or.inr ⟨bx_two h1 hx,fun y hy hy2 i hi=>?_,⟨x,hm,hx⟩,fun i hi=>?_⟩
   ·show (two min b.1 x.1 d).getD i 0≤_∧_≤(two max b.2 x.2 d).getD i 0
    rw [two_getD _ _ _ _ _ hi,two_getD _ _ _ _ _ hi]
    rcases List.mem_append.1 hy with hy | hy
    ·have:=h2 y hy hy2 i hi
     omega
    ·obtain rfl:y=x:=by simpa using hy
     omega
   ·show (∃y∈L++[x],BxN d y∧y.1.getD i 0=(two min b.1 x.1 d).getD i 0)∧(∃y∈L++[x],BxN d y∧y.2.getD i 0=(two max b.2 x.2 d).getD i 0)
    rw [two_getD _ _ _ _ _ hi,two_getD _ _ _ _ _ hi]
    obtain ⟨⟨y,hy,hy2,e⟩,⟨z,hz,hz2,e2⟩⟩:=h4 i hi
    constructor
    ·by_cases hc:b.1.getD i 0≤x.1.getD i 0
     ·exact ⟨y,List.mem_append_left _ hy,hy2,by omega⟩
     ·exact ⟨x,hm,hx,by omega⟩
    ·by_cases hc:x.2.getD i 0≤b.2.getD i 0
     ·exact ⟨z,List.mem_append_left _ hz,hz2,by omega⟩
     ·exact ⟨x,hm,hx,by omega⟩
theorem sides_fold {d:Nat}:∀(L M:List (List Int×List Int)) (b:List Int×List Int),SidesN d M b→(∀x∈L,x=([],[])∨BxN d x)→SidesN d (M++L) (L.foldl hull b)
 |[],M,b,h,_=>by rw [List.append_nil];exact h
 | x::L,M,b,h,hL=>by
  have:=sides_fold L (M++[x]) (hull b x) (sides_snoc h (hL x (by simp))) (fun y hy=>hL y (by simp [hy]))
  rw [List.append_assoc] at this
  exact this
def PN.boxes (n:PN):List (List Int×List Int):=(n.rows.filter PE.live).map (fun e=>(e.row,e.row))++n.kids.map fun k=>(k.lo,k.hi)
theorem boxE_fold:∀(L:List PE) (b:List Int×List Int),L.foldl boxE b=((L.filter PE.live).map fun e=>(e.row,e.row)).foldl hull b
 |[],_=>rfl
 | e::L,b=>by
  rw [List.foldl_cons,boxE_fold L]
  cases he:e.live with
  | true=>rw [List.filter_cons_of_pos he];simp [boxE,he]
  | false=>rw [List.filter_cons_of_neg (by simp [he])];simp [boxE,he]
theorem boxes_fold (n:PN):n.box=n.boxes.foldl hull ([],[]):=by
 unfold PN.box PN.boxes boxR
 rw [List.foldl_append,← boxE_fold,List.foldl_map]
 rfl
def mkE (A:List Int) (L:List PE) (i:Nat):Bool:=L.any fun e=>e.live&&(e.row.getD i 0==A.getD i 0)
def mkK (f:PK→List Int) (A:List Int) (L:List PK) (i:Nat):Bool:=L.any fun k=> !(k.live==0)&&((f k).getD i 0==A.getD i 0)
theorem right_split {n:PN} {d:Int} (h:n.right d=true):1≤d∧d≤8∧(∀e∈n.rows,(e.row.length:Int)=d)∧∀k∈n.kids,k.right d=true:=by
 unfold PN.right at h
 split at h
 ·cases h
 rename_i h1
 split at h
 ·cases h
 rename_i h2
 split at h
 ·cases h
 rename_i h3
 simp only [Bool.not_eq_false,List.all_eq_true] at h2 h3
 exact ⟨by omega,by omega,fun e he=>by simpa [PE.long] using h2 e he,h3⟩
theorem kid_split {k:PK} {d:Nat} (h:k.right d=true):0≤k.live∧(k.live=0→(k.lo,k.hi)=([],[]))∧(k.live≠0→BxN d (k.lo,k.hi)):=by
 unfold PK.right at h
 split at h
 ·rename_i e
  subst e
  exact ⟨Int.le_refl _,fun _=>rfl,fun h=>absurd rfl h⟩
 split at h
 ·cases h
 rename_i h1
 split at h
 ·rename_i h2
  simp only [decide_eq_true_eq] at h
  exact ⟨by omega,fun _=>by rw [List.length_eq_zero_iff.1 (by omega:k.lo.length=0),List.length_eq_zero_iff.1 (by omega:k.hi.length=0)],fun h=>absurd h2 h⟩
 ·rename_i h2
  refine ⟨by omega,fun h=>absurd h h2,fun _=>?_⟩
  have hd:=rightB_dims h
  have e:k.lo.length=d:=by omega
  refine ⟨?_,e⟩
  show rightB k.lo k.hi k.lo.length k.hi.length k.lo.length=true
  rw [e] at h ⊢
  exact h
theorem sum_nn {α:Type} (f:α→Int):∀L:List α,(∀x∈L,0≤f x)→0≤(L.map f).sum
 |[],_=>by simp
 | y::L,h=>by
  have:=h y (by simp)
  have:=sum_nn f L fun x hx=>h x (by simp [hx])
  rw [List.map_cons,List.sum_cons]
  omega
theorem sum_zero {α:Type} (f:α→Int):∀L:List α,(∀x∈L,0≤f x)→(L.map f).sum=0→∀x∈L,f x=0
 |[],_,_=>by simp
 | y::L,h,h0=>by
  have h1:=h y (by simp)
  have h2:0≤(L.map f).sum:=sum_nn f L fun x hx=>h x (by simp [hx])
  rw [List.map_cons,List.sum_cons] at h0
  have h3:=sum_zero f L (fun x hx=>h x (by simp [hx])) (by omega)
  intro x hx
  rcases List.mem_cons.1 hx with rfl | hx
  ·omega
  ·exact h3 x hx
theorem node_sides {n:PN} {d:Nat} (h:n.right d=true):
  (n.live=0→n.box=([],[]))∧
  (n.live≠0→n.box.1.length=d∧n.box.2.length=d∧(∀e∈n.rows,e.live=true→hasB n.box.1 n.box.2 e.row d d d=true)∧
   (∀k∈n.kids,k.live≠0→k.lo.length=d∧k.hi.length=d∧hasB n.box.1 n.box.2 k.lo d d d=true∧hasB n.box.1 n.box.2 k.hi d d d=true)∧
   ∀i,i<d→(mkE n.box.1 n.rows i||mkK PK.lo n.box.1 n.kids i)=true∧(mkE n.box.2 n.rows i||mkK PK.hi n.box.2 n.kids i)=true):=by
 obtain ⟨hd1,hd8,hr,hk⟩:=right_split h
 have hE:∀e∈n.rows,BxN d (e.row,e.row):=fun e he=>by
  have hl:e.row.length=d:=by have:=hr e he;omega
  exact bx_iff.2 ⟨by omega,by omega,hl,hl,fun i _=>Int.le_refl _⟩
 have hall:∀x∈n.boxes,x=([],[])∨BxN d x:=fun x hx=>by
  rcases List.mem_append.1 hx with hx | hx
  ·obtain ⟨e,he,rfl⟩:=List.mem_map.1 hx
   exact Or.inr (hE e (List.mem_filter.1 he).1)
  ·obtain ⟨k,hk',rfl⟩:=List.mem_map.1 hx
   have hks:=kid_split (hk k hk')
   by_cases hl:k.live=0
   ·exact Or.inl (hks.2.1 hl)
   ·exact Or.inr (hks.2.2 hl)
 have hs:=sides_fold n.boxes [] ([],[]) (d:=d) (Or.inl ⟨(fun x hx=>by cases hx),rfl⟩) hall
 rw [List.nil_append,← boxes_fold] at hs
 have memE:∀e∈n.rows,e.live=true→(e.row,e.row)∈n.boxes:=fun e he hl=>List.mem_append_left _ (List.mem_map.2 ⟨e,List.mem_filter.2 ⟨he,hl⟩,rfl⟩)
 have memK:∀k∈n.kids,(k.lo,k.hi)∈n.boxes:=fun k hk=>List.mem_append_right _ (List.mem_map.2 ⟨k,hk,rfl⟩)
 have hnn:0≤liveR n.rows:=(live_le n.rows).1
 have hkn:0≤(n.kids.map PK.live).sum:=sum_nn PK.live n.kids fun k hk'=>(kid_split (hk k hk')).1
 constructor
 ·intro h0
  unfold PN.live at h0
  have hz:=sum_zero PK.live n.kids (fun k hk'=>(kid_split (hk k hk')).1) (by omega)
  have hz2:=sum_zero (fun e:PE=>if e.live then (1:Int) else 0) n.rows (fun e _=>by split<;>omega) (by unfold liveR at h0 hnn;omega)
  rcases hs with hs | hs
  ·exact hs.2
  ·obtain ⟨x,hx,hb⟩:=hs.2.2.1
   rcases List.mem_append.1 hx with hx | hx
   ·obtain ⟨e,he,rfl⟩:=List.mem_map.1 hx
    have h1:=List.mem_filter.1 he
    have:=hz2 e h1.1
    rw [if_pos h1.2] at this
    omega
   ·obtain ⟨k,hk',rfl⟩:=List.mem_map.1 hx
    rw [(kid_split (hk k hk')).2.1 (hz k hk')] at hb
    exact absurd hb bx_nil
 ·intro h0
  have hex:∃x∈n.boxes,BxN d x:=by
   apply Classical.byContradiction
   intro hno
   apply h0
   unfold PN.live
   have z1:liveR n.rows=0:=by
    unfold liveR
    have:n.rows.map (fun e:PE=>if e.live then (1:Int) else 0)=n.rows.map fun _=>0:=List.map_congr_left fun e he=>by
     split
     ·rename_i hl
      exact absurd ⟨_,memE e he hl,hE e he⟩ hno
     ·rfl
    rw [this]
    induction n.rows with
    | nil=>rfl
    | cons a l ih=>rw [List.map_cons,List.sum_cons,ih];rfl
   have z2:(n.kids.map PK.live).sum=0:=by
    have:n.kids.map PK.live=n.kids.map fun _=>(0:Int):=List.map_congr_left fun k hk'=>by
     apply Classical.byContradiction
     intro hl
     exact hno ⟨_,memK k hk',(kid_split (hk k hk')).2.2 hl⟩
    rw [this]
    induction n.kids with
    | nil=>rfl
    | cons a l ih=>rw [List.map_cons,List.sum_cons,ih];rfl
   rw [z1,z2]
   rfl
  rcases hs with hs | ⟨hb,hin,-,hat⟩
  ·obtain ⟨x,hx,hb⟩:=hex
   exact absurd (hs.1 x hx▸hb) bx_nil
  have hbi:=bx_iff.1 hb
  have has:∀r:List Int,(∀i,i<d→n.box.1.getD i 0≤r.getD i 0∧r.getD i 0≤n.box.2.getD i 0)→hasB n.box.1 n.box.2 r d d d=true:=fun r hr=>by
   unfold hasB rightB
   rw [Bool.and_eq_true,Bool.and_eq_true,Bool.and_eq_true,decide_eq_true_eq,les_iff,les_iff,les_iff]
   exact ⟨⟨by omega,hbi.2.2.2.2⟩,fun i hi=>(hr i hi).1,fun i hi=>(hr i hi).2⟩
  refine ⟨hbi.2.2.1,hbi.2.2.2.1,fun e he hl=>has _ fun i hi=>hin _ (memE e he hl) (hE e he) i hi,fun k hk' hl=>?_,fun i hi=>?_⟩
  ·have hbk:=(kid_split (hk k hk')).2.2 hl
   have hbki:=bx_iff.1 hbk
   have hh:=hin _ (memK k hk') hbk
   refine ⟨hbki.2.2.1,hbki.2.2.2.1,has _ fun i hi=>⟨(hh i hi).1,?_⟩,has _ fun i hi=>⟨?_,(hh i hi).2⟩⟩
   ·exact Int.le_trans (hbki.2.2.2.2 i hi) (hh i hi).2
   ·exact Int.le_trans (hh i hi).1 (hbki.2.2.2.2 i hi)
  ·obtain ⟨⟨x,hx,hbx,e1⟩,⟨y,hy,hby,e2⟩⟩:=hat i hi
   rw [Bool.or_eq_true,Bool.or_eq_true]
   constructor
   ·rcases List.mem_append.1 hx with hx | hx
    ·obtain ⟨e,he,rfl⟩:=List.mem_map.1 hx
     have h1:=List.mem_filter.1 he
     exact Or.inl (List.any_eq_true.2 ⟨e,h1.1,by rw [Bool.and_eq_true,beq_iff_eq];exact ⟨h1.2,e1⟩⟩)
    ·obtain ⟨k,hk',rfl⟩:=List.mem_map.1 hx
     refine Or.inr (List.any_eq_true.2 ⟨k,hk',?_⟩)
     rw [Bool.and_eq_true,beq_iff_eq]
     refine ⟨?_,e1⟩
     by_cases hl:k.live=0
     ·rw [(kid_split (hk k hk')).2.1 hl] at hbx
      exact absurd hbx bx_nil
     ·simp [hl]
   ·rcases List.mem_append.1 hy with hy | hy
    ·obtain ⟨e,he,rfl⟩:=List.mem_map.1 hy
     have h1:=List.mem_filter.1 he
     exact Or.inl (List.any_eq_true.2 ⟨e,h1.1,by rw [Bool.and_eq_true,beq_iff_eq];exact ⟨h1.2,e2⟩⟩)
    ·obtain ⟨k,hk',rfl⟩:=List.mem_map.1 hy
     refine Or.inr (List.any_eq_true.2 ⟨k,hk',?_⟩)
     rw [Bool.and_eq_true,beq_iff_eq]
     refine ⟨?_,e2⟩
     by_cases hl:k.live=0
     ·rw [(kid_split (hk k hk')).2.1 hl] at hby
      exact absurd hby bx_nil
     ·simp [hl]
end Go.Proofs.YtinihaflmdihaaaGreat.Nd
namespace Go.Proofs.YtinihaflmdihaaaGreat.Kt
open Go.RowKit Go.Proofs.YtinihaflmdihaaaGreat.Nd
open List renaming setIfInBounds_toArray → sA, set_cons_zero → sZ, set_cons_succ → sS
theorem kid_le {k:PK} {d:Int} (h:k.right d=true):k.live≤k.size:=by
 unfold PK.right at h
 split at h
 ·rename_i e
  rw [e]
  exact Int.le_refl _
 ·split at h
  ·cases h
  ·omega
theorem sum_mono {α:Type} (f g:α→Int):∀L:List α,(∀x∈L,f x≤g x)→(L.map f).sum≤(L.map g).sum
 |[],_=>Int.le_refl _
 | x::L,h=>by
  have h1:=h x (by simp)
  have h2:=sum_mono f g L fun y hy=>h y (by simp [hy])
  simp only [List.map_cons,List.sum_cons]
  omega
theorem says_right {n:PN} {d:Nat} (h:n.right d=true) (h1:1≤n.size) (hz:n.size≤1048576):n.says.right d=true:=by
 obtain ⟨hd1,hd8,hr,hk⟩:=right_split h
 have hns:=node_sides h
 have hl1:0≤n.live∧n.live≤n.size:=by
  unfold PN.live PN.size
  have g1:=live_le n.rows
  have g2:=sum_nn PK.live n.kids fun k hk'=>(kid_split (hk k hk')).1
  have g3:=sum_mono PK.live PK.size n.kids fun k hk'=>kid_le (hk k hk')
  omega
 unfold PK.right
 by_cases he:n.says=PK.none
 ·rw [if_pos he]
 have hc:¬(n.says.size<1∨1048576<n.says.size∨n.says.live<0∨n.says.size<n.says.live):=by
  show ¬(n.size<1∨1048576<n.size∨n.live<0∨n.size<n.live)
  omega
 rw [if_neg he,if_neg hc]
 by_cases hl:n.live=0
 ·rw [if_pos (show n.says.live=0 from hl)]
  have:=hns.1 hl
  show decide (n.box.1.length+n.box.2.length=0)=true
  rw [this]
  rfl
 ·rw [if_neg (show ¬n.says.live=0 from hl)]
  obtain ⟨b1,b2,hE,hK,hi⟩:=hns.2 hl
  show rightB n.box.1 n.box.2 n.box.1.length n.box.2.length d=true
  rw [b1,b2]
  have h0:=(hi 0 (by omega)).1
  rw [Bool.or_eq_true] at h0
  have key:∀r:List Int,hasB n.box.1 n.box.2 r d d d=true→rightB n.box.1 n.box.2 d d d=true:=fun r hr=>by
   unfold hasB at hr
   rw [Bool.and_eq_true] at hr
   exact hr.1
  rcases h0 with h0 | h0
  ·obtain ⟨e,he,h2⟩:=List.any_eq_true.1 h0
   rw [Bool.and_eq_true] at h2
   exact key _ (hE e he h2.1)
  ·obtain ⟨k,hk2,h2⟩:=List.any_eq_true.1 h0
   rw [Bool.and_eq_true] at h2
   exact key _ (hK k hk2 (by simpa using h2.1)).2.2.1
theorem fork_right {d:Nat} {p:List Int} {v:Bool} {a b:PK} (hd:1≤d∧d≤8) (hp:p.length=d) (ha:a.right d=true) (hb:b.right d=true) (ka:a.key=[]) (kb:b.key=[]):(forkN p v a b).right d=true:=by
 unfold PN.right forkN
 rw [if_neg (by omega),if_neg (by simp [PE.long,hp]),if_neg (by simp [ha,hb]),if_pos rfl,if_pos ⟨rfl,rfl⟩]
 simp [PK.keyless,ka,kb]
theorem kid_right {d:Nat} (hd:1≤d∧d≤8):∀u:T,u.dims d→u.kid.right d=true∧u.kid.key=[]
 | .nil,_=>⟨rfl,rfl⟩
 | .fork p v l r,h=>by
  have hl:=kid_right hd l h.2.1
  have hr:=kid_right hd r h.2.2
  have hf:=fork_right (v:=v) hd h.1 hl.1 hr.1 hl.2 hr.2
  unfold T.kid
  split
  ·rename_i hz
   refine ⟨says_right hf ?_ hz,rfl⟩
   show (1:Int)≤((1:Nat):Int)+(l.kid.size+(r.kid.size+0))
   have h1:=kid_split hl.1
   have h2:=kid_split hr.1
   have h3:=kid_le hl.1
   have h4:=kid_le hr.1
   omega
  ·exact ⟨rfl,rfl⟩
end Go.Proofs.YtinihaflmdihaaaGreat.Kt
namespace Go.Proofs.YtinihaflmdihaaaGreat.Nd
open Go.RowKit
open List renaming setIfInBounds_toArray → sA, set_cons_zero → sZ, set_cons_succ → sS
theorem kid_fill2 (q1 q2 q3:Option Addr) (m1 c1 m2 c2 m3 c3:Nat) (x y:Int) (q1' q2' q3':Option Addr) (m1' c1' m2' c2' m3' c3':Nat) (x' y':Int):∀(D F:List Nat),D.length=32→F.length=32→Instr.fill (fun i=>some (i*37,37)) ((Array.range (2*37)).map ((Value.agg kd0.cells.toArray).cells[·%(Value.agg kd0.cells.toArray).cells.size]!)) [(0,.agg (vals D++[Value.slice q1 m1 c1,.slice q2 m2 c2,.int .i64 x,.int .i64 y,.slice q3 m3 c3]).toArray),(1,.agg (vals F++[Value.slice q1' m1' c1',.slice q2' m2' c2',.int .i64 x',.int .i64 y',.slice q3' m3' c3']).toArray)]=some ((vals D++[Value.slice q1 m1 c1,.slice q2 m2 c2,.int .i64 x,.int .i64 y,.slice q3 m3 c3])++(vals F++[Value.slice q1' m1' c1',.slice q2' m2' c2',.int .i64 x',.int .i64 y',.slice q3' m3' c3'])).toArray
 |[a0,a1,a2,a3,a4,a5,a6,a7,a8,a9,a10,a11,a12,a13,a14,a15,a16,a17,a18,a19,a20,a21,a22,a23,a24,a25,a26,a27,a28,a29,a30,a31],[b0,b1,b2,b3,b4,b5,b6,b7,b8,b9,b10,b11,b12,b13,b14,b15,b16,b17,b18,b19,b20,b21,b22,b23,b24,b25,b26,b27,b28,b29,b30,b31],_,_=>by kernel_rfl
theorem wp_kid_two {w:World} {o:Oper} {a:Act} {K:Act→World→Prop} {Q:Exit→Act→World→Prop} (x y:Operand) (ho:o.op= .buildSlice 79 2 #[(0,x),(1,y)]) {k l:Kd} (hk:k.sum.length=32) (hl:l.sum.length=32) (hx:a.eval x= .agg k.cells.toArray) (hy:a.eval y= .agg l.cells.toArray)
  (h:K (a.put o.dst (.slice (some ⟨w.heap.size,0,none⟩) 2 2)) (w.alloc (.cells (k.cells++l.cells).toArray 34))):o.wp Tryz.prog a w K Q:=by
 obtain ⟨i,hi,hi0,hi1,hi2⟩:=info_parts IKd
 refine wp_buildSlice 79 34 2 #[(0,x),(1,y)] ho (k.cells++l.cells).toArray i _ UKs hi hi0 (by rw [hi1];omega) (by rw [hi1];omega) ?_ h
 rw [hi1]
 simp only [List.map_toArray,List.map_cons,List.map_nil,hx,hy]
 exact kid_fill2 _ _ _ _ _ _ _ _ _ _ _ _ _ _ _ _ _ _ _ _ _ _ k.sum l.sum hk hl
theorem wpList_kid_twoG {w:World} {ops:Array Oper} {rest:List Oper} {o:Oper} {a:Act} {Q:Exit→Act→World→Prop} (hw:Region.wanted o (yielded ops a.tmps)=true) (x y:Operand) (ho:o.op= .buildSlice 79 2 #[(0,x),(1,y)]) {k l:Kd} (hk:k.sum.length=32) (hl:l.sum.length=32) (hx:a.eval x= .agg k.cells.toArray) (hy:a.eval y= .agg l.cells.toArray)
  (h:wpList Tryz.prog ops Q rest (a.put o.dst (.slice (some ⟨w.heap.size,0,none⟩) 2 2)) (w.alloc (.cells (k.cells++l.cells).toArray 34))):wpList Tryz.prog ops Q (o::rest) a w:=
 BigFrame.wpList_want hw fun _ hK=>wp_kid_two x y ho hk hl hx hy (hK _ _ h)
theorem kids_two {w:World} {g:Nat} {a b:Kd} {t:TypeId} (h:w.heap[g]? =some (.cells (a.cells++b.cells).toArray t (0,0))) (ha:a.Ok w) (hb:b.Ok w):KidsIn w (some ⟨g,0,none⟩) 2 2 [a,b]:=by
 have hl:=Kd.cells_length ha.len
 refine ⟨rfl,Nat.le_refl _,by omega,fun k hk=>?_,Or.inr ⟨g,0,rfl,fun i hi=>?_⟩⟩
 ·simp only [List.mem_cons,List.not_mem_nil,or_false] at hk
  rcases hk with rfl | rfl
  ·exact ha
  ·exact hb
 ·have h2:i=0∨i=1:=by simp at hi;omega
  intro j v hv
  rcases h2 with rfl | rfl
  ·have hv':a.cells[j]? =some v:=hv
   rw [cell_of_row w g _ _ _ _ h]
   have hj:=(List.getElem?_eq_some_iff.1 hv').1
   simp only [Nat.zero_mul,Nat.zero_add,List.getElem?_toArray]
   rw [List.getElem?_append_left hj]
   exact hv'
  ·have hv':b.cells[j]? =some v:=hv
   rw [cell_of_row w g _ _ _ _ h]
   simp only [Nat.one_mul,Nat.zero_add,List.getElem?_toArray]
   rw [List.getElem?_append_right (by omega),hl,Nat.add_sub_cancel_left]
   exact hv'
end Go.Proofs.YtinihaflmdihaaaGreat.Nd
namespace Go.Proofs.YtinihaflmdihaaaGreat.Kt
open Go.RowKit Go.Proofs.YtinihaflmdihaaaGreat.Nd
open List renaming setIfInBounds_toArray → sA, set_cons_zero → sZ, set_cons_succ → sS
theorem nd_built (p q:Option Addr) (n c m f:Nat):Tryz.prog.built 81 [(0,.int .u8 1),(1,.slice p n c),(2,.slice q m f)]=some #[.int .u8 1,.slice p n c,.slice q m f]:=by kernel_rfl
theorem UNode0:(Tryz.prog.underlying 81).map (·.isRow)=some true:=by kernel_rfl
theorem UNode:∃d,Tryz.prog.underlying 81=some d∧d.isRow=true:=by
 have h:=UNode0
 revert h
 cases Tryz.prog.underlying 81 with
 | none=>intro h;cases h
 | some d=>intro h;exact ⟨d,rfl,by simpa using h⟩
theorem SNode:(Tryz.prog.info? 81).map (·.size)=some 3:=by kernel_rfl
theorem nd_one (p q:Option Addr) (n c m f:Nat):(#[.int .u8 1,.slice p n c,.slice q m f]:Array Value).all (·.oneCell')=true:=all_oneCell_toArray (cs:=[.int .u8 1,.slice p n c,.slice q m f]) fun u hu=>by
 simp only [List.mem_cons,List.not_mem_nil,or_false] at hu
 rcases hu with rfl | rfl | rfl<;>rfl
structure NdSt (w x:World):Prop where
 low:Below w.heap.size w x
 res:x.heap[w.heap.size]? =some (.cells #[.int .u8 0,.slice none 0 0,.slice none 0 0] 81 (0,0))
theorem NdSt.lt {w x:World} (h:NdSt w x):w.heap.size+1≤x.heap.size:=(Array.getElem?_eq_some_iff.1 h.res).1
theorem NdSt.later {w x y:World} (h:NdSt w x) (hb:Below x.heap.size x y):NdSt w y:=⟨h.low.trans (hb.mono h.low.size),(hb.block _ (Array.getElem?_eq_some_iff.1 h.res).1).trans h.res⟩
theorem NdSt.start (w:World):NdSt w (w.alloc (.cells #[.int .u8 0,.slice none 0 0,.slice none 0 0] 81)):=⟨(Below.refl _ _).alloc (Nat.le_refl _) _,heap_alloc_new w _⟩
theorem away_ok {w:World} {r:Rw} (h:r.Ok w) {X:Nat} (hX:w.heap.size≤X):Away X r:=fun _ hx hR e=>by have:=rw_lt h _ hx hR;omega
theorem ents_one {w:World} {g m c:Nat} {q:Option Addr} {R:List Int} {b:Bool} {t:TypeId} (h:w.heap[g]? =some (.cells #[.slice q m c,.bool b] t (0,0))) (ok:(⟨q,m,c,R⟩:Rw).Ok w):EntsIn w (some ⟨g,0,none⟩) 1 1 [⟨⟨q,m,c,R⟩,b⟩]:=by
 refine ⟨rfl,Nat.le_refl _,by omega,fun e he=>?_,Or.inr ⟨g,0,rfl,fun i hi=>?_⟩⟩
 ·obtain rfl:=List.mem_singleton.1 he
  exact ok
 ·obtain rfl:i=0:=by simpa using hi
  exact ⟨cell_of_row w g 0 _ _ _ h,cell_of_row w g 1 _ _ _ h⟩
end Go.Proofs.YtinihaflmdihaaaGreat.Kt
namespace Go.Proofs.YtinihaflmdihaaaGreat.Kt
open Go.Proofs Go.Shelf
open List renaming setIfInBounds_toArray → sA, set_cons_zero → sZ, set_cons_succ → sS
def sortRen:Go.Shelf.Ren:=⟨fun | 6=>118 | 15=>139 | 14=>161 | 28=>184 | 29=>142 | 20=>212 | 21=>213 | 22=>214 | 23=>215 | 24=>216 | 25=>217 | 26=>218 | 27=>219 | 46=>252 | 47=>253 | 48=>254 | 49=>255 | 50=>256 | 57=>281 | n=>n,fun | 22=>51 | 24=>24 | 25=>173 | 3=>3 | 39=>198 | 0=>0 | 53=>241 | 55=>204 | 4=>4 | 46=>268 | 45=>267 | 50=>248 | 5=>5 | 9=>9 | 66=>309 | 70=>285 | 76=>330 | 77=>96 | n=>n,fun n=>n⟩
theorem sortLays:SlLaysF.n6 Tryz.prog sortRen where
 mixed:=by kernel_rfl
 f6:=⟨Tryz.f118.name,by kernel_rfl,Tryz.func118.trans (congrArg some (by kernel_rfl))⟩
 f14:=⟨Tryz.f161.name,by kernel_rfl,Tryz.func161.trans (congrArg some (by kernel_rfl))⟩
 f15:=Tryz.func139.trans (congrArg some (by kernel_rfl))
 f20:=⟨Tryz.f212.name,by kernel_rfl,Tryz.func212.trans (congrArg some (by kernel_rfl))⟩
 f21:=⟨Tryz.f213.name,by kernel_rfl,Tryz.func213.trans (congrArg some (by kernel_rfl))⟩
 f22:=⟨Tryz.f214.name,by kernel_rfl,Tryz.func214.trans (congrArg some (by kernel_rfl))⟩
 f23:=⟨Tryz.f215.name,by kernel_rfl,Tryz.func215.trans (congrArg some (by kernel_rfl))⟩
 f24:=⟨Tryz.f216.name,by kernel_rfl,Tryz.func216.trans (congrArg some (by kernel_rfl))⟩
 f25:=⟨Tryz.f217.name,by kernel_rfl,Tryz.func217.trans (congrArg some (by kernel_rfl))⟩
 f26:=⟨Tryz.f218.name,by kernel_rfl,Tryz.func218.trans (congrArg some (by kernel_rfl))⟩
 f27:=⟨Tryz.f219.name,by kernel_rfl,Tryz.func219.trans (congrArg some (by kernel_rfl))⟩
 f28:=Tryz.func184.trans (congrArg some (by kernel_rfl))
 f29:=Tryz.func142.trans (congrArg some (by kernel_rfl))
 f46:=⟨Tryz.f252.name,by kernel_rfl,Tryz.func252.trans (congrArg some (by kernel_rfl))⟩
 f47:=Tryz.func253.trans (congrArg some (by kernel_rfl))
 f48:=Tryz.func254.trans (congrArg some (by kernel_rfl))
 f49:=⟨Tryz.f255.name,by kernel_rfl,Tryz.func255.trans (congrArg some (by kernel_rfl))⟩
 f50:=⟨Tryz.f256.name,by kernel_rfl,Tryz.func256.trans (congrArg some (by kernel_rfl))⟩
 f57:=⟨Tryz.f281.name,by kernel_rfl,Tryz.func281.trans (congrArg some (by kernel_rfl))⟩
 t0:=Tryz.underlying0
 a0:=Tryz.isAgg0
 z0:=Tryz.sizeOf0
 v0:=Tryz.zeroValue0
 t3:=Tryz.underlying3
 a3:=Tryz.isAgg3
 z3:=Tryz.sizeOf3
 v3:=Tryz.zeroValue3
 t4:=Tryz.underlying4
 a4:=Tryz.isAgg4
 z4:=Tryz.sizeOf4
 v4:=Tryz.zeroValue4
 t5:=Tryz.underlying5
 a5:=Tryz.isAgg5
 z5:=Tryz.sizeOf5
 v5:=Tryz.zeroValue5
 t9:=Tryz.underlying9
 a9:=Tryz.isAgg9
 z9:=Tryz.sizeOf9
 v9:=Tryz.zeroValue9
 t22:=Tryz.underlying51
 a22:=Tryz.isAgg51
 z22:=Tryz.sizeOf51
 v22:=Tryz.zeroValue51
 a24:=Tryz.isAgg24
 z24:=Tryz.sizeOf24
 t25:=Tryz.underlying173
 a25:=Tryz.isAgg173
 z25:=Tryz.sizeOf173
 v25:=Tryz.zeroValue173
 t39:=Tryz.underlying198
 a39:=Tryz.isAgg198
 z39:=Tryz.sizeOf198
 v39:=Tryz.zeroValue198
 t45:=Tryz.underlying267
 a45:=Tryz.isAgg267
 z45:=Tryz.sizeOf267
 v45:=Tryz.zeroValue267
 t46:=Tryz.underlying268
 a46:=Tryz.isAgg268
 z46:=Tryz.sizeOf268
 v46:=Tryz.zeroValue268
 t50:=Tryz.underlying248
 a50:=Tryz.isAgg248
 z50:=Tryz.sizeOf248
 v50:=Tryz.zeroValue248
 t53:=Tryz.underlying241
 a53:=Tryz.isAgg241
 z53:=Tryz.sizeOf241
 v53:=Tryz.zeroValue241
 t55:=Tryz.underlying204
 a55:=Tryz.isAgg204
 z55:=Tryz.sizeOf204
 v55:=Tryz.zeroValue204
 t66:=Tryz.underlying309
 a66:=Tryz.isAgg309
 z66:=Tryz.sizeOf309
 v66:=Tryz.zeroValue309
 t70:=Tryz.underlying285
 a70:=Tryz.isAgg285
 z70:=Tryz.sizeOf285
 v70:=Tryz.zeroValue285
 t76:=Tryz.underlying330
 a76:=Tryz.isAgg330
 z76:=Tryz.sizeOf330
 v76:=Tryz.zeroValue330
 t77:=Tryz.underlying96
 a77:=Tryz.isAgg96
 z77:=Tryz.sizeOf96
 v77:=Tryz.zeroValue96
end Go.Proofs.YtinihaflmdihaaaGreat.Kt
namespace Go.Proofs.YtinihaflmdihaaaGreat
open Go.RowKit
open List renaming setIfInBounds_toArray → sA, set_cons_zero → sZ, set_cons_succ → sS
def icmp (x y:Int):Int:=if x<y then -1 else if y<x then 1 else 0
theorem compare64_any (x y:Int) (w:World):
  Calls Tryz.prog 163 #[.int .i64 x,.int .i64 y] w fun e w'=>e= .returned (.int .i64 (icmp x y))∧w=w':=by
 have hN:∀z w,Calls Tryz.prog 220 #[.int .i64 z] w fun e w'=>e= .returned (.bool false)∧w=w':=fun z w=>by
  have q:(z !=z)=false:=by simp
  go_enter Tryz.func220,Tryz.ntmps220
  go_wp2_with fail
  go_ret
  exact ⟨rfl,rfl⟩
 have HN:=Lib.hid hN
 clear hN
 by_cases h1:x<y
 ·have HE:=Lib.hid (show icmp x y= -1 by unfold icmp;rw [if_pos h1])
  go_enter Tryz.func163,Tryz.ntmps163
  go_wp2_with ((go_at_call 220;refine (HN.out _ _).mono ?_;rintro _ w' ⟨rfl,rfl⟩))
  go_ret
  exact ⟨by rw [HE.out];rfl,rfl⟩
 ·by_cases h2:y<x
  ·have HE:=Lib.hid (show icmp x y=1 by unfold icmp;rw [if_neg h1,if_pos h2])
   go_enter Tryz.func163,Tryz.ntmps163
   go_wp2_with ((go_at_call 220;refine (HN.out _ _).mono ?_;rintro _ w' ⟨rfl,rfl⟩))
   go_ret
   exact ⟨by rw [HE.out];rfl,rfl⟩
  ·have HE:=Lib.hid (show icmp x y=0 by unfold icmp;rw [if_neg h1,if_neg h2])
   go_enter Tryz.func163,Tryz.ntmps163
   go_wp2_with ((go_at_call 220;refine (HN.out _ _).mono ?_;rintro _ w' ⟨rfl,rfl⟩))
   go_ret
   exact ⟨by rw [HE.out];rfl,rfl⟩
end Go.Proofs.YtinihaflmdihaaaGreat
namespace Go.Proofs.YtinihaflmdihaaaGreat.Kt
open Go.RowKit
open List renaming setIfInBounds_toArray → sA, set_cons_zero → sZ, set_cons_succ → sS
def cmpL:List Int→List Int→Int
 |[],[]=>0
 |[],_::_=> -1
 | _::_,[]=>1
 | a::p,b::q=>if icmp a b=0 then cmpL p q else icmp a b
theorem cmpL_end {R S:List Int} {k:Nat} (hk:R.length≤k):cmpL (R.drop k) (S.drop k)=if R.length<S.length∧k<S.length then -1 else 0:=by
 rw [List.drop_eq_nil_of_le hk]
 by_cases h:k<S.length
 ·rw [if_pos ⟨by omega,h⟩,List.drop_eq_getElem_cons h]
  rfl
 ·rw [if_neg (fun h2=>h h2.2),List.drop_eq_nil_of_le (by omega)]
  rfl
theorem cmpL_over {R S:List Int} {k:Nat} (hk:k<R.length) (hs:S.length≤k):cmpL (R.drop k) (S.drop k)=1:=by
 rw [List.drop_eq_nil_of_le hs,List.drop_eq_getElem_cons hk]
 rfl
theorem cmpL_step {R S:List Int} {k:Nat} (hk:k<R.length) (hs:k<S.length):cmpL (R.drop k) (S.drop k)=if icmp (R.getD k 0) (S.getD k 0)=0 then cmpL (R.drop (k+1)) (S.drop (k+1)) else icmp (R.getD k 0) (S.getD k 0):=by
 rw [List.drop_eq_getElem_cons hk,List.drop_eq_getElem_cons hs,List.getD_eq_getElem?_getD,List.getD_eq_getElem?_getD,List.getElem?_eq_getElem hk,List.getElem?_eq_getElem hs]
 rfl
def SlcRel (w:World) (R S:List Int) (C:Int) (n m:Nat) (i:Value) (wr:World):Prop:=∃k:Nat,k≤n∧k≤m∧i= .int .i64 k∧cmpL (R.drop k) (S.drop k)=C∧wr=w
theorem ret_i {x y:Int} (h:x=y):Ending.returned (.int .i64 x)= .returned (.int .i64 y):=by rw [h]
theorem slcompare_any (p q:Option Addr) (n c m e:Nat) (R S:List Int) (w:World) (h1:Ints w p n c R) (h2:Ints w q m e S) (hn9:n≤9223372036854775807) (hm9:m≤9223372036854775807):
  Calls Tryz.prog 164 #[.slice p n c,.slice q m e] w fun e w'=>e= .returned (.int .i64 (cmpL R S))∧w'=w:=by
 have H1:=Lib.hid h1
 have H2:=Lib.hid h2
 have HN1:=Lib.hid h1.size
 have HN2:=Lib.hid h2.size
 obtain ⟨C,hC⟩:∃C,cmpL R S=C:=⟨_,rfl⟩
 rw [hC]
 have HC:=Lib.hid hC
 clear h1 h2 hC
 go_enter Tryz.func164,Tryz.ntmps164
 go_wp2_with fail
 go_loopw [5,6,7,8,11] (fun _ _ _ _ i wr=>SlcRel w R S C n m i wr) (fun _ _ _ _ i _=>n - (intOf i).toNat)
 case atStart=>exact ⟨0,by omega,by omega,rfl,HC.out,rfl⟩
 case round=>
  obtain ⟨k,hk,hkm,rfl,heq,rfl⟩:=hrel
  by_cases hlt:k<n
  ·obtain ⟨g1,o1,rfl,hcx⟩:=H1.out.cell k hlt
   have i1:(0:Int)≤k∧(k:Int)<n:=by omega
   by_cases hlm:k<m
   ·obtain ⟨g2,o2,rfl,hcy⟩:=H2.out.cell k hlm
    have i2:(0:Int)≤k∧(k:Int)<m:=by omega
    rw [cmpL_step (by rw [← HN1.out];exact hlt) (by rw [← HN2.out];exact hlm)] at heq
    have HEQ:=Lib.hid heq
    clear heq HC
    generalize R.getD k 0=x at *
    generalize S.getD k 0=y at *
    have HCM:=Lib.hid (compare64_any x y)
    generalize icmp x y=z at *
    by_cases hz:z=0
    ·have he:=HEQ.out
     rw [if_pos hz] at he
     have HE:=Lib.hid he
     subst hz
     clear he HEQ
     go_wp2_with (go_at_call 163;refine (HCM.out _).mono ?_;rintro _ w' ⟨rfl,rfl⟩)
     go_roundw
     case rel=>exact ⟨k+1,by omega,by omega,by go_num,HE.out,rfl⟩
     case measure=>simp [intOf];omega
    ·have he:=HEQ.out
     rw [if_neg hz] at he
     have b1:(z !=0)=true:=by simpa using hz
     have HE:=Lib.hid he
     clear he HEQ hz
     go_wp2_with (go_at_call 163;refine (HCM.out _).mono ?_;rintro _ w' ⟨rfl,rfl⟩)
     go_ret
     exact ⟨ret_i HE.out,rfl⟩
   ·have HE:=Lib.hid ((cmpL_over (S:=S) (by rw [← HN1.out];exact hlt) (by rw [← HN2.out];omega)).symm.trans heq)
    clear heq HC
    go_wp2_with fail
    go_ret
    exact ⟨ret_i HE.out,rfl⟩
  ·obtain rfl:k=n:=by omega
   rw [cmpL_end (by rw [← HN1.out];exact Nat.le_refl _),← HN1.out,← HN2.out] at heq
   by_cases hlm:k<m
   ·rw [if_pos ⟨hlm,hlm⟩] at heq
    have HE:=Lib.hid heq
    clear heq HC
    go_wp2_with fail
    go_ret
    exact ⟨ret_i HE.out,rfl⟩
   ·rw [if_neg (fun h=>hlm h.1)] at heq
    have HE:=Lib.hid heq
    clear heq HC
    go_wp2_with fail
    go_ret
    exact ⟨ret_i HE.out,rfl⟩
end Go.Proofs.YtinihaflmdihaaaGreat.Kt
