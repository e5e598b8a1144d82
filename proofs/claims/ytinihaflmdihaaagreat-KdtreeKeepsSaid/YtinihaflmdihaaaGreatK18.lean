/- KtSizes, KtPages, KdPuts, KlAliveMath, NdRead, NdBack, NdForth, NdNums, WpRound, PgRound. -/
import Derived.RangeFuncCalls
import Derived.RangeFuncNested
import Derived.OrdersIn
import Derived.OrdersHeld
import Derived.Deep.RegionHeld3
import Derived.TacticsIn
import Derived.Sort.MapsRangeIn
import Derived.RangeFuncBox
import Derived.OwnWalkIn
import Derived.Sort.CutIn
import Derived.Test.YtinihaflmdihaaaGreatK17
set_option maxRecDepth 100000
set_option maxHeartbeats 8000000
set_option linter.all false
namespace Go.Proofs.YtinihaflmdihaaaGreat.Kt
open Go.RowKit
theorem layP_size:∀(n:Nat) (L:List (List Int)) (t:Nat),L.length≤n→(layP n L t).size=L.length
 | 0,L,t,h=>by
  obtain rfl:L=[]:=List.length_eq_zero_iff.1 (by omega)
  rfl
 | n+1,L,t,h=>by
  rw [layP]
  by_cases hL:L=[]
  ·rw [if_pos hL,hL]
   rfl
  ·rw [if_neg hL]
   have hp:=List.length_pos_iff.2 hL
   have l1:((sortP (t%(L.headD []).length) L).take (L.length/2)).length=L.length/2:=by rw [List.length_take,sortP_length];omega
   have l2:((sortP (t%(L.headD []).length) L).drop (L.length/2+1)).length=L.length - (L.length/2+1):=by rw [List.length_drop,sortP_length]
   show 1+(layP n _ (t+1)).size+(layP n _ (t+1)).size=_
   rw [layP_size n _ (t+1) (by omega),layP_size n _ (t+1) (by omega),l1,l2]
   omega
theorem lay_size (L:List (List Int)) (t:Nat):(lay L t).size=L.length:=layP_size _ L t (Nat.le_refl _)
theorem all_le_size:∀u:T,u.all.length≤u.size
 | .nil=>Nat.le_refl _
 | .fork p v l r=>by
  have h1:=all_le_size l
  have h2:=all_le_size r
  unfold T.all T.size
  cases v<;>simp<;>omega
theorem light_size (u:T) (t:Nat):(light u t).size≤u.size:=by
 cases u with
 | nil=>exact Nat.le_refl _
 | fork p v l r=>
  unfold light
  simp only
  split
  ·rw [lay_size]
   exact all_le_size _
  ·exact Nat.le_refl _
theorem insert_size:∀(u:T) (p:List Int) (t:Nat),(insertT u p t).1.size≤u.size+1
 | .nil,p,t=>by
  unfold insertT
  simp [T.size]
 | .fork q v l r,p,t=>by
  have h1:=insert_size l p (t+1)
  have h2:=insert_size r p (t+1)
  unfold insertT
  split
  ·have h:=light_size (.fork q true l r) t
   simp only [T.size] at h ⊢
   omega
  ·split
   ·have h:=light_size (.fork q v (insertT l p (t+1)).1 r) t
    simp only [T.size] at h ⊢
    omega
   ·have h:=light_size (.fork q v l (insertT r p (t+1)).1) t
    simp only [T.size] at h ⊢
    omega
theorem remove_size:∀(u:T) (p:List Int) (t:Nat),(removeT u p t).1.size=u.size
 | .nil,p,t=>rfl
 | .fork q v l r,p,t=>by
  have h1:=remove_size l p (t+1)
  have h2:=remove_size r p (t+1)
  unfold removeT
  split
  ·rfl
  ·split
   ·simp only [T.size]
    omega
   ·simp only [T.size]
    omega
end Go.Proofs.YtinihaflmdihaaaGreat.Kt
namespace Go.Proofs.YtinihaflmdihaaaGreat.Kt
open Go.RowKit Go.Proofs.YtinihaflmdihaaaGreat.Nd Go.Proofs.YtinihaflmdihaaaGreat.Pg
def T.pages:T→List (List Nat)
 | .nil=>[]
 | .fork p v l r=>l.pages++r.pages++[(forkN p v l.kid r.kid).bytes]
theorem pages_length:∀u:T,u.pages.length=u.size
 | .nil=>rfl
 | .fork p v l r=>by
  have h1:=pages_length l
  have h2:=pages_length r
  unfold T.pages T.size
  simp only [List.length_append,List.length_cons,List.length_nil]
  omega
theorem fork_size (p:List Int) (v:Bool) (a b:PK):(forkN p v a b).size=1+(a.size+b.size):=by
 show ((1:Nat):Int)+(a.size+(b.size+0))=_
 omega
theorem kid_size:∀u:T,u.size≤1048576→u.kid.size=u.size
 | .nil,_=>rfl
 | .fork p v l r,h=>by
  have hz:(T.fork p v l r).size=1+l.size+r.size:=rfl
  have h1:=kid_size l (by omega)
  have h2:=kid_size r (by omega)
  have hf:=fork_size p v l.kid r.kid
  unfold T.kid
  rw [if_pos (by omega)]
  show (forkN p v l.kid r.kid).size=_
  omega
def T.lives:T→Nat
 | .nil=>0
 | .fork _ v l r=>(if v then 1 else 0)+l.lives+r.lives
theorem kid_live:∀u:T,u.size≤1048576→u.kid.live=u.lives
 | .nil,_=>rfl
 | .fork p v l r,h=>by
  have hz:(T.fork p v l r).size=1+l.size+r.size:=rfl
  have h1:=kid_live l (by omega)
  have h2:=kid_live r (by omega)
  have h3:=kid_size l (by omega)
  have h4:=kid_size r (by omega)
  have hf:=fork_size p v l.kid r.kid
  unfold T.kid
  rw [if_pos (by omega)]
  show ((if v then (1:Int) else 0)+0)+(l.kid.live+(r.kid.live+0))=_
  unfold T.lives
  cases v<;>simp<;>omega
theorem lives_all:∀u:T,u.lives=u.all.length
 | .nil=>rfl
 | .fork p v l r=>by
  have h1:=lives_all l
  have h2:=lives_all r
  unfold T.lives T.all
  cases v<;>simp<;>omega
theorem fork_good {d:Nat} (hd:1≤d∧d≤8) {p:List Int} {v:Bool} {l r:T} (h:(T.fork p v l r).dims d) (hs:(T.fork p v l r).size≤1048576):(forkN p v l.kid r.kid).right d=true∧(forkN p v l.kid r.kid).size≤1048576:=by
 have hz:(T.fork p v l r).size=1+l.size+r.size:=rfl
 have hf:=fork_size p v l.kid r.kid
 have h3:=kid_size l (by omega)
 have h4:=kid_size r (by omega)
 have hl:=kid_right hd l h.2.1
 have hr:=kid_right hd r h.2.2
 exact ⟨fork_right hd h.1 hl.1 hr.1 hl.2 hr.2,by omega⟩
theorem fork_kid {p:List Int} {v:Bool} {l r:T} (hs:(T.fork p v l r).size≤1048576):(T.fork p v l r).kid=(forkN p v l.kid r.kid).says:=by
 have hz:(T.fork p v l r).size=1+l.size+r.size:=rfl
 have hf:=fork_size p v l.kid r.kid
 have h3:=kid_size l (by omega)
 have h4:=kid_size r (by omega)
 show (if (forkN p v l.kid r.kid).size≤1048576 then (forkN p v l.kid r.kid).says else PK.none)=_
 rw [if_pos (by omega)]
end Go.Proofs.YtinihaflmdihaaaGreat.Kt
namespace Go.Proofs.YtinihaflmdihaaaGreat.Kt
open Go.RowKit Go.Proofs.YtinihaflmdihaaaGreat.Nd Go.Proofs.YtinihaflmdihaaaGreat.Dk Go.Proofs.YtinihaflmdihaaaGreat.Pg
def puts (s:Pg.S) (L:List (List Nat)):Pg.S:=L.foldl Pg.S.put s
theorem puts_append (s:Pg.S) (L M:List (List Nat)):puts s (L++M)=puts (puts s L) M:=List.foldl_append ..
theorem put_few1 (s:Pg.S) (b:List Nat):(s.put b).W.length≤s.W.length+1:=by
 unfold Pg.S.put putW
 simp only
 split<;>simp
theorem puts_few:∀(L:List (List Nat)) (s:Pg.S),(puts s L).W.length≤s.W.length+L.length
 |[],s=>Nat.le_refl _
 | b::L,s=>by
  have h1:=put_few1 s b
  have h2:=puts_few L (s.put b)
  unfold puts at h2 ⊢
  rw [List.foldl_cons,List.length_cons]
  omega
theorem pages_fork (p:List Int) (v:Bool) (l r:T) (s:Pg.S):puts s (T.fork p v l r).pages=(puts (puts s l.pages) r.pages).put (forkN p v l.kid r.kid).bytes:=by
 show puts s (l.pages++r.pages++[(forkN p v l.kid r.kid).bytes])=_
 rw [puts_append,puts_append]
 rfl
structure LayR (w w':World) (gs:Nat) (Q Q':Nat→Prop) (s':Pg.S) (g o n:Nat):Prop where
 only:Only (fun k=>Q k∨k=g) w w'
 cell:∀i,i<o∨o+n≤i→w'.cell? ⟨g,i,none⟩=w.cell? ⟨g,i,none⟩
 frozen:∀i,w'.frozen? ⟨g,i,none⟩=w.frozen? ⟨g,i,none⟩
 st:PL w' gs Q' s'
 new:∀k,Q' k→Q k∨w.heap.size≤k
theorem LayR.trans {w a b:World} {gs g o n o1 n1 o2 n2:Nat} {Q Q1 Q2:Nat→Prop} {s1 s2:Pg.S} (h1:LayR w a gs Q Q1 s1 g o1 n1) (h2:LayR a b gs Q1 Q2 s2 g o2 n2) (i1:o≤o1∧o1+n1≤o+n) (i2:o≤o2∧o2+n2≤o+n):LayR w b gs Q Q2 s2 g o n where
 only:=⟨h2.only.os.trans h1.only.os,h2.only.tape.trans h1.only.tape,h2.only.output.trans h1.only.output,Nat.le_trans h1.only.size h2.only.size,fun k hk hn=>by
  refine (h2.only.block k (Nat.lt_of_lt_of_le hk h1.only.size) (fun h=>?_)).trans (h1.only.block k hk hn)
  rcases h with h | h
  ·rcases h1.new k h with h | h
   ·exact hn (Or.inl h)
   ·omega
  ·exact hn (Or.inr h)⟩
 cell i hi:=(h2.cell i (by omega)).trans (h1.cell i (by omega))
 frozen i:=(h2.frozen i).trans (h1.frozen i)
 st:=h2.st
 new k hk:=by
  rcases h2.new k hk with h | h
  ·exact h1.new k h
  ·exact Or.inr (Nat.le_trans h1.only.size h)
theorem LayR.of_below {w a:World} {gs g o n:Nat} {Q:Nat→Prop} {s:Pg.S} (hp:PL w gs Q s) (hb:Below w.heap.size w a) (hg:g<w.heap.size):LayR w a gs Q Q s g o n where
 only:=Only.of_below _ hb
 cell i _:=World.cell?_of_block (hb.block g hg)
 frozen i:=by unfold World.frozen?;rw [hb.block g hg]
 st:=hp.keep (fun _=>False) (Only.of_below _ hb) (fun _ _ e=>e)
 new _ hk:=Or.inl hk
theorem LayR.of_turned {w a:World} {gs g o n:Nat} {Q:Nat→Prop} {s:Pg.S} (hp:PL w gs Q s) (ht:Turned g o n w a) (hg:g<w.heap.size) (hq:¬Q g):LayR w a gs Q Q s g o n where
 only:=ht.only.mono fun k hk=>Or.inr hk
 cell i hi:=ht.cell ⟨g,i,none⟩ (Or.inr hi) hg
 frozen i:=ht.frozen ⟨g,i,none⟩ hg
 st:=hp.keep _ ht.only (fun k hk e=>hq (e▸hk))
 new _ hk:=Or.inl hk
theorem LayR.of_put {w a:World} {gs g o n:Nat} {Q Q':Nat→Prop} {s':Pg.S} (hst:PL a gs Q' s') (hn:∀k,Q' k→Q k∨w.heap.size≤k) (ho:Only Q w a) (hg:g<w.heap.size) (hq:¬Q g):LayR w a gs Q Q' s' g o n where
 only:=ho.mono fun k hk=>Or.inl hk
 cell i _:=World.cell?_of_block (ho.block g hg hq)
 frozen i:=by unfold World.frozen?;rw [ho.block g hg hq]
 st:=hst
 new:=hn
theorem LayR.set {w a:World} {gs g o n b:Nat} {Q Q':Nat→Prop} {s':Pg.S} (h:LayR w a gs Q Q' s' g o n) (hb:w.heap.size≤b) (hg:g<w.heap.size) (hq:¬Q' b) (cs:Array Value):LayR w (a.setRow b cs) gs Q Q' s' g o n where
 only:=⟨(only_setRow a b cs).os.trans h.only.os,(only_setRow a b cs).tape.trans h.only.tape,(only_setRow a b cs).output.trans h.only.output,Nat.le_trans h.only.size (only_setRow a b cs).size,fun k hk hn=>((only_setRow a b cs).block k (Nat.lt_of_lt_of_le hk h.only.size) (by omega)).trans (h.only.block k hk hn)⟩
 cell i hi:=(World.cell?_of_block ((only_setRow a b cs).block g (Nat.lt_of_lt_of_le hg h.only.size) (by omega))).trans (h.cell i hi)
 frozen i:=(show (a.setRow b cs).frozen? ⟨g,i,none⟩=a.frozen? ⟨g,i,none⟩ by unfold World.frozen?;rw [(only_setRow a b cs).block g (Nat.lt_of_lt_of_le hg h.only.size) (by omega)]).trans (h.frozen i)
 st:=h.st.keep _ (only_setRow a b cs) (fun k hk e=>hq (e▸hk))
 new:=h.new
structure LyS (w x:World) (gs:Nat) (Q Qx:Nat→Prop) (s:Pg.S) (g o n m:Nat) (bs:List Nat) (ks:List Kd):Prop where
 r:LayR w x gs Q Qx s g o n
 mid:x.cell? ⟨g,o+m,none⟩=w.cell? ⟨g,o+m,none⟩
 box:∀b∈bs,w.heap.size≤b∧b<x.heap.size∧¬Qx b
 kid:∀k∈ks,k.Ok x∧Aw Qx k∧∀r∈k.rows,∀y,r.p=some y→r.R≠[]→w.heap.size≤y.block∧y.block∉bs
section
variable {w x x':World} {gs g o n m:Nat} {Q Qx Q':Nat→Prop} {s s':Pg.S} {bs:List Nat} {ks:List Kd}
theorem LyS.start (hp:PL w gs Q s) (hg:g<w.heap.size):LyS w w.drew gs Q Q s g o n m [] []:=
 ⟨LayR.of_below hp (Below.refl _ _).drew hg,rfl,(fun b hb=>by cases hb),(fun k hk=>by cases hk)⟩
theorem LyS.glt (h:LyS w x gs Q Qx s g o n m bs ks) (hg:g<w.heap.size):g<x.heap.size:=Nat.lt_of_lt_of_le hg h.r.only.size
theorem LyS.alloc (h:LyS w x gs Q Qx s g o n m bs ks) (hg:g<w.heap.size) (O:Obj):LyS w (x.alloc O) gs Q Qx s g o n m (x.heap.size::bs) ks:=by
 have hb:Below x.heap.size x (x.alloc O):=(Below.refl _ _).alloc (Nat.le_refl _) _
 have hs:(x.alloc O).heap.size=x.heap.size+1:=by simp
 refine ⟨h.r.trans (o2:=o) (n2:=n) (LayR.of_below h.r.st hb (h.glt hg)) ⟨Nat.le_refl _,Nat.le_refl _⟩ ⟨Nat.le_refl _,Nat.le_refl _⟩,(World.cell?_of_block (hb.block g (h.glt hg))).trans h.mid,fun b hb'=>?_,fun k hk=>?_⟩
 ·rcases List.mem_cons.1 hb' with rfl | hb'
  ·exact ⟨h.r.only.size,by omega,fun e=>by have:=h.r.st.lt _ e;omega⟩
  ·obtain ⟨h1,h2,h3⟩:=h.box b hb'
   exact ⟨h1,by omega,h3⟩
 ·obtain ⟨h1,h2,h3⟩:=h.kid k hk
  refine ⟨h1.later hb,h2,fun r hr y hy hR=>⟨(h3 r hr y hy hR).1,fun e=>?_⟩⟩
  rcases List.mem_cons.1 e with e | e
  ·have:=rw_lt (kd_rows_ok h1 r hr) y hy hR
   omega
  ·exact (h3 r hr y hy hR).2 e
theorem LyS.call {kd:Kd} {o1 n1:Nat} (h:LyS w x gs Q Qx s g o n m bs ks) (hg:g<w.heap.size) (hc:LayR x x' gs Qx Q' s' g o1 n1) (i1:o≤o1∧o1+n1≤o+n) (im:o+m<o1∨o1+n1≤o+m) (hk:kd.Ok x') (hf:Fsh x kd) (ha:Aw Q' kd) (hgk:∀k∈ks,∀r∈k.rows,∀y,r.p=some y→r.R≠[]→y.block≠g):
  LyS w x' gs Q Q' s' g o n m bs (kd::ks)∧∀b∈bs,x'.heap[b]? =x.heap[b]? :=by
 have hsz:=hc.only.size
 refine ⟨⟨h.r.trans hc ⟨Nat.le_refl _,Nat.le_refl _⟩ i1,(hc.cell (o+m) im).trans h.mid,fun b hb=>?_,fun k hk'=>?_⟩,fun b hb=>?_⟩
 ·obtain ⟨h1,h2,h3⟩:=h.box b hb
  exact ⟨h1,by omega,fun e=>(hc.new b e).elim h3 (fun e=>by omega)⟩
 ·rcases List.mem_cons.1 hk' with rfl | hk'
  ·refine ⟨hk,ha,fun r hr y hy hR=>⟨Nat.le_trans h.r.only.size (hf r hr y hy hR),fun e=>?_⟩⟩
   have h2:=(h.box _ e).2.1
   have h1:=hf r hr y hy hR
   omega
  ·obtain ⟨h1,h2,h3⟩:=h.kid k hk'
   have key:∀r∈k.rows,r.Ok x':=fun r hr=>Nd.rw_keep (kd_rows_ok h1 r hr) fun y hy hR=>hc.only.block _ (rw_lt (kd_rows_ok h1 r hr) y hy hR) (fun e=>e.elim (h2 r hr y hy hR) (hgk k hk' r hr y hy hR))
   refine ⟨⟨h1.len,h1.ok,key _ (by simp [Kd.rows]),key _ (by simp [Kd.rows]),key _ (by simp [Kd.rows]),h1.live,h1.size⟩,fun r hr y hy hR e=>?_,h3⟩
   rcases hc.new _ e with e | e
   ·exact h2 r hr y hy hR e
   ·have:=rw_lt (kd_rows_ok h1 r hr) y hy hR
    omega
 ·obtain ⟨h1,h2,h3⟩:=h.box b hb
  exact hc.only.block b h2 (fun e=>e.elim h3 (fun e=>by omega))
theorem LyS.set (h:LyS w x gs Q Qx s g o n m bs ks) (hg:g<w.heap.size) {b:Nat} (hb:b∈bs) (cs:Array Value):LyS w (x.setRow b cs) gs Q Qx s g o n m bs ks:=by
 obtain ⟨h1,h2,h3⟩:=h.box b hb
 have ho:=only_setRow x b cs
 refine ⟨h.r.set h1 hg h3 cs,(World.cell?_of_block (ho.block g (h.glt hg) (by omega))).trans h.mid,fun c hc=>?_,fun k hk=>?_⟩
 ·obtain ⟨k1,k2,k3⟩:=h.box c hc
  exact ⟨k1,Nat.lt_of_lt_of_le k2 ho.size,k3⟩
 ·obtain ⟨k1,k2,k3⟩:=h.kid k hk
  have key:∀r∈k.rows,r.Ok (x.setRow b cs):=fun r hr=>Nd.rw_keep (kd_rows_ok k1 r hr) fun y hy hR=>ho.block _ (rw_lt (kd_rows_ok k1 r hr) y hy hR) (fun e=>(k3 r hr y hy hR).2 (by rw [e];exact hb))
  exact ⟨⟨k1.len,k1.ok,key _ (by simp [Kd.rows]),key _ (by simp [Kd.rows]),key _ (by simp [Kd.rows]),k1.live,k1.size⟩,k2,k3⟩
theorem LyS.less {bs':List Nat} {ks':List Kd} (h:LyS w x gs Q Qx s g o n m bs ks) (hb:∀b∈bs',b∈bs) (hk:∀k∈ks',k∈ks):LyS w x gs Q Qx s g o n m bs' ks':=
 ⟨h.r,h.mid,fun b hb'=>h.box b (hb b hb'),fun k hk'=>⟨(h.kid k (hk k hk')).1,(h.kid k (hk k hk')).2.1,fun r hr y hy hR=>⟨((h.kid k (hk k hk')).2.2 r hr y hy hR).1,fun e=>((h.kid k (hk k hk')).2.2 r hr y hy hR).2 (hb _ e)⟩⟩⟩
end
def exT:T:=.fork [2] true (.fork [1] true .nil .nil) (.fork [3] true .nil .nil)
def ex4:T:=.fork [4] true .nil .nil
def ex5:T:=.fork [4] true .nil (.fork [5] true .nil .nil)
def ex6:T:=.fork [4] true .nil (.fork [5] true .nil (.fork [6] true .nil .nil))
theorem ex_lay:lay [[3],[1],[2]] 0=exT:=by
 unfold exT
 rfl
def exPages:List (List Nat):=exT.pages++(ex4.pages++ex5.pages++ex6.pages)
theorem ex_clean:(puts ⟨[],none⟩ exPages).cl=none:=by decide+kernel
end Go.Proofs.YtinihaflmdihaaaGreat.Kt
namespace Go.Proofs.YtinihaflmdihaaaGreat.Nd
open Go.RowKit
def readE (m:Int):Nat→Rd→List PE→List PE×Rd
 | 0,s,L=>(L,s)
 | n+1,s,L=>readE m n (s.entN m) (L++[s.entV m])
def readK (m:Int):Nat→Rd→List PK→List PK×Rd
 | 0,s,L=>(L,s)
 | n+1,s,L=>readK m n (s.kidN m) (L++[s.kidV m])
theorem readE_go {m:Int} {n:Nat} {s:Rd} {L:List PE} (hn:0<n):readE m n s L=readE m (n - 1) (s.entN m) (L++[s.entV m]):=by
 obtain ⟨k,rfl⟩:∃k,n=k+1:=⟨n - 1,by omega⟩
 rfl
theorem readK_go {m:Int} {n:Nat} {s:Rd} {L:List PK} (hn:0<n):readK m n s L=readK m (n - 1) (s.kidN m) (L++[s.kidV m]):=by
 obtain ⟨k,rfl⟩:∃k,n=k+1:=⟨n - 1,by omega⟩
 rfl
theorem readE_R {m:Int}:∀(n:Nat) (s:Rd) (L:List PE),Sm.allB s.R→Sm.allB (readE m n s L).2.R∧(readE m n s L).2.R.length≤s.R.length
 | 0,s,L,h=>⟨h,Nat.le_refl _⟩
 | n+1,s,L,h=>by
  have h1:=ent_R (m:=m) h
  have h2:=readE_R (m:=m) n (s.entN m) (L++[s.entV m]) h1.1
  exact ⟨h2.1,Nat.le_trans h2.2 h1.2⟩
structure RdN where
 kind:Nat
 n1:Nat
 s2:Rd
 T1:List PE×Rd
 n2:Nat
 s4:Rd
 T2:List PK×Rd
def rdN (m:Int) (B:List Nat):RdN:=
 let s0:Rd:=⟨B,0⟩
 let s1:=s0.past 1
 let s2:=s1.past 1
 let T1:=readE m (Cm.val (s1.part 1)) s2 []
 let s4:=T1.2.past 1
 ⟨Cm.val (s0.part 1),Cm.val (s1.part 1),s2,T1,Cm.val (T1.2.part 1),s4,readK m (Cm.val (T1.2.part 1)) s4 []⟩
def RdN.node (x:RdN):PN:=⟨x.kind,x.T1.1,x.T2.1⟩
def RdN.good (x:RdN) (d:Int):Prop:=x.T2.2.e=0∧x.T2.2.R=[]∧x.node.right d=true
theorem rdN_bounds {m:Int} {B:List Nat} (h:Sm.allB B):(rdN m B).kind<256∧(rdN m B).n1<256∧(rdN m B).n2<256∧Sm.allB (rdN m B).s2.R∧(rdN m B).s2.R.length≤B.length∧Sm.allB (rdN m B).T1.2.R∧(rdN m B).T1.2.R.length≤B.length∧Sm.allB (rdN m B).s4.R∧(rdN m B).s4.R.length≤B.length∧((Rd.mk B 0).past 1).R.length≤B.length:=by
 have b0:Sm.allB (Rd.mk B 0).R:=h
 have a1:=past_okR (n:=1) b0
 have l1:((Rd.mk B 0).past 1).R.length≤B.length:=Rd.past_len ⟨B,0⟩ 1
 have a2:=past_okR (n:=1) a1
 have l2:=Nat.le_trans (Rd.past_len ((Rd.mk B 0).past 1) 1) l1
 have e:=readE_R (m:=m) (Cm.val (((Rd.mk B 0).past 1).part 1)) (((Rd.mk B 0).past 1).past 1) [] a2
 have l3:=Nat.le_trans e.2 l2
 have a4:=past_okR (n:=1) e.1
 have l4:=Nat.le_trans (Rd.past_len _ 1) l3
 exact ⟨val1 b0,val1 a1,val1 e.1,a2,l2,e.1,l3,a4,l4,l1⟩
theorem past_split {s:Rd} {n:Nat} (h:(s.past n).e=0):s.e=0∧s.R=s.part n++(s.past n).R∧(s.part n).length=n:=by
 by_cases hf:s.fits n
 ·unfold Rd.past Rd.part
  rw [if_pos hf,if_pos hf]
  exact ⟨hf.1,(List.take_append_drop n s.R).symm,by rw [List.length_take];have:=hf.2;omega⟩
 ·exfalso
  unfold Rd.past at h
  rw [if_neg hf] at h
  unfold Rd.refuse at h
  split at h
  ·simp at h
  ·rename_i k
   exact k h
theorem byte_back {s:Rd} (h:(s.past 1).e=0):s.e=0∧s.R=Cm.val (s.part 1)::(s.past 1).R:=by
 obtain ⟨h0,h1,h2⟩:=past_split h
 rcases part1 s with hp | ⟨b,hp⟩
 ·rw [hp] at h2
  simp at h2
 ·rw [hp] at h1
  rw [hp,val_one]
  exact ⟨h0,h1⟩
theorem truth_back {s:Rd} (h:s.truth.e=0):s.e=0∧s.R=(if s.truthV then 1 else 0)::s.truth.R:=by
 unfold Rd.truth at h ⊢
 by_cases hc:(s.past 1).e=0∧1<Cm.val (s.part 1)
 ·rw [if_pos hc] at h
  simp at h
 ·rw [if_neg hc] at h ⊢
  obtain ⟨h0,h1⟩:=byte_back h
  have hv:Cm.val (s.part 1)=if s.truthV then 1 else 0:=by
   unfold Rd.truthV
   by_cases h2:Cm.val (s.part 1)=1
   ·rw [decide_eq_true (show (s.past 1).e=0∧Cm.val (s.part 1)=1 from ⟨h,h2⟩),if_pos rfl]
    exact h2
   ·rw [decide_eq_false (fun k=>h2 k.2)]
    have:¬1<Cm.val (s.part 1):=fun k=>hc ⟨h,k⟩
    simp only [Bool.false_eq_true,if_false]
    omega
  rw [← hv]
  exact ⟨h0,h1⟩
theorem num_back {s:Rd} (hR:Sm.allB s.R) (h:(s.past 8).e=0):s.e=0∧s.R=Cm.num s.numV++(s.past 8).R:=by
 obtain ⟨h0,h1,h2⟩:=past_split h
 have ho:=Rd.part_ok hR 8
 have hn:s.part 8≠[]:=by
  intro e
  rw [e] at h2
  simp at h2
 have hv:Cm.num s.numV=s.part 8:=by
  unfold Cm.num Rd.numV
  rw [if_neg hn]
  have e:Cm.z64 (((Cm.val (s.part 8):Nat):Int) - 9223372036854775808)=Cm.val (s.part 8):=by
   unfold Cm.z64
   omega
  rw [e]
  have:=Cm.be_val ho
  rw [h2] at this
  exact this
 rw [hv]
 exact ⟨h0,h1⟩
theorem readN_back:∀(n:Nat) (s:Rd) (L:List Int),Sm.allB s.R→(readN n s L).2.e=0→s.e=0∧∃M,(readN n s L).1=L++M∧M.length=n∧s.R=Go.Proofs.YtinihaflmdihaaaGreat.nums M++(readN n s L).2.R
 | 0,s,L,_,h=>⟨h,[],by simp [readN],rfl,rfl⟩
 | n+1,s,L,hR,h=>by
  by_cases he:s.e=0
  ·rw [readN_go he (Nat.succ_pos n),Nat.succ_sub_one] at h ⊢
   obtain ⟨h1,M,h2,h3,h4⟩:=readN_back n _ _ (past_okR hR) h
   obtain ⟨-,h5⟩:=num_back hR h1
   refine ⟨he,s.numV::M,by rw [h2,List.append_assoc];rfl,by rw [List.length_cons,h3],?_⟩
   rw [h5,h4]
   show _=(Cm.num s.numV++Go.Proofs.YtinihaflmdihaaaGreat.nums M)++_
   rw [List.append_assoc]
  ·rw [readN_no he] at h
   exact absurd h he
theorem row_back {s:Rd} {m:Int} (hR:Sm.allB s.R) (h:(s.row m).2.e=0):s.e=0∧s.R=rowBs (s.rowV m)++(s.row m).2.R∧∀m':Int,((s.rowV m).length:Int)≤m'→s.row m'=s.row m:=by
 have h':(readN (Cm.val (s.part 1)) (s.rowN m) []).2.e=0:=h
 obtain ⟨he,M,h1,h2,h3⟩:=readN_back _ _ _ (rowN_okR hR) h'
 have hc:¬((s.past 1).e=0∧m<(Cm.val (s.part 1):Nat)):=by
  intro hc
  unfold Rd.rowN at he
  rw [if_pos hc] at he
  simp at he
 have hr:s.rowN m=s.past 1:=by
  unfold Rd.rowN
  rw [if_neg hc]
 have hv:s.rowV m=M:=by
  unfold Rd.rowV
  rw [if_pos h]
  exact h1
 rw [hr] at he h3
 obtain ⟨h0,h4⟩:=byte_back he
 have h5:=val1 hR
 refine ⟨h0,?_,fun m' hm'=>?_⟩
 ·rw [h4,h3,hv]
  unfold rowBs
  rw [h2,Nat.mod_eq_of_lt h5]
  show _=_::(Go.Proofs.YtinihaflmdihaaaGreat.nums M++(readN (Cm.val (s.part 1)) (s.rowN m) []).2.R)
  rw [hr]
 ·rw [hv,h2] at hm'
  have hr':s.rowN m'=s.past 1:=by
   unfold Rd.rowN
   rw [if_neg (fun k=>by have:=k.2;omega)]
  unfold Rd.row
  rw [hr,hr']
theorem rowV_of {s:Rd} {m m':Int} (h:s.row m'=s.row m):s.rowV m'=s.rowV m:=by
 unfold Rd.rowV
 rw [h]
theorem count_back {s:Rd} (hR:Sm.allB s.R) (h:(s.count 1048576).e=0):s.e=0∧s.R=Cm.be (s.countV 1048576).toNat 3++(s.count 1048576).R:=by
 unfold Rd.count at h ⊢
 unfold Rd.countV
 by_cases hc:min (1048576:Int) 1048576<(Cm.val (s.part 3):Nat)
 ·rw [if_pos hc] at h
  exfalso
  unfold Rd.refuse at h
  split at h
  ·simp at h
  ·rename_i k
   exact k h
 ·rw [if_neg hc] at h ⊢
  rw [if_neg hc]
  obtain ⟨h0,h1,h2⟩:=past_split h
  have:=Cm.be_val (Rd.part_ok hR 3)
  rw [h2] at this
  rw [Int.toNat_natCast,this]
  exact ⟨h0,h1⟩
theorem dig_back {s:Rd} (h:(s.past 32).e=0):s.e=0∧s.R=s.digV++(s.past 32).R:=by
 obtain ⟨h0,h1,h2⟩:=past_split h
 have e:s.digV=s.part 32:=by
  unfold Rd.digV
  rw [h2]
  simp [zeros]
 rw [e]
 exact ⟨h0,h1⟩
theorem ent_back {s:Rd} {m:Int} (hR:Sm.allB s.R) (h:(s.entN m).e=0):s.e=0∧s.R=(s.entV m).bytes++(s.entN m).R∧∀m':Int,((s.entV m).row.length:Int)≤m'→s.entN m'=s.entN m∧s.entV m'=s.entV m:=by
 obtain ⟨h1,h2,h3⟩:=row_back (truth_R hR).1 h
 obtain ⟨h4,h5⟩:=truth_back h1
 refine ⟨h4,?_,fun m' hm'=>?_⟩
 ·rw [h5,h2]
  rfl
 ·have h6:=h3 m' hm'
  unfold Rd.entN Rd.entV
  rw [rowV_of h6,h6]
  exact ⟨rfl,rfl⟩
theorem kid_back {s:Rd} {m:Int} (hR:Sm.allB s.R) (h:(s.kidN m).e=0):s.e=0∧s.R=(s.kidV m).bytes++(s.kidN m).R∧∀m':Int,((s.kidV m).lo.length:Int)≤m'→((s.kidV m).hi.length:Int)≤m'→((s.kidV m).key.length:Int)≤m'→s.kidN m'=s.kidN m∧s.kidV m'=s.kidV m:=by
 have e1:s.past 32=s.k1:=rfl
 have e2:s.k1.count 1048576=s.k2:=rfl
 have e3:s.k2.count 1048576=s.k3:=rfl
 have e4:(s.k3.row m).2=s.k4 m:=rfl
 have e5:((s.k4 m).row m).2=s.k5 m:=rfl
 have e6:((s.k5 m).row m).2=s.kidN m:=rfl
 rw [← e6] at h
 obtain ⟨h5,r5,q5⟩:=row_back (k5_R hR).1 h
 rw [← e5] at h5
 obtain ⟨h4,r4,q4⟩:=row_back (k4_R hR).1 h5
 rw [← e4] at h4
 obtain ⟨h3,r3,q3⟩:=row_back (k3_R hR).1 h4
 rw [← e3] at h3
 obtain ⟨h2,r2⟩:=count_back (k2_R hR).1 h3
 rw [← e2] at h2
 obtain ⟨h1,r1⟩:=count_back (k1_R hR).1 h2
 rw [← e1] at h1
 obtain ⟨h0,r0⟩:=dig_back h1
 refine ⟨h0,?_,fun m' l1 l2 l3=>?_⟩
 ·rw [r0,e1,r1,e2,r2,e3,r3,e4,r4,e5,r5,e6]
  unfold Rd.kidV PK.bytes
  simp only [List.append_assoc]
 ·unfold Rd.kidV at l1 l2 l3
  simp only at l1 l2 l3
  have g3:=q3 m' l1
  have g4':s.k4 m'=s.k4 m:=by
   unfold Rd.k4
   rw [g3]
  have g4:=q4 m' l2
  have g5':s.k5 m'=s.k5 m:=by
   unfold Rd.k5
   rw [g4',g4]
  have g5:=q5 m' l3
  unfold Rd.kidN Rd.kidV
  rw [g5',g4',g5,rowV_of g5,rowV_of g4,rowV_of g3]
  exact ⟨rfl,rfl⟩
theorem readE_back {m:Int}:∀(n:Nat) (s:Rd) (L:List PE),Sm.allB s.R→(readE m n s L).2.e=0→s.e=0∧∃M,(readE m n s L).1=L++M∧M.length=n∧s.R=M.flatMap PE.bytes++(readE m n s L).2.R∧∀m':Int,(∀e∈M,(e.row.length:Int)≤m')→readE m' n s L=readE m n s L
 | 0,s,L,_,h=>⟨h,[],by simp [readE],rfl,rfl,fun _ _=>rfl⟩
 | n+1,s,L,hR,h=>by
  have h':(readE m n (s.entN m) (L++[s.entV m])).2.e=0:=h
  obtain ⟨h1,M,h2,h3,h4,h5⟩:=readE_back n _ _ (ent_R (m:=m) hR).1 h'
  obtain ⟨h6,h7,h8⟩:=ent_back hR h1
  refine ⟨h6,s.entV m::M,?_,by rw [List.length_cons,h3],?_,fun m' hm'=>?_⟩
  ·show (readE m n (s.entN m) (L++[s.entV m])).1=_
   rw [h2,List.append_assoc]
   rfl
  ·show _=_++(readE m n (s.entN m) (L++[s.entV m])).2.R
   rw [h7,h4,List.flatMap_cons]
   simp only [List.append_assoc]
  ·show readE m' n (s.entN m') (L++[s.entV m'])=readE m n (s.entN m) (L++[s.entV m])
   obtain ⟨g1,g2⟩:=h8 m' (hm' _ (by simp))
   rw [g1,g2]
   exact h5 m' (fun e he=>hm' e (by simp [he]))
theorem readK_back {m:Int}:∀(n:Nat) (s:Rd) (L:List PK),Sm.allB s.R→(readK m n s L).2.e=0→s.e=0∧∃M,(readK m n s L).1=L++M∧M.length=n∧s.R=M.flatMap PK.bytes++(readK m n s L).2.R∧∀m':Int,(∀k∈M,(k.lo.length:Int)≤m'∧(k.hi.length:Int)≤m'∧(k.key.length:Int)≤m')→readK m' n s L=readK m n s L
 | 0,s,L,_,h=>⟨h,[],by simp [readK],rfl,rfl,fun _ _=>rfl⟩
 | n+1,s,L,hR,h=>by
  have h':(readK m n (s.kidN m) (L++[s.kidV m])).2.e=0:=h
  obtain ⟨h1,M,h2,h3,h4,h5⟩:=readK_back n _ _ (kid_R (m:=m) hR).1 h'
  obtain ⟨h6,h7,h8⟩:=kid_back hR h1
  refine ⟨h6,s.kidV m::M,?_,by rw [List.length_cons,h3],?_,fun m' hm'=>?_⟩
  ·show (readK m n (s.kidN m) (L++[s.kidV m])).1=_
   rw [h2,List.append_assoc]
   rfl
  ·show _=_++(readK m n (s.kidN m) (L++[s.kidV m])).2.R
   rw [h7,h4,List.flatMap_cons]
   simp only [List.append_assoc]
  ·show readK m' n (s.kidN m') (L++[s.kidV m'])=readK m n (s.kidN m) (L++[s.kidV m])
   obtain ⟨k1,k2,k3⟩:=hm' (s.kidV m) (by simp)
   obtain ⟨g1,g2⟩:=h8 m' k1 k2 k3
   rw [g1,g2]
   exact h5 m' (fun e he=>hm' e (by simp [he]))
theorem rdN_back {m:Int} {B:List Nat} (hB:Sm.allB B) (h:(rdN m B).T2.2.e=0) (hR:(rdN m B).T2.2.R=[]):
  (rdN m B).node.bytes=B∧∀m':Int,(∀e∈(rdN m B).node.rows,(e.row.length:Int)≤m')→(∀k∈(rdN m B).node.kids,(k.lo.length:Int)≤m'∧(k.hi.length:Int)≤m'∧(k.key.length:Int)≤m')→rdN m' B=rdN m B:=by
 have b0:Sm.allB (Rd.mk B 0).R:=hB
 have a1:=past_okR (n:=1) b0
 have a2:=past_okR (n:=1) a1
 have a3:=readE_R (m:=m) (Cm.val (((Rd.mk B 0).past 1).part 1)) (((Rd.mk B 0).past 1).past 1) [] a2
 have a4:=past_okR (n:=1) a3.1
 have n1:=val1 a1
 have n2:=val1 a3.1
 unfold RdN.node
 unfold rdN at h hR ⊢
 simp only at h hR ⊢
 obtain ⟨h4,K,e4,l4,r4,q4⟩:=readK_back (m:=m) _ _ _ a4 h
 obtain ⟨h3,r3⟩:=byte_back h4
 obtain ⟨h2,E,e2,l2,r2,q2⟩:=readE_back (m:=m) _ _ _ a2 h3
 obtain ⟨h1,r1⟩:=byte_back h2
 obtain ⟨h0,r0⟩:=byte_back h1
 have r0:B=Cm.val ((Rd.mk B 0).part 1)::((Rd.mk B 0).past 1).R:=r0
 rw [List.nil_append] at e4 e2
 rw [hR,List.append_nil] at r4
 constructor
 ·unfold PN.bytes
  simp only
  rw [e2,e4,l2,l4,Nat.mod_eq_of_lt n1,Nat.mod_eq_of_lt n2,← r4,← r3,← r2,← r1,← r0]
 ·intro m' hE hK
  rw [e2] at hE
  rw [e4] at hK
  have g2:=q2 m' hE
  rw [g2,q4 m' hK]
theorem good_bytes {m d:Int} {B:List Nat} (hB:Sm.allB B) (h:(rdN m B).good d):(rdN m B).node.bytes=B:=(rdN_back hB h.1 h.2.1).1
end Go.Proofs.YtinihaflmdihaaaGreat.Nd
namespace Go.Proofs.YtinihaflmdihaaaGreat.Nd
open Go.RowKit Go.Proofs.YtinihaflmdihaaaGreat.Pg
theorem cons_part (b:Nat) (R:List Nat):(Rd.mk (b::R) 0).part 1=[b]∧(Rd.mk (b::R) 0).past 1=⟨R,0⟩:=good_part [b] R 1 rfl
theorem num_forth {x:Int} (h:In64 x) (R:List Nat):(Rd.mk (Cm.num x++R) 0).numV=x∧(Rd.mk (Cm.num x++R) 0).past 8=⟨R,0⟩:=by
 obtain ⟨h1,h2⟩:=good_part (Cm.num x) R 8 (Cm.num_length x)
 refine ⟨?_,h2⟩
 unfold Rd.numV
 rw [h1,if_neg (fun e=>by have:=Cm.num_length x;rw [e] at this;simp at this)]
 unfold Cm.num
 rw [Cm.val_be]
 obtain ⟨k1,k2⟩:=Cm.z64_lt h.1 h.2
 rw [Nat.mod_eq_of_lt (Nat.lt_of_lt_of_le k1 (by decide))]
 omega
theorem readN_forth:∀(L:List Int) (R:List Nat) (A:List Int),(∀x∈L,In64 x)→readN L.length ⟨Go.Proofs.YtinihaflmdihaaaGreat.nums L++R,0⟩ A=(A++L,⟨R,0⟩)
 |[],R,A,_=>by simp [readN,Go.Proofs.YtinihaflmdihaaaGreat.nums]
 | x::L,R,A,h=>by
  obtain ⟨h1,h2⟩:=num_forth (h x (by simp)) (Go.Proofs.YtinihaflmdihaaaGreat.nums L++R)
  have e:Go.Proofs.YtinihaflmdihaaaGreat.nums (x::L)++R=Cm.num x++(Go.Proofs.YtinihaflmdihaaaGreat.nums L++R):=by
   rw [← List.append_assoc]
   rfl
  rw [e,List.length_cons,readN_go rfl (Nat.succ_pos _),Nat.succ_sub_one,h1,h2,readN_forth L R _ fun y hy=>h y (by simp [hy]),List.append_assoc]
  rfl
theorem row_forth {L:List Int} {m:Int} (h:∀x∈L,In64 x) (hl:L.length≤8) (hm:(L.length:Int)≤m) (R:List Nat):(Rd.mk (rowBs L++R) 0).row m=(L,⟨R,0⟩)∧(Rd.mk (rowBs L++R) 0).rowV m=L:=by
 obtain ⟨h1,h2⟩:=cons_part (L.length%256) (Go.Proofs.YtinihaflmdihaaaGreat.nums L++R)
 have hr:(Rd.mk (rowBs L++R) 0).row m=(L,⟨R,0⟩):=by
  unfold Rd.row Rd.rowN
  rw [show rowBs L++R=L.length%256::(Go.Proofs.YtinihaflmdihaaaGreat.nums L++R) from rfl,h1,h2,val_one,Nat.mod_eq_of_lt (by omega),if_neg (fun k=>by have:=k.2;omega),readN_forth L R [] h]
  rfl
 refine ⟨hr,?_⟩
 unfold Rd.rowV
 rw [hr]
 rfl
theorem truth_forth (v:Bool) (R:List Nat):(Rd.mk ((if v then 1 else 0)::R) 0).truth=⟨R,0⟩∧(Rd.mk ((if v then 1 else 0)::R) 0).truthV=v:=by
 obtain ⟨h1,h2⟩:=cons_part (if v then 1 else 0) R
 unfold Rd.truth Rd.truthV
 rw [h1,h2,val_one]
 cases v
 ·simp
 ·simp
theorem count_forth {n:Int} (h0:0≤n) (h1:n≤1048576) (R:List Nat):(Rd.mk (Cm.be n.toNat 3++R) 0).count 1048576=⟨R,0⟩∧(Rd.mk (Cm.be n.toNat 3++R) 0).countV 1048576=n:=by
 obtain ⟨g1,g2⟩:=good_part (Cm.be n.toNat 3) R 3 (Cm.be_length _ _)
 have hv:((Cm.val (Cm.be n.toNat 3):Nat):Int)=n:=by
  rw [Cm.val_be,Nat.mod_eq_of_lt (Nat.lt_of_lt_of_le (show n.toNat<1048577 by omega) (by decide))]
  omega
 have hn:¬min (1048576:Int) 1048576<(Cm.val (Cm.be n.toNat 3):Nat):=by
  rw [hv]
  omega
 unfold Rd.count Rd.countV
 rw [g1,g2,if_neg hn,if_neg hn,hv]
 exact ⟨rfl,rfl⟩
theorem dig_forth {D:List Nat} (h:D.length=32) (R:List Nat):(Rd.mk (D++R) 0).past 32=⟨R,0⟩∧(Rd.mk (D++R) 0).digV=D:=by
 obtain ⟨g1,g2⟩:=good_part D R 32 h
 refine ⟨g2,?_⟩
 unfold Rd.digV
 rw [g1,h]
 simp [zeros]
def PE.Nums (e:PE):Prop:=∀x∈e.row,In64 x
def PK.Nums (k:PK):Prop:=k.sum.length=32∧Sm.allB k.sum∧(∀x∈k.lo,In64 x)∧(∀x∈k.hi,In64 x)∧∀x∈k.key,In64 x
structure PN.Nums (n:PN):Prop where
 rows:∀e∈n.rows,e.Nums
 kids:∀k∈n.kids,k.Nums
theorem ent_forth {e:PE} (h:e.Nums) (hl:e.row.length≤8) (R:List Nat):(Rd.mk (e.bytes++R) 0).entN 8=⟨R,0⟩∧(Rd.mk (e.bytes++R) 0).entV 8=e:=by
 have e1:e.bytes++R=(if e.live then 1 else 0)::(rowBs e.row++R):=rfl
 obtain ⟨h1,h2⟩:=truth_forth e.live (rowBs e.row++R)
 obtain ⟨h3,h4⟩:=row_forth (m:=8) h hl (by omega) R
 unfold Rd.entN Rd.entV
 rw [e1,h1,h2,h3,h4]
 exact ⟨rfl,rfl⟩
theorem kid_forth {k:PK} (h:k.Nums) (hf:k.Fit) (R:List Nat):(Rd.mk (k.bytes++R) 0).kidN 8=⟨R,0⟩∧(Rd.mk (k.bytes++R) 0).kidV 8=k:=by
 have e1:k.bytes++R=k.sum++(Cm.be k.live.toNat 3++(Cm.be k.size.toNat 3++(rowBs k.lo++(rowBs k.hi++(rowBs k.key++R))))):=by
  unfold PK.bytes
  simp only [List.append_assoc]
 obtain ⟨h1,h2,h3,h4,h5⟩:=h
 obtain ⟨a1,a2⟩:=dig_forth h1 (Cm.be k.live.toNat 3++(Cm.be k.size.toNat 3++(rowBs k.lo++(rowBs k.hi++(rowBs k.key++R)))))
 obtain ⟨b1,b2⟩:=count_forth (n:=k.live) (by have:=hf.live;omega) (by have:=hf.live;omega) (Cm.be k.size.toNat 3++(rowBs k.lo++(rowBs k.hi++(rowBs k.key++R))))
 obtain ⟨c1,c2⟩:=count_forth (n:=k.size) (by have:=hf.size;omega) (by have:=hf.size;omega) (rowBs k.lo++(rowBs k.hi++(rowBs k.key++R)))
 obtain ⟨d1,d2⟩:=row_forth (m:=8) h3 (by have:=hf.lo;omega) (by have:=hf.lo;omega) (rowBs k.hi++(rowBs k.key++R))
 obtain ⟨f1,f2⟩:=row_forth (m:=8) h4 (by have:=hf.hi;omega) (by have:=hf.hi;omega) (rowBs k.key++R)
 obtain ⟨g1,g2⟩:=row_forth (m:=8) h5 (by have:=hf.key;omega) (by have:=hf.key;omega) R
 unfold Rd.kidN Rd.kidV Rd.k5 Rd.k4 Rd.k3 Rd.k2 Rd.k1
 rw [e1,a1,a2,b1,b2,c1,c2,d1,d2,f1,f2,g1,g2]
 exact ⟨rfl,rfl⟩
theorem readE_forth:∀(E:List PE) (R:List Nat) (A:List PE),(∀e∈E,e.Nums∧e.row.length≤8)→readE 8 E.length ⟨E.flatMap PE.bytes++R,0⟩ A=(A++E,⟨R,0⟩)
 |[],R,A,_=>by simp [readE]
 | e::E,R,A,h=>by
  obtain ⟨h1,h2⟩:=ent_forth (h e (by simp)).1 (h e (by simp)).2 (E.flatMap PE.bytes++R)
  rw [List.flatMap_cons,List.append_assoc]
  show readE 8 E.length ((Rd.mk (e.bytes++(E.flatMap PE.bytes++R)) 0).entN 8) (A++[(Rd.mk (e.bytes++(E.flatMap PE.bytes++R)) 0).entV 8])=_
  rw [h1,h2,readE_forth E R _ fun x hx=>h x (by simp [hx]),List.append_assoc]
  rfl
theorem readK_forth:∀(K:List PK) (R:List Nat) (A:List PK),(∀k∈K,k.Nums∧k.Fit)→readK 8 K.length ⟨K.flatMap PK.bytes++R,0⟩ A=(A++K,⟨R,0⟩)
 |[],R,A,_=>by simp [readK]
 | k::K,R,A,h=>by
  obtain ⟨h1,h2⟩:=kid_forth (h k (by simp)).1 (h k (by simp)).2 (K.flatMap PK.bytes++R)
  rw [List.flatMap_cons,List.append_assoc]
  show readK 8 K.length ((Rd.mk (k.bytes++(K.flatMap PK.bytes++R)) 0).kidN 8) (A++[(Rd.mk (k.bytes++(K.flatMap PK.bytes++R)) 0).kidV 8])=_
  rw [h1,h2,readK_forth K R _ fun x hx=>h x (by simp [hx]),List.append_assoc]
  rfl
theorem rdN_forth {n:PN} (h:n.Nums) (hf:n.Fit) (hk:n.kind<256):(rdN 8 n.bytes).node=n∧(rdN 8 n.bytes).T2.2.e=0∧(rdN 8 n.bytes).T2.2.R=[]:=by
 have hr:=hf.rows
 have hkk:=hf.kids
 have e1:n.bytes=n.kind::(n.rows.length::(n.rows.flatMap PE.bytes++(n.kids.length::(n.kids.flatMap PK.bytes++[])))):=by
  unfold PN.bytes
  rw [Nat.mod_eq_of_lt (by omega),Nat.mod_eq_of_lt (by omega),List.append_nil]
 obtain ⟨a1,a2⟩:=cons_part n.kind (n.rows.length::(n.rows.flatMap PE.bytes++(n.kids.length::(n.kids.flatMap PK.bytes++[]))))
 obtain ⟨b1,b2⟩:=cons_part n.rows.length (n.rows.flatMap PE.bytes++(n.kids.length::(n.kids.flatMap PK.bytes++[])))
 have c:=readE_forth n.rows (n.kids.length::(n.kids.flatMap PK.bytes++[])) [] fun e he=>⟨h.rows e he,hf.row e he⟩
 obtain ⟨d1,d2⟩:=cons_part n.kids.length (n.kids.flatMap PK.bytes++[])
 have f:=readK_forth n.kids [] [] fun k hk=>⟨h.kids k hk,hf.kid k hk⟩
 unfold RdN.node rdN
 simp only
 rw [e1,a1,a2,b1,b2,val_one,val_one,c]
 simp only
 rw [d1,d2,val_one,f]
 exact ⟨rfl,rfl,rfl⟩
theorem bytes_ok {n:PN} (h:n.Nums) (hk:n.kind<256):Sm.allB n.bytes:=by
 intro x hx
 unfold PN.bytes at hx
 simp only [List.mem_cons,List.mem_append,List.mem_flatMap] at hx
 rcases hx with rfl | rfl | ⟨e,he,hx⟩ | rfl | ⟨k,hk',hx⟩
 ·exact hk
 ·exact Nat.mod_lt _ (by omega)
 ·unfold PE.bytes at hx
  rcases List.mem_cons.1 hx with rfl | hx
  ·split<;>omega
  ·exact rowBs_ok _ x hx
 ·exact Nat.mod_lt _ (by omega)
 ·unfold PK.bytes at hx
  simp only [List.mem_append] at hx
  rcases hx with hx | hx | hx | hx | hx | hx
  ·exact (h.kids k hk').2.1 x hx
  ·exact Cm.be_ok _ _ x hx
  ·exact Cm.be_ok _ _ x hx
  ·exact rowBs_ok _ x hx
  ·exact rowBs_ok _ x hx
  ·exact rowBs_ok _ x hx
structure Txt (d:Int) (t:List Nat) (n:PN):Prop where
 ok:Sm.allB t
 len:t.length≤100000
 good:(rdN 8 t).good d
 node:(rdN 8 t).node=n
 size:n.size≤1048576
theorem Txt.right {d:Int} {t:List Nat} {n:PN} (h:Txt d t n):n.right d=true:=by
 rw [← h.node]
 exact h.good.2.2
theorem Txt.bytes {d:Int} {t:List Nat} {n:PN} (h:Txt d t n):n.bytes=t:=by
 rw [← h.node]
 exact good_bytes h.ok h.good
theorem kind_small {n:PN} {d:Int} (h:n.right d=true):n.kind<256:=by
 unfold PN.right at h
 repeat' split at h
 all_goals first | omega | cases h
theorem txt_of {n:PN} {d:Int} (h:n.Nums) (hr:n.right d=true) (hz:n.size≤1048576):Txt d n.bytes n:=by
 obtain ⟨h1,h2,h3⟩:=rdN_forth h (PN.fit hr) (kind_small hr)
 refine ⟨bytes_ok h (kind_small hr),node_bytes_len (PN.fit hr) (fun k hk=>(h.kids k hk).1),⟨h2,h3,by rw [h1];exact hr⟩,h1,hz⟩
theorem entV_in {s:Rd} {m:Int} (h:Sm.allB s.R):(s.entV m).Nums:=rowV_in (truth_R h).1
theorem kidV_in {s:Rd} {m:Int} (h:Sm.allB s.R):(s.kidV m).Nums:=by
 have h3:=(k3_R h).1
 have h4:=(k4_R (m:=m) h).1
 have h5:=(k5_R (m:=m) h).1
 have e3:=rowV_in (m:=m) h3
 have e4:=rowV_in (m:=m) h4
 have e5:=rowV_in (m:=m) h5
 unfold Rd.kidV PK.Nums
 simp only
 exact ⟨digV_length s,digV_ok h,e3,e4,e5⟩
theorem readE_in {m:Int}:∀(n:Nat) (s:Rd) (L:List PE),Sm.allB s.R→(∀e∈L,e.Nums)→∀e∈(readE m n s L).1,e.Nums
 | 0,_,_,_,hL=>hL
 | n+1,s,L,hR,hL=>by
  show ∀e∈(readE m n (s.entN m) (L++[s.entV m])).1,e.Nums
  refine readE_in n _ _ (ent_R hR).1 fun x hx=>?_
  rcases List.mem_append.1 hx with hx | hx
  ·exact hL x hx
  ·rw [List.mem_singleton.1 hx]
   exact entV_in hR
theorem readK_in {m:Int}:∀(n:Nat) (s:Rd) (L:List PK),Sm.allB s.R→(∀k∈L,k.Nums)→∀k∈(readK m n s L).1,k.Nums
 | 0,_,_,_,hL=>hL
 | n+1,s,L,hR,hL=>by
  show ∀k∈(readK m n (s.kidN m) (L++[s.kidV m])).1,k.Nums
  refine readK_in n _ _ (kid_R hR).1 fun x hx=>?_
  rcases List.mem_append.1 hx with hx | hx
  ·exact hL x hx
  ·rw [List.mem_singleton.1 hx]
   exact kidV_in hR
theorem rdN_nums {m:Int} {B:List Nat} (hB:Sm.allB B):(rdN m B).node.Nums:=by
 have b0:Sm.allB (Rd.mk B 0).R:=hB
 have a1:=past_okR (n:=1) b0
 have a2:=past_okR (n:=1) a1
 have a3:=readE_R (m:=m) (Cm.val (((Rd.mk B 0).past 1).part 1)) (((Rd.mk B 0).past 1).past 1) [] a2
 have a4:=past_okR (n:=1) a3.1
 exact ⟨readE_in _ _ _ a2 (fun e he=>by cases he),readK_in _ _ _ a4 (fun k hk=>by cases hk)⟩
theorem Txt.nums {d:Int} {t:List Nat} {n:PN} (h:Txt d t n):n.Nums:=by
 rw [← h.node]
 exact rdN_nums h.ok
end Go.Proofs.YtinihaflmdihaaaGreat.Nd
namespace Go.Proofs.YtinihaflmdihaaaGreat.Wl
open Go Go.RowKit
section
variable {P:Program} {ops:Array Oper} {Q:Exit→Act→World→Prop} {md:Region.Mode} {l n:Nat}
theorem opIn_round {i:Nat} {K K':Act→World→Prop} {a:Act} {w:World} (hd:∀(i:Nat) (o:Oper),ops[i]? =some o→∀c,o.op≠ .defer c) (hQ:¬LetsOut Q) (hK:∀a w,K a w→K' a w) (h:wpOp P ops Q i K a w):wpOpIn (Fence.wide.inRound l) n P ops Q i K' a w:=by
 unfold wpOp at h
 unfold wpOpIn
 cases ho:ops[i]? with
 | none=>rw [ho] at h;exact hK _ _ h
 | some o=>
  rw [ho] at h
  simp only at h ⊢
  split
  ·next hw=>
   rw [if_pos hw] at h
   rcases h with h | ⟨_,h⟩
   ·refine ⟨fun _ _=>trivial,?_⟩
    show Oper.uponIn _ n P o a K' Q ((Oper.semAt (some l) a.eval o).run P w)
    rw [Oper.semAt_some l a.eval o (hd i o ho)]
    unfold Oper.wp at h
    generalize (execOp a.eval o).run P w=r at *
    cases r with
    | ok x w'=>
     cases x with
     | value v=>exact hK _ _ h
     | skip=>exact hK _ _ h
     | defer d=>exact hK _ _ h
     | enter f args=>
      refine ⟨fun h=>(by cases h),CallsIn.inRound l (callsIn_wide.2 (Calls.mono h fun e w'' he=>?_))⟩
      cases e with
      | returned v=>exact hK _ _ he
      | panicked c=>exact he
      | outgrown=>exact he
     | row row args=>exact ⟨fun h=>(by cases h),fun c cs _=>by
       obtain ⟨v,w'',r,s⟩:=h c cs
       exact ⟨v,w'',hK _ _ r,stepsIn_wide.2 s⟩⟩
     | _=>exact False.elim h
    | halt x w'=>cases x<;>exact h
   ·exact absurd h hQ
  ·next hw=>
   rw [if_neg hw] at h
   exact ⟨fun _ _=>trivial,hK _ _ h⟩
theorem anyIn_round (hd:∀(i:Nat) (o:Oper),ops[i]? =some o→∀c,o.op≠ .defer c) (hQ:¬LetsOut Q):∀(fuel:Nat) (listed:Array Bool) (a:Act) (w:World),wpAny P md ops Q fuel listed a w→wpAnyIn (Fence.wide.inRound l) n P md ops Q fuel listed a w
 | 0,_,_,_,h=>h
 | fuel+1,_,_,_,h=>⟨h.1,fun i hi=>opIn_round hd hQ (fun a w k=>anyIn_round hd hQ fuel _ a w k) (h.2 i hi)⟩
def Nrm (K:Act→World→Prop):Exit→Act→World→Prop
 | .normal,a,w=>K a w
 | _,_,_=>False
theorem nrm_normal {K:Act→World→Prop} {a:Act} {w:World} (h:K a w):Nrm K .normal a w:=h
theorem nrm_le {Q:Exit→Act→World→Prop}:∀e a w,Nrm (Q .normal) e a w→Q e a w:=fun e a w h=>by
 cases e<;>first | exact h | exact False.elim h
theorem region_nrm {S:World→Prop} {id:Nat} {a:Act} {w:World} (hm:P.follows .mixedOrders=true) (hS:S w.drew) (h:S w.drew→wpAnyH P .any ops (Nrm (Q .normal)) S ops.size (Array.replicate ops.size false) a w.drew):(Code.region id ops true).wp P Q a w:=
 wp_mono (wp_region_held_drew hm hS h) nrm_le
theorem region_round {S:World→Prop} {id:Nat} {a:Act} {w:World} (hm:P.follows .mixedOrders=true) (hd:(ops.toList.all fun o=>match o.op with | .defer _=>false | _=>true)=true) (hS:S w.drew) (h:S w.drew→wpAnyH P .any ops (Nrm (Q .normal)) S ops.size (Array.replicate ops.size false) a w.drew):(Code.region id ops true).wpIn (Fence.wide.inRound l) n P Q a w:=
 wpIn_mono (wpIn_region_any hm (anyIn_round (fun i o ho c hc=>by
  have h1:=List.all_eq_true.1 hd o (Array.mem_toList_iff.2 (Array.mem_of_getElem? ho))
  rw [hc] at h1
  cases h1) (fun ⟨_,_,h⟩=>h) _ _ _ _ (wpAny_of_held _ _ _ _ (h hS)))) nrm_le
end
end Go.Proofs.YtinihaflmdihaaaGreat.Wl
namespace Go.Proofs.YtinihaflmdihaaaGreat.Pg
open Go.RowKit Go.Proofs.YtinihaflmdihaaaGreat.Wl
section
variable {P:Program} {ops:Array Oper} {Q:Exit→Act→World→Prop} {l n:Nat}
theorem oIn_round {o:Oper} {K K':Act→World→Prop} {a:Act} {w:World} (hd:∀c,o.op≠ .defer c) (hQ:¬LetsOut Q) (hK:∀a w,K a w→K' a w) (h:o.wp P a w K Q∨(o.asks P a w∧LetsOut Q)):o.wpIn (Fence.wide.inRound l) n P a w K' Q:=by
 rcases h with h | ⟨_,h⟩
 ·refine ⟨fun _ _=>trivial,?_⟩
  show Oper.uponIn _ n P o a K' Q ((Oper.semAt (some l) a.eval o).run P w)
  rw [Oper.semAt_some l a.eval o hd]
  unfold Oper.wp at h
  generalize (execOp a.eval o).run P w=r at *
  cases r with
  | ok x w'=>
   cases x with
   | value v=>exact hK _ _ h
   | skip=>exact hK _ _ h
   | defer d=>exact hK _ _ h
   | enter f args=>
    refine ⟨fun h=>(by cases h),CallsIn.inRound l (callsIn_wide.2 (Calls.mono h fun e w'' he=>?_))⟩
    cases e with
    | returned v=>exact hK _ _ he
    | panicked c=>exact he
    | outgrown=>exact he
   | row row args=>exact ⟨fun h=>(by cases h),fun c cs _=>by
     obtain ⟨v,w'',r,s⟩:=h c cs
     exact ⟨v,w'',hK _ _ r,stepsIn_wide.2 s⟩⟩
   | _=>exact False.elim h
  | halt x w'=>cases x<;>exact h
 ·exact absurd h hQ
theorem listIn_round (hQ:¬LetsOut Q):∀(L:List Oper),(∀o∈L,∀c,o.op≠ .defer c)→∀(a:Act) (w:World),wpList P ops Q L a w→wpListIn (Fence.wide.inRound l) n P ops Q L a w
 |[],_,_,_,h=>h
 | o::L,hd,a,w,h=>by
  unfold wpList at h
  unfold wpListIn
  split
  ·next hw=>
   rw [if_pos hw] at h
   exact oIn_round (hd o List.mem_cons_self) hQ (listIn_round hQ L (fun x hx=>hd x (List.mem_cons_of_mem _ hx))) h
  ·next hw=>
   rw [if_neg hw] at h
   exact ⟨fun _ _=>trivial,listIn_round hQ L (fun x hx=>hd x (List.mem_cons_of_mem _ hx)) _ _ h⟩
theorem region_list_round {id:Nat} {L:List Oper} {a:Act} {w:World} (hd:(L.all fun o=>match o.op with | .defer _=>false | _=>true)=true) (h:wpList P L.toArray (Nrm (Q .normal)) L a w):(Code.region id L.toArray false).wpIn (Fence.wide.inRound l) n P Q a w:=
 wpIn_mono (wpIn_region_list (by
  refine listIn_round (fun ⟨_,_,h⟩=>h) _ (fun o ho c hc=>?_) _ _ (by simpa using h)
  have h1:=List.all_eq_true.1 hd o (by simpa using ho)
  rw [hc] at h1
  cases h1)) nrm_le
end
abbrev DG:={d:List Nat//d.length=32∧Sm.allB d}
instance:Inhabited DG:=⟨⟨zeros 32,by simp [zeros],zeros_ok 32⟩⟩
structure Col (L:List Pe) (left:Lit→Bool) (ds:List DG):Prop where
 one:(ds.map (·.1)).Nodup
 mem:∀d,d∈ds.map (·.1)↔d∈L.map (·.d)∧left (klit d)=false
theorem Col.start {D:DataW Value} {L:List Pe} (hr:Reads D L):Col L (Go.Maps.has D) []:=
 ⟨List.nodup_nil,fun d=>by
  constructor
  ·intro h;cases h
  ·rintro ⟨h1,h2⟩
   obtain ⟨e,he,rfl⟩:=List.mem_map.1 h1
   rw [Go.Maps.has_true_of_atKey (hr.at' e he)] at h2
   cases h2⟩
theorem Col.step {L:List Pe} {left:Lit→Bool} {ds:List DG} (h:Col L left ds) (hl:∀e∈L,e.d.length=32∧Sm.allB e.d) {e:Pe} (he:e∈L) (hk:left (klit e.d)=true):Col L (fun z=>left z&& !z.sameKey (klit e.d)) (ds++[⟨e.d,hl e he⟩]):=by
 refine ⟨?_,fun d=>?_⟩
 ·rw [List.map_append,List.nodup_append]
  refine ⟨h.one,by simp,fun a ha c hc hac=>?_⟩
  simp only [List.map_cons,List.map_nil,List.mem_singleton] at hc
  have:=((h.mem a).1 ha).2
  rw [hac,hc,hk] at this
  cases this
 ·rw [List.map_append,List.mem_append,h.mem]
  simp only [List.map_cons,List.map_nil,List.mem_singleton]
  constructor
  ·rintro (⟨h1,h2⟩ | rfl)
   ·exact ⟨h1,by rw [h2];rfl⟩
   ·exact ⟨List.mem_map_of_mem he,by rw [WideAt.sameKey_self (klit_key _)];simp⟩
  ·rintro ⟨h1,h2⟩
   by_cases hd:d=e.d
   ·exact Or.inr hd
   ·obtain ⟨x,hx,rfl⟩:=List.mem_map.1 h1
    rw [sameKey_klit (hl x hx).1 (hl x hx).2 (hl e he).1 (hl e he).2,decide_eq_false hd] at h2
    exact Or.inl ⟨h1,by simpa using h2⟩
theorem Col.done {L:List Pe} {left:Lit→Bool} {ds:List DG} (h:Col L left ds) (ho:(L.map (·.d)).Nodup) (hl:∀kl,left kl=false):(ds.map (·.1)).Perm (L.map (·.d)):=
 (List.perm_ext_iff_of_nodup h.one ho).2 (fun d=>by rw [h.mem];simp [hl])
end Go.Proofs.YtinihaflmdihaaaGreat.Pg
