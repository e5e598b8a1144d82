/- KdPuts, KlAliveMath, NdRead, NdBack, NdForth, NdNums, WpRound, PgRound, GenOps, NdLow, NlReadEnt. -/
import Derived.RangeFuncCalls
import Derived.RangeFuncNested
import Derived.OrdersIn
import Derived.OrdersHeld
import Derived.Deep.RegionHeld3
import Derived.TacticsIn
import Derived.Sort.MapsRangeIn
import Derived.RangeFuncBox
import Derived.OwnWalkIn
import Derived.Sort.CutIn
import Derived.Deep.MidRow
import Derived.Test.YtinihaflmdihaaaGreatL16
set_option maxRecDepth 100000
set_option maxHeartbeats 8000000
set_option linter.all false
namespace Go.Proofs.YtinihaflmdihaaaGreat.Kt
open Go.RowKit Go.Proofs.YtinihaflmdihaaaGreat.Nd Go.Proofs.YtinihaflmdihaaaGreat.Dk Go.Proofs.YtinihaflmdihaaaGreat.Pg
def puts (s:Pg.S) (L:List (List Nat)):Pg.S:=L.foldl Pg.S.put s
theorem x0q (s:Pg.S) (L M:List (List Nat)):puts s (L++M)=puts (puts s L) M:=List.foldl_append ..
theorem y2k (s:Pg.S) (b:List Nat):(s.put b).W.length≤s.W.length+1:=by
 unfold Pg.S.put putW
 simp only
 split<;>simp
theorem x1V:∀(L:List (List Nat)) (s:Pg.S),(puts s L).W.length≤s.W.length+L.length
 |[],s=>Nat.le_refl _
 | b::L,s=>by
  have h1:=y2k s b
  have h2:=x1V L (s.put b)
  unfold puts at h2 ⊢
  rw [List.foldl_cons,List.length_cons]
  omega
theorem x9X (p:List Int) (v:Bool) (l r:T) (s:Pg.S):puts s (T.fork p v l r).pages=(puts (puts s l.pages) r.pages).put (forkN p v l.kid r.kid).bytes:=by
 show puts s (l.pages++r.pages++[(forkN p v l.kid r.kid).bytes])=_
 rw [x0q,x0q]
 rfl
structure LayR (w w':World) (gs:Nat) (Q Q':Nat→Prop) (s':Pg.S) (g o n:Nat):Prop where
 only:Only (fun k=>Q k∨k=g) w w'
 cell:∀i,i<o∨o+n≤i→w'.cell? ⟨g,i,none⟩=w.cell? ⟨g,i,none⟩
 frozen:∀i,w'.frozen? ⟨g,i,none⟩=w.frozen? ⟨g,i,none⟩
 st:PL w' gs Q' s'
 new:∀k,Q' k→Q k∨w.heap.size≤k
theorem LayR.trans {w a b:World} {gs g o n o1 n1 o2 n2:Nat} {Q Q1 Q2:Nat→Prop} {s1 s2:Pg.S} (h1:LayR w a gs Q Q1 s1 g o1 n1) (h2:LayR a b gs Q1 Q2 s2 g o2 n2) (i1:o≤o1∧o1+n1≤o+n) (i2:o≤o2∧o2+n2≤o+n):LayR w b gs Q Q2 s2 g o n where
 only:=⟨h2.only.os.trans h1.only.os,h2.only.tape.trans h1.only.tape,h2.only.output.trans h1.only.output,Nat.le_trans h1.only.size h2.only.size,fun k hk hn=>by
  refine (h2.only.block k (Nat.lt_of_lt_of_le hk h1.only.size) (fun h=>?_)).trans (h1.only.block k hk hn)
  rcases h with h | h
  ·rcases h1.new k h with h | h
   ·exact hn (Or.inl h)
   ·omega
  ·exact hn (Or.inr h)⟩
 cell i hi:=(h2.cell i (by omega)).trans (h1.cell i (by omega))
 frozen i:=(h2.frozen i).trans (h1.frozen i)
 st:=h2.st
 new k hk:=by
  rcases h2.new k hk with h | h
  ·exact h1.new k h
  ·exact Or.inr (Nat.le_trans h1.only.size h)
theorem LayR.of_below {w a:World} {gs g o n:Nat} {Q:Nat→Prop} {s:Pg.S} (hp:PL w gs Q s) (hb:Below w.heap.size w a) (hg:g<w.heap.size):LayR w a gs Q Q s g o n where
 only:=Only.of_below _ hb
 cell i _:=World.cell?_of_block (hb.block g hg)
 frozen i:=by unfold World.frozen?;rw [hb.block g hg]
 st:=hp.keep (fun _=>False) (Only.of_below _ hb) (fun _ _ e=>e)
 new _ hk:=Or.inl hk
theorem LayR.of_turned {w a:World} {gs g o n:Nat} {Q:Nat→Prop} {s:Pg.S} (hp:PL w gs Q s) (ht:Turned g o n w a) (hg:g<w.heap.size) (hq:¬Q g):LayR w a gs Q Q s g o n where
 only:=ht.only.mono fun k hk=>Or.inr hk
 cell i hi:=ht.cell ⟨g,i,none⟩ (Or.inr hi) hg
 frozen i:=ht.frozen ⟨g,i,none⟩ hg
 st:=hp.keep _ ht.only (fun k hk e=>hq (e▸hk))
 new _ hk:=Or.inl hk
theorem LayR.of_put {w a:World} {gs g o n:Nat} {Q Q':Nat→Prop} {s':Pg.S} (hst:PL a gs Q' s') (hn:∀k,Q' k→Q k∨w.heap.size≤k) (ho:Only Q w a) (hg:g<w.heap.size) (hq:¬Q g):LayR w a gs Q Q' s' g o n where
 only:=ho.mono fun k hk=>Or.inl hk
 cell i _:=World.cell?_of_block (ho.block g hg hq)
 frozen i:=by unfold World.frozen?;rw [ho.block g hg hq]
 st:=hst
 new:=hn
theorem LayR.set {w a:World} {gs g o n b:Nat} {Q Q':Nat→Prop} {s':Pg.S} (h:LayR w a gs Q Q' s' g o n) (hb:w.heap.size≤b) (hg:g<w.heap.size) (hq:¬Q' b) (cs:Array Value):LayR w (a.setRow b cs) gs Q Q' s' g o n where
 only:=⟨(x0C a b cs).os.trans h.only.os,(x0C a b cs).tape.trans h.only.tape,(x0C a b cs).output.trans h.only.output,Nat.le_trans h.only.size (x0C a b cs).size,fun k hk hn=>((x0C a b cs).block k (Nat.lt_of_lt_of_le hk h.only.size) (by omega)).trans (h.only.block k hk hn)⟩
 cell i hi:=(World.cell?_of_block ((x0C a b cs).block g (Nat.lt_of_lt_of_le hg h.only.size) (by omega))).trans (h.cell i hi)
 frozen i:=(show (a.setRow b cs).frozen? ⟨g,i,none⟩=a.frozen? ⟨g,i,none⟩ by unfold World.frozen?;rw [(x0C a b cs).block g (Nat.lt_of_lt_of_le hg h.only.size) (by omega)]).trans (h.frozen i)
 st:=h.st.keep _ (x0C a b cs) (fun k hk e=>hq (e▸hk))
 new:=h.new
structure LyS (w x:World) (gs:Nat) (Q Qx:Nat→Prop) (s:Pg.S) (g o n m:Nat) (bs:List Nat) (ks:List Kd):Prop where
 r:LayR w x gs Q Qx s g o n
 mid:x.cell? ⟨g,o+m,none⟩=w.cell? ⟨g,o+m,none⟩
 box:∀b∈bs,w.heap.size≤b∧b<x.heap.size∧¬Qx b
 kid:∀k∈ks,k.Ok x∧Aw Qx k∧∀r∈k.rows,∀y,r.p=some y→r.R≠[]→w.heap.size≤y.block∧y.block∉bs
section
variable {w x x':World} {gs g o n m:Nat} {Q Qx Q':Nat→Prop} {s s':Pg.S} {bs:List Nat} {ks:List Kd}
theorem LyS.start (hp:PL w gs Q s) (hg:g<w.heap.size):LyS w w.drew gs Q Q s g o n m [] []:=
 ⟨LayR.of_below hp (Below.refl _ _).drew hg,rfl,(fun b hb=>by cases hb),(fun k hk=>by cases hk)⟩
theorem LyS.glt (h:LyS w x gs Q Qx s g o n m bs ks) (hg:g<w.heap.size):g<x.heap.size:=Nat.lt_of_lt_of_le hg h.r.only.size
theorem LyS.alloc (h:LyS w x gs Q Qx s g o n m bs ks) (hg:g<w.heap.size) (O:Obj):LyS w (x.alloc O) gs Q Qx s g o n m (x.heap.size::bs) ks:=by
 have E:Below x.heap.size x (x.alloc O):=(Below.refl _ _).alloc (Nat.le_refl _) _
 have H:(x.alloc O).heap.size=x.heap.size+1:=by simp
 refine ⟨h.r.trans (o2:=o) (n2:=n) (LayR.of_below h.r.st E (h.glt hg)) ⟨Nat.le_refl _,Nat.le_refl _⟩ ⟨Nat.le_refl _,Nat.le_refl _⟩,(World.cell?_of_block (E.block g (h.glt hg))).trans h.mid,fun b A=>?_,fun k hk=>?_⟩
 ·rcases List.mem_cons.1 A with rfl | A
  ·exact ⟨h.r.only.size,by omega,fun e=>by have:=h.r.st.lt _ e;omega⟩
  ·obtain ⟨B,G,C⟩:=h.box b A
   exact ⟨B,by omega,C⟩
 ·obtain ⟨B,G,C⟩:=h.kid k hk
  refine ⟨B.later E,G,fun r hr y hy hR=>⟨(C r hr y hy hR).1,fun e=>?_⟩⟩
  rcases List.mem_cons.1 e with e | e
  ·have:=rw_lt (x05 B r hr) y hy hR
   omega
  ·exact (C r hr y hy hR).2 e
theorem LyS.call {kd:Kd} {o1 n1:Nat} (h:LyS w x gs Q Qx s g o n m bs ks) (hg:g<w.heap.size) (hc:LayR x x' gs Qx Q' s' g o1 n1) (i1:o≤o1∧o1+n1≤o+n) (im:o+m<o1∨o1+n1≤o+m) (hk:kd.Ok x') (hf:Fsh x kd) (ha:Aw Q' kd) (hgk:∀k∈ks,∀r∈k.rows,∀y,r.p=some y→r.R≠[]→y.block≠g):
  LyS w x' gs Q Q' s' g o n m bs (kd::ks)∧∀b∈bs,x'.heap[b]? =x.heap[b]? :=by
 have H:=hc.only.size
 refine ⟨⟨h.r.trans hc ⟨Nat.le_refl _,Nat.le_refl _⟩ i1,(hc.cell (o+m) im).trans h.mid,fun b hb=>?_,fun k B=>?_⟩,fun b hb=>?_⟩
 ·obtain ⟨A,E,G⟩:=h.box b hb
  exact ⟨A,by omega,fun e=>(hc.new b e).elim G (fun e=>by omega)⟩
 ·rcases List.mem_cons.1 B with rfl | B
  ·refine ⟨hk,ha,fun r hr y hy hR=>⟨Nat.le_trans h.r.only.size (hf r hr y hy hR),fun e=>?_⟩⟩
   have E:=(h.box _ e).2.1
   have A:=hf r hr y hy hR
   omega
  ·obtain ⟨A,E,G⟩:=h.kid k B
   have C:∀r∈k.rows,r.Ok x':=fun r hr=>Nd.rw_keep (x05 A r hr) fun y hy hR=>hc.only.block _ (rw_lt (x05 A r hr) y hy hR) (fun e=>e.elim (E r hr y hy hR) (hgk k B r hr y hy hR))
   refine ⟨⟨A.len,A.ok,C _ (by simp [Kd.rows]),C _ (by simp [Kd.rows]),C _ (by simp [Kd.rows]),A.live,A.size⟩,fun r hr y hy hR e=>?_,G⟩
   rcases hc.new _ e with e | e
   ·exact E r hr y hy hR e
   ·have:=rw_lt (x05 A r hr) y hy hR
    omega
 ·obtain ⟨A,E,G⟩:=h.box b hb
  exact hc.only.block b E (fun e=>e.elim G (fun e=>by omega))
theorem LyS.set (h:LyS w x gs Q Qx s g o n m bs ks) (hg:g<w.heap.size) {b:Nat} (hb:b∈bs) (cs:Array Value):LyS w (x.setRow b cs) gs Q Qx s g o n m bs ks:=by
 obtain ⟨H,J,I⟩:=h.box b hb
 have E:=x0C x b cs
 refine ⟨h.r.set H hg I cs,(World.cell?_of_block (E.block g (h.glt hg) (by omega))).trans h.mid,fun c hc=>?_,fun k hk=>?_⟩
 ·obtain ⟨A,G,C⟩:=h.box c hc
  exact ⟨A,Nat.lt_of_lt_of_le G E.size,C⟩
 ·obtain ⟨A,G,C⟩:=h.kid k hk
  have B:∀r∈k.rows,r.Ok (x.setRow b cs):=fun r hr=>Nd.rw_keep (x05 A r hr) fun y hy hR=>E.block _ (rw_lt (x05 A r hr) y hy hR) (fun e=>(C r hr y hy hR).2 (by rw [e];exact hb))
  exact ⟨⟨A.len,A.ok,B _ (by simp [Kd.rows]),B _ (by simp [Kd.rows]),B _ (by simp [Kd.rows]),A.live,A.size⟩,G,C⟩
theorem LyS.less {bs':List Nat} {ks':List Kd} (h:LyS w x gs Q Qx s g o n m bs ks) (hb:∀b∈bs',b∈bs) (hk:∀k∈ks',k∈ks):LyS w x gs Q Qx s g o n m bs' ks':=
 ⟨h.r,h.mid,fun b hb'=>h.box b (hb b hb'),fun k hk'=>⟨(h.kid k (hk k hk')).1,(h.kid k (hk k hk')).2.1,fun r hr y hy hR=>⟨((h.kid k (hk k hk')).2.2 r hr y hy hR).1,fun e=>((h.kid k (hk k hk')).2.2 r hr y hy hR).2 (hb _ e)⟩⟩⟩
end
def exT:T:=.fork [2] true (.fork [1] true .nil .nil) (.fork [3] true .nil .nil)
def ex4:T:=.fork [4] true .nil .nil
def ex5:T:=.fork [4] true .nil (.fork [5] true .nil .nil)
def ex6:T:=.fork [4] true .nil (.fork [5] true .nil (.fork [6] true .nil .nil))
theorem y5Q:lay [[3],[1],[2]] 0=exT:=by
 unfold exT
 rfl
def y17:List (List Nat):=exT.pages++(ex4.pages++ex5.pages++ex6.pages)
theorem y2l:(puts ⟨[],none⟩ y17).cl=none:=by decide+kernel
end Go.Proofs.YtinihaflmdihaaaGreat.Kt
namespace Go.Proofs.YtinihaflmdihaaaGreat.Nd
open Go.RowKit
def readE (m:Int):Nat→Rd→List PE→List PE×Rd
 | 0,s,L=>(L,s)
 | n+1,s,L=>readE m n (s.entN m) (L++[s.entV m])
def readK (m:Int):Nat→Rd→List PK→List PK×Rd
 | 0,s,L=>(L,s)
 | n+1,s,L=>readK m n (s.kidN m) (L++[s.kidV m])
theorem y2m {m:Int} {n:Nat} {s:Rd} {L:List PE} (hn:0<n):readE m n s L=readE m (n - 1) (s.entN m) (L++[s.entV m]):=by
 obtain ⟨k,rfl⟩:∃k,n=k+1:=⟨n - 1,by omega⟩
 rfl
theorem y2n {m:Int} {n:Nat} {s:Rd} {L:List PK} (hn:0<n):readK m n s L=readK m (n - 1) (s.kidN m) (L++[s.kidV m]):=by
 obtain ⟨k,rfl⟩:∃k,n=k+1:=⟨n - 1,by omega⟩
 rfl
theorem x6g {m:Int}:∀(n:Nat) (s:Rd) (L:List PE),Sm.allB s.R→Sm.allB (readE m n s L).2.R∧(readE m n s L).2.R.length≤s.R.length
 | 0,s,L,h=>⟨h,Nat.le_refl _⟩
 | n+1,s,L,h=>by
  have h1:=ent_R (m:=m) h
  have h2:=x6g (m:=m) n (s.entN m) (L++[s.entV m]) h1.1
  exact ⟨h2.1,Nat.le_trans h2.2 h1.2⟩
structure RdN where
 kind:Nat
 n1:Nat
 s2:Rd
 T1:List PE×Rd
 n2:Nat
 s4:Rd
 T2:List PK×Rd
def rdN (m:Int) (B:List Nat):RdN:=
 let s0:Rd:=⟨B,0⟩
 let s1:=s0.past 1
 let s2:=s1.past 1
 let T1:=readE m (Cm.val (s1.part 1)) s2 []
 let s4:=T1.2.past 1
 ⟨Cm.val (s0.part 1),Cm.val (s1.part 1),s2,T1,Cm.val (T1.2.part 1),s4,readK m (Cm.val (T1.2.part 1)) s4 []⟩
def RdN.node (x:RdN):PN:=⟨x.kind,x.T1.1,x.T2.1⟩
def RdN.good (x:RdN) (d:Int):Prop:=x.T2.2.e=0∧x.T2.2.R=[]∧x.node.right d=true
theorem x9Y {m:Int} {B:List Nat} (h:Sm.allB B):(rdN m B).kind<256∧(rdN m B).n1<256∧(rdN m B).n2<256∧Sm.allB (rdN m B).s2.R∧(rdN m B).s2.R.length≤B.length∧Sm.allB (rdN m B).T1.2.R∧(rdN m B).T1.2.R.length≤B.length∧Sm.allB (rdN m B).s4.R∧(rdN m B).s4.R.length≤B.length∧((Rd.mk B 0).past 1).R.length≤B.length:=by
 have b0:Sm.allB (Rd.mk B 0).R:=h
 have E:=x0U (n:=1) b0
 have H:((Rd.mk B 0).past 1).R.length≤B.length:=Rd.past_len ⟨B,0⟩ 1
 have G:=x0U (n:=1) E
 have A:=Nat.le_trans (Rd.past_len ((Rd.mk B 0).past 1) 1) H
 have e:=x6g (m:=m) (Cm.val (((Rd.mk B 0).past 1).part 1)) (((Rd.mk B 0).past 1).past 1) [] G
 have C:=Nat.le_trans e.2 A
 have J:=x0U (n:=1) e.1
 have I:=Nat.le_trans (Rd.past_len _ 1) C
 exact ⟨val1 b0,val1 E,val1 e.1,G,A,e.1,C,J,I,H⟩
theorem x2d {s:Rd} {n:Nat} (h:(s.past n).e=0):s.e=0∧s.R=s.part n++(s.past n).R∧(s.part n).length=n:=by
 by_cases hf:s.fits n
 ·unfold Rd.past Rd.part
  rw [if_pos hf,if_pos hf]
  exact ⟨hf.1,(List.take_append_drop n s.R).symm,by rw [List.length_take];have:=hf.2;omega⟩
 ·exfalso
  unfold Rd.past at h
  rw [if_neg hf] at h
  unfold Rd.refuse at h
  split at h
  ·simp at h
  ·rename_i k
   exact k h
theorem x2N {s:Rd} (h:(s.past 1).e=0):s.e=0∧s.R=Cm.val (s.part 1)::(s.past 1).R:=by
 obtain ⟨E,C,B⟩:=x2d h
 rcases part1 s with A | ⟨b,A⟩
 ·rw [A] at B
  simp at B
 ·rw [A] at C
  rw [A,x3o]
  exact ⟨E,C⟩
theorem x9Z {s:Rd} (h:s.truth.e=0):s.e=0∧s.R=(if s.truthV then 1 else 0)::s.truth.R:=by
 unfold Rd.truth at h ⊢
 by_cases hc:(s.past 1).e=0∧1<Cm.val (s.part 1)
 ·rw [if_pos hc] at h
  simp at h
 ·rw [if_neg hc] at h ⊢
  obtain ⟨A,C⟩:=x2N h
  have B:Cm.val (s.part 1)=if s.truthV then 1 else 0:=by
   unfold Rd.truthV
   by_cases h2:Cm.val (s.part 1)=1
   ·rw [decide_eq_true (show (s.past 1).e=0∧Cm.val (s.part 1)=1 from ⟨h,h2⟩),if_pos rfl]
    exact h2
   ·rw [decide_eq_false (fun k=>h2 k.2)]
    have:¬1<Cm.val (s.part 1):=fun k=>hc ⟨h,k⟩
    simp only [Bool.false_eq_true,if_false]
    omega
  rw [← B]
  exact ⟨A,C⟩
theorem y2o {s:Rd} (hR:Sm.allB s.R) (h:(s.past 8).e=0):s.e=0∧s.R=Cm.num s.numV++(s.past 8).R:=by
 obtain ⟨B,G,A⟩:=x2d h
 have H:=Rd.part_ok hR 8
 have E:s.part 8≠[]:=by
  intro e
  rw [e] at A
  simp at A
 have C:Cm.num s.numV=s.part 8:=by
  unfold Cm.num Rd.numV
  rw [if_neg E]
  have e:Cm.z64 (((Cm.val (s.part 8):Nat):Int) - 9223372036854775808)=Cm.val (s.part 8):=by
   unfold Cm.z64
   omega
  rw [e]
  have:=Cm.be_val H
  rw [A] at this
  exact this
 rw [C]
 exact ⟨B,G⟩
theorem x5z:∀(n:Nat) (s:Rd) (L:List Int),Sm.allB s.R→(readN n s L).2.e=0→s.e=0∧∃M,(readN n s L).1=L++M∧M.length=n∧s.R=Go.Proofs.YtinihaflmdihaaaGreat.nums M++(readN n s L).2.R
 | 0,s,L,_,h=>⟨h,[],by simp [readN],rfl,rfl⟩
 | n+1,s,L,hR,h=>by
  by_cases he:s.e=0
  ·rw [x6L he (Nat.succ_pos n),Nat.succ_sub_one] at h ⊢
   obtain ⟨h1,M,h2,h3,h4⟩:=x5z n _ _ (x0U hR) h
   obtain ⟨-,h5⟩:=y2o hR h1
   refine ⟨he,s.numV::M,by rw [h2,List.append_assoc];rfl,by rw [List.length_cons,h3],?_⟩
   rw [h5,h4]
   show _=(Cm.num s.numV++Go.Proofs.YtinihaflmdihaaaGreat.nums M)++_
   rw [List.append_assoc]
  ·rw [x4S he] at h
   exact absurd h he
theorem x4a {s:Rd} {m:Int} (hR:Sm.allB s.R) (h:(s.row m).2.e=0):s.e=0∧s.R=rowBs (s.rowV m)++(s.row m).2.R∧∀m':Int,((s.rowV m).length:Int)≤m'→s.row m'=s.row m:=by
 have N:(readN (Cm.val (s.part 1)) (s.rowN m) []).2.e=0:=h
 obtain ⟨A,M,J,H,I⟩:=x5z _ _ _ (x6M hR) N
 have C:¬((s.past 1).e=0∧m<(Cm.val (s.part 1):Nat)):=by
  intro C
  unfold Rd.rowN at A
  rw [if_pos C] at A
  simp at A
 have E:s.rowN m=s.past 1:=by
  unfold Rd.rowN
  rw [if_neg C]
 have G:s.rowV m=M:=by
  unfold Rd.rowV
  rw [if_pos h]
  exact J
 rw [E] at A I
 obtain ⟨L,K⟩:=x2N A
 have O:=val1 hR
 refine ⟨L,?_,fun m' hm'=>?_⟩
 ·rw [K,I,G]
  unfold rowBs
  rw [H,Nat.mod_eq_of_lt O]
  show _=_::(Go.Proofs.YtinihaflmdihaaaGreat.nums M++(readN (Cm.val (s.part 1)) (s.rowN m) []).2.R)
  rw [E]
 ·rw [G,H] at hm'
  have B:s.rowN m'=s.past 1:=by
   unfold Rd.rowN
   rw [if_neg (fun k=>by have:=k.2;omega)]
  unfold Rd.row
  rw [E,B]
theorem x6h {s:Rd} {m m':Int} (h:s.row m'=s.row m):s.rowV m'=s.rowV m:=by
 unfold Rd.rowV
 rw [h]
theorem x60 {s:Rd} (hR:Sm.allB s.R) (h:(s.count 1048576).e=0):s.e=0∧s.R=Cm.be (s.countV 1048576).toNat 3++(s.count 1048576).R:=by
 unfold Rd.count at h ⊢
 unfold Rd.countV
 by_cases hc:min (1048576:Int) 1048576<(Cm.val (s.part 3):Nat)
 ·rw [if_pos hc] at h
  exfalso
  unfold Rd.refuse at h
  split at h
  ·simp at h
  ·rename_i k
   exact k h
 ·rw [if_neg hc] at h ⊢
  rw [if_neg hc]
  obtain ⟨A,C,B⟩:=x2d h
  have:=Cm.be_val (Rd.part_ok hR 3)
  rw [B] at this
  rw [Int.toNat_natCast,this]
  exact ⟨A,C⟩
theorem y2p {s:Rd} (h:(s.past 32).e=0):s.e=0∧s.R=s.digV++(s.past 32).R:=by
 obtain ⟨A,B,C⟩:=x2d h
 have e:s.digV=s.part 32:=by
  unfold Rd.digV
  rw [C]
  simp [zeros]
 rw [e]
 exact ⟨A,B⟩
theorem y2q {s:Rd} {m:Int} (hR:Sm.allB s.R) (h:(s.entN m).e=0):s.e=0∧s.R=(s.entV m).bytes++(s.entN m).R∧∀m':Int,((s.entV m).row.length:Int)≤m'→s.entN m'=s.entN m∧s.entV m'=s.entV m:=by
 obtain ⟨C,B,E⟩:=x4a (x6N hR).1 h
 obtain ⟨G,H⟩:=x9Z C
 refine ⟨G,?_,fun m' hm'=>?_⟩
 ·rw [H,B]
  rfl
 ·have A:=E m' hm'
  unfold Rd.entN Rd.entV
  rw [x6h A,A]
  exact ⟨rfl,rfl⟩
theorem y2r {s:Rd} {m:Int} (hR:Sm.allB s.R) (h:(s.kidN m).e=0):s.e=0∧s.R=(s.kidV m).bytes++(s.kidN m).R∧∀m':Int,((s.kidV m).lo.length:Int)≤m'→((s.kidV m).hi.length:Int)≤m'→((s.kidV m).key.length:Int)≤m'→s.kidN m'=s.kidN m∧s.kidV m'=s.kidV m:=by
 have O:s.past 32=s.k1:=rfl
 have P:s.k1.count 1048576=s.k2:=rfl
 have G:s.k2.count 1048576=s.k3:=rfl
 have I:(s.k3.row m).2=s.k4 m:=rfl
 have C:((s.k4 m).row m).2=s.k5 m:=rfl
 have Q:((s.k5 m).row m).2=s.kidN m:=rfl
 rw [← Q] at h
 obtain ⟨K,f,Z⟩:=x4a (k5_R hR).1 h
 rw [← C] at K
 obtain ⟨E,d,c⟩:=x4a (k4_R hR).1 K
 rw [← I] at E
 obtain ⟨N,g,X⟩:=x4a (k3_R hR).1 E
 rw [← G] at N
 obtain ⟨L,a⟩:=x60 (k2_R hR).1 N
 rw [← P] at L
 obtain ⟨M,W⟩:=x60 (k1_R hR).1 L
 rw [← O] at M
 obtain ⟨Y,b⟩:=y2p M
 refine ⟨Y,?_,fun m' l1 l2 l3=>?_⟩
 ·rw [b,O,W,P,a,G,g,I,d,C,f,Q]
  unfold Rd.kidV PK.bytes
  simp only [List.append_assoc]
 ·unfold Rd.kidV at l1 l2 l3
  simp only at l1 l2 l3
  have H:=X m' l1
  have A:s.k4 m'=s.k4 m:=by
   unfold Rd.k4
   rw [H]
  have J:=c m' l2
  have B:s.k5 m'=s.k5 m:=by
   unfold Rd.k5
   rw [A,J]
  have U:=Z m' l3
  unfold Rd.kidN Rd.kidV
  rw [B,A,U,x6h U,x6h J,x6h H]
  exact ⟨rfl,rfl⟩
theorem x61 {m:Int}:∀(n:Nat) (s:Rd) (L:List PE),Sm.allB s.R→(readE m n s L).2.e=0→s.e=0∧∃M,(readE m n s L).1=L++M∧M.length=n∧s.R=M.flatMap PE.bytes++(readE m n s L).2.R∧∀m':Int,(∀e∈M,(e.row.length:Int)≤m')→readE m' n s L=readE m n s L
 | 0,s,L,_,h=>⟨h,[],by simp [readE],rfl,rfl,fun _ _=>rfl⟩
 | n+1,s,L,hR,h=>by
  have h':(readE m n (s.entN m) (L++[s.entV m])).2.e=0:=h
  obtain ⟨h1,M,h2,h3,h4,h5⟩:=x61 n _ _ (ent_R (m:=m) hR).1 h'
  obtain ⟨h6,h7,h8⟩:=y2q hR h1
  refine ⟨h6,s.entV m::M,?_,by rw [List.length_cons,h3],?_,fun m' hm'=>?_⟩
  ·show (readE m n (s.entN m) (L++[s.entV m])).1=_
   rw [h2,List.append_assoc]
   rfl
  ·show _=_++(readE m n (s.entN m) (L++[s.entV m])).2.R
   rw [h7,h4,List.flatMap_cons]
   simp only [List.append_assoc]
  ·show readE m' n (s.entN m') (L++[s.entV m'])=readE m n (s.entN m) (L++[s.entV m])
   obtain ⟨g1,g2⟩:=h8 m' (hm' _ (by simp))
   rw [g1,g2]
   exact h5 m' (fun e he=>hm' e (by simp [he]))
theorem x62 {m:Int}:∀(n:Nat) (s:Rd) (L:List PK),Sm.allB s.R→(readK m n s L).2.e=0→s.e=0∧∃M,(readK m n s L).1=L++M∧M.length=n∧s.R=M.flatMap PK.bytes++(readK m n s L).2.R∧∀m':Int,(∀k∈M,(k.lo.length:Int)≤m'∧(k.hi.length:Int)≤m'∧(k.key.length:Int)≤m')→readK m' n s L=readK m n s L
 | 0,s,L,_,h=>⟨h,[],by simp [readK],rfl,rfl,fun _ _=>rfl⟩
 | n+1,s,L,hR,h=>by
  have h':(readK m n (s.kidN m) (L++[s.kidV m])).2.e=0:=h
  obtain ⟨h1,M,h2,h3,h4,h5⟩:=x62 n _ _ (kid_R (m:=m) hR).1 h'
  obtain ⟨h6,h7,h8⟩:=y2r hR h1
  refine ⟨h6,s.kidV m::M,?_,by rw [List.length_cons,h3],?_,fun m' hm'=>?_⟩
  ·show (readK m n (s.kidN m) (L++[s.kidV m])).1=_
   rw [h2,List.append_assoc]
   rfl
  ·show _=_++(readK m n (s.kidN m) (L++[s.kidV m])).2.R
   rw [h7,h4,List.flatMap_cons]
   simp only [List.append_assoc]
  ·show readK m' n (s.kidN m') (L++[s.kidV m'])=readK m n (s.kidN m) (L++[s.kidV m])
   obtain ⟨k1,k2,k3⟩:=hm' (s.kidV m) (by simp)
   obtain ⟨g1,g2⟩:=h8 m' k1 k2 k3
   rw [g1,g2]
   exact h5 m' (fun e he=>hm' e (by simp [he]))
theorem y2s {m:Int} {B:List Nat} (hB:Sm.allB B) (h:(rdN m B).T2.2.e=0) (hR:(rdN m B).T2.2.R=[]):
  (rdN m B).node.bytes=B∧∀m':Int,(∀e∈(rdN m B).node.rows,(e.row.length:Int)≤m')→(∀k∈(rdN m B).node.kids,(k.lo.length:Int)≤m'∧(k.hi.length:Int)≤m'∧(k.key.length:Int)≤m')→rdN m' B=rdN m B:=by
 have b0:Sm.allB (Rd.mk B 0).R:=hB
 have H:=x0U (n:=1) b0
 have I:=x0U (n:=1) H
 have J:=x6g (m:=m) (Cm.val (((Rd.mk B 0).past 1).part 1)) (((Rd.mk B 0).past 1).past 1) [] I
 have c:=x0U (n:=1) J.1
 have Y:=val1 H
 have b:=val1 J.1
 unfold RdN.node
 unfold rdN at h hR ⊢
 simp only at h hR ⊢
 obtain ⟨O,K,A,P,L,a⟩:=x62 (m:=m) _ _ _ c h
 obtain ⟨Z,f⟩:=x2N O
 obtain ⟨U,E,G,Q,X,d⟩:=x61 (m:=m) _ _ _ I Z
 obtain ⟨W,M⟩:=x2N U
 obtain ⟨g,C⟩:=x2N W
 have C:B=Cm.val ((Rd.mk B 0).part 1)::((Rd.mk B 0).past 1).R:=C
 rw [List.nil_append] at A G
 rw [hR,List.append_nil] at L
 constructor
 ·unfold PN.bytes
  simp only
  rw [G,A,Q,P,Nat.mod_eq_of_lt Y,Nat.mod_eq_of_lt b,← L,← f,← X,← M,← C]
 ·intro m' hE hK
  rw [G] at hE
  rw [A] at hK
  have N:=d m' hE
  rw [N,a m' hK]
theorem x9a {m d:Int} {B:List Nat} (hB:Sm.allB B) (h:(rdN m B).good d):(rdN m B).node.bytes=B:=(y2s hB h.1 h.2.1).1
end Go.Proofs.YtinihaflmdihaaaGreat.Nd
namespace Go.Proofs.YtinihaflmdihaaaGreat.Nd
open Go.RowKit Go.Proofs.YtinihaflmdihaaaGreat.Pg
theorem x2O (b:Nat) (R:List Nat):(Rd.mk (b::R) 0).part 1=[b]∧(Rd.mk (b::R) 0).past 1=⟨R,0⟩:=x3H [b] R 1 rfl
theorem y18 {x:Int} (h:In64 x) (R:List Nat):(Rd.mk (Cm.num x++R) 0).numV=x∧(Rd.mk (Cm.num x++R) 0).past 8=⟨R,0⟩:=by
 obtain ⟨C,B⟩:=x3H (Cm.num x) R 8 (Cm.num_length x)
 refine ⟨?_,B⟩
 unfold Rd.numV
 rw [C,if_neg (fun e=>by have:=Cm.num_length x;rw [e] at this;simp at this)]
 unfold Cm.num
 rw [Cm.val_be]
 obtain ⟨A,E⟩:=Cm.z64_lt h.1 h.2
 rw [Nat.mod_eq_of_lt (Nat.lt_of_lt_of_le A (by decide))]
 omega
theorem x59:∀(L:List Int) (R:List Nat) (A:List Int),(∀x∈L,In64 x)→readN L.length ⟨Go.Proofs.YtinihaflmdihaaaGreat.nums L++R,0⟩ A=(A++L,⟨R,0⟩)
 |[],R,A,_=>by simp [readN,Go.Proofs.YtinihaflmdihaaaGreat.nums]
 | x::L,R,A,h=>by
  obtain ⟨h1,h2⟩:=y18 (h x (by simp)) (Go.Proofs.YtinihaflmdihaaaGreat.nums L++R)
  have e:Go.Proofs.YtinihaflmdihaaaGreat.nums (x::L)++R=Cm.num x++(Go.Proofs.YtinihaflmdihaaaGreat.nums L++R):=by
   rw [← List.append_assoc]
   rfl
  rw [e,List.length_cons,x6L rfl (Nat.succ_pos _),Nat.succ_sub_one,h1,h2,x59 L R _ fun y hy=>h y (by simp [hy]),List.append_assoc]
  rfl
theorem x3W {L:List Int} {m:Int} (h:∀x∈L,In64 x) (hl:L.length≤8) (hm:(L.length:Int)≤m) (R:List Nat):(Rd.mk (rowBs L++R) 0).row m=(L,⟨R,0⟩)∧(Rd.mk (rowBs L++R) 0).rowV m=L:=by
 obtain ⟨C,B⟩:=x2O (L.length%256) (Go.Proofs.YtinihaflmdihaaaGreat.nums L++R)
 have A:(Rd.mk (rowBs L++R) 0).row m=(L,⟨R,0⟩):=by
  unfold Rd.row Rd.rowN
  rw [show rowBs L++R=L.length%256::(Go.Proofs.YtinihaflmdihaaaGreat.nums L++R) from rfl,C,B,x3o,Nat.mod_eq_of_lt (by omega),if_neg (fun k=>by have:=k.2;omega),x59 L R [] h]
  rfl
 refine ⟨A,?_⟩
 unfold Rd.rowV
 rw [A]
 rfl
theorem x85 (v:Bool) (R:List Nat):(Rd.mk ((if v then 1 else 0)::R) 0).truth=⟨R,0⟩∧(Rd.mk ((if v then 1 else 0)::R) 0).truthV=v:=by
 obtain ⟨B,A⟩:=x2O (if v then 1 else 0) R
 unfold Rd.truth Rd.truthV
 rw [B,A,x3o]
 cases v
 ·simp
 ·simp
theorem x5A {n:Int} (h0:0≤n) (h1:n≤1048576) (R:List Nat):(Rd.mk (Cm.be n.toNat 3++R) 0).count 1048576=⟨R,0⟩∧(Rd.mk (Cm.be n.toNat 3++R) 0).countV 1048576=n:=by
 obtain ⟨E,C⟩:=x3H (Cm.be n.toNat 3) R 3 (Cm.be_length _ _)
 have A:((Cm.val (Cm.be n.toNat 3):Nat):Int)=n:=by
  rw [Cm.val_be,Nat.mod_eq_of_lt (Nat.lt_of_lt_of_le (show n.toNat<1048577 by omega) (by decide))]
  omega
 have B:¬min (1048576:Int) 1048576<(Cm.val (Cm.be n.toNat 3):Nat):=by
  rw [A]
  omega
 unfold Rd.count Rd.countV
 rw [E,C,if_neg B,if_neg B,A]
 exact ⟨rfl,rfl⟩
theorem y19 {D:List Nat} (h:D.length=32) (R:List Nat):(Rd.mk (D++R) 0).past 32=⟨R,0⟩∧(Rd.mk (D++R) 0).digV=D:=by
 obtain ⟨B,A⟩:=x3H D R 32 h
 refine ⟨A,?_⟩
 unfold Rd.digV
 rw [B,h]
 simp [zeros]
def PE.Nums (e:PE):Prop:=∀x∈e.row,In64 x
def PK.Nums (k:PK):Prop:=k.sum.length=32∧Sm.allB k.sum∧(∀x∈k.lo,In64 x)∧(∀x∈k.hi,In64 x)∧∀x∈k.key,In64 x
structure PN.Nums (n:PN):Prop where
 rows:∀e∈n.rows,e.Nums
 kids:∀k∈n.kids,k.Nums
theorem y1A {e:PE} (h:e.Nums) (hl:e.row.length≤8) (R:List Nat):(Rd.mk (e.bytes++R) 0).entN 8=⟨R,0⟩∧(Rd.mk (e.bytes++R) 0).entV 8=e:=by
 have G:e.bytes++R=(if e.live then 1 else 0)::(rowBs e.row++R):=rfl
 obtain ⟨B,A⟩:=x85 e.live (rowBs e.row++R)
 obtain ⟨C,E⟩:=x3W (m:=8) h hl (by omega) R
 unfold Rd.entN Rd.entV
 rw [G,B,A,C,E]
 exact ⟨rfl,rfl⟩
theorem y1B {k:PK} (h:k.Nums) (hf:k.Fit) (R:List Nat):(Rd.mk (k.bytes++R) 0).kidN 8=⟨R,0⟩∧(Rd.mk (k.bytes++R) 0).kidV 8=k:=by
 have H:k.bytes++R=k.sum++(Cm.be k.live.toNat 3++(Cm.be k.size.toNat 3++(rowBs k.lo++(rowBs k.hi++(rowBs k.key++R))))):=by
  unfold PK.bytes
  simp only [List.append_assoc]
 obtain ⟨B,W,E,G,U⟩:=h
 obtain ⟨C,M⟩:=y19 B (Cm.be k.live.toNat 3++(Cm.be k.size.toNat 3++(rowBs k.lo++(rowBs k.hi++(rowBs k.key++R)))))
 obtain ⟨b1,Q⟩:=x5A (n:=k.live) (by have:=hf.live;omega) (by have:=hf.live;omega) (Cm.be k.size.toNat 3++(rowBs k.lo++(rowBs k.hi++(rowBs k.key++R))))
 obtain ⟨I,P⟩:=x5A (n:=k.size) (by have:=hf.size;omega) (by have:=hf.size;omega) (rowBs k.lo++(rowBs k.hi++(rowBs k.key++R)))
 obtain ⟨K,J⟩:=x3W (m:=8) E (by have:=hf.lo;omega) (by have:=hf.lo;omega) (rowBs k.hi++(rowBs k.key++R))
 obtain ⟨O,A⟩:=x3W (m:=8) G (by have:=hf.hi;omega) (by have:=hf.hi;omega) (rowBs k.key++R)
 obtain ⟨N,L⟩:=x3W (m:=8) U (by have:=hf.key;omega) (by have:=hf.key;omega) R
 unfold Rd.kidN Rd.kidV Rd.k5 Rd.k4 Rd.k3 Rd.k2 Rd.k1
 rw [H,C,M,b1,Q,I,P,K,J,O,A,N,L]
 exact ⟨rfl,rfl⟩
theorem x5B:∀(E:List PE) (R:List Nat) (A:List PE),(∀e∈E,e.Nums∧e.row.length≤8)→readE 8 E.length ⟨E.flatMap PE.bytes++R,0⟩ A=(A++E,⟨R,0⟩)
 |[],R,A,_=>by simp [readE]
 | e::E,R,A,h=>by
  obtain ⟨h1,h2⟩:=y1A (h e (by simp)).1 (h e (by simp)).2 (E.flatMap PE.bytes++R)
  rw [List.flatMap_cons,List.append_assoc]
  show readE 8 E.length ((Rd.mk (e.bytes++(E.flatMap PE.bytes++R)) 0).entN 8) (A++[(Rd.mk (e.bytes++(E.flatMap PE.bytes++R)) 0).entV 8])=_
  rw [h1,h2,x5B E R _ fun x hx=>h x (by simp [hx]),List.append_assoc]
  rfl
theorem x5C:∀(K:List PK) (R:List Nat) (A:List PK),(∀k∈K,k.Nums∧k.Fit)→readK 8 K.length ⟨K.flatMap PK.bytes++R,0⟩ A=(A++K,⟨R,0⟩)
 |[],R,A,_=>by simp [readK]
 | k::K,R,A,h=>by
  obtain ⟨h1,h2⟩:=y1B (h k (by simp)).1 (h k (by simp)).2 (K.flatMap PK.bytes++R)
  rw [List.flatMap_cons,List.append_assoc]
  show readK 8 K.length ((Rd.mk (k.bytes++(K.flatMap PK.bytes++R)) 0).kidN 8) (A++[(Rd.mk (k.bytes++(K.flatMap PK.bytes++R)) 0).kidV 8])=_
  rw [h1,h2,x5C K R _ fun x hx=>h x (by simp [hx]),List.append_assoc]
  rfl
theorem y1C {n:PN} (h:n.Nums) (hf:n.Fit) (hk:n.kind<256):(rdN 8 n.bytes).node=n∧(rdN 8 n.bytes).T2.2.e=0∧(rdN 8 n.bytes).T2.2.R=[]:=by
 have J:=hf.rows
 have A:=hf.kids
 have C:n.bytes=n.kind::(n.rows.length::(n.rows.flatMap PE.bytes++(n.kids.length::(n.kids.flatMap PK.bytes++[])))):=by
  unfold PN.bytes
  rw [Nat.mod_eq_of_lt (by omega),Nat.mod_eq_of_lt (by omega),List.append_nil]
 obtain ⟨B,H⟩:=x2O n.kind (n.rows.length::(n.rows.flatMap PE.bytes++(n.kids.length::(n.kids.flatMap PK.bytes++[]))))
 obtain ⟨b1,I⟩:=x2O n.rows.length (n.rows.flatMap PE.bytes++(n.kids.length::(n.kids.flatMap PK.bytes++[])))
 have c:=x5B n.rows (n.kids.length::(n.kids.flatMap PK.bytes++[])) [] fun e he=>⟨h.rows e he,hf.row e he⟩
 obtain ⟨G,E⟩:=x2O n.kids.length (n.kids.flatMap PK.bytes++[])
 have f:=x5C n.kids [] [] fun k hk=>⟨h.kids k hk,hf.kid k hk⟩
 unfold RdN.node rdN
 simp only
 rw [C,B,H,b1,I,x3o,x3o,c]
 simp only
 rw [G,E,x3o,f]
 exact ⟨rfl,rfl,rfl⟩
theorem y2t {n:PN} (h:n.Nums) (hk:n.kind<256):Sm.allB n.bytes:=by
 intro x A
 unfold PN.bytes at A
 simp only [List.mem_cons,List.mem_append,List.mem_flatMap] at A
 rcases A with rfl | rfl | ⟨e,C,A⟩ | rfl | ⟨k,B,A⟩
 ·exact hk
 ·exact Nat.mod_lt _ (by omega)
 ·unfold PE.bytes at A
  rcases List.mem_cons.1 A with rfl | A
  ·split<;>omega
  ·exact x0v _ x A
 ·exact Nat.mod_lt _ (by omega)
 ·unfold PK.bytes at A
  simp only [List.mem_append] at A
  rcases A with A | A | A | A | A | A
  ·exact (h.kids k B).2.1 x A
  ·exact Cm.be_ok _ _ x A
  ·exact Cm.be_ok _ _ x A
  ·exact x0v _ x A
  ·exact x0v _ x A
  ·exact x0v _ x A
structure Txt (d:Int) (t:List Nat) (n:PN):Prop where
 ok:Sm.allB t
 len:t.length≤100000
 good:(rdN 8 t).good d
 node:(rdN 8 t).node=n
 size:n.size≤1048576
theorem Txt.right {d:Int} {t:List Nat} {n:PN} (h:Txt d t n):n.right d=true:=by
 rw [← h.node]
 exact h.good.2.2
theorem Txt.bytes {d:Int} {t:List Nat} {n:PN} (h:Txt d t n):n.bytes=t:=by
 rw [← h.node]
 exact x9a h.ok h.good
theorem x63 {n:PN} {d:Int} (h:n.right d=true):n.kind<256:=by
 unfold PN.right at h
 repeat' split at h
 all_goals first | omega | cases h
theorem y5R {n:PN} {d:Int} (h:n.Nums) (hr:n.right d=true) (hz:n.size≤1048576):Txt d n.bytes n:=by
 obtain ⟨A,B,C⟩:=y1C h (PN.fit hr) (x63 hr)
 refine ⟨y2t h (x63 hr),x1N (PN.fit hr) (fun k hk=>(h.kids k hk).1),⟨B,C,by rw [A];exact hr⟩,A,hz⟩
theorem y4f {s:Rd} {m:Int} (h:Sm.allB s.R):(s.entV m).Nums:=x2F (x6N h).1
theorem y4g {s:Rd} {m:Int} (h:Sm.allB s.R):(s.kidV m).Nums:=by
 have A:=(k3_R h).1
 have B:=(k4_R (m:=m) h).1
 have H:=(k5_R (m:=m) h).1
 have E:=x2F (m:=m) A
 have G:=x2F (m:=m) B
 have C:=x2F (m:=m) H
 unfold Rd.kidV PK.Nums
 simp only
 exact ⟨x2y s,y0U h,E,G,C⟩
theorem x8t {m:Int}:∀(n:Nat) (s:Rd) (L:List PE),Sm.allB s.R→(∀e∈L,e.Nums)→∀e∈(readE m n s L).1,e.Nums
 | 0,_,_,_,hL=>hL
 | n+1,s,L,hR,hL=>by
  show ∀e∈(readE m n (s.entN m) (L++[s.entV m])).1,e.Nums
  refine x8t n _ _ (ent_R hR).1 fun x hx=>?_
  rcases List.mem_append.1 hx with hx | hx
  ·exact hL x hx
  ·rw [List.mem_singleton.1 hx]
   exact y4f hR
theorem x8u {m:Int}:∀(n:Nat) (s:Rd) (L:List PK),Sm.allB s.R→(∀k∈L,k.Nums)→∀k∈(readK m n s L).1,k.Nums
 | 0,_,_,_,hL=>hL
 | n+1,s,L,hR,hL=>by
  show ∀k∈(readK m n (s.kidN m) (L++[s.kidV m])).1,k.Nums
  refine x8u n _ _ (kid_R hR).1 fun x hx=>?_
  rcases List.mem_append.1 hx with hx | hx
  ·exact hL x hx
  ·rw [List.mem_singleton.1 hx]
   exact y4g hR
theorem y2u {m:Int} {B:List Nat} (hB:Sm.allB B):(rdN m B).node.Nums:=by
 have b0:Sm.allB (Rd.mk B 0).R:=hB
 have E:=x0U (n:=1) b0
 have A:=x0U (n:=1) E
 have C:=x6g (m:=m) (Cm.val (((Rd.mk B 0).past 1).part 1)) (((Rd.mk B 0).past 1).past 1) [] A
 have G:=x0U (n:=1) C.1
 exact ⟨x8t _ _ _ A (fun e he=>by cases he),x8u _ _ _ G (fun k hk=>by cases hk)⟩
theorem Txt.nums {d:Int} {t:List Nat} {n:PN} (h:Txt d t n):n.Nums:=by
 rw [← h.node]
 exact y2u h.ok
end Go.Proofs.YtinihaflmdihaaaGreat.Nd
namespace Go.Proofs.YtinihaflmdihaaaGreat.Wl
open Go Go.RowKit
section
variable {P:Program} {ops:Array Oper} {Q:Exit→Act→World→Prop} {md:Region.Mode} {l n:Nat}
theorem x9b {i:Nat} {K K':Act→World→Prop} {a:Act} {w:World} (hd:∀(i:Nat) (o:Oper),ops[i]? =some o→∀c,o.op≠ .defer c) (hQ:¬LetsOut Q) (hK:∀a w,K a w→K' a w) (h:wpOp P ops Q i K a w):wpOpIn (Fence.wide.inRound l) n P ops Q i K' a w:=by
 unfold wpOp at h
 unfold wpOpIn
 cases ho:ops[i]? with
 | none=>rw [ho] at h;exact hK _ _ h
 | some o=>
  rw [ho] at h
  simp only at h ⊢
  split
  ·next hw=>
   rw [if_pos hw] at h
   rcases h with h | ⟨_,h⟩
   ·refine ⟨fun _ _=>trivial,?_⟩
    show Oper.uponIn _ n P o a K' Q ((Oper.semAt (some l) a.eval o).run P w)
    rw [Oper.semAt_some l a.eval o (hd i o ho)]
    unfold Oper.wp at h
    generalize (execOp a.eval o).run P w=r at *
    cases r with
    | ok x w'=>
     cases x with
     | value v=>exact hK _ _ h
     | skip=>exact hK _ _ h
     | defer d=>exact hK _ _ h
     | enter f args=>
      refine ⟨fun h=>(by cases h),CallsIn.inRound l (callsIn_wide.2 (Calls.mono h fun e A he=>?_))⟩
      cases e with
      | returned v=>exact hK _ _ he
      | panicked c=>exact he
      | outgrown=>exact he
     | row row args=>exact ⟨fun h=>(by cases h),fun c cs _=>by
       obtain ⟨v,A,r,s⟩:=h c cs
       exact ⟨v,A,hK _ _ r,stepsIn_wide.2 s⟩⟩
     | _=>exact False.elim h
    | halt x w'=>cases x<;>exact h
   ·exact absurd h hQ
  ·next hw=>
   rw [if_neg hw] at h
   exact ⟨fun _ _=>trivial,hK _ _ h⟩
theorem x5D (hd:∀(i:Nat) (o:Oper),ops[i]? =some o→∀c,o.op≠ .defer c) (hQ:¬LetsOut Q):∀(fuel:Nat) (listed:Array Bool) (a:Act) (w:World),wpAny P md ops Q fuel listed a w→wpAnyIn (Fence.wide.inRound l) n P md ops Q fuel listed a w
 | 0,_,_,_,h=>h
 | fuel+1,_,_,_,h=>⟨h.1,fun i hi=>x9b hd hQ (fun a w k=>x5D hd hQ fuel _ a w k) (h.2 i hi)⟩
def Nrm (K:Act→World→Prop):Exit→Act→World→Prop
 | .normal,a,w=>K a w
 | _,_,_=>False
theorem x0f {K:Act→World→Prop} {a:Act} {w:World} (h:K a w):Nrm K .normal a w:=h
theorem y1D {Q:Exit→Act→World→Prop}:∀e a w,Nrm (Q .normal) e a w→Q e a w:=fun e a w h=>by
 cases e<;>first | exact h | exact False.elim h
theorem x9c {S:World→Prop} {id:Nat} {a:Act} {w:World} (hm:P.follows .mixedOrders=true) (hS:S w.drew) (h:S w.drew→wpAnyH P .any ops (Nrm (Q .normal)) S ops.size (Array.replicate ops.size false) a w.drew):(Code.region id ops true).wp P Q a w:=
 wp_mono (wp_region_held_drew hm hS h) y1D
theorem x1n {S:World→Prop} {id:Nat} {a:Act} {w:World} (hm:P.follows .mixedOrders=true) (hd:(ops.toList.all fun o=>match o.op with | .defer _=>false | _=>true)=true) (hS:S w.drew) (h:S w.drew→wpAnyH P .any ops (Nrm (Q .normal)) S ops.size (Array.replicate ops.size false) a w.drew):(Code.region id ops true).wpIn (Fence.wide.inRound l) n P Q a w:=
 wpIn_mono (wpIn_region_any hm (x5D (fun i o ho c hc=>by
  have h1:=List.all_eq_true.1 hd o (Array.mem_toList_iff.2 (Array.mem_of_getElem? ho))
  rw [hc] at h1
  cases h1) (fun ⟨_,_,h⟩=>h) _ _ _ _ (wpAny_of_held _ _ _ _ (h hS)))) y1D
end
end Go.Proofs.YtinihaflmdihaaaGreat.Wl
namespace Go.Proofs.YtinihaflmdihaaaGreat.Pg
open Go.RowKit Go.Proofs.YtinihaflmdihaaaGreat.Wl
section
variable {P:Program} {ops:Array Oper} {Q:Exit→Act→World→Prop} {l n:Nat}
theorem y1E {o:Oper} {K K':Act→World→Prop} {a:Act} {w:World} (hd:∀c,o.op≠ .defer c) (hQ:¬LetsOut Q) (hK:∀a w,K a w→K' a w) (h:o.wp P a w K Q∨(o.asks P a w∧LetsOut Q)):o.wpIn (Fence.wide.inRound l) n P a w K' Q:=by
 rcases h with h | ⟨_,h⟩
 ·refine ⟨fun _ _=>trivial,?_⟩
  show Oper.uponIn _ n P o a K' Q ((Oper.semAt (some l) a.eval o).run P w)
  rw [Oper.semAt_some l a.eval o hd]
  unfold Oper.wp at h
  generalize (execOp a.eval o).run P w=r at *
  cases r with
  | ok x w'=>
   cases x with
   | value v=>exact hK _ _ h
   | skip=>exact hK _ _ h
   | defer d=>exact hK _ _ h
   | enter f args=>
    refine ⟨fun h=>(by cases h),CallsIn.inRound l (callsIn_wide.2 (Calls.mono h fun e A he=>?_))⟩
    cases e with
    | returned v=>exact hK _ _ he
    | panicked c=>exact he
    | outgrown=>exact he
   | row row args=>exact ⟨fun h=>(by cases h),fun c cs _=>by
     obtain ⟨v,A,r,s⟩:=h c cs
     exact ⟨v,A,hK _ _ r,stepsIn_wide.2 s⟩⟩
   | _=>exact False.elim h
  | halt x w'=>cases x<;>exact h
 ·exact absurd h hQ
theorem x2P (hQ:¬LetsOut Q):∀(L:List Oper),(∀o∈L,∀c,o.op≠ .defer c)→∀(a:Act) (w:World),wpList P ops Q L a w→wpListIn (Fence.wide.inRound l) n P ops Q L a w
 |[],_,_,_,h=>h
 | o::L,hd,a,w,h=>by
  unfold wpList at h
  unfold wpListIn
  split
  ·next hw=>
   rw [if_pos hw] at h
   exact y1E (hd o List.mem_cons_self) hQ (x2P hQ L (fun x hx=>hd x (List.mem_cons_of_mem _ hx))) h
  ·next hw=>
   rw [if_neg hw] at h
   exact ⟨fun _ _=>trivial,x2P hQ L (fun x hx=>hd x (List.mem_cons_of_mem _ hx)) _ _ h⟩
theorem x0X {id:Nat} {L:List Oper} {a:Act} {w:World} (hd:(L.all fun o=>match o.op with | .defer _=>false | _=>true)=true) (h:wpList P L.toArray (Nrm (Q .normal)) L a w):(Code.region id L.toArray false).wpIn (Fence.wide.inRound l) n P Q a w:=
 wpIn_mono (wpIn_region_list (by
  refine x2P (fun ⟨_,_,h⟩=>h) _ (fun o ho c hc=>?_) _ _ (by simpa using h)
  have h1:=List.all_eq_true.1 hd o (by simpa using ho)
  rw [hc] at h1
  cases h1)) y1D
end
abbrev DG:={d:List Nat//d.length=32∧Sm.allB d}
instance:Inhabited DG:=⟨⟨zeros 32,by simp [zeros],x1l 32⟩⟩
structure Col (L:List Pe) (left:Lit→Bool) (ds:List DG):Prop where
 one:(ds.map (·.1)).Nodup
 mem:∀d,d∈ds.map (·.1)↔d∈L.map (·.d)∧left (klit d)=false
theorem Col.start {D:DataW Value} {L:List Pe} (hr:Reads D L):Col L (Go.Maps.has D) []:=
 ⟨List.nodup_nil,fun d=>by
  constructor
  ·intro h;cases h
  ·rintro ⟨h1,h2⟩
   obtain ⟨e,he,rfl⟩:=List.mem_map.1 h1
   rw [Go.Maps.has_true_of_atKey (hr.at' e he)] at h2
   cases h2⟩
theorem Col.step {L:List Pe} {left:Lit→Bool} {ds:List DG} (h:Col L left ds) (hl:∀e∈L,e.d.length=32∧Sm.allB e.d) {e:Pe} (he:e∈L) (hk:left (klit e.d)=true):Col L (fun z=>left z&& !z.sameKey (klit e.d)) (ds++[⟨e.d,hl e he⟩]):=by
 refine ⟨?_,fun d=>?_⟩
 ·rw [List.map_append,List.nodup_append]
  refine ⟨h.one,by simp,fun a ha c hc hac=>?_⟩
  simp only [List.map_cons,List.map_nil,List.mem_singleton] at hc
  have:=((h.mem a).1 ha).2
  rw [hac,hc,hk] at this
  cases this
 ·rw [List.map_append,List.mem_append,h.mem]
  simp only [List.map_cons,List.map_nil,List.mem_singleton]
  constructor
  ·rintro (⟨B,A⟩ | rfl)
   ·exact ⟨B,by rw [A];rfl⟩
   ·exact ⟨List.mem_map_of_mem he,by rw [WideAt.sameKey_self (x4Y _)];simp⟩
  ·rintro ⟨B,A⟩
   by_cases hd:d=e.d
   ·exact Or.inr hd
   ·obtain ⟨x,C,rfl⟩:=List.mem_map.1 B
    rw [x7M (hl x C).1 (hl x C).2 (hl e he).1 (hl e he).2,decide_eq_false hd] at A
    exact Or.inl ⟨B,by simpa using A⟩
theorem Col.done {L:List Pe} {left:Lit→Bool} {ds:List DG} (h:Col L left ds) (ho:(L.map (·.d)).Nodup) (hl:∀kl,left kl=false):(ds.map (·.1)).Perm (L.map (·.d)):=
 (List.perm_ext_iff_of_nodup h.one ho).2 (fun d=>by rw [h.mem];simp [hl])
end Go.Proofs.YtinihaflmdihaaaGreat.Pg
namespace Go.Proofs.YtinihaflmdihaaaGreat
open Go.RowKit
theorem x0A {P:Program} {ρ:Operand→Value} {o:Oper} {w:World} (ty:TypeId) (x:Operand) (ho:o.op= .load ty x)
  (b i:Nat) (hx:ρ x= .pointer (some ⟨b,i,none⟩)) (cs:List Value) (d:TypeDesc) (hc:w.rangeAt b i cs)
  (hu:P.underlying ty=some d) (hd:d.isRow=true) (hi:(P.info? ty).map (·.size)=some cs.length):
  (execOp ρ o).run P w= .ok (.value (.agg cs.toArray)) w:=by
 unfold execOp
 simp only [ho,hx,Instr.loadAt,Instr.sureAddr,Sem.run_bind,Sem.run_pure,Result.andThen_ok,run_loadVar_mid w b i ty cs d hc hu hd hi]
theorem y4h {P:Program} {ρ:Operand→Value} {o:Oper} {w:World} {ty:TypeId} {x lo:Operand} (ho:o.op= .slice ty x (some lo) none none)
  (ht:P.underlying ty=some (.slice (P.elem ty))) (sz:Nat) (hs:(P.info? (P.elem ty)).map (·.size)=some sz) {p:Option Addr} {n c k:Nat} (hx:ρ x= .slice p n c) (hl:ρ lo= .int .i64 (k:Int)) (hk:k≤n):
  (execOp ρ o).run P w= .ok (.value (.slice (if c=k then p else p.map (·.add (k*sz))) (n - k) (c - k))) w:=by
 have A:(sizeOf (P.elem ty)).run P w= .ok sz w:=by
  generalize he:P.elem ty=el at hs
  cases hj:P.info? el with
  | none=>rw [hj] at hs;cases hs
  | some i=>
   rw [hj] at hs
   have hs:i.size=sz:=by simpa using hs
   simp [sizeOf,run_typeInfo w hj,hs]
 unfold execOp
 simp only [ho,hx,hl,Option.map_some,Option.map_none,Sem.run_bind]
 rw [run_sliceAt_slice _ _ _ _ _ _ ht,run_slice_l _ _ _ _ _ ht .i64 (k:Int) (by omega) (by omega),A]
 simp [Result.andThen,sliced]
theorem y1F {P:Program} {ρ:Operand→Value} {o:Oper} {w:World} {ty:TypeId} {x hi:Operand} (ho:o.op= .slice ty x none (some hi) none)
  (ht:P.underlying ty=some (.slice (P.elem ty))) (sz:Nat) (hs:(P.info? (P.elem ty)).map (·.size)=some sz) {p:Option Addr} {n c k:Nat} (hx:ρ x= .slice p n c) (hl:ρ hi= .int .i64 (k:Int)) (hk:k≤c):
  (execOp ρ o).run P w= .ok (.value (.slice (if c=0 then p else p.map (·.add 0)) k c)) w:=by
 have A:(sizeOf (P.elem ty)).run P w= .ok sz w:=by
  generalize he:P.elem ty=el at hs
  cases hj:P.info? el with
  | none=>rw [hj] at hs;cases hs
  | some i=>
   rw [hj] at hs
   have hs:i.size=sz:=by simpa using hs
   simp [sizeOf,run_typeInfo w hj,hs]
 unfold execOp
 simp only [ho,hx,hl,Option.map_some,Option.map_none,Sem.run_bind]
 rw [run_sliceAt_slice _ _ _ _ _ _ ht,run_slice_h _ _ _ _ _ ht .i64 (k:Int) (by omega) (by omega),A]
 simp [Result.andThen,sliced]
end Go.Proofs.YtinihaflmdihaaaGreat
namespace Go.Proofs.YtinihaflmdihaaaGreat.Nd
open Go.RowKit
def LowL {α:Type} (rows:α→List Rw) (mid:Nat) (v:Value) (L:List α):Prop:=(∀x,v.ownBlock=some x→x<mid)∧∀e∈L,∀r∈rows e,∀x,r.p=some x→r.R≠[]→x.block<mid
section
variable {α:Type} {t:TypeId} {sz:Nat} {cells:α→List Value} {rows:α→List Rw} {B B':Nat} {w w':World} {v:Value} {n mid:Nat} {L:List α}
theorem Lst.low (h:Lst t sz cells rows B w v n L):LowL rows w.heap.size v L:=⟨fun x hx=>(h.own.lt x hx).2,fun e he r hr x hx hR=>(h.each e he r hr).1.lt x hx hR⟩
theorem Lst.base (h:Lst t sz cells rows B w v n L) (hB:B'≤B):Lst t sz cells rows B' w v n L:=
 ⟨h.len,⟨h.own.1,h.own.2.imp id fun ⟨g,cap,cur,hv,hg,r⟩=>⟨g,cap,cur,hv,Nat.le_trans hB hg,r⟩⟩,fun e he r hr=>⟨(h.each e he r hr).1.base hB,(h.each e he r hr).2⟩⟩
theorem Lst.keepIn (h:Lst t sz cells rows B w v n L) (hl:LowL rows mid v L) (hk:∀k,B≤k→k<mid→k<w.heap.size→w'.heap[k]? =w.heap[k]?):Lst t sz cells rows B w' v n L:=by
 refine ⟨h.len,⟨h.own.1,h.own.2.imp id ?_⟩,fun e he r hr=>⟨⟨rw_keep (h.each e he r hr).1.ok fun x hx hR=>hk x.block ((h.each e he r hr).1.lo x hx hR) (hl.2 e he r hr x hx hR) ((h.each e he r hr).1.lt x hx hR),(h.each e he r hr).1.lo⟩,(h.each e he r hr).2⟩⟩
 rintro ⟨g,C,A,E,G,H,r⟩
 exact ⟨g,C,A,E,G,(hk g G (hl.1 g (by rw [E];rfl)) (yL H)).trans H,r⟩
theorem LowL.mono {mid':Nat} (h:LowL rows mid v L) (hm:mid≤mid'):LowL rows mid' v L:=⟨fun x hx=>Nat.lt_of_lt_of_le (h.1 x hx) hm,fun e he r hr x hx hR=>Nat.lt_of_lt_of_le (h.2 e he r hr x hx hR) hm⟩
end
theorem Kds.low {B:Nat} {w:World} {v:Value} {n:Nat} {K:List Kd} (h:Kds B w v n K):LowL Kd.rows w.heap.size v K:=h.lst.low
theorem Kds.keepIn {B mid:Nat} {w w':World} {v:Value} {n:Nat} {K:List Kd} (h:Kds B w v n K) (hl:LowL Kd.rows mid v K) (hk:∀k,B≤k→k<mid→k<w.heap.size→w'.heap[k]? =w.heap[k]?):Kds B w' v n K:=⟨h.lst.keepIn hl hk,h.good⟩
theorem Kds.keep {B:Nat} {w w':World} {v:Value} {n:Nat} {K:List Kd} (h:Kds B w v n K) (hk:∀k,B≤k→k<w.heap.size→w'.heap[k]? =w.heap[k]?):Kds B w' v n K:=⟨h.lst.keep hk,h.good⟩
theorem Kds.base {B B':Nat} {w:World} {v:Value} {n:Nat} {K:List Kd} (h:Kds B w v n K) (hB:B'≤B):Kds B' w v n K:=⟨h.lst.base hB,h.good⟩
structure Fresh (B mid:Nat) (w:World) (p:Option Addr) (n c:Nat) (q:Option Addr) (m f:Nat) (E:List En) (K:List Kd):Prop where
 base:B≤mid
 ents:Ens B w (.slice p n c) n E
 low:LowL En.rows mid (.slice p n c) E
 kids:Kds mid w (.slice q m f) m K
theorem Fresh.keep {B mid:Nat} {w w':World} {p:Option Addr} {n c:Nat} {q:Option Addr} {m f:Nat} {E:List En} {K:List Kd} (h:Fresh B mid w p n c q m f E K) (hk:∀k,B≤k→k<w.heap.size→w'.heap[k]? =w.heap[k]?):Fresh B mid w' p n c q m f E K:=
 ⟨h.base,h.ents.keep hk,h.low,h.kids.keep fun k hk1=>hk k (Nat.le_trans h.base hk1)⟩
theorem Fresh.later {B mid:Nat} {w w':World} {p:Option Addr} {n c:Nat} {q:Option Addr} {m f:Nat} {E:List En} {K:List Kd} (h:Fresh B mid w p n c q m f E K) (hb:Below w.heap.size w w'):Fresh B mid w' p n c q m f E K:=h.keep fun k _ hk=>hb.block k hk
theorem Fresh.keepIn {B mid hi:Nat} {w w':World} {p:Option Addr} {n c:Nat} {q:Option Addr} {m f:Nat} {E:List En} {K:List Kd} (h:Fresh B mid w p n c q m f E K) (hE:LowL En.rows hi (.slice p n c) E) (hK:LowL Kd.rows hi (.slice q m f) K) (hk:∀k,B≤k→k<hi→k<w.heap.size→w'.heap[k]? =w.heap[k]?):Fresh B mid w' p n c q m f E K:=
 ⟨h.base,h.ents.keepIn hE hk,h.low,h.kids.keepIn hK fun k hk1=>hk k (Nat.le_trans h.base hk1)⟩
theorem Fresh.ents_in {B mid:Nat} {w:World} {p:Option Addr} {n c:Nat} {q:Option Addr} {m f:Nat} {E:List En} {K:List Kd} (h:Fresh B mid w p n c q m f E K) (hn:n≤9223372036854775807):EntsIn w p n c E:=h.ents.ents hn
theorem Fresh.kids_in {B mid:Nat} {w:World} {p:Option Addr} {n c:Nat} {q:Option Addr} {m f:Nat} {E:List En} {K:List Kd} (h:Fresh B mid w p n c q m f E K) (hn:m≤9223372036854775807):KidsIn w q m f K:=h.kids.kids hn
theorem Fresh.down {B B' mid:Nat} {w:World} {p:Option Addr} {n c:Nat} {q:Option Addr} {m f:Nat} {E:List En} {K:List Kd} (h:Fresh B mid w p n c q m f E K) (hB:B'≤B):Fresh B' mid w p n c q m f E K:=
 ⟨Nat.le_trans hB h.base,h.ents.base hB,h.low,h.kids⟩
def REnt (w:World) (g:Nat) (R:List Int) (live:Bool) (s:Rd) (e:Ending) (w':World):Prop:=
 ∃r:Rw,e= .returned (.agg #[.slice r.p r.n r.c,.bool live])∧r.R=R∧FrRw w' w.heap.size r∧RSx w' g s∧w.grownBy w' (some g)
theorem x86 (s:Rd) (g:Nat) (w:World) (hs:RSx w g s) (hl:s.R.length<1099511627776):
  Calls Tryz.prog 146 #[.pointer (some ⟨g,0,none⟩)] w (REnt w g (s.truth.rowV 8) s.truthV (s.entN 8)):=by
 have e5:s.entN 8=(s.truth.row 8).2:=rfl
 rw [e5]
 clear e5
 have l:Sm.allB s.R:=by obtain ⟨p,n,c,h⟩:=hs;exact h.tx.ok
 have hg:g<w.heap.size:=hs.lt
 have j:Below w.heap.size w (w.alloc (.cells #[.slice none 0 0,.bool false] 85)):=(Below.refl _ _).alloc (Nat.le_refl _) _
 have r1:=heap_alloc_new w (.cells #[.slice none 0 0,.bool false] 85)
 have z1:(w.alloc (.cells #[.slice none 0 0,.bool false] 85)).heap.size=w.heap.size+1:=by simp
 go_enter Tryz.func146,Tryz.ntmps146
 go_upto_region 1 with fail
 generalize w.alloc (.cells #[.slice none 0 0,.bool false] 85)=w1 at *
 have Q:Below w1.heap.size w1 (w1.alloc (.cells #[.slice none 0 0,.bool false] 85)):=(Below.refl _ _).alloc (Nat.le_refl _) _
 have y:=heap_alloc_new w1 (.cells #[.slice none 0 0,.bool false] 85)
 rw [z1] at y
 go_upto_region 2 with fail
 generalize w1.alloc (.cells #[.slice none 0 0,.bool false] 85)=w2 at *
 have C:Below w.heap.size w w2:=j.trans (Q.mono (by omega))
 have R1:=yH ((Q.block w.heap.size (by omega)).trans r1)
 have x:=yH y
 have B2:=yH C
 have HT:=yH (x9K s g w2 (hs.later C) hl)
 have G:=x6N l
 have AY:=yH G.1
 have A3:=yH (Nat.lt_of_le_of_lt G.2 hl)
 have i:=x2F (m:=8) G.1
 have d:=x4U (m:=8) G.1
 clear r1 y j Q C z1 hs l G hl
 clear w1
 generalize s.truthV=lv at *
 generalize s.truth=s1 at *
 obtain ⟨A,O⟩:∃A,A=w.heap.size:=⟨_,rfl⟩
 rw [← O] at R1 x hg ⊢
 have H:=yH O
 clear O
 go_upto_region 3 with (go_at_call 194;refine HT.out.mono ?_;rintro e N hp;obtain ⟨rfl,h3,t⟩:=hp;have f:=yH ((t.block A (yL R1.out) (by simp;omega)).trans R1.out);have K:=yH ((t.block (A+1) (yL x.out) (by simp;omega)).trans x.out);have c1:=cell_of_row N (A+1) 1 _ _ _ K.out;have f1:=frozen_of_row N (A+1) 1 _ _ K.out;have H3:=yH h3;have G3:=yH (x0a (x1L B2.out (some g)) t);clear h3 t)
 have r4:=heap_setCell_same N (A+1) 1 _ _ (.bool lv) K.out
 have M:Below (A+1) N (N.setCell ⟨A+1,1,none⟩ (.bool lv)):=(Below.refl _ _).setCell (p:=⟨A+1,1,none⟩) (Nat.le_refl _) _
 have z4:(N.setCell ⟨A+1,1,none⟩ (.bool lv)).heap.size=N.heap.size:=by simp [World.setCell]
 have A1:=yH (H3.out.low (M.mono (by omega)))
 have W:=yH ((M.block A (by omega)).trans f.out)
 have P:=yH r4
 have G4:=yH (x0s G3.out (show w.heap.size≤A+1 by have:=H.out;omega) M (by omega))
 clear r4 M z4 c1 f1 f K H3 G3
 generalize N.setCell ⟨A+1,1,none⟩ (.bool lv)=w4 at *
 have HW:=yH (x4T s1 g w4 A1.out A3.out)
 have A7:=yH i
 have v:=yH d
 clear i d
 generalize s1.rowV 8=R at *
 generalize (s1.row 8).2=s2 at *
 go_upto_region 4 with (go_at_call 195;refine HW.out.mono ?_;rintro e J hp;obtain ⟨v5,rfl,o5,h5,u⟩:=hp;obtain ⟨B,rfl,a,-,b⟩:=x3L o5 A7.out (by have:=v.out;omega);have X:=yH b;have A0:=yH a;have U:=yH ((u.block A (yL W.out) (by simp;omega)).trans W.out);have I:=yH ((u.block (A+1) (yL P.out) (by simp;omega)).trans P.out);have c0:=cell_of_row J (A+1) 0 _ _ _ I.out;have f0:=frozen_of_row J (A+1) 0 _ _ I.out;have H5:=yH h5;have G5:=yH (x0a G4.out u);have Z4:=yH (show A+1<w4.heap.size from (yL P.out));clear o5 h5 u b a;unfold Rw.val)
 have r6:=heap_setCell_same J (A+1) 0 _ _ (.slice B.p B.n B.c) I.out
 have L:Below (A+1) J (J.setCell ⟨A+1,0,none⟩ (.slice B.p B.n B.c)):=(Below.refl _ _).setCell (p:=⟨A+1,0,none⟩) (Nat.le_refl _) _
 have z6:(J.setCell ⟨A+1,0,none⟩ (.slice B.p B.n B.c)).heap.size=J.heap.size:=by simp [World.setCell]
 have z:=yH (H5.out.low (L.mono (by omega)))
 have E:=yH ((L.block A (by omega)).trans U.out)
 have Y:=yH r6
 have G6:=yH (x0s G5.out (show w.heap.size≤A+1 by have:=H.out;omega) L (by omega))
 have F6:=yH (X.out.keep (w':=J.setCell ⟨A+1,0,none⟩ (.slice B.p B.n B.c)) (fun k hk _=>heap_setCell_other _ _ _ _ (by show k≠A+1;have:=Z4.out;omega)))
 clear r6 L z6 c0 f0 U I H5 G5 X
 generalize J.setCell ⟨A+1,0,none⟩ (.slice B.p B.n B.c)=w6 at *
 have c0:=cell_of_row w6 (A+1) 0 _ _ _ Y.out
 have c1:=cell_of_row w6 (A+1) 1 _ _ _ Y.out
 have a0:=cell_of_row w6 A 0 _ _ _ E.out
 have a1:=cell_of_row w6 A 1 _ _ _ E.out
 have f0:=frozen_of_row w6 A 0 _ _ E.out
 have f1:=frozen_of_row w6 A 1 _ _ E.out
 obtain ⟨du,q,o⟩:=UEn
 have HD:=yH q
 have A4:=yH o
 clear q o
 go_wp2_with fail
 have r7:=heap_setCell_same w6 A 0 _ _ (.slice B.p B.n B.c) E.out
 have r8:=heap_setCell_same _ A 1 _ _ (.bool lv) r7
 have r:Below A w6 ((w6.setCell ⟨A,0,none⟩ (.slice B.p B.n B.c)).setCell ⟨A,1,none⟩ (.bool lv)):=((Below.refl _ _).setCell (p:=⟨A,0,none⟩) (Nat.le_refl _) _).setCell (p:=⟨A,1,none⟩) (Nat.le_refl _) _
 have z8:((w6.setCell ⟨A,0,none⟩ (.slice B.p B.n B.c)).setCell ⟨A,1,none⟩ (.bool lv)).heap.size=w6.heap.size:=by simp [World.setCell]
 refine x1B 2 (by kernel_rfl) A _ #[.slice B.p B.n B.c,.bool lv] HD.out A4.out SEn (by rfl) r8 ?_
 refine ⟨B,rfl,A0.out,?_,z.out.low (r.mono (by omega)),x0s G6.out (show w.heap.size≤A by have:=H.out;omega) r (by omega)⟩
 refine (F6.out.keep (fun k hk _=>?_)).base (by have:=Z4.out;have:=H.out;omega)
 have Z:k≠A:=by have:=Z4.out;omega
 rw [heap_setCell_other _ _ _ _ (by exact Z),heap_setCell_other _ _ _ _ (by exact Z)]
end Go.Proofs.YtinihaflmdihaaaGreat.Nd
