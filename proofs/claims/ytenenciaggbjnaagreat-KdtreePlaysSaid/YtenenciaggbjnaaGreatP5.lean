/- CodW, CodWDg, CodNums, NdByP, NlEachK, NlFns, NlShaped, NlRight, CodWRow, CodWTruth, CodClone, CodWBytes. -/
import Derived.Laws.AppendOwn
import Derived.Test.YtenenciaggbjnaaGreatP4
set_option maxRecDepth 100000
set_option maxHeartbeats 8000000
set_option linter.all false
namespace Go.Proofs.YtenenciaggbjnaaGreat
section
open Go.RowKit
structure WStep (w w':World) (g:Nat) (v v':Value):Prop where
 os:w'.os=w.os
 tape:w'.tape=w.tape
 output:w'.output=w.output
 size:w.heap.size<=w'.heap.size
 block:∀k,k<w.heap.size->k≠g->v.ownBlock≠some k->w'.heap[k]? =w.heap[k]?
 own:∀k,v'.ownBlock=some k->v.ownBlock=some k\/w.heap.size<=k
theorem WStep.refl (w:World) (g:Nat) (v:Value):WStep w w g v v:=⟨rfl,rfl,rfl,jB _,fun _ _ _ _=>rfl,fun _ h=>Or.inl h⟩
theorem WStep.trans {a b c:World} {g:Nat} {v1 v2 v3:Value} (h:WStep a b g v1 v2) (k:WStep b c g v2 v3):WStep a c g v1 v3:=
 ⟨k.os.trans h.os,k.tape.trans h.tape,k.output.trans h.output,jJ h.size k.size,
  fun i hi hg hv=>(k.block i (jO hi h.size) hg (fun e=>by rcases h.own i e with h1 | h1;exact hv h1;omega)).trans (h.block i hi hg hv),
  fun i hi=>by
   rcases k.own i hi with h1 | h1
   ·exact h.own i h1
   ·exact Or.inr (jJ h.size h1)⟩
theorem WStep.of_below {w w':World} (g:Nat) (v:Value) (h:Below w.heap.size w w'):WStep w w' g v v:=
 ⟨h.os,h.tape,h.output,h.size,fun k hk _ _=>h.block k hk,fun _ h=>Or.inl h⟩
theorem WStep.alloc (w:World) (g:Nat) (v:Value) (o:Obj):WStep w (w.alloc o) g v v:=WStep.of_below g v (jA _ _)
theorem WStep.below {w w':World} {base g:Nat} {v v':Value} (h:WStep w w' g v v') (hg:base<=g) (hv:∀k,v.ownBlock=some k->base<=k) (hs:base<=w.heap.size):Below base w w':=
 ⟨h.os,h.tape,h.output,h.size,fun k hk=>h.block k (by omega) (by omega) (fun e=>by have:=hv k e;omega)⟩
structure St where
 B:List Nat
 e:Nat
def St.put (s:St) (P:List Nat):St:=if s.e=0 then ⟨s.B++P,0⟩ else s
def St.no:St:=⟨[],10⟩
structure WS (w:World) (base g:Nat) (v:Value) (s:St):Prop where
 row:w.heap[g]? =some (.cells #[v,.int .i64 s.e] 347 (0,0))
 own:w.ownsRow base 5 1 v s.B.length (vals s.B)
 ok:Sm.allB s.B
 nil:s.e≠0->v= .slice none 0 0/\s.B=[]
theorem WS.lt {w:World} {base g:Nat} {v:Value} {s:St} (h:WS w base g v s):g<w.heap.size:=(yL h.row)
theorem WS.err {w:World} {base g:Nat} {v:Value} {s:St} (h:WS w base g v s):w.cell? ⟨g,1,none⟩=some (.int .i64 s.e):=by
 rw [jH w g 1 _ _ _ h.row];rfl
theorem WS.out {w:World} {base g:Nat} {v:Value} {s:St} (h:WS w base g v s):w.cell? ⟨g,0,none⟩=some v:=by
 rw [jH w g 0 _ _ _ h.row];rfl
theorem WS.later {w w':World} {base g:Nat} {v:Value} {s:St} (h:WS w base g v s) (hb:Below w.heap.size w w'):WS w' base g v s:=
 ⟨(hb.block _ h.lt).trans h.row,x4J h.own hb,h.ok,h.nil⟩
theorem x5g {w:World} {base g n:Nat} {v:Value} {xs:List Value} {cs:Array Value} {fr:Nat×Nat} (h:w.ownsRow base 5 1 v n xs) (hr:w.heap[g]? =some (.cells cs 347 fr)):v.ownBlock≠some g:=by
 rcases h.2 with ⟨rfl,_⟩ | ⟨E,B,C,rfl,_,A,_⟩
 ·simp [Value.ownBlock]
 ·intro e;obtain rfl:E=g:=by simpa [Value.ownBlock] using e
  rw [hr] at A;simp at A
theorem x97 {w:World} {base n:Nat} {v:Value} {xs:List Value} (h:w.ownsRow base 5 1 v n xs) {a:Addr} (ha:v.ownBlock≠some a.block) (u:Value):(w.setCell a u).ownsRow base 5 1 v n xs:=by
 obtain ⟨G,A⟩:=h;refine ⟨G,?_⟩;rcases A with A | ⟨g,C,B,rfl,E,H,r⟩
 ·exact Or.inl A
 ·exact Or.inr ⟨g,C,B,rfl,E,by rw [Below.heap_setCell _ _ _ _ (fun e=>ha (by simp [Value.ownBlock,e]))];exact H,r⟩
theorem Tx.step {w w':World} {p:Option Addr} {n c:Nat} {B:List Nat} (h:Tx w p n c B) {g:Nat} {v v':Value} (hs:WStep w w' g v v') (hg:∀x,p=some x->B≠[]->x.block≠g/\v.ownBlock≠some x.block):Tx w' p n c B:=
 ⟨h.size,h.le,h.ok,h.at'.imp id fun ⟨x,hp,hx⟩=>⟨x,hp,fun j u hu=>by
  have h1:=hx j u hu
  have hB:B≠[]:=by rintro rfl;simp [vals] at hu
  obtain ⟨E,C⟩:=hg x hp hB
  have A:(x.add j).block=x.block:=by cases x;simp [Addr.add];split<;>rfl
  rw [jX (w:=w) (hs.block _ (jI h1) (by rw [A];exact E) (by rw [A];exact C))]
  exact h1⟩,h.sp⟩
def WPost (w:World) (base g:Nat) (v:Value) (s:St) (e:Ending) (w':World):Prop:=e= .returned (.tuple #[])/\∃v',WS w' base g v' s/\WStep w w' g v v'
theorem WS.stored {w w2:World} {base g:Nat} {v v2:Value} {s:St} {P:List Nat} (h:WS w base g v s) (he:s.e=0) (hP:Sm.allB P) (ho:w2.ownsRow base 5 1 v2 (s.B.length+P.length) (vals s.B++vals P))
  (hg:w.grownBy w2 v.ownBlock) (hv:∀k,v2.ownBlock=some k->v.ownBlock=some k\/w.heap.size<=k):WS (w2.setCell ⟨g,0,none⟩ v2) base g v2 (s.put P)/\WStep w (w2.setCell ⟨g,0,none⟩ v2) g v v2:=by
 have E:=x5g h.own h.row;have C:w2.heap[g]? =some (.cells #[v,.int .i64 s.e] 347 (0,0)):=(hg.block g h.lt (fun e=>E e.symm)).trans h.row;have G:=jU w2 g 0 _ _ v2 C;have e:s.put P=⟨s.B++P,0⟩:=by unfold St.put;rw [if_pos he]
 rw [e];refine ⟨⟨?_,?_,fun x A=>?_,fun hc=>absurd rfl hc⟩,?_⟩
 ·rw [he] at G;exact G
 ·have:=x97 ho (a:=⟨g,0,none⟩) (x5g ho C) v2;rw [<- x0w] at this
  simpa using this
 ·rcases jP.1 A with A | A
  ·exact h.ok x A
  ·exact hP x A
 ·refine ⟨hg.os,hg.tape,hg.output,by simpa [World.setCell] using hg.size,fun k hk h1 h2=>?_,hv⟩;rw [Below.heap_setCell _ _ _ _ h1];exact hg.block k hk (fun e=>h2 e.symm)
theorem y26 (s:St) (P:List Nat) (base g:Nat) (v:Value) (p:Option Addr) (n c:Nat) (w:World) (hs:WS w base g v s) (hP:Tx w p n c P) (hl:s.B.length+P.length<1099511627776) (hbw:base<=w.heap.size):
  Calls Tryz.prog 317 #[.pointer (some ⟨g,0,none⟩),.slice p n c] w (WPost w base g v (s.put P)):=by
 have X:=hP.size;by_cases he:s.e=0
 ·obtain ⟨z,u,O⟩:=x1v hs.own;obtain ⟨m,J⟩:∃m,m=s.B.length:=⟨_,rfl⟩
  rw [<- J] at O;subst O;have I:w.cell? ⟨g,1,none⟩=some (.int .i64 0):=by have:=hs.err;rw [he] at this;exact this
  have h0:=hs.out;have f0:w.frozen? ⟨g,0,none⟩=false:=jS w g 0 _ _ hs.row;obtain ⟨l,q,M,L,N⟩:=info_parts I5;have r:=yH q;have Z:=yH M;have i:=yH L;have h:=yH N;have A:=yH hs;have b:=yH hP;have j:=yH he;have HO:=yH hs.own;have U:=yH X;have y:n<1099511627776:=by omega
  have a:s.B.length+n<1099511627776:=by omega
  rw [<- J] at a;have o:=yH J;have C:=hs.own;rw [<- J] at C;have H:=yH C;clear q M L N hs he hl X J C;have HR:=yH A.out.row;rcases hP.at' with ⟨Y,hc⟩ | ⟨x,Y,_⟩
  ·subst Y;subst hc;obtain rfl:n=0:=by have:=hP.le;omega
   have K:P=[]:=jZ.1 U.out.symm;have f:=yH K;clear hP K
   go_enter Tryz.func317,Tryz.ntmps317
   go_wp2_with (at_builtin;refine wpList_append_own_none (by rfl) (.tmp 13) (.tmp 14) 45 (by rfl) base 5 l 1 A22 r.out _ m _ (by rfl) H.out (by rfl) ?_)
   go_end0
   refine ⟨rfl,_,A.out.stored j.out b.out.ok ?_ ⟨rfl,rfl,rfl,jB _,fun _ _ _=>rfl⟩ (fun k hk=>Or.inl hk)⟩;rw [f.out,List.length_nil,Nat.add_zero]
   simpa [vals,<- o.out] using H.out
  ·subst Y;clear hP
   go_enter Tryz.func317,Tryz.ntmps317
   go_wp2_with (at_builtin;refine wpList_append_own_at w (by rfl) (.tmp 13) (.tmp 14) 45 (by rfl) base 5 l (.int .u8 0) 1 1 A22 r.out Z.out i.out h.out (by rfl) (by decide) _ m _ (by rfl) H.out x n c (vals P) (by rfl) (by rw [x00,Nat.mul_one];exact U.out.symm) b.out.cells (x0L _) (by unfold maxLen;omega) (by omega) hbw ?_;intro v2 w2 hown2 hgrow2 _ hat2;obtain ⟨q2,c2,G⟩:=x1v hown2;have E:=(hgrow2.block g A.out.lt (fun e=>x5g A.out.own A.out.row e.symm)).trans HR.out;have A1:w2.cell? ⟨g,0,none⟩=some (.slice z m u):=(jH w2 g 0 _ _ _ E).trans rfl;have t:w2.frozen? ⟨g,0,none⟩=false:=jS w2 g 0 _ _ E;have R:=yH hown2;have W:=yH hgrow2;have d:=yH hat2;have Q:=yH G;rw [G];clear hown2 hgrow2 hat2 G E)
   go_end0
   refine ⟨rfl,_,A.out.stored j.out b.out.ok ?_ ?_ (fun k hk=>?_)⟩
   ·have e:m+n=s.B.length+P.length:=by rw [o.out,U.out]
    have:=R.out;rw [Q.out,e] at this;rw [e];exact this
   ·exact W.out
   ·rw [<- Q.out] at hk;rcases d.out with I | I
    ·exact Or.inl (I.symm.trans hk)
    ·rw [I] at hk;cases hk
     exact Or.inr (jB _)
 ·have I:=hs.err;have b1:((s.e:Int)==0)=false:=by simp;omega
  have e:s.put P=s:=by unfold St.put;rw [if_neg he]
  rw [e];have A:=yH hs;clear hs hP he e hl X
  go_enter Tryz.func317,Tryz.ntmps317
  go_wp2_with fail
  go_end0
  exact ⟨rfl,v,A.out,WStep.refl _ _ _⟩
theorem WPost.trans {w w1:World} {base g:Nat} {v v1:Value} {s:St} (h:WStep w w1 g v v1) {e:Ending} {w':World} (k:WPost w1 base g v1 s e w'):WPost w base g v s e w':=by
 obtain ⟨E,A,C,B⟩:=k;exact ⟨E,A,C,h.trans B⟩
theorem x2V (s:St) (x:Nat) (hx:x<256) (base g:Nat) (v:Value) (w:World) (hs:WS w base g v s) (hl:s.B.length+1<1099511627776) (hbw:base<=w.heap.size):
  Calls Tryz.prog 293 #[.pointer (some ⟨g,0,none⟩),.int .u8 x] w (WPost w base g v (s.put [x])):=by
 have I:=WStep.alloc w g v (.cells #[.int .u8 x] 5);have A:=hs.later ((jC w.heap.size w).alloc (jB _) (.cells #[.int .u8 x] 5));have G:Tx (w.alloc (.cells #[.int .u8 x] 5)) (some ⟨w.heap.size,0,none⟩) 1 1 [x]:=(Bytes.row (L:=[x]) (jE w _) (by intro y hy;simp at hy;omega)).tx;have J:=yH I;have C:=yH A;have P:=yH G;clear I A G hs
 go_enter Tryz.func293,Tryz.ntmps293
 go_wp2_with fail
 refine (y26 s [x] base g v _ 1 1 _ C.out P.out hl (by simp;omega)).mono ?_;rintro e Q M;obtain ⟨rfl,N,H,E⟩:=M;have K:=yH H;have O:=yH (J.out.trans E);clear H E;go_wp2_with fail
 go_end0
 exact ⟨rfl,N,K.out,O.out⟩
theorem x6g (s:St) (base g:Nat) (v:Value) (w:World) (hs:WS w base g v s):
  Calls Tryz.prog 318 #[.pointer (some ⟨g,0,none⟩)] w (WPost w base g v .no):=by
 have I:=hs.out;have A:=hs.err;have G:w.frozen? ⟨g,0,none⟩=false:=jS w g 0 _ _ hs.row;have H:w.frozen? ⟨g,1,none⟩=false:=jS w g 1 _ _ hs.row;have E:=yH hs;clear hs
 go_enter Tryz.func318,Tryz.ntmps318
 go_wp2_with fail
 go_end0
 have B:=jU w g 0 _ _ (.slice none 0 0) E.out.row;have C:=jU _ g 1 _ _ (.int .i64 10) B;refine ⟨rfl,.slice none 0 0,⟨C,World.ownsRow_nil _ _ _ _,fun x hx=>by simp [St.no] at hx,fun _=>⟨rfl,rfl⟩⟩,?_⟩;refine ⟨rfl,rfl,rfl,by simp [World.setCell],fun k hk A h2=>?_,fun k hk=>by simp [Value.ownBlock] at hk⟩;rw [Below.heap_setCell _ _ _ _ A,Below.heap_setCell _ _ _ _ A]
def y7A (w:World) (base g:Nat) (v:Value) (s:St) (n size:Nat) (i:Value) (wr:World):Prop:=
 ∃(k:Nat) (v':Value),k<=size/\i= .int .i64 k/\WS wr base g v' (s.put ((Cm.be n size).take k))/\WStep w wr g v v'
theorem St.put_nil {s:St} (h:s.e≠0\/s.e=0):s.put []=s:=by
 unfold St.put;obtain ⟨B,e⟩:=s;rcases h with h | h
 ·rw [if_neg h]
 ·rw [if_pos h];simp at h;subst h;simp
theorem St.put_put (s:St) (P Q:List Nat):(s.put P).put Q=s.put (P++Q):=by
 unfold St.put;by_cases h:s.e=0
 ·rw [if_pos h,if_pos rfl,if_pos h,jR]
 ·rw [if_neg h,if_neg h,if_neg h]
theorem St.put_len (s:St) (P:List Nat):(s.put P).B.length<=s.B.length+P.length:=by
 unfold St.put;by_cases h:s.e=0
 ·rw [if_pos h,jQ];exact jB _
 ·rw [if_neg h];omega
theorem x8H (s:St) (n size:Nat) (_hn:n<18446744073709551616) (hsize:size<=8) (base g:Nat) (v:Value) (w:World) (hs:WS w base g v s) (hl:s.B.length+size<1099511627776) (hbw:base<=w.heap.size):
  Calls Tryz.prog 332 #[.pointer (some ⟨g,0,none⟩),.int .u64 n,.int .i64 size] w (WPost w base g v (s.put (Cm.be n size))):=by
 have HS:=yH hs;have R:=yH hl;have G:=yH hbw;clear hs hl hbw
 go_enter Tryz.func332,Tryz.ntmps332
 go_wp2_with fail
 go_loopw [8] (fun i wr=>y7A w base g v s n size i wr) (fun i _=>size - (intOf i).toNat)
 case atStart=>exact ⟨0,v,by omega,rfl,by rw [List.take_zero,St.put_nil (by omega)];exact HS.out,WStep.refl _ _ _⟩
 case round=>
  obtain ⟨k,M,X,rfl,J,L⟩:=hrel;have K:=yH J;have E:=yH L;clear J L HS;by_cases hlt:k<size
  ·have Y:(0:Int)<=8*(size - 1 - k)/\8*(size - 1 - (k:Int))<=64:=by omega
   go_wp2_with fail
   rw [show (n:Int)/2^(8*(size - 1 - k))%256=((n/2^(8*(size - 1 - k))%256:Nat):Int) from by rw [Int.natCast_emod,Int.natCast_ediv,Int.natCast_pow];rfl];obtain ⟨x,C⟩:∃x,x=n/2^(8*(size - 1 - k))%256:=⟨_,rfl⟩
   rw [<- C];have H:x<256:=by rw [C];exact Nat.mod_lt _ (by omega)
   have O:=yH C;clear C;have A:=St.put_len s ((Cm.be n size).take k);rw [kX,Cm.be_length] at A;refine (x2V _ x H base g M _ K.out (by have:=R.out;omega) (jJ G.out E.out.size)).mono ?_;rintro e Z U;obtain ⟨rfl,P,I,N⟩:=U;have W:=yH I;have Q:=yH (E.out.trans N);clear I N A;go_wp2_with fail
   go_roundw
   case rel=>
    refine ⟨k+1,P,by omega,by go_num,?_,Q.out⟩;have:=W.out;rw [St.put_put,O.out,<- Cm.be_take n size k hlt] at this;exact this
   case measure=>simp [intOf];omega
  ·obtain rfl:k=size:=by omega
   go_wp2_with fail
   go_end0
   refine ⟨rfl,M,?_,E.out⟩;have:=K.out;rw [kQ (by rw [Cm.be_length];exact jB _)] at this;exact this
def St.truth (s:St) (x:Bool):St:=s.put [if x then 1 else 0]
def St.count (s:St) (n:Int):St:=if 0<=n/\n<=1048576 then s.put (Cm.be n.toNat 3) else .no
def St.text (s:St) (T:List Nat):St:=(s.count T.length).put T
def St.row (s:St) (R:List Int):St:=if R.length<=255 then R.foldl (fun s n=>s.put (Cm.num n)) (s.put [R.length]) else .no
theorem x8I (s:St) (n:Int) (h1: -9223372036854775808<=n) (h2:n<=9223372036854775807) (base g:Nat) (v:Value) (w:World) (hs:WS w base g v s) (hl:s.B.length+3<1099511627776) (hbw:base<=w.heap.size):
  Calls Tryz.prog 321 #[.pointer (some ⟨g,0,none⟩),.int .i64 n] w (WPost w base g v (s.count n)):=by
 have J:=yH hs;clear hs;unfold St.count;by_cases hn:0<=n/\n<=1048576
 ·
  rw [if_pos hn];obtain ⟨m,rfl⟩:∃m:Nat,n=m:=⟨n.toNat,by omega⟩
  obtain ⟨N,M⟩:=hn;have b1:¬(m:Int)<0:=by omega
  have K:¬(1048576:Int)<m:=by omega
  rw [Int.toNat_natCast]
  go_enter Tryz.func321,Tryz.ntmps321
  go_wp2_with fail
  refine (x8H s m 3 (by omega) (by omega) base g v _ J.out hl hbw).mono ?_;rintro e L H;obtain ⟨rfl,E,A,C⟩:=H;have I:=yH A;have G:=yH C;clear A C;go_wp2_with fail
  go_end0
  exact ⟨rfl,E,I.out,G.out⟩
 ·
  rw [if_neg hn];by_cases b1:n<0
  focus
   clear hn
  rotate_left
  focus
   have K:(1048576:Int)<n:=by omega
   clear hn
  rotate_left;all_goals
   go_enter Tryz.func321,Tryz.ntmps321
   go_wp2_with fail
   refine (x6g s base g v _ J.out).mono ?_;rintro e L H;obtain ⟨rfl,E,A,C⟩:=H;have I:=yH A;have G:=yH C;clear A C;go_wp2_with fail
   refine bodyPost_ret (results_none rfl _ _ _) rfl ?_;exact ⟨rfl,E,I.out,G.out⟩
theorem y5r (s:St) (n:Int) (h1: -9223372036854775808<=n) (h2:n<=9223372036854775807) (base g:Nat) (v:Value) (w:World) (hs:WS w base g v s) (hl:s.B.length+8<1099511627776) (hbw:base<=w.heap.size):
  Calls Tryz.prog 319 #[.pointer (some ⟨g,0,none⟩),.int .i64 n] w (WPost w base g v (s.put (Cm.num n))):=by
 have N:=yH hs;clear hs;have A:=Cm.sign_int h1 h2;have E:=(Cm.z64_lt h1 h2).1;have I:=yH A;have M:=yH E;clear A E
 go_enter Tryz.func319,Tryz.ntmps319
 go_wp2_with fail
 rw [I.out];refine (x8H s (Cm.z64 n) 8 M.out (by omega) base g v _ N.out hl hbw).mono ?_;rintro e O J;obtain ⟨rfl,K,C,G⟩:=J;have L:=yH C;have H:=yH G;clear C G;go_wp2_with fail
 go_end0
 exact ⟨rfl,K,L.out,H.out⟩
theorem x5h (g:Nat) (w:World):(Instr.sliceAt 30 (.pointer (some ⟨g,0,none⟩)) none none none).run Tryz.prog w= .ok (.slice (some ⟨g,0,none⟩) 32 32) w:=by
 have B:Tryz.prog.arrayLen 30=32:=by simp [Program.arrayLen]
 have C:Tryz.prog.elem 30=5:=by simp [Program.elem]
 have G:=run_sliceAt_array_all (P:=Tryz.prog) w 30 ⟨g,0,none⟩ (by rw [B,C];exact A25);obtain ⟨I,H,_,A,_⟩:=info_parts I5;have E:(sizeOf 5).run Tryz.prog w= .ok 1 w:=by simp [sizeOf,typeInfo,H,A]
 rw [G,B,C,E];simp [slicedAt,Addr.add]
theorem x98 (s:St) (d:List Nat) (hd:d.length=32) (hdb:Sm.allB d) (base g:Nat) (v:Value) (w:World) (hs:WS w base g v s) (hl:s.B.length+32<1099511627776) (hbw:base<=w.heap.size):
  Calls Tryz.prog 320 #[.pointer (some ⟨g,0,none⟩),.agg (u8s d)] w (WPost w base g v (s.put d)):=by
 have K:=fun w'=>x5h w.heap.size w';have A:=hs.later ((jC w.heap.size w).alloc (jB _) (.cells (u8s d) 30));have E:Tx (w.alloc (.cells (u8s d) 30)) (some ⟨w.heap.size,0,none⟩) d.length d.length d:=(Bytes.row (L:=d) (jE w _) hdb).tx;rw [hd] at E;have I:=yH (WStep.alloc w g v (.cells (u8s d) 30));have C:=yH A;have Q:=yH E;have O:=yH hd;clear A E hs hd
 go_enter Tryz.func320,Tryz.ntmps320
 go_wp2_with fail
 refine (y26 s d base g v _ 32 32 _ C.out Q.out (by have:=O.out;omega) (by simp;omega)).mono ?_;rintro e R M;obtain ⟨rfl,N,G,H⟩:=M;have P:=yH G;have J:=yH (I.out.trans H);clear G H;go_wp2_with fail
 go_end0
 exact ⟨rfl,N,P.out,J.out⟩
theorem be3 (n:Nat):Cm.be n 3=[n/65536%256,n/256%256,n%256]:=by
 show [n/2^16%256,n/2^8%256,n/2^0%256]=_
 simp
theorem y5s {n:Int} (h1: -9223372036854775808<=n) (h2:n<=9223372036854775807):IntKind.u64.wrap (IntKind.u64.wrap n+9223372036854775808)=((Cm.z64 n:Nat):Int):=by
 have:=(Cm.z64_lt h1 h2).2;rw [Cm.wrap_u64,Cm.wrap_u64];omega
def nums (R:List Int):List Nat:=R.flatMap Cm.num
theorem x3g (R:List Int):(nums R).length=8*R.length:=by
 induction R with
 | nil=>rfl
 | cons x R ih=>
  show (Cm.num x++nums R).length=_
  rw [jQ,ih,Cm.num_length,kI];omega
theorem y5t (R:List Int):Sm.allB (nums R):=fun x hx=>by
 obtain ⟨y,_,hy⟩:=List.mem_flatMap.1 hx
 exact Cm.num_ok y x hy
theorem x8J (R:List Int) (k:Nat) (hk:k<R.length):nums (R.take (k+1))=nums (R.take k)++Cm.num (R.getD k 0):=by
 have e:R.getD k 0=R[k]:=by rw [jG,jM hk];rfl
 rw [e,List.take_succ_eq_append_getElem hk];unfold nums;rw [List.flatMap_append,List.flatMap_cons,List.flatMap_nil,kW]
def rowB (R:List Int):List Nat:=R.length::nums R
theorem y3y {w:World} {base n:Nat} {q:Option Addr} {c:Nat} {xs:List Value} (h:w.ownsRow base 5 1 (.slice q n c) n xs) (h0:0<n):∃x,q=some x:=by
 rcases h.2 with ⟨A,_⟩ | ⟨g,B,C,A,_⟩
 ·cases A;omega
 ·simp only [Value.slice.injEq] at A;exact ⟨_,A.1⟩
end
namespace Nd
open Go.RowKit Wl
def rowBs (R:List Int):List Nat:=R.length%256::Go.Proofs.YtenenciaggbjnaaGreat.nums R
def PE.bytes (e:PE):List Nat:=(if e.live then 1 else 0)::rowBs e.row
def PK.bytes (k:PK):List Nat:=k.sum++(Cm.be k.live.toNat 3++(Cm.be k.size.toNat 3++(rowBs k.lo++(rowBs k.hi++rowBs k.key))))
def PN.bytes (n:PN):List Nat:=n.kind::n.rows.length%256::(n.rows.flatMap PE.bytes++(n.kids.length%256::n.kids.flatMap PK.bytes))
theorem x0Z (R:List Int):(rowBs R).length=1+8*R.length:=by simp [rowBs,x3g];omega
theorem x1F (R:List Int):Sm.allB (rowBs R):=fun x hx=>by
 rcases jW.1 hx with rfl | hx
 ·exact Nat.mod_lt _ (by omega)
 ·exact y5t R x hx
theorem x3t {α:Type} [Inhabited α] (f:α->List Nat) (L:List α) (k:Nat) (h:k<L.length):(L.take (k+1)).flatMap f=(L.take k).flatMap f++f (L.getD k default):=by
 rw [List.take_succ_eq_append_getElem h,List.flatMap_append,jG,jM h];simp
theorem x3h {w:World} {q:Option Addr} {n c:Nat} {B:List Nat} (h:Tx w q n c B) (hB:B≠[]):∃x,q=some x:=by
 rcases h.at' with ⟨_,C⟩ | ⟨x,A,_⟩
 ·have:=h.size;have:=h.le;exact absurd (jZ.1 (by omega)) hB
 ·exact ⟨x,A⟩
structure BySt (w1:World) (gx:Nat) (kd:Kd) (w:World) (v:Value) (n:Nat) (B:List Nat):Prop where
 out:Out w1 w v n B
 row:w.heap[gx]? =some (.cells kd.cells.toArray 34 (0,0))
 ne:v.ownBlock≠some gx
theorem BySt.later {w1 w w':World} {gx:Nat} {kd:Kd} {v:Value} {n:Nat} {B:List Nat} (h:BySt w1 gx kd w v n B) (hb:Below w.heap.size w w'):BySt w1 gx kd w' v n B:=
 ⟨h.out.later hb,(hb.block _ (yL h.row)).trans h.row,h.ne⟩
theorem BySt.put {w1 w w7:World} {gx:Nat} {kd:Kd} {v v7:Value} {n m:Nat} {B P:List Nat} (h:BySt w1 gx kd w v n B) (hP:Sm.allB P) (hm:P.length=m) (hown:w7.ownsRow w1.heap.size 5 1 v7 (n+m) (vals B++vals P)) (hg:w.grownBy w7 v.ownBlock) (hat:v7.ownBlock=v.ownBlock\/v7.ownBlock=some w.heap.size):BySt w1 gx kd w7 v7 (n+m) (B++P):=by
 have C:=(yL h.row)
 refine ⟨h.out.put hP hm hown hg,(hg.block _ C (fun e=>h.ne e.symm)).trans h.row,fun e=>?_⟩;rcases hat with A | A
 ·exact h.ne (A.symm.trans e)
 ·rw [A] at e;have:=Option.some.inj e;omega
theorem BySt.start {w1 w:World} {kd:Kd} {v:Value} {n:Nat} {B:List Nat} (h:Out w1 w v n B):BySt w1 w.heap.size kd (w.alloc (.cells kd.cells.toArray 34)) v n B:=
 ⟨h.later (jA _ _),jE w _,fun e=>by have:=(h.own.lt _ e).2;omega⟩
theorem x02:kd0.cells.length=37:=rfl
theorem kz:(Tryz.prog.info? 34).map (fun i=>(i.zero,i.size))=some (some (.agg kd0.cells.toArray),37):=by kernel_rfl
theorem Kd.one {k:Kd}:∀u∈k.cells,u.oneCell'=true:=by
 intro u A;rcases jP.1 A with A | A
 ·exact x0L _ u A
 ·simp only [jW,jV,or_false] at A;rcases A with rfl | rfl | rfl | rfl | rfl<;>rfl
end Nd
namespace Nd
open Go.RowKit
theorem x8K (p:Option Addr) (n c:Nat) (K:List Kd) (f:PK->Bool) (F:Nat) (cap:Array Value) (hF:∀args w,(callFunc F args).run Tryz.prog w= .ok (.enter F args) w) (w:World) (hK:KidsIn w p n c K) (hs:AskK w K f F cap):
  Calls Tryz.prog 251 #[.slice p n c,.func (.func F) #[] cap] w fun e w'=>e= .returned (.bool ((K.map Kd.pk).all f))/\Below w.heap.size w w':=by
 have t:=yH hs;have v:=yH hK;have l:=yH hK.size;have O:=yH hK.top;obtain ⟨h,R,M⟩:=UKd;have j:=yH R;have J:=yH M;have s:=yH (zero_of_info kz);clear hs hK R M
 go_enter Tryz.func251,Tryz.ntmps251
 go_wp2_with fail
 go_loopw [9] (fun i wr=>EaRel w n f (K.map Kd.pk) i wr) (fun i _=>n - (intOf i).toNat)
 case atStart=>exact ⟨0,by omega,rfl,rfl,jC _ _⟩
 case round=>
  obtain ⟨k,y,rfl,Q,m⟩:=hrel;have q:=yH Q;have L:=yH m;have r:=O.out;clear Q m;by_cases hlt:k<n
  ·obtain ⟨g,o,rfl,N,I⟩:=(v.later L).get k hlt;have z:(0:Int)<=k/\(k:Int)<n:=by omega
   have B:k<K.length:=by rw [<- l.out];exact hlt
   have Z:=yH (x9z Kd.pk f K k B);have X:=yH (x3r Kd.pk f K k B);have H:=getD_mem K k B;generalize K.getD k default=e at *;have G:=jA wr (.cells e.cells.toArray 34);have E:=t.out e _ H (I.later G) (L.trans (G.mono L.size));have C:=yH (L.trans (G.mono L.size));have x:=yH N;have A:=yH (Kd.cells_length I.len);have P:=yH E;have a:=s.1;clear I H G N E;go_upto_region 4 with (first
    | (refine jK (by rfl) 34 _ (by rfl) g (o+k*37) (by rfl) e.cells h x j J (by rw [A.out];exact SKd) ?_)
    | (refine jL (by rfl) 34 (.tmp 6) (.tmp 12) (by rfl) wr.heap.size e.cells.toArray (by rfl) (by rfl) _ _ (jE wr _) (by rw [jF,A.out];exact SKd) (by simp only [jF,A.out,x02]) (jN Kd.one) ?_;rw [x03]))
   have U:=yH (x0E (jE wr (.cells e.cells.toArray 34)));have E:=P.out;generalize wr.alloc (.cells e.cells.toArray 34)=w1 at *;clear a P;cases hfk:f e.pk with
   | false=>
    rw [hfk] at E;have d:=yH E;have HXX:=yH (X.out hfk);clear E hfk X Z;go_wp2_with (first
     | (refine jK (by rfl) 34 _ (by rfl) _ 0 (by rfl) e.cells h U j J (by rw [A.out];exact SKd) ?_)
     | (refine d.mono ?_;rintro e Y ⟨rfl,W⟩))
    go_ret;exact ⟨congrArg (fun b=>Ending.returned (.bool b)) HXX.symm,C.trans (W.mono C.size)⟩
   | true=>
    rw [hfk] at E;have d:=yH E;have HXX:=yH (show allT f (K.map Kd.pk) (k+1)=true by rw [Z.out,q.out,hfk];rfl);clear E hfk X Z;go_wp2_with (first
     | (refine jK (by rfl) 34 _ (by rfl) _ 0 (by rfl) e.cells h U j J (by rw [A.out];exact SKd) ?_)
     | (refine d.mono ?_;rintro e Y ⟨rfl,W⟩;have HB2:=yH (C.trans (W.mono C.size));clear W))
    go_roundw
    case rel=>exact ⟨k+1,by omega,by go_num,HXX.out,HB2.out⟩
    case measure=>simp [intOf];omega
  ·obtain rfl:n=k:=by omega
   have u:=yH (show allT f (K.map Kd.pk) n=(K.map Kd.pk).all f from by rw [l.out];exact x6f Kd.pk f K);go_wp2_with fail
   go_ret;exact ⟨congrArg (fun b=>Ending.returned (.bool b)) (by rw [<- u.out,q.out]),L.out⟩
theorem y0u (e:En) (w:World):
  Calls Tryz.prog 292 #[.agg #[e.row.val,.bool e.live]] w fun r w'=>r= .returned (.bool e.live)/\Below w.heap.size w w':=by
 have A:=jA w (.cells #[e.row.val,.bool e.live] 101);obtain ⟨E,C⟩:=x0a w e.row.val (.bool e.live) 101;have B:=yH A;clear A
 go_enter Tryz.func292,Tryz.ntmps292
 go_upto_region 1 with fail
 generalize w.alloc (.cells #[e.row.val,.bool e.live] 101)=w1 at *;go_wp2_with fail
 go_ret;exact ⟨rfl,B.out⟩
theorem y0v (e:En) (B:Nat) (d:Int) (w:World) (hB:w.cell? ⟨B,0,none⟩=some (.int .i64 d)) (he:e.row.Ok w):
  Calls Tryz.prog 250 #[.agg #[e.row.val,.bool e.live],.pointer (some ⟨B,0,none⟩)] w fun r w'=>r= .returned (.bool (e.pe.long d))/\Below w.heap.size w w':=by
 have A:=jA w (.cells #[e.row.val,.bool e.live] 101);obtain ⟨E,H⟩:=x0a w e.row.val (.bool e.live) 101;have b0:=(A.cell (jI hB)).trans hB;have C:=yH A;have G:=yH (show ((e.row.n:Int)==d)=e.pe.long d from by
  have:=he.ints.size;rw [Bool.eq_iff_iff,beq_iff_eq];unfold PE.long En.pe;rw [jY,<- this])
 clear A hB he
 go_enter Tryz.func250,Tryz.ntmps250
 go_upto_region 1 with fail
 generalize w.alloc (.cells #[e.row.val,.bool e.live] 101)=w1 at *;unfold Rw.val at E;go_wp2_with fail
 go_ret;exact ⟨by rw [<- G.out];rfl,C.out⟩
theorem y27 (k:Kd) (B:Nat) (d:Int) (w:World) (hB:w.cell? ⟨B,0,none⟩=some (.int .i64 d)) (hk:k.Ok w):
  Calls Tryz.prog 252 #[.agg k.cells.toArray,.pointer (some ⟨B,0,none⟩)] w fun r w'=>r= .returned (.bool (k.pk.right d))/\Below w.heap.size w w':=by
 have A:=jA w (.cells k.cells.toArray 34);have J:=jE w (.cells k.cells.toArray 34);have b0:=(A.cell (jI hB)).trans hB;obtain ⟨M,C,E⟩:=UKd;have N:=yH C;have H:=yH E;have K:=yH A;have I:=yH (hk.later A);have G:=yH (Kd.cells_length hk.len);clear A hB hk C E
 go_enter Tryz.func252,Tryz.ntmps252
 go_upto_region 1 with fail
 generalize w.alloc (.cells k.cells.toArray 34)=w1 at *;have O:=yH (x0E J);clear J;go_wp2_with (first
  | (refine jK (by rfl) 34 _ (by rfl) _ 0 (by rfl) k.cells M O N H (by rw [G.out];exact SKd) ?_)
  | (refine (y3x k d w1 I).mono ?_;rintro _ P ⟨rfl,L⟩))
 go_ret;exact ⟨rfl,K.trans (L.mono K.size)⟩
def PK.keys (d:Int) (k:PK):Bool:=decide ((k.key.length:Int)=d)
theorem y28 (k:Kd) (B:Nat) (d:Int) (w:World) (hB:w.cell? ⟨B,0,none⟩=some (.int .i64 d)) (hk:k.Ok w):
  Calls Tryz.prog 316 #[.agg k.cells.toArray,.pointer (some ⟨B,0,none⟩)] w fun r w'=>r= .returned (.bool (k.pk.keys d))/\Below w.heap.size w w':=by
 have A:=jA w (.cells k.cells.toArray 34);have G:=jE w (.cells k.cells.toArray 34);have b0:=(A.cell (jI hB)).trans hB;have J:=yH A;have E:((k.key.n:Int)==d)=k.pk.keys d:=by
  have:=hk.key.ints.size;rw [Bool.eq_iff_iff,beq_iff_eq];unfold PK.keys Kd.pk;rw [jY,<- this]
 have I:=yH E;have C:=yH hk.len;clear A hB E hk
 go_enter Tryz.func316,Tryz.ntmps316
 go_upto_region 1 with fail
 generalize w.alloc (.cells k.cells.toArray 34)=w1 at *;have H:=(x0N G C).key;rw [Nat.zero_add] at H;unfold Rw.val at H;clear G;go_wp2_with fail
 go_ret;exact ⟨by rw [<- I.out];rfl,J.out⟩
theorem x6h (p:Option Addr) (n c:Nat) (K:List Kd) (d:Int) (w:World) (hK:KidsIn w p n c K):
  Calls Tryz.prog 291 #[.slice p n c,.int .i64 d] w fun e w'=>e= .returned (.bool ((K.map Kd.pk).all (PK.keys d)))/\Below w.heap.size w w':=by
 have A:=jA w (.cells #[.int .i64 d] 3);have b0:=boxed w (.int .i64 d) 3;have B:=x8K p n c K (PK.keys d) 316 #[.pointer (some ⟨w.heap.size,0,none⟩)] (fun args w=>by as_aux_lemma=>kernel_rfl) (w.alloc (.cells #[.int .i64 d] 3)) (hK.later A)
  (fun k w' _ hk hb=>y28 k w.heap.size d w' ((hb.cell (jI b0)).trans b0) hk)
 obtain ⟨X,E⟩:∃X,(K.map Kd.pk).all (PK.keys d)=X:=⟨_,rfl⟩
 rw [E] at B ⊢;have I:=yH B;have C:=yH A;clear B A hK b0 E
 go_enter Tryz.func291,Tryz.ntmps291
 go_upto_region 1 with fail
 generalize w.alloc (.cells #[.int .i64 d] 3)=w1 at *;go_wp2_with (refine I.mono ?_;rintro e H ⟨rfl,G⟩)
 go_ret;exact ⟨rfl,C.trans (G.mono C.size)⟩
def PN.shape (n:PN) (d:Int):Bool:=
 if n.kind=1 then decide (n.rows.length=1)&&decide (n.kids.length=2)&&n.kids.all (PK.keys 0)
 else if n.kind=2 then decide (1<=n.rows.length)&&decide (n.rows.length<=4)&&decide (n.kids.length=0)&&n.rows.all PE.live
 else if n.kind=3 then decide (n.rows.length=0)&&decide (2<=n.kids.length)&&decide (n.kids.length<=4)&&n.kids.all (PK.keys d)
 else false
theorem x8L:∀K:List PK,K.all (PK.keys 0)=K.all PK.keyless:=fun K=>by
 congr 1
 funext k
 unfold PK.keys PK.keyless
 rw [Bool.eq_iff_iff,jY,jY]
 omega
theorem y0w {d:Int} (h:1<=d):∀K:List PK,K.all (PK.keys d)=K.all (PK.keyed d):=fun K=>by
 congr 1
 funext k
 unfold PK.keys PK.keyed
 by_cases e:k=PK.none
 ·subst e
  rw [kE (show ¬((PK.none.key.length:Nat):Int)=d from by show ¬((0:Nat):Int)=d;omega)]
  rfl
 ·rw [kE e]
  simp
theorem PN.right_shape (n:PN) (d:Int):n.right d=(decide (1<=d/\d<=8)&&n.shape d&&n.rows.all (PE.long d)&&n.kids.all (PK.right · d)):=by
 unfold PN.right PN.shape;by_cases hd:1<=d/\d<=8
 ·rw [if_neg (by simpa using hd),kF hd,x8L,y0w hd.1];cases h1:n.rows.all (PE.long d)
  ·simp
  ·cases h2:n.kids.all (PK.right · d)
   ·simp
   ·simp only [Bool.true_eq_false,if_false,Bool.and_true,Bool.true_and];by_cases k1:n.kind=1
    ·rw [if_pos k1,if_pos k1];by_cases h:n.rows.length=1/\n.kids.length=2
     ·rw [if_pos h,kF h.1,kF h.2];rfl
     ·rw [if_neg h];by_cases h':n.rows.length=1
      ·rw [kE (show ¬n.kids.length=2 from fun e=>h ⟨h',e⟩)];simp
      ·rw [kE h'];rfl
    ·rw [if_neg k1,if_neg k1];by_cases k2:n.kind=2
     ·rw [if_pos k2,if_pos k2];by_cases h:0<n.rows.length/\n.rows.length<5/\n.kids.length=0
      ·rw [if_pos h,kF (show 1<=n.rows.length by omega),kF (show n.rows.length<=4 by omega),kF h.2.2];rfl
      ·rw [if_neg h];by_cases a:1<=n.rows.length
       ·by_cases b:n.rows.length<=4
        ·rw [kE (show ¬n.kids.length=0 by omega)];simp
        ·rw [kE b];simp
       ·rw [kE a];rfl
     ·rw [if_neg k2,if_neg k2];by_cases k3:n.kind=3
      ·rw [if_pos k3];by_cases h:n.rows.length=0/\1<n.kids.length/\n.kids.length<5
       ·rw [if_pos ⟨k3,h⟩,kF h.1,kF (show 2<=n.kids.length by omega),kF (show n.kids.length<=4 by omega)];rfl
       ·rw [if_neg (fun e=>h e.2)];by_cases a:n.rows.length=0
        ·by_cases b:2<=n.kids.length
         ·rw [kE (show ¬n.kids.length<=4 by omega)];simp
         ·rw [kE b];simp
        ·rw [kE a];rfl
      ·rw [if_neg (fun e=>k3 e.1),if_neg k3]
 ·rw [if_pos hd,kE hd];rfl
theorem x99 (kind:Nat) (p:Option Addr) (n c:Nat) (q:Option Addr) (m f:Nat) (E:List En) (K:List Kd) (d:Int) (w:World) (hE:EntsIn w p n c E) (hK:KidsIn w q m f K):
  Calls Tryz.prog 248 #[.agg #[.int .u8 kind,.slice p n c,.slice q m f],.int .i64 d] w fun e w'=>e= .returned (.bool ((pnOf kind E K).shape d))/\Below w.heap.size w w':=by
 have G:=jA w (.cells #[.int .u8 kind,.slice p n c,.slice q m f] 97);have Q:=NodeAt.start w kind p n c q m f;have b:=yH (hE.later G);have a:=yH (hK.later G);have B:=yH G;have W:=yH Q;have A:(pnOf kind E K).shape d=if kind=1 then decide (n=1)&&decide (m=2)&&(K.map Kd.pk).all (PK.keys 0)
   else if kind=2 then decide (1<=n)&&decide (n<=4)&&decide (m=0)&&(E.map En.pe).all PE.live
   else if kind=3 then decide (n=0)&&decide (2<=m)&&decide (m<=4)&&(K.map Kd.pk).all (PK.keys d)
   else false:=by
  unfold PN.shape pnOf;simp only [kH];rw [<- hE.size,<- hK.size]
 have O:=yH (fun w1 (h:Below w.heap.size w w1)=>x6h q m f K 0 w1 (hK.later h));have N:=yH (fun w1 (h:Below w.heap.size w w1)=>x6h q m f K d w1 (hK.later h));have M:=yH (fun w1 (h:Below w.heap.size w w1)=>x8F p n c E PE.live 292 #[] (fun args w=>by as_aux_lemma=>kernel_rfl) w1 (hE.later h) (fun e w' _ _ _=>y0u e w'));generalize (pnOf kind E K).shape d=X at *;generalize (K.map Kd.pk).all (PK.keys 0)=X0 at *;generalize (K.map Kd.pk).all (PK.keys d)=XD at *;generalize (E.map En.pe).all PE.live=XL at *;have J:=yH A;clear hE hK G Q A
 go_enter Tryz.func248,Tryz.ntmps248
 go_upto_region 1 with fail
 generalize w.alloc (.cells #[.int .u8 kind,.slice p n c,.slice q m f] 97)=w1 at *;obtain ⟨g,t1,t2⟩:=W.cells;by_cases k1:kind=1
 ·have A:=J.out;rw [if_pos k1] at A;subst k1;by_cases h1:n=1
  ·subst h1;by_cases h2:m=2
   ·subst h2;have C:=yH A;clear A;go_wp2_with (refine (O.out w1 B).mono ?_;rintro e I ⟨rfl,H⟩)
    go_ret;exact ⟨by rw [C.out];rfl,B.trans (H.mono B.size)⟩
   ·rw [kE h2] at A;have L:((m:Int)==2)=false:=by simp;omega
    obtain rfl:X=false:=by simpa using A
    clear A h2;go_wp2_with fail
    go_ret;exact ⟨rfl,B.out⟩
  ·rw [kE h1] at A;have P:((n:Int)==1)=false:=by simp;omega
   obtain rfl:X=false:=by simpa using A
   clear A h1;go_wp2_with fail
   go_ret;exact ⟨rfl,B.out⟩
 have R:((kind:Int)==1)=false:=by simp;omega
 by_cases k2:kind=2
 ·have A:=J.out;rw [if_neg k1,if_pos k2] at A;subst k2;clear R k1;by_cases h1:1<=n
  ·have P:(1:Int)<=n:=by omega
   by_cases h2:n<=4
   ·have L:(n:Int)<=4:=by omega
    by_cases h3:m=0
    ·subst h3;rw [kF h1,kF h2] at A;have C:=yH A;clear A h1 h2;go_wp2_with (refine (M.out w1 B).mono ?_;rintro e I ⟨rfl,H⟩)
     go_ret;exact ⟨by rw [C.out];rfl,B.trans (H.mono B.size)⟩
    ·rw [kE h3] at A;have U:((m:Int)==0)=false:=by simp;omega
     obtain rfl:X=false:=by simpa using A
     clear A h3 h1 h2;go_wp2_with fail
     go_ret;exact ⟨rfl,B.out⟩
   ·rw [kE h2] at A;have L:¬(n:Int)<=4:=by omega
    obtain rfl:X=false:=by simpa using A
    clear A h2 h1;go_wp2_with fail
    go_ret;exact ⟨rfl,B.out⟩
  ·rw [kE h1] at A;have P:¬(1:Int)<=n:=by omega
   obtain rfl:X=false:=by simpa using A
   clear A h1;go_wp2_with fail
   go_ret;exact ⟨rfl,B.out⟩
 have Y:((kind:Int)==2)=false:=by simp;omega
 by_cases k3:kind=3
 ·have A:=J.out;rw [if_neg k1,if_neg k2,if_pos k3] at A;subst k3;clear R k1 Y k2;by_cases h1:n=0
  ·subst h1;by_cases h2:2<=m
   ·have L:(2:Int)<=m:=by omega
    by_cases h3:m<=4
    ·have U:(m:Int)<=4:=by omega
     rw [kF h2,kF h3] at A;have C:=yH A;clear A h3 h2;go_wp2_with (refine (N.out w1 B).mono ?_;rintro e I ⟨rfl,H⟩)
     go_ret;exact ⟨by rw [C.out];rfl,B.trans (H.mono B.size)⟩
    ·rw [kE h3] at A;have U:¬(m:Int)<=4:=by omega
     obtain rfl:X=false:=by simpa using A
     clear A h3 h2;go_wp2_with fail
     go_ret;exact ⟨rfl,B.out⟩
   ·rw [kE h2] at A;have L:¬(2:Int)<=m:=by omega
    obtain rfl:X=false:=by simpa using A
    clear A h2;go_wp2_with fail
    go_ret;exact ⟨rfl,B.out⟩
  ·rw [kE h1] at A;have P:((n:Int)==0)=false:=by simp;omega
   obtain rfl:X=false:=by simpa using A
   clear A h1;go_wp2_with fail
   go_ret;exact ⟨rfl,B.out⟩
 have Z:((kind:Int)==3)=false:=by simp;omega
 have A:=J.out;rw [if_neg k1,if_neg k2,if_neg k3] at A;subst A;clear k1 k2 k3;go_wp2_with fail
 go_ret;exact ⟨rfl,B.out⟩
structure NR (w:World) (g kind:Nat) (p:Option Addr) (n c:Nat) (q:Option Addr) (m f:Nat) (d:Int):Prop where
 node:NodeAt w g kind p n c q m f
 dim:w.cell? ⟨g+1,0,none⟩=some (.int .i64 d)
theorem NR.later {w w':World} {g kind:Nat} {p:Option Addr} {n c:Nat} {q:Option Addr} {m f:Nat} {d:Int} (h:NR w g kind p n c q m f d) (hb:Below w.heap.size w w'):NR w' g kind p n c q m f d:=
 ⟨h.node.later hb,(hb.cell (jI h.dim)).trans h.dim⟩
theorem x4S (kind:Nat) (p:Option Addr) (n c:Nat) (q:Option Addr) (m f:Nat) (E:List En) (K:List Kd) (d:Int) (w:World) (hE:EntsIn w p n c E) (hK:KidsIn w q m f K):
  Calls Tryz.prog 190 #[.agg #[.int .u8 kind,.slice p n c,.slice q m f],.int .i64 d] w fun e w'=>e= .returned (.bool ((pnOf kind E K).right d))/\Below w.heap.size w w':=by
 have W:=jA w (.cells #[.int .u8 kind,.slice p n c,.slice q m f] 97);have s:=NodeAt.start w kind p n c q m f;have g:(w.alloc (.cells #[.int .u8 kind,.slice p n c,.slice q m f] 97)).heap.size=w.heap.size+1:=by simp
 have M:Below (w.heap.size+1) (w.alloc (.cells #[.int .u8 kind,.slice p n c,.slice q m f] 97)) ((w.alloc (.cells #[.int .u8 kind,.slice p n c,.slice q m f] 97)).alloc (.cells #[.int .i64 d] 3)):=(jC _ _).alloc (by omega) _;have i:=boxed (w.alloc (.cells #[.int .u8 kind,.slice p n c,.slice q m f] 97)) (.int .i64 d) 3;rw [g] at i;have R:NR ((w.alloc (.cells #[.int .u8 kind,.slice p n c,.slice q m f] 97)).alloc (.cells #[.int .i64 d] 3)) w.heap.size kind p n c q m f d:=⟨s.later (by rw [g];exact M),i⟩
 have L:=W.trans (M.mono (by omega));have a:=PN.right_shape (pnOf kind E K) d;have o:=yH a;have U:=yH (fun w1 (h:Below w.heap.size w w1)=>x99 kind p n c q m f E K d w1 (hE.later h) (hK.later h));have Q:=yH (fun w1 (h:Below w.heap.size w w1) (hc:w1.cell? ⟨w.heap.size+1,0,none⟩=some (.int .i64 d))=>x8F p n c E (PE.long d) 250 #[.pointer (some ⟨w.heap.size+1,0,none⟩)] (fun args w=>by as_aux_lemma=>kernel_rfl) w1 (hE.later h) (fun e w' _ he hb=>y0v e _ d w' ((hb.cell (jI hc)).trans hc) he));have k:=yH (fun w1 (h:Below w.heap.size w w1) (hc:w1.cell? ⟨w.heap.size+1,0,none⟩=some (.int .i64 d))=>x8K q m f K (PK.right · d) 252 #[.pointer (some ⟨w.heap.size+1,0,none⟩)] (fun args w=>by as_aux_lemma=>kernel_rfl) w1 (hK.later h) (fun e w' _ he hb=>y27 e _ d w' ((hb.cell (jI hc)).trans hc) he));rw [show (pnOf kind E K).rows=E.map En.pe from rfl,show (pnOf kind E K).kids=K.map Kd.pk from rfl] at a;generalize (pnOf kind E K).right d=X at *;generalize (pnOf kind E K).shape d=XS at *;generalize (E.map En.pe).all (PE.long d)=XL at *;generalize (K.map Kd.pk).all (PK.right · d)=XK at *;have Y:=yH a;have I:=yH L;have J:=yH R;clear hE hK W M L s R i g a o
 go_enter Tryz.func190,Tryz.ntmps190
 go_upto_region 1 with fail
 generalize (w.alloc (.cells #[.int .u8 kind,.slice p n c,.slice q m f] 97)).alloc (.cells #[.int .i64 d] 3)=w1 at *;obtain ⟨r,t1,t2⟩:=J.node.cells;have N:=J.dim;by_cases h1:1<=d
 case neg=>
  have C:=Y.out;rw [kE (fun e=>h1 e.1)] at C;obtain rfl:X=false:=by simpa using C
  clear C;go_wp2_with fail
  go_ret;exact ⟨rfl,I.out⟩
 by_cases h2:d<=8
 case neg=>
  have C:=Y.out;rw [kE (fun e=>h2 e.2)] at C;obtain rfl:X=false:=by simpa using C
  clear C;go_wp2_with fail
  go_ret;exact ⟨rfl,I.out⟩
 have C:=Y.out;rw [kF ⟨h1,h2⟩] at C;have B:=yH C;clear C Y;have b:=yH (U.out w1 I);clear U;cases XS with
 | false=>
  obtain rfl:X=false:=by have:=B.out;simpa using this
  clear B;go_wp2_with (go_at_call 248;refine b.mono ?_;rintro e Z ⟨rfl,H⟩;have A:=yH (I.trans (H.mono I.size));clear H)
  go_ret;exact ⟨rfl,A.out⟩
 | true=>
 cases XL with
 | false=>
  obtain rfl:X=false:=by have:=B.out;simpa using this
  clear B;go_wp2_with (first
   | (go_at_call 248;refine b.mono ?_;rintro e Z ⟨rfl,H⟩;have A:=yH (I.trans (H.mono I.size));have P:=yH (J.later H);obtain ⟨r,t1,t2⟩:=P.node.cells;have N:=P.dim;have l:=yH (Q.out Z A N);clear H)
   | (go_at_call 249;refine l.mono ?_;rintro e u ⟨rfl,O⟩;have G:=yH (A.trans (O.mono A.size));clear O))
  go_ret;exact ⟨rfl,G.out⟩
 | true=>
 have x:=yH (show XK=X from by have:=B.out;simpa using this.symm);clear B;go_wp2_with (first
  | (go_at_call 248;refine b.mono ?_;rintro e Z ⟨rfl,H⟩;have A:=yH (I.trans (H.mono I.size));have P:=yH (J.later H);obtain ⟨r,t1,t2⟩:=P.node.cells;have N:=P.dim;have l:=yH (Q.out Z A N);clear H)
  | (go_at_call 249;refine l.mono ?_;rintro e u ⟨rfl,O⟩;have G:=yH (A.trans (O.mono A.size));have t:=yH (P.later O);obtain ⟨r,t1,t2⟩:=t.node.cells;have N:=t.dim;have y:=yH (k.out u G N);clear O)
  | (go_at_call 251;refine y.mono ?_;rintro e z ⟨rfl,v⟩;have j:=yH (G.trans (v.mono G.size));clear v))
 go_ret;exact ⟨by rw [x.out];rfl,j.out⟩
end Nd
section
open Go.RowKit
def St.row' (s:St) (R:List Int):St:=if R.length<=255 then s.put (rowB R) else .no
def y5u (w:World) (base g:Nat) (v:Value) (s:St) (R:List Int) (i:Value) (wr:World):Prop:=
 ∃(k:Nat) (v':Value),k<=R.length/\i= .int .i64 k/\WS wr base g v' (s.put (R.length::nums (R.take k)))/\WStep w wr g v v'
theorem x5A (s:St) (R:List Int) (p:Option Addr) (n c:Nat) (base g:Nat) (v:Value) (w:World) (hs:WS w base g v s) (hR:Ints w p n c R) (hl:s.B.length+(1+8*R.length)<1099511627776) (hbw:base<=w.heap.size)
  (hg:∀x,p=some x->R≠[]->x.block≠g/\v.ownBlock≠some x.block):
  Calls Tryz.prog 295 #[.pointer (some ⟨g,0,none⟩),.slice p n c] w (WPost w base g v (s.row' R)):=by
 have d:=yH hs;have X:=yH hR;have f:=yH hl;have z:=yH hg;have HN:=yH hR.size;have L:=yH hbw;have hn:n<1099511627776:=by have:=hR.size;omega
 clear hs hR hl hg hbw
 go_enter Tryz.func295,Tryz.ntmps295
 by_cases h:255<n
 ·have b1:(255:Int)<n:=by omega
  go_wp2_with fail
  refine (x6g s base g v _ d.out).mono ?_;rintro e w1 E;obtain ⟨rfl,v2,J,M⟩:=E;have H3:=yH J;have H4:=yH M;clear J M;go_wp2_with fail
  go_end0
  refine ⟨rfl,v2,?_,H4.out⟩;unfold St.row';rw [if_neg (by have:=HN.out;omega)];exact H3.out
 ·have b1:¬(255:Int)<n:=by omega
  go_wp2_with fail
  refine (x2V s n (by omega) base g v _ d.out (by have:=f.out;omega) L.out).mono ?_;rintro e w1 E;obtain ⟨rfl,v2,J,M⟩:=E;have H3:=yH J;have H4:=yH M;clear J M;go_wp2_with fail
  go_loopw [18] (fun i wr=>y5u w base g v s R i wr) (fun i _=>n - (intOf i).toNat)
  case atStart=>exact ⟨0,v2,by omega,rfl,by rw [<- HN.out];exact H3.out,H4.out⟩
  case round=>
   obtain ⟨k,j,hk,rfl,Z,t⟩:=hrel;rw [<- HN.out] at hk;have q:=yH Z;have N:=yH t;clear Z t H3 H4;by_cases hlt:k<n
   ·have A:k<R.length:=by rw [<- HN.out];exact hlt
    have O:=X.out.get k hlt;rcases X.out.at' with h0 | ⟨W,o,E,u⟩
    ·rw [h0] at A;exact absurd A (by simp)
    ·have K:R≠[]:=by rintro rfl;exact absurd A (by simp)
     obtain ⟨r,m⟩:=z.out _ E K;subst E;have G:=u k A;have H:wr.cell? ⟨W,o+k,none⟩=some (.int .i64 (R.getD k 0)):=by
      rw [jX (w:=w) (w':=wr) (a:=⟨W,o+k,none⟩) (N.out.block W (jI G) r m)];exact G
     obtain ⟨x,I⟩:∃x,x=R.getD k 0:=⟨_,rfl⟩
     rw [<- I] at H O;have C:=St.put_len s (R.length::nums (R.take k));rw [kI,x3g,List.length_take_of_le (Nat.le_of_lt A)] at C;have P:=yH I;have U:=yH C;have Y:=yH O;have Q:=yH X.out.le;clear u G K r m I C O;have A4:=Q.out;go_wp2_with fail
     refine (y5r _ x Y.out.1 Y.out.2 base g j _ q.out (by have:=U.out;have:=f.out;omega) (jJ L.out N.out.size)).mono ?_;rintro e w3 E;obtain ⟨rfl,v3,b,l⟩:=E;have y:=yH b;have H6:=yH (N.out.trans l);clear b l;go_wp2_with fail
     go_roundw
     case rel=>
      refine ⟨k+1,v3,by omega,by go_num,?_,H6.out⟩;have:=y.out;rw [St.put_put,P.out,List.cons_append,<- x8J R k A] at this;exact this
     case measure=>simp [intOf];omega
   ·obtain rfl:k=n:=by omega
    go_wp2_with fail
    go_end0
    refine ⟨rfl,j,?_,N.out⟩;have:=q.out;rw [kQ (by have:=HN.out;omega)] at this;unfold St.row';rw [if_pos (by have:=HN.out;omega)];exact this
theorem y29 (s:St) (x:Bool) (base g:Nat) (v:Value) (w:World) (hs:WS w base g v s) (hl:s.B.length+1<1099511627776) (hbw:base<=w.heap.size):
  Calls Tryz.prog 294 #[.pointer (some ⟨g,0,none⟩),.bool x] w (WPost w base g v (s.truth x)):=by
 have C:=yH hs;clear hs;unfold St.truth;cases x
 focus
  go_enter Tryz.func294,Tryz.ntmps294
  go_wp2_with fail
  refine (x2V s 0 (by omega) base g v _ C.out hl hbw).mono ?_
 rotate_left
 focus
  go_enter Tryz.func294,Tryz.ntmps294
  go_wp2_with fail
  refine (x2V s 1 (by omega) base g v _ C.out hl hbw).mono ?_
 rotate_left;all_goals
  rintro e K H;obtain ⟨rfl,I,A,E⟩:=H;have J:=yH A;have G:=yH E;clear A E;go_wp2_with fail
  go_end0
  exact ⟨rfl,I,J.out,G.out⟩
def x8M (w:World) (B:List Nat) (e:Ending) (w':World):Prop:=∃q c,e= .returned (.slice q B.length c)/\w'.ownsRow w.heap.size 5 1 (.slice q B.length c) B.length (vals B)/\Below w.heap.size w w'
theorem x8N (B:List Nat) (p:Option Addr) (n c:Nat) (w:World) (hB:Tx w p n c B) (hl:n<1099511627776):
  Calls Tryz.prog 82 #[.slice p n c] w (x8M w B):=by
 have a:=fun w'=>Lib.run_eql_slice_nil (P:=Tryz.prog) w' 45 5 p n c 0 0 A22;have H:=hB.size;have K:=hB.le;have X:=yH H;have f:=yH hB;rcases hB.at' with ⟨O,h⟩ | ⟨x,O,_⟩
 ·subst O;subst h;obtain rfl:n=0:=by omega
  have N:B=[]:=jZ.1 H.symm;subst N;clear H hB
  go_enter Tryz.func82,Tryz.ntmps82
  go_wp2_with fail
  go_ret;exact ⟨none,0,rfl,World.ownsRow_nil _ _ _ _,jC _ _⟩
 ·subst O;obtain ⟨d,Y,E,C,G⟩:=info_parts I5;have g:=yH Y;have U:=yH E;have R:=yH C;have Q:=yH G;clear Y E C G H hB K;have W:(w.alloc (.cells #[] 5)).ownsRow w.heap.size 5 1 (.slice (some ⟨w.heap.size,0,none⟩) 0 0) 0 (vals ([]:List Nat)):=x23 (L:=[]) (jE w _) rfl (jB _) (by unfold maxLen;omega) (jB _);have j:=yH W;clear W
  go_enter Tryz.func82,Tryz.ntmps82
  go_wp2_with (at_builtin;refine wpList_append_own _ (by rfl) (.tmp 5) (.tmp 6) 45 (by rfl) w.heap.size 5 d (.int .u8 0) 1 1 A22 g U R Q (by rfl) (by decide) _ 0 [] (by rfl) j x n c (vals B) (by rfl) (by rw [x00,Nat.mul_one];exact X.symm) ((f.later (jA _ _)).cells) (x0L _) (by unfold maxLen;omega) (by omega) (by simp) ?_;intro v2 w2 hown2 hgrow2 _;obtain ⟨i,b,A⟩:=x1v hown2;have I:=yH hown2;have J:=yH hgrow2;have M:=yH A;rw [A];clear hown2 hgrow2 A)
  go_ret;have e:n=B.length:=X.out;subst e;have Z:=I.out;rw [M.out,Nat.zero_add] at Z;exact ⟨i,b,rfl,Z,((jC w.heap.size w).alloc (jB _) _).grown J.out (by simp) (fun k hk=>by simp [Value.ownBlock] at hk;omega)⟩
theorem y0x (s:St) (base g:Nat) (v:Value) (w:World) (hs:WS w base g v s) (hl:s.B.length<1099511627776):
  Calls Tryz.prog 297 #[.pointer (some ⟨g,0,none⟩)] w (x8M w s.B):=by
 obtain ⟨I,L,E,A⟩:=x87 hs.own hs.ok;subst E;have N:=hs.out;have K:=yH A.tx;clear hs A
 go_enter Tryz.func297,Tryz.ntmps297
 go_wp2_with fail
 refine (x8N s.B I _ L _ K.out hl).mono ?_;rintro e M J;obtain ⟨q,c,rfl,G,A⟩:=J;have H:=yH G;have C:=yH A;clear G A;go_wp2_with fail
 go_ret;exact ⟨q,c,rfl,H.out,C.out⟩
end
end Go.Proofs.YtenenciaggbjnaaGreat
