/- CodRd, CodW, CodWDg, CodNums, NdByP, NlEachK, NlFns, NlShaped. -/
import Derived.Laws.AppendOwn
import Derived.Test.YtinihaflmdihaaaGreatK3
set_option maxRecDepth 100000
set_option maxHeartbeats 8000000
set_option linter.all false
namespace Go.Proofs.YtinihaflmdihaaaGreat
open Go.RowKit
structure Rd where
 R:List Nat
 e:Nat
theorem Tx.grown {w w':World} {p:Option Addr} {n c:Nat} {B:List Nat} (h:Tx w p n c B) {g:Nat} (hg:w.grownBy w' (some g)) (hn:∀x,p=some x→B≠[]→x.block≠g):Tx w' p n c B:=
 ⟨h.size,h.le,h.ok,h.at'.imp id fun ⟨x,hp,hx⟩=>⟨x,hp,fun j u hu=>by
  have h1:=hx j u hu
  have hB:B≠[]:=by rintro rfl;simp [vals] at hu
  have hb:(x.add j).block=x.block:=by cases x;simp [Addr.add];split<;>rfl
  rw [World.cell?_of_block (w:=w) (hg.block _ (block_lt_of_cell h1) (by rw [hb];intro e;exact hn x hp hB (by simpa using e)))]
  exact h1⟩,h.sp⟩
theorem add_add (x:Addr) (n j:Nat):(x.add n).add j=x.add (n+j):=by
 simp only [Addr.add]
 by_cases h1:n=0
 ·subst h1;simp
 ·by_cases h2:j=0
  ·subst h2;simp
  ·rw [if_neg h1,if_neg h2,if_neg (by omega)];simp [Nat.add_assoc]
theorem vals_take (B:List Nat) (n:Nat):vals (B.take n)=(vals B).take n:=by simp [vals]
theorem Tx.take {w:World} {p:Option Addr} {m c:Nat} {B:List Nat} (h:Tx w p m c B) (n:Nat) (hn:n≤m):Tx w p n c (B.take n):=
 ⟨by have:=h.size;rw [List.length_take];omega,Nat.le_trans hn h.le,fun x hx=>h.ok x (List.mem_of_mem_take hx),h.at'.imp id fun ⟨x,hp,hx⟩=>⟨x,hp,fun j u hu=>hx j u (by
  rw [vals_take] at hu
  rw [List.getElem?_take] at hu
  split at hu
  ·exact hu
  ·cases hu)⟩,h.sp⟩
theorem Tx.drop {w:World} {p:Option Addr} {m c:Nat} {B:List Nat} (h:Tx w p m c B) (n:Nat) (hn:n≤m):Tx w (Option.map (fun x=>x.add n) p) (m - n) (c - n) (B.drop n):=by
 have h1:=h.size
 have h2:=h.le
 refine ⟨by rw [List.length_drop];omega,by omega,fun x hx=>h.ok x (List.mem_of_mem_drop hx),?_,?_⟩
 ·rcases h.at' with ⟨hp,hc⟩ | ⟨x,hp,hx⟩
  ·subst hp;subst hc
   exact Or.inl ⟨rfl,by omega⟩
  ·subst hp
   refine Or.inr ⟨x.add n,rfl,fun j u hu=>?_⟩
   rw [add_add]
   refine hx (n+j) u ?_
   rw [vals_drop,List.getElem?_drop] at hu
   exact hu
 ·intro x hx hc
  cases p with
  | none=>cases hx
  | some y=>
   simp at hx
   subst hx
   simp only [Addr.add]
   split
   ·exact h.sp y rfl (by omega)
   ·rfl
theorem Tx.nothing {w:World} {p:Option Addr} {m c:Nat} {B:List Nat} (h:Tx w p m c B):Tx w p 0 0 []:=
 ⟨rfl,Nat.le_refl _,fun x hx=>by simp at hx,by
  cases p with
  | none=>exact Or.inl ⟨rfl,rfl⟩
  | some x=>exact Or.inr ⟨x,rfl,fun j u hu=>by simp [vals] at hu⟩,fun _ _ h=>by omega⟩
theorem lo_drop {g:Nat} {p:Option Addr} {B:List Nat} (h:∀x,p=some x→B≠[]→x.block<g) (n:Nat):∀x,Option.map (fun x=>x.add n) p=some x→B.drop n≠[]→x.block<g:=by
 intro x hx hB
 cases p with
 | none=>cases hx
 | some y=>
  simp only [Option.map_some,Option.some.injEq] at hx
  subst hx
  have:(y.add n).block=y.block:=by cases y;simp [Addr.add];split<;>rfl
  rw [this]
  exact h y rfl (by rintro rfl;simp at hB)
def Rd.refuse (s:Rd) (k:Nat):Rd:=if s.e=0 then ⟨s.R,k⟩ else s
def Rd.fits (s:Rd) (n:Nat):Prop:=s.e=0∧n≤s.R.length
instance (s:Rd) (n:Nat):Decidable (s.fits n):=by unfold Rd.fits;infer_instance
def Rd.part (s:Rd) (n:Nat):List Nat:=if s.fits n then s.R.take n else []
def Rd.past (s:Rd) (n:Nat):Rd:=if s.fits n then ⟨s.R.drop n,0⟩ else s.refuse 20
theorem grown_same (w:World) (r:Option Nat):w.grownBy w r:=⟨rfl,rfl,rfl,Nat.le_refl _,fun _ _ _=>rfl⟩
theorem tx_nil (w:World):Tx w none 0 0 []:=⟨rfl,Nat.le_refl _,fun x hx=>by simp at hx,Or.inl ⟨rfl,rfl⟩,fun _ h _=>by cases h⟩
theorem Rd.past_len (s:Rd) (n:Nat):(s.past n).R.length≤s.R.length:=by
 unfold Rd.past Rd.refuse
 split
 ·simp
 ·split<;>simp
theorem Rd.refuse_len (s:Rd) (n:Nat):(s.refuse n).R.length≤s.R.length:=by
 unfold Rd.refuse
 split<;>simp
theorem Rd.part_ok {s:Rd} (h:Sm.allB s.R) (n:Nat):Sm.allB (s.part n):=by
 unfold Rd.part
 split
 ·exact fun x hx=>h x (List.mem_of_mem_take hx)
 ·intro x hx;simp at hx
theorem Rd.part_len (s:Rd) (n:Nat):(s.part n).length≤n:=by
 unfold Rd.part
 split
 ·rw [List.length_take];omega
 ·simp
theorem take_snoc (B:List Nat) (k:Nat) (h:k<B.length):B.take (k+1)=B.take k++[B.getD k 0]:=by
 rw [List.take_succ_eq_append_getElem h,List.getD_eq_getElem?_getD,List.getElem?_eq_getElem h];rfl
theorem pow256 (k:Nat) (h:k≤7):256^k≤72057594037927936:=Nat.le_trans (Nat.pow_le_pow_right (by omega) h) (by decide)
theorem val1 {s:Rd} (h:Sm.allB s.R):Cm.val (s.part 1)<256:=by
 have h1:=Cm.val_lt (Rd.part_ok h 1)
 have h2:256^(s.part 1).length≤256^1:=Nat.pow_le_pow_right (by omega) (Rd.part_len s 1)
 exact Nat.lt_of_lt_of_le h1 (Nat.le_trans h2 (by decide))
def Rd.count (s:Rd) (most:Int):Rd:=if min most 1048576<(Cm.val (s.part 3):Nat) then (s.past 3).refuse 10 else s.past 3
def Rd.countV (s:Rd) (most:Int):Int:=if min most 1048576<(Cm.val (s.part 3):Nat) then 0 else (Cm.val (s.part 3):Nat)
theorem val3 {s:Rd} (h:Sm.allB s.R):Cm.val (s.part 3)<16777216:=by
 have h1:=Cm.val_lt (Rd.part_ok h 3)
 have h2:256^(s.part 3).length≤256^3:=Nat.pow_le_pow_right (by omega) (Rd.part_len s 3)
 exact Nat.lt_of_lt_of_le h1 (Nat.le_trans h2 (by decide))
theorem good_part (P R:List Nat) (n:Nat) (h:P.length=n):(Rd.mk (P++R) 0).part n=P∧(Rd.mk (P++R) 0).past n=⟨R,0⟩:=by
 have hf:(Rd.mk (P++R) 0).fits n:=⟨rfl,by simp;omega⟩
 unfold Rd.part Rd.past
 rw [if_pos hf,if_pos hf]
 subst h
 exact ⟨List.take_left' rfl,by rw [show (Rd.mk (P++R) 0).R=P++R from rfl,List.drop_left' rfl]⟩
theorem grown_of_below {w w':World} (hb:Below w.heap.size w w') (r:Option Nat):w.grownBy w' r:=⟨hb.os,hb.tape,hb.output,hb.size,fun k hk _=>hb.block k hk⟩
theorem grown_new {w w':World} {r:Option Nat} (h:w.grownBy w' r) {B:Nat} (hB:w.heap.size≤B) {w'':World} (hb:Below B w' w'') (hs:w'.heap.size≤w''.heap.size):w.grownBy w'' r:=
 ⟨hb.os.trans h.os,hb.tape.trans h.tape,hb.output.trans h.output,Nat.le_trans h.size hs,fun k hk hne=>(hb.block k (by omega)).trans (h.block k hk hne)⟩
theorem below_grown {w w':World} {g B:Nat} (h:w.grownBy w' (some g)) (hB:B≤g) (hs:B≤w.heap.size:=by omega):Below B w w':=
 ⟨h.os,h.tape,h.output,h.size,fun k hk=>h.block k (by omega) (by simp;omega)⟩
theorem slice_of_owns {w:World} {base n:Nat} {v:Value} {xs:List Value} (h:w.ownsRow base 5 1 v n xs):∃q c,v= .slice q n c:=by
 rcases h.2 with ⟨rfl,rfl⟩ | ⟨g,cap,cur,rfl,_⟩
 ·exact ⟨_,_,rfl⟩
 ·exact ⟨_,_,rfl⟩
structure WStep (w w':World) (g:Nat) (v v':Value):Prop where
 os:w'.os=w.os
 tape:w'.tape=w.tape
 output:w'.output=w.output
 size:w.heap.size≤w'.heap.size
 block:∀k,k<w.heap.size→k≠g→v.ownBlock≠some k→w'.heap[k]? =w.heap[k]?
 own:∀k,v'.ownBlock=some k→v.ownBlock=some k∨w.heap.size≤k
theorem WStep.refl (w:World) (g:Nat) (v:Value):WStep w w g v v:=⟨rfl,rfl,rfl,Nat.le_refl _,fun _ _ _ _=>rfl,fun _ h=>Or.inl h⟩
theorem WStep.trans {a b c:World} {g:Nat} {v1 v2 v3:Value} (h:WStep a b g v1 v2) (k:WStep b c g v2 v3):WStep a c g v1 v3:=
 ⟨k.os.trans h.os,k.tape.trans h.tape,k.output.trans h.output,Nat.le_trans h.size k.size,
  fun i hi hg hv=>(k.block i (Nat.lt_of_lt_of_le hi h.size) hg (fun e=>by rcases h.own i e with h1 | h1;exact hv h1;omega)).trans (h.block i hi hg hv),
  fun i hi=>by
   rcases k.own i hi with h1 | h1
   ·exact h.own i h1
   ·exact Or.inr (Nat.le_trans h.size h1)⟩
theorem WStep.of_below {w w':World} (g:Nat) (v:Value) (h:Below w.heap.size w w'):WStep w w' g v v:=
 ⟨h.os,h.tape,h.output,h.size,fun k hk _ _=>h.block k hk,fun _ h=>Or.inl h⟩
theorem WStep.alloc (w:World) (g:Nat) (v:Value) (o:Obj):WStep w (w.alloc o) g v v:=WStep.of_below g v ((Below.refl _ _).alloc (Nat.le_refl _) _)
theorem WStep.below {w w':World} {base g:Nat} {v v':Value} (h:WStep w w' g v v') (hg:base≤g) (hv:∀k,v.ownBlock=some k→base≤k) (hs:base≤w.heap.size):Below base w w':=
 ⟨h.os,h.tape,h.output,h.size,fun k hk=>h.block k (by omega) (by omega) (fun e=>by have:=hv k e;omega)⟩
structure St where
 B:List Nat
 e:Nat
def St.put (s:St) (P:List Nat):St:=if s.e=0 then ⟨s.B++P,0⟩ else s
def St.no:St:=⟨[],10⟩
structure WS (w:World) (base g:Nat) (v:Value) (s:St):Prop where
 row:w.heap[g]? =some (.cells #[v,.int .i64 s.e] 291 (0,0))
 own:w.ownsRow base 5 1 v s.B.length (vals s.B)
 ok:Sm.allB s.B
 nil:s.e≠0→v= .slice none 0 0∧s.B=[]
theorem WS.lt {w:World} {base g:Nat} {v:Value} {s:St} (h:WS w base g v s):g<w.heap.size:=(yL h.row)
theorem WS.err {w:World} {base g:Nat} {v:Value} {s:St} (h:WS w base g v s):w.cell? ⟨g,1,none⟩=some (.int .i64 s.e):=by
 rw [cell_of_row w g 1 _ _ _ h.row];rfl
theorem WS.out {w:World} {base g:Nat} {v:Value} {s:St} (h:WS w base g v s):w.cell? ⟨g,0,none⟩=some v:=by
 rw [cell_of_row w g 0 _ _ _ h.row];rfl
theorem WS.later {w w':World} {base g:Nat} {v:Value} {s:St} (h:WS w base g v s) (hb:Below w.heap.size w w'):WS w' base g v s:=
 ⟨(hb.block _ h.lt).trans h.row,owns_later h.own hb,h.ok,h.nil⟩
theorem own_other {w:World} {base g n:Nat} {v:Value} {xs:List Value} {cs:Array Value} {fr:Nat×Nat} (h:w.ownsRow base 5 1 v n xs) (hr:w.heap[g]? =some (.cells cs 291 fr)):v.ownBlock≠some g:=by
 rcases h.2 with ⟨rfl,_⟩ | ⟨g',cap,cur,rfl,_,hg',_⟩
 ·simp [Value.ownBlock]
 ·intro e
  obtain rfl:g'=g:=by simpa [Value.ownBlock] using e
  rw [hr] at hg'
  simp at hg'
theorem own_setCell {w:World} {base n:Nat} {v:Value} {xs:List Value} (h:w.ownsRow base 5 1 v n xs) {a:Addr} (ha:v.ownBlock≠some a.block) (u:Value):(w.setCell a u).ownsRow base 5 1 v n xs:=by
 obtain ⟨h1,h2⟩:=h
 refine ⟨h1,?_⟩
 rcases h2 with h2 | ⟨g,cap,cur,rfl,hg,hh,r⟩
 ·exact Or.inl h2
 ·exact Or.inr ⟨g,cap,cur,rfl,hg,by rw [Below.heap_setCell _ _ _ _ (fun e=>ha (by simp [Value.ownBlock,e]))];exact hh,r⟩
theorem Tx.step {w w':World} {p:Option Addr} {n c:Nat} {B:List Nat} (h:Tx w p n c B) {g:Nat} {v v':Value} (hs:WStep w w' g v v') (hg:∀x,p=some x→B≠[]→x.block≠g∧v.ownBlock≠some x.block):Tx w' p n c B:=
 ⟨h.size,h.le,h.ok,h.at'.imp id fun ⟨x,hp,hx⟩=>⟨x,hp,fun j u hu=>by
  have h1:=hx j u hu
  have hB:B≠[]:=by rintro rfl;simp [vals] at hu
  obtain ⟨a1,a2⟩:=hg x hp hB
  have hb:(x.add j).block=x.block:=by cases x;simp [Addr.add];split<;>rfl
  rw [World.cell?_of_block (w:=w) (hs.block _ (block_lt_of_cell h1) (by rw [hb];exact a1) (by rw [hb];exact a2))]
  exact h1⟩,h.sp⟩
def WPost (w:World) (base g:Nat) (v:Value) (s:St) (e:Ending) (w':World):Prop:=e= .returned (.tuple #[])∧∃v',WS w' base g v' s∧WStep w w' g v v'
theorem WS.stored {w w2:World} {base g:Nat} {v v2:Value} {s:St} {P:List Nat} (h:WS w base g v s) (he:s.e=0) (hP:Sm.allB P) (ho:w2.ownsRow base 5 1 v2 (s.B.length+P.length) (vals s.B++vals P))
  (hg:w.grownBy w2 v.ownBlock) (hv:∀k,v2.ownBlock=some k→v.ownBlock=some k∨w.heap.size≤k):WS (w2.setCell ⟨g,0,none⟩ v2) base g v2 (s.put P)∧WStep w (w2.setCell ⟨g,0,none⟩ v2) g v v2:=by
 have hne:=own_other h.own h.row
 have hr2:w2.heap[g]? =some (.cells #[v,.int .i64 s.e] 291 (0,0)):=(hg.block g h.lt (fun e=>hne e.symm)).trans h.row
 have hs:=heap_setCell_same w2 g 0 _ _ v2 hr2
 have e:s.put P=⟨s.B++P,0⟩:=by unfold St.put;rw [if_pos he]
 rw [e]
 refine ⟨⟨?_,?_,fun x hx=>?_,fun hc=>absurd rfl hc⟩,?_⟩
 ·rw [he] at hs;exact hs
 ·have:=own_setCell ho (a:=⟨g,0,none⟩) (own_other ho hr2) v2
  rw [← vals_append] at this
  simpa using this
 ·rcases List.mem_append.1 hx with hx | hx
  ·exact h.ok x hx
  ·exact hP x hx
 ·refine ⟨hg.os,hg.tape,hg.output,by simpa [World.setCell] using hg.size,fun k hk h1 h2=>?_,hv⟩
  rw [Below.heap_setCell _ _ _ _ h1]
  exact hg.block k hk (fun e=>h2 e.symm)
theorem put_any (s:St) (P:List Nat) (base g:Nat) (v:Value) (p:Option Addr) (n c:Nat) (w:World) (hs:WS w base g v s) (hP:Tx w p n c P) (hl:s.B.length+P.length<1099511627776) (hbw:base≤w.heap.size):
  Calls Tryz.prog 266 #[.pointer (some ⟨g,0,none⟩),.slice p n c] w (WPost w base g v (s.put P)):=by
 have hn:=hP.size
 by_cases he:s.e=0
 ·obtain ⟨q0,c0,hv0⟩:=slice_of_owns hs.own
  obtain ⟨m,hm⟩:∃m,m=s.B.length:=⟨_,rfl⟩
  rw [← hm] at hv0
  subst hv0
  have h1:w.cell? ⟨g,1,none⟩=some (.int .i64 0):=by have:=hs.err;rw [he] at this;exact this
  have h0:=hs.out
  have f0:w.frozen? ⟨g,0,none⟩=false:=frozen_of_row w g 0 _ _ hs.row
  obtain ⟨i5,hi,hi0,hi1,hi2⟩:=info_parts I5
  have HI:=yH hi
  have HI0:=yH hi0
  have HI1:=yH hi1
  have HI2:=yH hi2
  have HS:=yH hs
  have HP:=yH hP
  have HE:=yH he
  have HO:=yH hs.own
  have HN:=yH hn
  have hnl:n<1099511627776:=by omega
  have hnn:s.B.length+n<1099511627776:=by omega
  rw [← hm] at hnn
  have HM:=yH hm
  have ho2:=hs.own
  rw [← hm] at ho2
  have HO2:=yH ho2
  clear hi hi0 hi1 hi2 hs he hl hn hm ho2
  have HR:=yH HS.out.row
  rcases hP.at' with ⟨hp,hc⟩ | ⟨x,hp,_⟩
  ·subst hp
   subst hc
   obtain rfl:n=0:=by have:=hP.le;omega
   have hP0:P=[]:=List.length_eq_zero_iff.1 HN.out.symm
   have HP0:=yH hP0
   clear hP hP0
   go_enter Tryz.func266,Tryz.ntmps266
   go_wp2_with (at_builtin;refine wpList_append_own_none (by rfl) (.tmp 13) (.tmp 14) 45 (by rfl) base 5 i5 1 A22 HI.out _ m _ (by rfl) HO2.out (by rfl) ?_)
   go_end0
   refine ⟨rfl,_,HS.out.stored HE.out HP.out.ok ?_ ⟨rfl,rfl,rfl,Nat.le_refl _,fun _ _ _=>rfl⟩ (fun k hk=>Or.inl hk)⟩
   rw [HP0.out,List.length_nil,Nat.add_zero]
   simpa [vals,← HM.out] using HO2.out
  ·subst hp
   clear hP
   go_enter Tryz.func266,Tryz.ntmps266
   go_wp2_with (at_builtin;refine wpList_append_own_at w (by rfl) (.tmp 13) (.tmp 14) 45 (by rfl) base 5 i5 (.int .u8 0) 1 1 A22 HI.out HI0.out HI1.out HI2.out (by rfl) (by decide) _ m _ (by rfl) HO2.out x n c (vals P) (by rfl) (by rw [vals_length,Nat.mul_one];exact HN.out.symm) HP.out.cells (vals_one _) (by unfold maxLen;omega) (by omega) hbw ?_;intro v2 w2 hown2 hgrow2 _ hat2;obtain ⟨q2,c2,hv2⟩:=slice_of_owns hown2;have hr2:=(hgrow2.block g HS.out.lt (fun e=>own_other HS.out.own HS.out.row e.symm)).trans HR.out;have hc2:w2.cell? ⟨g,0,none⟩=some (.slice q0 m c0):=(cell_of_row w2 g 0 _ _ _ hr2).trans rfl;have hf2:w2.frozen? ⟨g,0,none⟩=false:=frozen_of_row w2 g 0 _ _ hr2;have HO3:=yH hown2;have HG3:=yH hgrow2;have HA3:=yH hat2;have HV3:=yH hv2;rw [hv2];clear hown2 hgrow2 hat2 hv2 hr2)
   go_end0
   refine ⟨rfl,_,HS.out.stored HE.out HP.out.ok ?_ ?_ (fun k hk=>?_)⟩
   ·have e:m+n=s.B.length+P.length:=by rw [HM.out,HN.out]
    have:=HO3.out
    rw [HV3.out,e] at this
    rw [e]
    exact this
   ·exact HG3.out
   ·rw [← HV3.out] at hk
    rcases HA3.out with h1 | h1
    ·exact Or.inl (h1.symm.trans hk)
    ·rw [h1] at hk
     cases hk
     exact Or.inr (Nat.le_refl _)
 ·have h1:=hs.err
  have b1:((s.e:Int)==0)=false:=by simp;omega
  have e:s.put P=s:=by unfold St.put;rw [if_neg he]
  rw [e]
  have HS:=yH hs
  clear hs hP he e hl hn
  go_enter Tryz.func266,Tryz.ntmps266
  go_wp2_with fail
  go_end0
  exact ⟨rfl,v,HS.out,WStep.refl _ _ _⟩
theorem WPost.trans {w w1:World} {base g:Nat} {v v1:Value} {s:St} (h:WStep w w1 g v v1) {e:Ending} {w':World} (k:WPost w1 base g v1 s e w'):WPost w base g v s e w':=by
 obtain ⟨he,v',h1,h2⟩:=k
 exact ⟨he,v',h1,h.trans h2⟩
theorem byte_any (s:St) (x:Nat) (hx:x<256) (base g:Nat) (v:Value) (w:World) (hs:WS w base g v s) (hl:s.B.length+1<1099511627776) (hbw:base≤w.heap.size):
  Calls Tryz.prog 238 #[.pointer (some ⟨g,0,none⟩),.int .u8 x] w (WPost w base g v (s.put [x])):=by
 have ha:=WStep.alloc w g v (.cells #[.int .u8 x] 5)
 have hsa:=hs.later ((Below.refl w.heap.size w).alloc (Nat.le_refl _) (.cells #[.int .u8 x] 5))
 have hB:Tx (w.alloc (.cells #[.int .u8 x] 5)) (some ⟨w.heap.size,0,none⟩) 1 1 [x]:=(Bytes.row (L:=[x]) (heap_alloc_new w _) (by intro y hy;simp at hy;omega)).tx
 have HA:=yH ha
 have HSA:=yH hsa
 have HB:=yH hB
 clear ha hsa hB hs
 go_enter Tryz.func238,Tryz.ntmps238
 go_wp2_with fail
 refine (put_any s [x] base g v _ 1 1 _ HSA.out HB.out hl (by simp;omega)).mono ?_
 rintro e w1 hp
 obtain ⟨rfl,v1,h1,h2⟩:=hp
 have H1:=yH h1
 have H2:=yH (HA.out.trans h2)
 clear h1 h2
 go_wp2_with fail
 go_end0
 exact ⟨rfl,v1,H1.out,H2.out⟩
theorem refuse_any (s:St) (base g:Nat) (v:Value) (w:World) (hs:WS w base g v s):
  Calls Tryz.prog 267 #[.pointer (some ⟨g,0,none⟩)] w (WPost w base g v .no):=by
 have h0:=hs.out
 have h1:=hs.err
 have f0:w.frozen? ⟨g,0,none⟩=false:=frozen_of_row w g 0 _ _ hs.row
 have f1:w.frozen? ⟨g,1,none⟩=false:=frozen_of_row w g 1 _ _ hs.row
 have HS:=yH hs
 clear hs
 go_enter Tryz.func267,Tryz.ntmps267
 go_wp2_with fail
 go_end0
 have r1:=heap_setCell_same w g 0 _ _ (.slice none 0 0) HS.out.row
 have r2:=heap_setCell_same _ g 1 _ _ (.int .i64 10) r1
 refine ⟨rfl,.slice none 0 0,⟨r2,World.ownsRow_nil _ _ _ _,fun x hx=>by simp [St.no] at hx,fun _=>⟨rfl,rfl⟩⟩,?_⟩
 refine ⟨rfl,rfl,rfl,by simp [World.setCell],fun k hk h1 h2=>?_,fun k hk=>by simp [Value.ownBlock] at hk⟩
 rw [Below.heap_setCell _ _ _ _ h1,Below.heap_setCell _ _ _ _ h1]
def ValRel (w:World) (base g:Nat) (v:Value) (s:St) (n size:Nat) (i:Value) (wr:World):Prop:=
 ∃(k:Nat) (v':Value),k≤size∧i= .int .i64 k∧WS wr base g v' (s.put ((Cm.be n size).take k))∧WStep w wr g v v'
theorem St.put_nil {s:St} (h:s.e≠0∨s.e=0):s.put []=s:=by
 unfold St.put
 obtain ⟨B,e⟩:=s
 rcases h with h | h
 ·rw [if_neg h]
 ·rw [if_pos h]
  simp at h
  subst h
  simp
theorem St.put_put (s:St) (P Q:List Nat):(s.put P).put Q=s.put (P++Q):=by
 unfold St.put
 by_cases h:s.e=0
 ·rw [if_pos h,if_pos rfl,if_pos h,List.append_assoc]
 ·rw [if_neg h,if_neg h,if_neg h]
theorem St.put_len (s:St) (P:List Nat):(s.put P).B.length≤s.B.length+P.length:=by
 unfold St.put
 by_cases h:s.e=0
 ·rw [if_pos h,List.length_append];exact Nat.le_refl _
 ·rw [if_neg h];omega
theorem value_any (s:St) (n size:Nat) (_hn:n<18446744073709551616) (hsize:size≤8) (base g:Nat) (v:Value) (w:World) (hs:WS w base g v s) (hl:s.B.length+size<1099511627776) (hbw:base≤w.heap.size):
  Calls Tryz.prog 282 #[.pointer (some ⟨g,0,none⟩),.int .u64 n,.int .i64 size] w (WPost w base g v (s.put (Cm.be n size))):=by
 have HS:=yH hs
 have HL:=yH hl
 have HBW:=yH hbw
 clear hs hl hbw
 go_enter Tryz.func282,Tryz.ntmps282
 go_wp2_with fail
 go_loopw [8] (fun i wr=>ValRel w base g v s n size i wr) (fun i _=>size - (intOf i).toNat)
 case atStart=>exact ⟨0,v,by omega,rfl,by rw [List.take_zero,St.put_nil (by omega)];exact HS.out,WStep.refl _ _ _⟩
 case round=>
  obtain ⟨k,v1,hk,rfl,h1,h2⟩:=hrel
  have H1:=yH h1
  have H2:=yH h2
  clear h1 h2 HS
  by_cases hlt:k<size
  ·have HI:(0:Int)≤8*(size - 1 - k)∧8*(size - 1 - (k:Int))≤64:=by omega
   go_wp2_with fail
   rw [show (n:Int)/2^(8*(size - 1 - k))%256=((n/2^(8*(size - 1 - k))%256:Nat):Int) from by rw [Int.natCast_emod,Int.natCast_ediv,Int.natCast_pow];rfl]
   obtain ⟨x,hx⟩:∃x,x=n/2^(8*(size - 1 - k))%256:=⟨_,rfl⟩
   rw [← hx]
   have hx8:x<256:=by rw [hx];exact Nat.mod_lt _ (by omega)
   have HX:=yH hx
   clear hx
   have hlen:=St.put_len s ((Cm.be n size).take k)
   rw [List.length_take,Cm.be_length] at hlen
   refine (byte_any _ x hx8 base g v1 _ H1.out (by have:=HL.out;omega) (Nat.le_trans HBW.out H2.out.size)).mono ?_
   rintro e w1 hp
   obtain ⟨rfl,v2,h3,h4⟩:=hp
   have H3:=yH h3
   have H4:=yH (H2.out.trans h4)
   clear h3 h4 hlen
   go_wp2_with fail
   go_roundw
   case rel=>
    refine ⟨k+1,v2,by omega,by go_num,?_,H4.out⟩
    have:=H3.out
    rw [St.put_put,HX.out,← Cm.be_take n size k hlt] at this
    exact this
   case measure=>simp [intOf];omega
  ·obtain rfl:k=size:=by omega
   go_wp2_with fail
   go_end0
   refine ⟨rfl,v1,?_,H2.out⟩
   have:=H1.out
   rw [List.take_of_length_le (by rw [Cm.be_length];exact Nat.le_refl _)] at this
   exact this
def St.truth (s:St) (x:Bool):St:=s.put [if x then 1 else 0]
def St.count (s:St) (n:Int):St:=if 0≤n∧n≤1048576 then s.put (Cm.be n.toNat 3) else .no
def St.text (s:St) (T:List Nat):St:=(s.count T.length).put T
def St.row (s:St) (R:List Int):St:=if R.length≤255 then R.foldl (fun s n=>s.put (Cm.num n)) (s.put [R.length]) else .no
theorem count_any (s:St) (n:Int) (h1: -9223372036854775808≤n) (h2:n≤9223372036854775807) (base g:Nat) (v:Value) (w:World) (hs:WS w base g v s) (hl:s.B.length+3<1099511627776) (hbw:base≤w.heap.size):
  Calls Tryz.prog 270 #[.pointer (some ⟨g,0,none⟩),.int .i64 n] w (WPost w base g v (s.count n)):=by
 have HS:=yH hs
 clear hs
 unfold St.count
 by_cases hn:0≤n∧n≤1048576
 ·rw [if_pos hn]
  obtain ⟨m,rfl⟩:∃m:Nat,n=m:=⟨n.toNat,by omega⟩
  obtain ⟨a1,a2⟩:=hn
  have b1:¬(m:Int)<0:=by omega
  have b2:¬(1048576:Int)<m:=by omega
  rw [Int.toNat_natCast]
  go_enter Tryz.func270,Tryz.ntmps270
  go_wp2_with fail
  refine (value_any s m 3 (by omega) (by omega) base g v _ HS.out hl hbw).mono ?_
  rintro e w1 hp
  obtain ⟨rfl,v2,h3,h4⟩:=hp
  have H3:=yH h3
  have H4:=yH h4
  clear h3 h4
  go_wp2_with fail
  go_end0
  exact ⟨rfl,v2,H3.out,H4.out⟩
 ·rw [if_neg hn]
  by_cases b1:n<0
  ·clear hn
   go_enter Tryz.func270,Tryz.ntmps270
   go_wp2_with fail
   refine (refuse_any s base g v _ HS.out).mono ?_
   rintro e w1 hp
   obtain ⟨rfl,v2,h3,h4⟩:=hp
   have H3:=yH h3
   have H4:=yH h4
   clear h3 h4
   go_wp2_with fail
   refine bodyPost_ret (results_none rfl _ _ _) rfl ?_
   exact ⟨rfl,v2,H3.out,H4.out⟩
  ·have b2:(1048576:Int)<n:=by omega
   clear hn
   go_enter Tryz.func270,Tryz.ntmps270
   go_wp2_with fail
   refine (refuse_any s base g v _ HS.out).mono ?_
   rintro e w1 hp
   obtain ⟨rfl,v2,h3,h4⟩:=hp
   have H3:=yH h3
   have H4:=yH h4
   clear h3 h4
   go_wp2_with fail
   refine bodyPost_ret (results_none rfl _ _ _) rfl ?_
   exact ⟨rfl,v2,H3.out,H4.out⟩
theorem num_any (s:St) (n:Int) (h1: -9223372036854775808≤n) (h2:n≤9223372036854775807) (base g:Nat) (v:Value) (w:World) (hs:WS w base g v s) (hl:s.B.length+8<1099511627776) (hbw:base≤w.heap.size):
  Calls Tryz.prog 268 #[.pointer (some ⟨g,0,none⟩),.int .i64 n] w (WPost w base g v (s.put (Cm.num n))):=by
 have HS:=yH hs
 clear hs
 have hx:=Cm.sign_int h1 h2
 have hz:=(Cm.z64_lt h1 h2).1
 have HX:=yH hx
 have HZ:=yH hz
 clear hx hz
 go_enter Tryz.func268,Tryz.ntmps268
 go_wp2_with fail
 rw [HX.out]
 refine (value_any s (Cm.z64 n) 8 HZ.out (by omega) base g v _ HS.out hl hbw).mono ?_
 rintro e w1 hp
 obtain ⟨rfl,v2,h3,h4⟩:=hp
 have H3:=yH h3
 have H4:=yH h4
 clear h3 h4
 go_wp2_with fail
 go_end0
 exact ⟨rfl,v2,H3.out,H4.out⟩
theorem arr_slice (g:Nat) (w:World):(Instr.sliceAt 30 (.pointer (some ⟨g,0,none⟩)) none none none).run Tryz.prog w= .ok (.slice (some ⟨g,0,none⟩) 32 32) w:=by
 have hl:Tryz.prog.arrayLen 30=32:=by simp [Program.arrayLen]
 have he:Tryz.prog.elem 30=5:=by simp [Program.elem]
 have h1:=run_sliceAt_array_all (P:=Tryz.prog) w 30 ⟨g,0,none⟩ (by rw [hl,he];exact A25)
 obtain ⟨i5,hi,_,hi1,_⟩:=info_parts I5
 have hs:(sizeOf 5).run Tryz.prog w= .ok 1 w:=by simp [sizeOf,typeInfo,hi,hi1]
 rw [h1,hl,he,hs]
 simp [slicedAt,Addr.add]
theorem digestw_any (s:St) (d:List Nat) (hd:d.length=32) (hdb:Sm.allB d) (base g:Nat) (v:Value) (w:World) (hs:WS w base g v s) (hl:s.B.length+32<1099511627776) (hbw:base≤w.heap.size):
  Calls Tryz.prog 269 #[.pointer (some ⟨g,0,none⟩),.agg (u8s d)] w (WPost w base g v (s.put d)):=by
 have hsl:=fun w'=>arr_slice w.heap.size w'
 have hsa:=hs.later ((Below.refl w.heap.size w).alloc (Nat.le_refl _) (.cells (u8s d) 30))
 have hB:Tx (w.alloc (.cells (u8s d) 30)) (some ⟨w.heap.size,0,none⟩) d.length d.length d:=(Bytes.row (L:=d) (heap_alloc_new w _) hdb).tx
 rw [hd] at hB
 have HA:=yH (WStep.alloc w g v (.cells (u8s d) 30))
 have HSA:=yH hsa
 have HB:=yH hB
 have HD:=yH hd
 clear hsa hB hs hd
 go_enter Tryz.func269,Tryz.ntmps269
 go_wp2_with fail
 refine (put_any s d base g v _ 32 32 _ HSA.out HB.out (by have:=HD.out;omega) (by simp;omega)).mono ?_
 rintro e w1 hp
 obtain ⟨rfl,v2,h3,h4⟩:=hp
 have H3:=yH h3
 have H4:=yH (HA.out.trans h4)
 clear h3 h4
 go_wp2_with fail
 go_end0
 exact ⟨rfl,v2,H3.out,H4.out⟩
theorem be3 (n:Nat):Cm.be n 3=[n/65536%256,n/256%256,n%256]:=by
 show [n/2^16%256,n/2^8%256,n/2^0%256]=_
 simp
def nums (R:List Int):List Nat:=R.flatMap Cm.num
theorem nums_length (R:List Int):(nums R).length=8*R.length:=by
 induction R with
 | nil=>rfl
 | cons x R ih=>
  show (Cm.num x++nums R).length=_
  rw [List.length_append,ih,Cm.num_length,List.length_cons]
  omega
theorem nums_ok (R:List Int):Sm.allB (nums R):=fun x hx=>by
 obtain ⟨y,_,hy⟩:=List.mem_flatMap.1 hx
 exact Cm.num_ok y x hy
theorem nums_step (R:List Int) (k:Nat) (hk:k<R.length):nums (R.take (k+1))=nums (R.take k)++Cm.num (R.getD k 0):=by
 have e:R.getD k 0=R[k]:=by rw [List.getD_eq_getElem?_getD,List.getElem?_eq_getElem hk];rfl
 rw [e,List.take_succ_eq_append_getElem hk]
 unfold nums
 rw [List.flatMap_append,List.flatMap_cons,List.flatMap_nil,List.append_nil]
def rowB (R:List Int):List Nat:=R.length::nums R
end Go.Proofs.YtinihaflmdihaaaGreat
namespace Go.Proofs.YtinihaflmdihaaaGreat.Nd
open Go.RowKit Go.Proofs.YtinihaflmdihaaaGreat.Wl
def rowBs (R:List Int):List Nat:=R.length%256::Go.Proofs.YtinihaflmdihaaaGreat.nums R
def PE.bytes (e:PE):List Nat:=(if e.live then 1 else 0)::rowBs e.row
def PK.bytes (k:PK):List Nat:=k.sum++(Cm.be k.live.toNat 3++(Cm.be k.size.toNat 3++(rowBs k.lo++(rowBs k.hi++rowBs k.key))))
def PN.bytes (n:PN):List Nat:=n.kind::n.rows.length%256::(n.rows.flatMap PE.bytes++(n.kids.length%256::n.kids.flatMap PK.bytes))
theorem rowBs_length (R:List Int):(rowBs R).length=1+8*R.length:=by simp [rowBs,nums_length];omega
theorem rowBs_ok (R:List Int):Sm.allB (rowBs R):=fun x hx=>by
 rcases List.mem_cons.1 hx with rfl | hx
 ·exact Nat.mod_lt _ (by omega)
 ·exact nums_ok R x hx
theorem flat_succ {α:Type} [Inhabited α] (f:α→List Nat) (L:List α) (k:Nat) (h:k<L.length):(L.take (k+1)).flatMap f=(L.take k).flatMap f++f (L.getD k default):=by
 rw [List.take_succ_eq_append_getElem h,List.flatMap_append,List.getD_eq_getElem?_getD,List.getElem?_eq_getElem h]
 simp
structure BySt (w1:World) (gx:Nat) (kd:Kd) (w:World) (v:Value) (n:Nat) (B:List Nat):Prop where
 out:Out w1 w v n B
 row:w.heap[gx]? =some (.cells kd.cells.toArray 34 (0,0))
 ne:v.ownBlock≠some gx
theorem BySt.later {w1 w w':World} {gx:Nat} {kd:Kd} {v:Value} {n:Nat} {B:List Nat} (h:BySt w1 gx kd w v n B) (hb:Below w.heap.size w w'):BySt w1 gx kd w' v n B:=
 ⟨h.out.later hb,(hb.block _ (yL h.row)).trans h.row,h.ne⟩
theorem BySt.put {w1 w w7:World} {gx:Nat} {kd:Kd} {v v7:Value} {n m:Nat} {B P:List Nat} (h:BySt w1 gx kd w v n B) (hP:Sm.allB P) (hm:P.length=m) (hown:w7.ownsRow w1.heap.size 5 1 v7 (n+m) (vals B++vals P)) (hg:w.grownBy w7 v.ownBlock) (hat:v7.ownBlock=v.ownBlock∨v7.ownBlock=some w.heap.size):BySt w1 gx kd w7 v7 (n+m) (B++P):=by
 have hlt:=(yL h.row)
 refine ⟨h.out.put hP hm hown hg,(hg.block _ hlt (fun e=>h.ne e.symm)).trans h.row,fun e=>?_⟩
 rcases hat with h2 | h2
 ·exact h.ne (h2.symm.trans e)
 ·rw [h2] at e
  have:=Option.some.inj e
  omega
theorem BySt.start {w1 w:World} {kd:Kd} {v:Value} {n:Nat} {B:List Nat} (h:Out w1 w v n B):BySt w1 w.heap.size kd (w.alloc (.cells kd.cells.toArray 34)) v n B:=
 ⟨h.later ((Below.refl _ _).alloc (Nat.le_refl _) _),heap_alloc_new w _,fun e=>by have:=(h.own.lt _ e).2;omega⟩
theorem kd0_size:kd0.cells.length=37:=rfl
theorem kz:(Tryz.prog.info? 34).map (fun i=>(i.zero,i.size))=some (some (.agg kd0.cells.toArray),37):=by kernel_rfl
theorem Kd.one {k:Kd}:∀u∈k.cells,u.oneCell'=true:=by
 intro u hu
 rcases List.mem_append.1 hu with hu | hu
 ·exact vals_one _ u hu
 ·simp only [List.mem_cons,List.not_mem_nil,or_false] at hu
  rcases hu with rfl | rfl | rfl | rfl | rfl<;>rfl
end Go.Proofs.YtinihaflmdihaaaGreat.Nd
namespace Go.Proofs.YtinihaflmdihaaaGreat.Nd
open Go.RowKit
theorem eachK_any (p:Option Addr) (n c:Nat) (K:List Kd) (f:PK→Bool) (F:Nat) (cap:Array Value) (hF:∀args w,(callFunc F args).run Tryz.prog w= .ok (.enter F args) w) (w:World) (hK:KidsIn w p n c K) (hs:AskK w K f F cap):
  Calls Tryz.prog 202 #[.slice p n c,.func (.func F) #[] cap] w fun e w'=>e= .returned (.bool ((K.map Kd.pk).all f))∧Below w.heap.size w w':=by
 have HS:=yH hs
 have HK:=yH hK
 have HN:=yH hK.size
 have HTOP:=yH hK.top
 obtain ⟨du,hdu,hdr⟩:=UKd
 have HD:=yH hdu
 have HDR:=yH hdr
 have HZ:=yH (zero_of_info kz)
 clear hs hK hdu hdr
 go_enter Tryz.func202,Tryz.ntmps202
 go_wp2_with fail
 go_loopw [9] (fun i wr=>EaRel w n f (K.map Kd.pk) i wr) (fun i _=>n - (intOf i).toNat)
 case atStart=>exact ⟨0,by omega,rfl,rfl,Below.refl _ _⟩
 case round=>
  obtain ⟨k,hk,rfl,hal,hb⟩:=hrel
  have HA:=yH hal
  have HB:=yH hb
  have htop:=HTOP.out
  clear hal hb
  by_cases hlt:k<n
  ·obtain ⟨g,o,rfl,hrg,hok⟩:=(HK.out.later HB.out).get k hlt
   have i1:(0:Int)≤k∧(k:Int)<n:=by omega
   have hlen:k<K.length:=by rw [← HN.out];exact hlt
   have HT:=yH (allT_map Kd.pk f K k hlen)
   have HX:=yH (all_map_false Kd.pk f K k hlen)
   have hmem:=getD_mem K k hlen
   generalize K.getD k default=e at *
   have hb1:Below wr.heap.size wr (wr.alloc (.cells e.cells.toArray 34)):=(Below.refl _ _).alloc (Nat.le_refl _) _
   have hc:=HS.out e _ hmem (hok.later hb1) (HB.out.trans (hb1.mono HB.out.size))
   have HB1:=yH (HB.out.trans (hb1.mono HB.out.size))
   have HR:=yH hrg
   have HCL:=yH (Kd.cells_length hok.len)
   have HC0:=yH hc
   have hz0:=HZ.out.1
   clear hok hmem hb1 hrg hc
   go_upto_region 4 with (first
    | (refine wpList_load_mid (by rfl) 34 _ (by rfl) g (o+k*37) (by rfl) e.cells du HR.out HD.out HDR.out (by rw [HCL.out];exact SKd) ?_)
    | (refine wpList_store_row (by rfl) 34 (.tmp 6) (.tmp 12) (by rfl) wr.heap.size e.cells.toArray (by rfl) (by rfl) _ _ (heap_alloc_new wr _) (by rw [List.size_toArray,HCL.out];exact SKd) (by simp only [List.size_toArray,HCL.out,kd0_size]) (all_oneCell_toArray Kd.one) ?_;rw [setRow_alloc]))
   have HRR:=yH (range_kd (heap_alloc_new wr (.cells e.cells.toArray 34)))
   have hc:=HC0.out
   generalize wr.alloc (.cells e.cells.toArray 34)=w1 at *
   clear hz0 HC0
   cases hfk:f e.pk with
   | false=>
    rw [hfk] at hc
    have HC:=yH hc
    have HXX:=yH (HX.out hfk)
    clear hc hfk HX HT
    go_wp2_with (first
     | (refine wpList_load_mid (by rfl) 34 _ (by rfl) _ 0 (by rfl) e.cells du HRR.out HD.out HDR.out (by rw [HCL.out];exact SKd) ?_)
     | (refine HC.out.mono ?_;rintro e w'' ⟨rfl,b2⟩))
    go_ret
    exact ⟨congrArg (fun b=>Ending.returned (.bool b)) HXX.out.symm,HB1.out.trans (b2.mono HB1.out.size)⟩
   | true=>
    rw [hfk] at hc
    have HC:=yH hc
    have HXX:=yH (show allT f (K.map Kd.pk) (k+1)=true by rw [HT.out,HA.out,hfk];rfl)
    clear hc hfk HX HT
    go_wp2_with (first
     | (refine wpList_load_mid (by rfl) 34 _ (by rfl) _ 0 (by rfl) e.cells du HRR.out HD.out HDR.out (by rw [HCL.out];exact SKd) ?_)
     | (refine HC.out.mono ?_;rintro e w'' ⟨rfl,b2⟩;have HB2:=yH (HB1.out.trans (b2.mono HB1.out.size));clear b2))
    go_roundw
    case rel=>exact ⟨k+1,by omega,by go_num,HXX.out,HB2.out⟩
    case measure=>simp [intOf];omega
  ·obtain rfl:n=k:=by omega
   have HW:=yH (show allT f (K.map Kd.pk) n=(K.map Kd.pk).all f from by rw [HN.out];exact allT_whole Kd.pk f K)
   go_wp2_with fail
   go_ret
   exact ⟨congrArg (fun b=>Ending.returned (.bool b)) (by rw [← HW.out,HA.out]),HB.out⟩
theorem fnLive_any (e:En) (w:World):
  Calls Tryz.prog 236 #[.agg #[e.row.val,.bool e.live]] w fun r w'=>r= .returned (.bool e.live)∧Below w.heap.size w w':=by
 have hb1:Below w.heap.size w (w.alloc (.cells #[e.row.val,.bool e.live] 85)):=(Below.refl _ _).alloc (Nat.le_refl _) _
 obtain ⟨z0,z1⟩:=pair_alloc w e.row.val (.bool e.live) 85
 have HB:=yH hb1
 clear hb1
 go_enter Tryz.func236,Tryz.ntmps236
 go_upto_region 1 with fail
 generalize w.alloc (.cells #[e.row.val,.bool e.live] 85)=w1 at *
 go_wp2_with fail
 go_ret
 exact ⟨rfl,HB.out⟩
theorem fnLong_any (e:En) (B:Nat) (d:Int) (w:World) (hB:w.cell? ⟨B,0,none⟩=some (.int .i64 d)) (he:e.row.Ok w):
  Calls Tryz.prog 201 #[.agg #[e.row.val,.bool e.live],.pointer (some ⟨B,0,none⟩)] w fun r w'=>r= .returned (.bool (e.pe.long d))∧Below w.heap.size w w':=by
 have hb1:Below w.heap.size w (w.alloc (.cells #[e.row.val,.bool e.live] 85)):=(Below.refl _ _).alloc (Nat.le_refl _) _
 obtain ⟨z0,z1⟩:=pair_alloc w e.row.val (.bool e.live) 85
 have b0:=(hb1.cell (block_lt_of_cell hB)).trans hB
 have HB:=yH hb1
 have HX:=yH (show ((e.row.n:Int)==d)=e.pe.long d from by
  have:=he.ints.size
  rw [Bool.eq_iff_iff,beq_iff_eq]
  unfold PE.long En.pe
  rw [decide_eq_true_iff,← this])
 clear hb1 hB he
 go_enter Tryz.func201,Tryz.ntmps201
 go_upto_region 1 with fail
 generalize w.alloc (.cells #[e.row.val,.bool e.live] 85)=w1 at *
 unfold Rw.val at z0
 go_wp2_with fail
 go_ret
 exact ⟨by rw [← HX.out];rfl,HB.out⟩
theorem fnKid_any (k:Kd) (B:Nat) (d:Int) (w:World) (hB:w.cell? ⟨B,0,none⟩=some (.int .i64 d)) (hk:k.Ok w):
  Calls Tryz.prog 203 #[.agg k.cells.toArray,.pointer (some ⟨B,0,none⟩)] w fun r w'=>r= .returned (.bool (k.pk.right d))∧Below w.heap.size w w':=by
 have hb1:Below w.heap.size w (w.alloc (.cells k.cells.toArray 34)):=(Below.refl _ _).alloc (Nat.le_refl _) _
 have r1:=heap_alloc_new w (.cells k.cells.toArray 34)
 have b0:=(hb1.cell (block_lt_of_cell hB)).trans hB
 obtain ⟨du,hdu,hdr⟩:=UKd
 have HD:=yH hdu
 have HDR:=yH hdr
 have HB:=yH hb1
 have HOK:=yH (hk.later hb1)
 have HCL:=yH (Kd.cells_length hk.len)
 clear hb1 hB hk hdu hdr
 go_enter Tryz.func203,Tryz.ntmps203
 go_upto_region 1 with fail
 generalize w.alloc (.cells k.cells.toArray 34)=w1 at *
 have HR:=yH (range_kd r1)
 clear r1
 go_wp2_with (first
  | (refine wpList_load_mid (by rfl) 34 _ (by rfl) _ 0 (by rfl) k.cells du HR.out HD.out HDR.out (by rw [HCL.out];exact SKd) ?_)
  | (refine (nkid_any k d w1 HOK.out).mono ?_;rintro _ w5 ⟨rfl,b5⟩))
 go_ret
 exact ⟨rfl,HB.out.trans (b5.mono HB.out.size)⟩
def PK.keys (d:Int) (k:PK):Bool:=decide ((k.key.length:Int)=d)
theorem fnKey_any (k:Kd) (B:Nat) (d:Int) (w:World) (hB:w.cell? ⟨B,0,none⟩=some (.int .i64 d)) (hk:k.Ok w):
  Calls Tryz.prog 262 #[.agg k.cells.toArray,.pointer (some ⟨B,0,none⟩)] w fun r w'=>r= .returned (.bool (k.pk.keys d))∧Below w.heap.size w w':=by
 have hb1:Below w.heap.size w (w.alloc (.cells k.cells.toArray 34)):=(Below.refl _ _).alloc (Nat.le_refl _) _
 have r1:=heap_alloc_new w (.cells k.cells.toArray 34)
 have b0:=(hb1.cell (block_lt_of_cell hB)).trans hB
 have HB:=yH hb1
 have hx:((k.key.n:Int)==d)=k.pk.keys d:=by
  have:=hk.key.ints.size
  rw [Bool.eq_iff_iff,beq_iff_eq]
  unfold PK.keys Kd.pk
  rw [decide_eq_true_iff,← this]
 have HX:=yH hx
 have HSL:=yH hk.len
 clear hb1 hB hx hk
 go_enter Tryz.func262,Tryz.ntmps262
 go_upto_region 1 with fail
 generalize w.alloc (.cells k.cells.toArray 34)=w1 at *
 have a6:=(kat_row r1 HSL.out).key
 rw [Nat.zero_add] at a6
 unfold Rw.val at a6
 clear r1
 go_wp2_with fail
 go_ret
 exact ⟨by rw [← HX.out];rfl,HB.out⟩
theorem nkeyed_any (p:Option Addr) (n c:Nat) (K:List Kd) (d:Int) (w:World) (hK:KidsIn w p n c K):
  Calls Tryz.prog 235 #[.slice p n c,.int .i64 d] w fun e w'=>e= .returned (.bool ((K.map Kd.pk).all (PK.keys d)))∧Below w.heap.size w w':=by
 have hb1:Below w.heap.size w (w.alloc (.cells #[.int .i64 d] 3)):=(Below.refl _ _).alloc (Nat.le_refl _) _
 have b0:=boxed w (.int .i64 d) 3
 have hE:=eachK_any p n c K (PK.keys d) 262 #[.pointer (some ⟨w.heap.size,0,none⟩)] (fun args w=>by as_aux_lemma=>kernel_rfl) (w.alloc (.cells #[.int .i64 d] 3)) (hK.later hb1)
  (fun k w' _ hk hb=>fnKey_any k w.heap.size d w' ((hb.cell (block_lt_of_cell b0)).trans b0) hk)
 obtain ⟨X,hX⟩:∃X,(K.map Kd.pk).all (PK.keys d)=X:=⟨_,rfl⟩
 rw [hX] at hE ⊢
 have HE:=yH hE
 have HB:=yH hb1
 clear hE hb1 hK b0 hX
 go_enter Tryz.func235,Tryz.ntmps235
 go_upto_region 1 with fail
 generalize w.alloc (.cells #[.int .i64 d] 3)=w1 at *
 go_wp2_with (refine HE.out.mono ?_;rintro e w'' ⟨rfl,b2⟩)
 go_ret
 exact ⟨rfl,HB.out.trans (b2.mono HB.out.size)⟩
def PN.shape (n:PN) (d:Int):Bool:=
 if n.kind=1 then decide (n.rows.length=1)&&decide (n.kids.length=2)&&n.kids.all (PK.keys 0)
 else if n.kind=2 then decide (1≤n.rows.length)&&decide (n.rows.length≤4)&&decide (n.kids.length=0)&&n.rows.all PE.live
 else if n.kind=3 then decide (n.rows.length=0)&&decide (2≤n.kids.length)&&decide (n.kids.length≤4)&&n.kids.all (PK.keys d)
 else false
theorem keys_keyless:∀K:List PK,K.all (PK.keys 0)=K.all PK.keyless:=fun K=>by
 congr 1
 funext k
 unfold PK.keys PK.keyless
 rw [Bool.eq_iff_iff,decide_eq_true_iff,decide_eq_true_iff]
 omega
theorem keys_keyed {d:Int} (h:1≤d):∀K:List PK,K.all (PK.keys d)=K.all (PK.keyed d):=fun K=>by
 congr 1
 funext k
 unfold PK.keys PK.keyed
 by_cases e:k=PK.none
 ·subst e
  rw [decide_eq_false (show ¬((PK.none.key.length:Nat):Int)=d from by show ¬((0:Nat):Int)=d;omega)]
  rfl
 ·rw [decide_eq_false e]
  simp
theorem PN.right_shape (n:PN) (d:Int):n.right d=(decide (1≤d∧d≤8)&&n.shape d&&n.rows.all (PE.long d)&&n.kids.all (PK.right · d)):=by
 unfold PN.right PN.shape
 by_cases hd:1≤d∧d≤8
 ·rw [if_neg (by simpa using hd),decide_eq_true hd,keys_keyless,keys_keyed hd.1]
  cases h1:n.rows.all (PE.long d)
  ·simp
  ·cases h2:n.kids.all (PK.right · d)
   ·simp
   ·simp only [Bool.true_eq_false,if_false,Bool.and_true,Bool.true_and]
    by_cases k1:n.kind=1
    ·rw [if_pos k1,if_pos k1]
     by_cases h:n.rows.length=1∧n.kids.length=2
     ·rw [if_pos h,decide_eq_true h.1,decide_eq_true h.2];rfl
     ·rw [if_neg h]
      by_cases h':n.rows.length=1
      ·rw [decide_eq_false (show ¬n.kids.length=2 from fun e=>h ⟨h',e⟩)];simp
      ·rw [decide_eq_false h'];rfl
    ·rw [if_neg k1,if_neg k1]
     by_cases k2:n.kind=2
     ·rw [if_pos k2,if_pos k2]
      by_cases h:0<n.rows.length∧n.rows.length<5∧n.kids.length=0
      ·rw [if_pos h,decide_eq_true (show 1≤n.rows.length by omega),decide_eq_true (show n.rows.length≤4 by omega),decide_eq_true h.2.2];rfl
      ·rw [if_neg h]
       by_cases a:1≤n.rows.length
       ·by_cases b:n.rows.length≤4
        ·rw [decide_eq_false (show ¬n.kids.length=0 by omega)];simp
        ·rw [decide_eq_false b];simp
       ·rw [decide_eq_false a];rfl
     ·rw [if_neg k2,if_neg k2]
      by_cases k3:n.kind=3
      ·rw [if_pos k3]
       by_cases h:n.rows.length=0∧1<n.kids.length∧n.kids.length<5
       ·rw [if_pos ⟨k3,h⟩,decide_eq_true h.1,decide_eq_true (show 2≤n.kids.length by omega),decide_eq_true (show n.kids.length≤4 by omega)];rfl
       ·rw [if_neg (fun e=>h e.2)]
        by_cases a:n.rows.length=0
        ·by_cases b:2≤n.kids.length
         ·rw [decide_eq_false (show ¬n.kids.length≤4 by omega)];simp
         ·rw [decide_eq_false b];simp
        ·rw [decide_eq_false a];rfl
      ·rw [if_neg (fun e=>k3 e.1),if_neg k3]
 ·rw [if_pos hd,decide_eq_false hd]
  rfl
theorem nshaped_any (kind:Nat) (p:Option Addr) (n c:Nat) (q:Option Addr) (m f:Nat) (E:List En) (K:List Kd) (d:Int) (w:World) (hE:EntsIn w p n c E) (hK:KidsIn w q m f K):
  Calls Tryz.prog 199 #[.agg #[.int .u8 kind,.slice p n c,.slice q m f],.int .i64 d] w fun e w'=>e= .returned (.bool ((pnOf kind E K).shape d))∧Below w.heap.size w w':=by
 have hb1:Below w.heap.size w (w.alloc (.cells #[.int .u8 kind,.slice p n c,.slice q m f] 81)):=(Below.refl _ _).alloc (Nat.le_refl _) _
 have hn:=NodeAt.start w kind p n c q m f
 have HE:=yH (hE.later hb1)
 have HK:=yH (hK.later hb1)
 have HB:=yH hb1
 have HN:=yH hn
 have hs:(pnOf kind E K).shape d=if kind=1 then decide (n=1)&&decide (m=2)&&(K.map Kd.pk).all (PK.keys 0)
   else if kind=2 then decide (1≤n)&&decide (n≤4)&&decide (m=0)&&(E.map En.pe).all PE.live
   else if kind=3 then decide (n=0)&&decide (2≤m)&&decide (m≤4)&&(K.map Kd.pk).all (PK.keys d)
   else false:=by
  unfold PN.shape pnOf
  simp only [List.length_map]
  rw [← hE.size,← hK.size]
 have HK0:=yH (fun w1 (h:Below w.heap.size w w1)=>nkeyed_any q m f K 0 w1 (hK.later h))
 have HKD:=yH (fun w1 (h:Below w.heap.size w w1)=>nkeyed_any q m f K d w1 (hK.later h))
 have HEL:=yH (fun w1 (h:Below w.heap.size w w1)=>eachE_any p n c E PE.live 236 #[] (fun args w=>by as_aux_lemma=>kernel_rfl) w1 (hE.later h) (fun e w' _ _ _=>fnLive_any e w'))
 generalize (pnOf kind E K).shape d=X at *
 generalize (K.map Kd.pk).all (PK.keys 0)=X0 at *
 generalize (K.map Kd.pk).all (PK.keys d)=XD at *
 generalize (E.map En.pe).all PE.live=XL at *
 have HS:=yH hs
 clear hE hK hb1 hn hs
 go_enter Tryz.func199,Tryz.ntmps199
 go_upto_region 1 with fail
 generalize w.alloc (.cells #[.int .u8 kind,.slice p n c,.slice q m f] 81)=w1 at *
 obtain ⟨t0,t1,t2⟩:=HN.out.cells
 by_cases k1:kind=1
 ·have hs:=HS.out
  rw [if_pos k1] at hs
  subst k1
  by_cases h1:n=1
  ·subst h1
   by_cases h2:m=2
   ·subst h2
    have HSS:=yH hs
    clear hs
    go_wp2_with (refine (HK0.out w1 HB.out).mono ?_;rintro e w'' ⟨rfl,b2⟩)
    go_ret
    exact ⟨by rw [HSS.out];rfl,HB.out.trans (b2.mono HB.out.size)⟩
   ·rw [decide_eq_false h2] at hs
    have e2:((m:Int)==2)=false:=by simp;omega
    obtain rfl:X=false:=by simpa using hs
    clear hs h2
    go_wp2_with fail
    go_ret
    exact ⟨rfl,HB.out⟩
  ·rw [decide_eq_false h1] at hs
   have e1:((n:Int)==1)=false:=by simp;omega
   obtain rfl:X=false:=by simpa using hs
   clear hs h1
   go_wp2_with fail
   go_ret
   exact ⟨rfl,HB.out⟩
 have g1:((kind:Int)==1)=false:=by simp;omega
 by_cases k2:kind=2
 ·have hs:=HS.out
  rw [if_neg k1,if_pos k2] at hs
  subst k2
  clear g1 k1
  by_cases h1:1≤n
  ·have e1:(1:Int)≤n:=by omega
   by_cases h2:n≤4
   ·have e2:(n:Int)≤4:=by omega
    by_cases h3:m=0
    ·subst h3
     rw [decide_eq_true h1,decide_eq_true h2] at hs
     have HSS:=yH hs
     clear hs h1 h2
     go_wp2_with (refine (HEL.out w1 HB.out).mono ?_;rintro e w'' ⟨rfl,b2⟩)
     go_ret
     exact ⟨by rw [HSS.out];rfl,HB.out.trans (b2.mono HB.out.size)⟩
    ·rw [decide_eq_false h3] at hs
     have e3:((m:Int)==0)=false:=by simp;omega
     obtain rfl:X=false:=by simpa using hs
     clear hs h3 h1 h2
     go_wp2_with fail
     go_ret
     exact ⟨rfl,HB.out⟩
   ·rw [decide_eq_false h2] at hs
    have e2:¬(n:Int)≤4:=by omega
    obtain rfl:X=false:=by simpa using hs
    clear hs h2 h1
    go_wp2_with fail
    go_ret
    exact ⟨rfl,HB.out⟩
  ·rw [decide_eq_false h1] at hs
   have e1:¬(1:Int)≤n:=by omega
   obtain rfl:X=false:=by simpa using hs
   clear hs h1
   go_wp2_with fail
   go_ret
   exact ⟨rfl,HB.out⟩
 have g2:((kind:Int)==2)=false:=by simp;omega
 by_cases k3:kind=3
 ·have hs:=HS.out
  rw [if_neg k1,if_neg k2,if_pos k3] at hs
  subst k3
  clear g1 k1 g2 k2
  by_cases h1:n=0
  ·subst h1
   by_cases h2:2≤m
   ·have e2:(2:Int)≤m:=by omega
    by_cases h3:m≤4
    ·have e3:(m:Int)≤4:=by omega
     rw [decide_eq_true h2,decide_eq_true h3] at hs
     have HSS:=yH hs
     clear hs h3 h2
     go_wp2_with (refine (HKD.out w1 HB.out).mono ?_;rintro e w'' ⟨rfl,b2⟩)
     go_ret
     exact ⟨by rw [HSS.out];rfl,HB.out.trans (b2.mono HB.out.size)⟩
    ·rw [decide_eq_false h3] at hs
     have e3:¬(m:Int)≤4:=by omega
     obtain rfl:X=false:=by simpa using hs
     clear hs h3 h2
     go_wp2_with fail
     go_ret
     exact ⟨rfl,HB.out⟩
   ·rw [decide_eq_false h2] at hs
    have e2:¬(2:Int)≤m:=by omega
    obtain rfl:X=false:=by simpa using hs
    clear hs h2
    go_wp2_with fail
    go_ret
    exact ⟨rfl,HB.out⟩
  ·rw [decide_eq_false h1] at hs
   have e1:((n:Int)==0)=false:=by simp;omega
   obtain rfl:X=false:=by simpa using hs
   clear hs h1
   go_wp2_with fail
   go_ret
   exact ⟨rfl,HB.out⟩
 have g3:((kind:Int)==3)=false:=by simp;omega
 have hs:=HS.out
 rw [if_neg k1,if_neg k2,if_neg k3] at hs
 subst hs
 clear k1 k2 k3
 go_wp2_with fail
 go_ret
 exact ⟨rfl,HB.out⟩
end Go.Proofs.YtinihaflmdihaaaGreat.Nd
