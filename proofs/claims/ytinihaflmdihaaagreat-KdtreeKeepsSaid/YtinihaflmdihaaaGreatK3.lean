/- KrSort, KtApp, KrAll, KrLay, GenOwn, BoxClone, NdKd0, GenEqs, BoxRefB, BoxRefG, NdSame, NlEqual, NlBoxSame, NlSame, NlEmpty, GenBox, BoxEach, NlKid, NdRightP, NlEach, WlOut. -/
import Derived.BigRegion
import Derived.Laws.AppendOwnNone
import Derived.Laws.OwnMore
import Derived.Lib.SliceRun
import Derived.Maps.AppendAt
import Derived.Test.YtinihaflmdihaaaGreatK2
set_option maxRecDepth 100000
set_option maxHeartbeats 8000000
set_option linter.all false
namespace Go.Proofs.YtinihaflmdihaaaGreat.Kt
open Go.RowKit
theorem IRs:(Tryz.prog.info? 24).map (fun i=>(i.zero,i.size,i.bytes))=some (some (.slice none 0 0),1,24):=by kernel_rfl
theorem URSs:Tryz.prog.underlying 51=some (.slice 24):=by kernel_rfl
theorem hd_new (w:World) (p:Option Addr) (n c:Nat) (R:List Int):∀j u,(hds [⟨p,n,c,R⟩])[j]? =some u→(w.alloc (.cells #[.slice p n c] 24)).cell? ((⟨w.heap.size,0,none⟩:Addr).add j)=some u:=fun j u hu=>by
 have hj:j=0:=by have:=(List.getElem?_eq_some_iff.1 hu).1;simp [hds] at this;omega
 subst hj
 simp [hds,Rw.val] at hu
 rw [Addr.add_mid,← hu]
 exact cell_of_row _ _ 0 _ _ (0,0) (heap_alloc_new w _)
theorem hd_tail {w:World} {g o n c:Nat} {L:List Rw} (h:RowsIn w (some ⟨g,o,none⟩) n c L) (j:Nat):∀i u,(hds (L.drop j))[i]? =some u→w.cell? ((⟨g,o+j,none⟩:Addr).add i)=some u:=fun i u hu=>by
 have hi:i<(L.drop j).length:=by have:=(List.getElem?_eq_some_iff.1 hu).1;rw [hds_length] at this;exact this
 rw [List.length_drop] at hi
 rcases h.at' with h0 | ⟨g',o',hp,hx⟩
 ·rw [h0] at hi
  simp at hi
 ·simp only [Option.some.injEq,Addr.mk.injEq,and_true] at hp
  obtain ⟨rfl,rfl⟩:=hp
  have:=hx (j+i) (by omega)
  rw [Addr.add_mid,Nat.add_assoc,this]
  have h2:j+i<L.length:=by omega
  simp [hds,List.getElem?_drop,h2,-List.getD_eq_getElem?_getD] at hu
  rw [← hu,List.getD_eq_getElem?_getD,List.getElem?_eq_getElem h2]
  rfl
end Go.Proofs.YtinihaflmdihaaaGreat.Kt
namespace Go.Proofs.YtinihaflmdihaaaGreat
open Go.RowKit
theorem I2n:(Tryz.prog.info? 2).map (fun i=>(i.zero,i.size,i.bytes))=some (some (.int .i64 0),1,8):=by kernel_rfl
theorem URn:Tryz.prog.underlying 24=some (.slice 2):=by kernel_rfl
def ivs (R:List Int):List Value:=R.map fun x=>.int .i64 x
theorem ivs_length (R:List Int):(ivs R).length=R.length:=List.length_map ..
theorem ivs_get (R:List Int) (i:Nat) (h:i<R.length):(ivs R)[i]? =some (.int .i64 (R.getD i 0)):=by
 simp [ivs,List.getD_eq_getElem?_getD,h]
theorem ivs_set (R:List Int) (k:Nat) (x:Int):ivs (R.set k x)=(ivs R).set k (.int .i64 x):=by simp [ivs,List.map_set]
theorem ivs_one (R:List Int):∀u∈ivs R,u.oneCell'=true:=by
 intro u hu
 simp only [ivs,List.mem_map] at hu
 obtain ⟨x,_,rfl⟩:=hu
 rfl
def OwnRow (w:World) (base g n c:Nat) (N:List Int):Prop:=w.ownsRow base 2 1 (.slice (some ⟨g,0,none⟩) n c) n (ivs N)
theorem own_form {w:World} {base n:Nat} {v:Value} {N:List Int} (h:w.ownsRow base 2 1 v n (ivs N)) (hn:1≤n):∃g c,v= .slice (some ⟨g,0,none⟩) n c∧OwnRow w base g n c N∧base≤g:=by
 rcases h.2 with ⟨_,h0⟩ | ⟨g,cap,cur,hv,hb,r⟩
 ·omega
 ·exact ⟨g,cap,hv,by unfold OwnRow;rw [← hv];exact h,hb⟩
theorem OwnRow.ints {w:World} {base g n c:Nat} {N:List Int} (h:OwnRow w base g n c N) (hN:∀x∈N,-9223372036854775808≤x∧x≤9223372036854775807):Ints w (some ⟨g,0,none⟩) n c N:=by
 have hl:n=N.length:=by have:=h.1;rw [ivs_length,Nat.mul_one] at this;exact this.symm
 rcases h.2 with ⟨h1,_⟩ | ⟨g',cap,cur,hv,hb,hg,hle,hm,hs,ht⟩
 ·simp at h1
 ·obtain ⟨rfl,rfl⟩:g=g'∧c=cap:=by simpa using hv
  refine ⟨hl,hle,hN,Or.inr ⟨g,0,rfl,fun i hi=>?_⟩⟩
  have:=World.ownsRow.cellAt h i (by omega)
  rw [Nat.zero_add,this,ivs_get N i hi]
theorem OwnRow.length {w:World} {base g n c:Nat} {N:List Int} (h:OwnRow w base g n c N):n=N.length:=by have:=h.1;rw [ivs_length,Nat.mul_one] at this;exact this.symm
theorem OwnRow.later {w w':World} {base g n c:Nat} {N:List Int} (h:OwnRow w base g n c N) (hb:Below w.heap.size w w'):OwnRow w' base g n c N:=by
 obtain ⟨h1,h2⟩:=h
 refine ⟨h1,h2.imp id ?_⟩
 rintro ⟨g,cap,cur,hv,hg,hh,r⟩
 exact ⟨g,cap,cur,hv,hg,(hb.block _ (yL hh)).trans hh,r⟩
theorem OwnRow.set {w:World} {base g n c:Nat} {N:List Int} (h:OwnRow w base g n c N) (k:Nat) (x:Int):OwnRow (w.setCell ⟨g,k,none⟩ (.int .i64 x)) base g n c (N.set k x):=by
 unfold OwnRow
 rw [ivs_set]
 exact (World.ownsRow.stored h k _).1
theorem own_empty (w:World):(w.alloc (.cells #[] 2)).ownsRow w.heap.size 2 1 (.slice (some ⟨w.heap.size,0,none⟩) 0 0) 0 []:=
 ⟨rfl,Or.inr ⟨w.heap.size,0,#[],rfl,Nat.le_refl _,heap_alloc_new w _,Nat.le_refl _,by unfold maxLen;omega,rfl,rfl⟩⟩
theorem Ints.news {w:World} {g o n c:Nat} {R:List Int} (h:Ints w (some ⟨g,o,none⟩) n c R):∀j u,(ivs R)[j]? =some u→w.cell? ((⟨g,o,none⟩:Addr).add j)=some u:=fun j u hu=>by
 have hj:j<R.length:=by have:=(List.getElem?_eq_some_iff.1 hu).1;simpa [ivs] using this
 rw [ivs_get _ _ hj] at hu
 rcases h.at' with h0 | ⟨g',o',hp,hx⟩
 ·rw [h0] at hj;simp at hj
 ·simp only [Option.some.injEq,Addr.mk.injEq,and_true] at hp
  obtain ⟨rfl,rfl⟩:=hp
  rw [Addr.add_mid,hx j hj,hu]
theorem rowclone_any (p:Option Addr) (n c:Nat) (R:List Int) (w:World) (h:Ints w p n c R) (h1:1≤n) (h8:n≤8):
  Calls Tryz.prog 271 #[.slice p n c] w fun e w'=>∃g cap,e= .returned (.slice (some ⟨g,0,none⟩) n cap)∧OwnRow w' w.heap.size g n cap R∧w.heap.size≤g∧Below w.heap.size w w':=by
 obtain ⟨gR,oR,rfl,-⟩:=h.cell 0 (by omega)
 obtain ⟨i2,hi0,hi1,hi2,hi3⟩:=info_parts I2n
 have HI:=yH hi0
 have HI0:=yH hi1
 have HI1:=yH hi2
 have HI2:=yH hi3
 clear hi0 hi1 hi2 hi3
 have hal:Below w.heap.size w (w.alloc (.cells #[] 2)):=(Below.refl _ _).alloc (Nat.le_refl _) _
 have HOE:=yH (own_empty w)
 have HAL:=yH hal
 have HNW:=yH ((h.later hal).news)
 have HRL:=yH (show (ivs R).length=n*1 by rw [ivs_length,← h.size,Nat.mul_one])
 have qn:∀w',(binOp .eql 24 (.slice (some ⟨gR,oR,none⟩) n c) (.slice none 0 0)).run Tryz.prog w'= .ok (.bool false) w':=fun w'=>Go.Lib.run_eql_slice_nil w' _ _ _ _ _ _ _ URn
 clear hal h
 go_enter Tryz.func271,Tryz.ntmps271
 go_wp2_with ((at_builtin;(refine wpList_append_own_at _ (by rfl) (.tmp 5) (.tmp 6) 24 (by rfl) w.heap.size 2 i2 (.int .i64 0) 1 8 URn HI.out HI0.out HI1.out HI2.out (by rfl) (by decide) _ 0 [] (by rfl) HOE.out ⟨gR,oR,none⟩ n c (ivs R) (by rfl) HRL.out HNW.out (ivs_one R) (by unfold maxLen;omega) (by omega) (by simp) ?_);intro v7 w7 hown7 hgrow7 _ _;have O7:=yH hown7;have G7:=yH hgrow7;clear hown7 hgrow7))
 obtain ⟨gn,cn,rfl,hn7,hn8⟩:=own_form (w:=w7) (base:=w.heap.size) (n:=n) (N:=R) (by have h:=O7.out;rw [Nat.zero_add,List.nil_append] at h;exact h) h1
 have hb7:Below w.heap.size w w7:=HAL.out.grown G7.out (by simp) (fun k hk=>by simp [Value.ownBlock] at hk;omega)
 go_ret
 exact ⟨gn,cn,rfl,hn7,hn8,hb7⟩
end Go.Proofs.YtinihaflmdihaaaGreat
namespace Go.Proofs.YtinihaflmdihaaaGreat.Nd
open Go.RowKit
theorem wpList_build {P:Program} {w:World} {ops:Array Oper} {rest:List Oper} {o:Oper} {a:Act} {Q:Exit→Act→World→Prop} (hgd:o.guard=Option.none) {t:TypeId} {parts:Array (Nat×Operand)} {cells:Array Value} (ho:o.op= .build t parts)
  (h:P.built t (parts.map fun (i,x)=>(i,a.eval x)).toList=some cells) (hk:wpList P ops Q rest (a.put o.dst (.agg cells)) w):wpList P ops Q (o::rest) a w:=
 wpList_plain hgd fun _ hK=>by
  unfold Oper.wp execOp
  simp only [ho,Sem.run_bind,run_build w t _ cells h,Result.andThen_ok,Sem.run_pure]
  exact hK _ _ hk
def kd0:Kd:=⟨zeros 32,⟨Option.none,0,0,[]⟩,⟨Option.none,0,0,[]⟩,0,0,⟨Option.none,0,0,[]⟩⟩
theorem kd0_built:Tryz.prog.built 34 []=some kd0.cells.toArray:=by kernel_rfl
theorem rw0_ok (w:World):(⟨Option.none,0,0,[]⟩:Rw).Ok w:=⟨⟨rfl,Nat.le_refl _,fun x hx=>by simp at hx,Or.inl rfl⟩,by simp⟩
theorem kd0_ok (w:World):kd0.Ok w:=⟨by simp [kd0,zeros],zeros_ok 32,rw0_ok w,rw0_ok w,rw0_ok w,⟨by simp [kd0],by simp [kd0]⟩,⟨by simp [kd0],by simp [kd0]⟩⟩
theorem kd0_pk:kd0.pk=PK.none:=rfl
end Go.Proofs.YtinihaflmdihaaaGreat.Nd
namespace Go.Proofs.YtinihaflmdihaaaGreat
open Go.RowKit
def eqs (P Q:List Int):Nat→Bool
 | 0=>true
 | k+1=>eqs P Q k&&(P.getD k 0==Q.getD k 0)
theorem eqs_iff (P Q:List Int):∀n,eqs P Q n=true↔∀k,k<n→P.getD k 0=Q.getD k 0
 | 0=>⟨fun _ k hk=>by omega,fun _=>rfl⟩
 | n+1=>by
  show (eqs P Q n&&(P.getD n 0==Q.getD n 0))=true↔_
  rw [Bool.and_eq_true,eqs_iff P Q n,beq_iff_eq]
  constructor
  ·rintro ⟨h1,h2⟩ k hk
   by_cases hkn:k=n
   ·rw [hkn];exact h2
   ·exact h1 k (by omega)
  ·intro h
   exact ⟨fun k hk=>h k (by omega),h n (by omega)⟩
theorem eqs_eq {R S:List Int} (h:R.length=S.length) (he:eqs R S R.length=true):R=S:=by
 apply List.ext_getElem h
 intro i h1 h2
 have:=(eqs_iff R S R.length).1 he i h1
 simpa [List.getD_eq_getElem?_getD,h1,h2] using this
def SamRel (w:World) (R S:List Int) (n:Nat) (i:Value) (wr:World):Prop:=∃k j:Nat,k≤n∧i= .int .i64 k∧eqs R S k=true∧wr=w.drewN j
theorem ret_dec {p:Prop} [Decidable p] (h:p):Ending.returned (.bool true)=Ending.returned (.bool (decide p)):=by rw [decide_eq_true h]
theorem ret_ndec {p:Prop} [Decidable p] (h:¬p):Ending.returned (.bool false)=Ending.returned (.bool (decide p)):=by rw [decide_eq_false h]
theorem samerow_any (p q:Option Addr) (n c m e:Nat) (R S:List Int) (w:World) (h:Ints w p n c R) (h2:Ints w q m e S) (hn9:n≤9223372036854775807):
  Calls Tryz.prog 28 #[.slice p n c,.slice q m e] w fun e w'=>e= .returned (.bool (decide (R=S)))∧∃j,w'=w.drewN j:=by
 have H1:=yH h
 have H2:=yH h2
 clear h h2
 by_cases hn:(n:Int)=m
 case neg=>
  have hne:¬R=S:=fun h=>hn (by rw [H1.out.size,H2.out.size,h])
  have HNE:=yH hne
  clear hne
  go_enter Tryz.func28,Tryz.ntmps28
  go_wp2_with fail
  go_ret
  exact ⟨ret_ndec HNE.out,0,rfl⟩
 obtain rfl:m=n:=by omega
 go_enter Tryz.func28,Tryz.ntmps28
 go_wp2_with fail
 go_loopw [5] (fun i wr=>SamRel w R S m i wr) (fun i _=>m - (intOf i).toNat)
 case atStart=>exact ⟨0,0,by omega,rfl,rfl,rfl⟩
 case round=>
  obtain ⟨k,j,hk,rfl,heq,rfl⟩:=hrel
  have HL:=yH heq
  clear heq
  by_cases hlt:k<m
  ·obtain ⟨gx,o,rfl,hcx⟩:=H1.out.cell k hlt
   obtain ⟨gy,o2,rfl,hcy⟩:=H2.out.cell k hlt
   have i1:(0:Int)≤k∧(k:Int)<m:=by omega
   have hs:eqs R S (k+1)=(eqs R S k&&(R.getD k 0==S.getD k 0)):=rfl
   have HS:=yH hs
   have HF:=yH (show ¬R.getD k 0=S.getD k 0→¬R=S from fun h h3=>h (by rw [h3]))
   clear hs
   generalize R.getD k 0=x at *
   generalize S.getD k 0=y at *
   by_cases hxy:x=y
   ·subst hxy
    go_upto_region 6 with fail
    go_quiet (fail)
    go_wp2_with fail
    go_roundw
    case rel=>exact ⟨k+1,j+nq,by omega,by go_num,by rw [HS.out,HL.out];simp,rfl⟩
    case measure=>simp [intOf];omega
   ·go_upto_region 6 with fail
    go_quiet (fail)
    go_wp2_with fail
    go_ret
    exact ⟨ret_ndec (HF.out hxy),j+nq,by first | rfl | (simp only [World.drewN];done) | simp [World.drewN_drewN]⟩
  ·obtain rfl:k=m:=by omega
   have he:=HL.out
   rw [H1.out.size] at he
   have HE:=yH (eqs_eq (H1.out.size.symm.trans H2.out.size) he)
   clear he
   go_wp2_with fail
   go_ret
   exact ⟨ret_dec HE.out,_,rfl⟩
def hasB (R S P:List Int) (n m l:Nat):Bool:=rightB R S n m l&&(les R P l&&les P S l)
theorem rightB_dims {R S:List Int} {n m:Nat} {d:Int} (h:rightB R S n m d=true):1≤d∧d≤8∧(n:Int)=d∧(m:Int)=d:=by
 unfold rightB at h
 rw [Bool.and_eq_true,decide_eq_true_eq] at h
 exact h.1
end Go.Proofs.YtinihaflmdihaaaGreat
namespace Go.Proofs.YtinihaflmdihaaaGreat.Nd
open Go.RowKit
theorem pk_eq (a b:Kd):a.pk=b.pk↔a.sum=b.sum∧a.live=b.live∧a.size=b.size∧(a.lo.R=b.lo.R∧a.hi.R=b.hi.R)∧a.key.R=b.key.R:=by
 simp only [Kd.pk,PK.mk.injEq]
 constructor
 ·rintro ⟨h1,h2,h3,h4,h5,h6⟩
  exact ⟨h1,h4,h5,⟨h2,h3⟩,h6⟩
 ·rintro ⟨h1,h4,h5,⟨h2,h3⟩,h6⟩
  exact ⟨h1,h2,h3,h4,h5,h6⟩
theorem sleq_any (p q:Option Addr) (n c m e:Nat) (R S:List Int) (w:World) (h:Ints w p n c R) (h2:Ints w q m e S) (hn9:n≤9223372036854775807):
  Calls Tryz.prog 64 #[.slice p n c,.slice q m e] w fun e w'=>e= .returned (.bool (decide (R=S)))∧∃j,w'=w.drewN j:=by
 have H1:=yH h
 have H2:=yH h2
 clear h h2
 by_cases hn:(n:Int)=m
 case neg=>
  have hne:¬R=S:=fun h=>hn (by rw [H1.out.size,H2.out.size,h])
  have HNE:=yH hne
  have b0:((n:Int) !=m)=true:=by simpa using hn
  clear hne
  go_enter Tryz.func64,Tryz.ntmps64
  go_wp2_with fail
  go_ret
  exact ⟨ret_ndec HNE.out,0,rfl⟩
 obtain rfl:m=n:=by omega
 go_enter Tryz.func64,Tryz.ntmps64
 go_wp2_with fail
 go_loopw [13] (fun i wr=>SamRel w R S m i wr) (fun i _=>m - (intOf i).toNat)
 case atStart=>exact ⟨0,0,by omega,rfl,rfl,rfl⟩
 case round=>
  obtain ⟨k,j,hk,rfl,heq,rfl⟩:=hrel
  have HL:=yH heq
  clear heq
  by_cases hlt:k<m
  ·obtain ⟨gx,o,rfl,hcx⟩:=H1.out.cell k hlt
   obtain ⟨gy,o2,rfl,hcy⟩:=H2.out.cell k hlt
   have i1:(0:Int)≤k∧(k:Int)<m:=by omega
   have hs:eqs R S (k+1)=(eqs R S k&&(R.getD k 0==S.getD k 0)):=rfl
   have HS:=yH hs
   have HF:=yH (show ¬R.getD k 0=S.getD k 0→¬R=S from fun h h3=>h (by rw [h3]))
   clear hs
   generalize R.getD k 0=x at *
   generalize S.getD k 0=y at *
   by_cases hxy:x=y
   ·subst hxy
    go_upto_region 6 with fail
    go_quiet (fail)
    go_wp2_with fail
    go_roundw
    case rel=>exact ⟨k+1,j+nq,by omega,by go_num,by rw [HS.out,HL.out];simp,rfl⟩
    case measure=>simp [intOf];omega
   ·have b1:(x !=y)=true:=by simpa using hxy
    go_upto_region 6 with fail
    go_quiet (fail)
    go_wp2_with fail
    go_ret
    exact ⟨ret_ndec (HF.out hxy),j+nq,by first | rfl | (simp only [World.drewN];done) | simp [World.drewN_drewN]⟩
  ·obtain rfl:k=m:=by omega
   have he:=HL.out
   rw [H1.out.size] at he
   have HE:=yH (eqs_eq (H1.out.size.symm.trans H2.out.size) he)
   clear he
   go_wp2_with fail
   go_ret
   exact ⟨ret_dec HE.out,_,rfl⟩
theorem nbsame_any (p q r s:Option Addr) (n c m e k f l g:Nat) (R S T U:List Int) (w:World) (h1:Ints w p n c R) (h2:Ints w q m e S) (h3:Ints w r k f T) (h4:Ints w s l g U)
  (hn:n≤9223372036854775807) (hm:m≤9223372036854775807):
  Calls Tryz.prog 112 #[.agg #[.slice p n c,.slice q m e],.agg #[.slice r k f,.slice s l g]] w fun e w'=>e= .returned (.bool (decide (R=T∧S=U)))∧Below w.heap.size w w':=by
 have hb1:Below w.heap.size w (w.alloc (.cells #[.slice p n c,.slice q m e] 32)):=(Below.refl _ _).alloc (Nat.le_refl _) _
 have hs1:(w.alloc (.cells #[.slice p n c,.slice q m e] 32)).heap.size=w.heap.size+1:=by simp
 obtain ⟨a0,a1⟩:=pair_alloc w (.slice p n c) (.slice q m e) 32
 go_enter Tryz.func112,Tryz.ntmps112
 go_upto_region 1 with fail
 generalize w.alloc (.cells #[.slice p n c,.slice q m e] 32)=w1 at *
 have hb2:Below w1.heap.size w1 (w1.alloc (.cells #[.slice r k f,.slice s l g] 32)):=(Below.refl _ _).alloc (Nat.le_refl _) _
 obtain ⟨b0,b1⟩:=pair_alloc w1 (.slice r k f) (.slice s l g) 32
 rw [hs1] at b0 b1
 have c0:=(hb2.cell (p:=⟨w.heap.size,0,none⟩) (by show w.heap.size<_;omega)).trans a0
 have c1:=(hb2.cell (p:=⟨w.heap.size,1,none⟩) (by show w.heap.size<_;omega)).trans a1
 have H1:=yH ((h1.later hb1).later hb2)
 have H2:=yH ((h2.later hb1).later hb2)
 have H3:=yH ((h3.later hb1).later hb2)
 have H4:=yH ((h4.later hb1).later hb2)
 have HB:=yH (hb1.trans (hb2.mono (by omega)))
 generalize w1.alloc (.cells #[.slice r k f,.slice s l g] 32)=w2 at *
 clear hb1 hs1 a0 a1 hb2 h1 h2 h3 h4
 clear w1
 by_cases hRT:R=T
 case neg=>
  have HN:=yH (show ¬(R=T∧S=U) from fun h=>hRT h.1)
  have HR:=yH hRT
  clear hRT
  go_wp2_with fail
  refine (sleq_any p r n c k f R T w2 H1.out H3.out hn).mono ?_
  rintro _ w3 ⟨rfl,j,rfl⟩
  rw [decide_eq_false HR.out]
  go_wp2_with fail
  go_ret
  exact ⟨ret_ndec HN.out,Below.drewN HB.out _⟩
 have HD:=yH (show decide (S=U)=decide (R=T∧S=U) from decide_eq_decide.2 ⟨fun h=>⟨hRT,h⟩,fun h=>h.2⟩)
 have HR:=yH hRT
 clear hRT
 go_wp2_with fail
 refine (sleq_any p r n c k f R T w2 H1.out H3.out hn).mono ?_
 rintro _ w3 ⟨rfl,j,hw3⟩
 have HW:=yH (show Below w2.heap.size w2 w3 by rw [hw3];exact Below.drewN (Below.refl _ _) _)
 have d0:=(HW.out.cell (p:=⟨w.heap.size,1,none⟩) (block_lt_of_cell c1)).trans c1
 have d1:=(HW.out.cell (p:=⟨w.heap.size+1,1,none⟩) (block_lt_of_cell b1)).trans b1
 have G2:=yH (H2.out.later HW.out)
 have G4:=yH (H4.out.later HW.out)
 have GB:=yH (HB.out.trans (HW.out.mono HB.out.size))
 clear hw3 c0 c1 b0 b1
 rw [decide_eq_true HR.out]
 go_wp2_with fail
 refine (sleq_any q s m e l g S U w3 G2.out G4.out hm).mono ?_
 rintro _ w4 ⟨rfl,j2,hw4⟩
 have B4:=yH (show Below w.heap.size w w4 by rw [hw4];exact Below.drewN GB.out _)
 clear hw4
 go_wp2_with fail
 go_ret
 exact ⟨congrArg (fun b=>Ending.returned (.bool b)) HD.out,B4.out⟩
theorem nsame_any (a b:Kd) (w:World) (ha:a.Ok w) (hb:b.Ok w):
  Calls Tryz.prog 68 #[.agg a.cells.toArray,.agg b.cells.toArray] w fun e w'=>e= .returned (.bool (decide (a.pk=b.pk)))∧Below w.heap.size w w':=by
 have hb1:Below w.heap.size w (w.alloc (.cells a.cells.toArray 34)):=(Below.refl _ _).alloc (Nat.le_refl _) _
 have r1:=heap_alloc_new w (.cells a.cells.toArray 34)
 have z1:(w.alloc (.cells a.cells.toArray 34)).heap.size=w.heap.size+1:=by simp
 have hb2:Below (w.heap.size+1) (w.alloc (.cells a.cells.toArray 34)) ((w.alloc (.cells a.cells.toArray 34)).alloc (.cells b.cells.toArray 34)):=(Below.refl _ _).alloc (by omega) _
 have r2:=heap_alloc_new (w.alloc (.cells a.cells.toArray 34)) (.cells b.cells.toArray 34)
 rw [z1] at r2
 have hb12:=hb1.trans (hb2.mono (by omega))
 have r1:=(hb2.block w.heap.size (by omega)).trans r1
 have HA:=yH ha
 have HBK:=yH hb
 clear ha hb hb1 hb2 z1
 go_enter Tryz.func68,Tryz.ntmps68
 go_upto_region 1 with fail
 generalize (w.alloc (.cells a.cells.toArray 34)).alloc (.cells b.cells.toArray 34)=W at *
 have KA:=yH (kat_row r1 HA.out.len)
 have KB:=yH (kat_row r2 HBK.out.len)
 have KOA:=yH (HA.out.later hb12)
 have KOB:=yH (HBK.out.later hb12)
 have LA:=yH HA.out.len
 have LB:=yH HBK.out.len
 have HB:=yH hb12
 have EQ:=yH (pk_eq a b)
 have hq:(Op.equalIn 10000 30 (.agg (u8s a.sum)) (.agg (u8s b.sum))).run Tryz.prog W= .ok (decide (a.sum=b.sum)) W:=digest_equal a.sum b.sum LA.out LB.out 9998 W
 have a2:=KA.out.live
 have a3:=KA.out.size
 have a4:=KA.out.lo
 have a5:=KA.out.hi
 have a6:=KA.out.key
 have c2:=KB.out.live
 have c3:=KB.out.size
 have c4:=KB.out.lo
 have c5:=KB.out.hi
 have c6:=KB.out.key
 simp only [Nat.zero_add] at a2 a3 a4 a5 a6 c2 c3 c4 c5 c6
 clear r1 r2 hb12
 by_cases h1:a.sum=b.sum
 case neg=>
  rw [decide_eq_false h1] at hq
  have HN:=yH (fun h=>h1 (EQ.out.1 h).1)
  clear h1
  go_wp2_with (first | (refine wpList_load_mid (by rfl) 30 _ (by rfl) _ 0 (by rfl) (vals a.sum) _ KA.out.sum A25 (by rfl) (by rw [vals_length,LA.out];exact S25) ?_;rw [vals_toArray]) | (refine wpList_load_mid (by rfl) 30 _ (by rfl) _ 0 (by rfl) (vals b.sum) _ KB.out.sum A25 (by rfl) (by rw [vals_length,LB.out];exact S25) ?_;rw [vals_toArray]))
  go_ret
  exact ⟨ret_ndec HN.out,HB.out⟩
 rw [decide_eq_true h1] at hq
 have H1:=yH h1
 clear h1
 by_cases h2:a.live=b.live
 case neg=>
  have h2b:(a.live==b.live)=false:=by simp [h2]
  have HN:=yH (fun h=>h2 (EQ.out.1 h).2.1)
  clear h2
  go_wp2_with (first | (refine wpList_load_mid (by rfl) 30 _ (by rfl) _ 0 (by rfl) (vals a.sum) _ KA.out.sum A25 (by rfl) (by rw [vals_length,LA.out];exact S25) ?_;rw [vals_toArray]) | (refine wpList_load_mid (by rfl) 30 _ (by rfl) _ 0 (by rfl) (vals b.sum) _ KB.out.sum A25 (by rfl) (by rw [vals_length,LB.out];exact S25) ?_;rw [vals_toArray]))
  go_ret
  exact ⟨ret_ndec HN.out,HB.out⟩
 have h2b:(a.live==b.live)=true:=by simp [h2]
 have H2:=yH h2
 clear h2
 by_cases h3:a.size=b.size
 case neg=>
  have h3b:(a.size==b.size)=false:=by simp [h3]
  have HN:=yH (fun h=>h3 (EQ.out.1 h).2.2.1)
  clear h3
  go_wp2_with (first | (refine wpList_load_mid (by rfl) 30 _ (by rfl) _ 0 (by rfl) (vals a.sum) _ KA.out.sum A25 (by rfl) (by rw [vals_length,LA.out];exact S25) ?_;rw [vals_toArray]) | (refine wpList_load_mid (by rfl) 30 _ (by rfl) _ 0 (by rfl) (vals b.sum) _ KB.out.sum A25 (by rfl) (by rw [vals_length,LB.out];exact S25) ?_;rw [vals_toArray]))
  go_ret
  exact ⟨ret_ndec HN.out,HB.out⟩
 have h3b:(a.size==b.size)=true:=by simp [h3]
 have H3:=yH h3
 clear h3
 by_cases h4:a.lo.R=b.lo.R∧a.hi.R=b.hi.R
 case neg=>
  have HN:=yH (fun h=>h4 (EQ.out.1 h).2.2.2.1)
  have H4:=yH (decide_eq_false h4)
  clear h4
  go_wp2_with (first | (refine wpList_load_mid (by rfl) 30 _ (by rfl) _ 0 (by rfl) (vals a.sum) _ KA.out.sum A25 (by rfl) (by rw [vals_length,LA.out];exact S25) ?_;rw [vals_toArray]) | (refine wpList_load_mid (by rfl) 30 _ (by rfl) _ 0 (by rfl) (vals b.sum) _ KB.out.sum A25 (by rfl) (by rw [vals_length,LB.out];exact S25) ?_;rw [vals_toArray]) | (refine (nbsame_any _ _ _ _ _ _ _ _ _ _ _ _ _ _ _ _ W KOA.out.lo.ints KOA.out.hi.ints KOB.out.lo.ints KOB.out.hi.ints KOA.out.lo.top KOA.out.hi.top).mono ?_;rintro _ w5 ⟨rfl,b5⟩;rw [H4.out];have HB5:=yH (HB.out.trans (b5.mono HB.out.size));clear b5))
  go_ret
  exact ⟨ret_ndec HN.out,HB5.out⟩
 have H4:=yH (decide_eq_true h4)
 have H4':=yH h4
 clear h4
 have hall:=EQ.out
 have HP:=yH (show decide (a.pk=b.pk)=decide (a.key.R=b.key.R) from by
  rw [Bool.eq_iff_iff,decide_eq_true_iff,decide_eq_true_iff,hall]
  exact ⟨fun h=>h.2.2.2.2,fun h=>⟨H1.out,H2.out,H3.out,H4'.out,h⟩⟩)
 clear hall
 go_wp2_with (first | (refine wpList_load_mid (by rfl) 30 _ (by rfl) _ 0 (by rfl) (vals a.sum) _ KA.out.sum A25 (by rfl) (by rw [vals_length,LA.out];exact S25) ?_;rw [vals_toArray]) | (refine wpList_load_mid (by rfl) 30 _ (by rfl) _ 0 (by rfl) (vals b.sum) _ KB.out.sum A25 (by rfl) (by rw [vals_length,LB.out];exact S25) ?_;rw [vals_toArray]) | (refine (nbsame_any _ _ _ _ _ _ _ _ _ _ _ _ _ _ _ _ W KOA.out.lo.ints KOA.out.hi.ints KOB.out.lo.ints KOB.out.hi.ints KOA.out.lo.top KOA.out.hi.top).mono ?_;rintro _ w5 ⟨rfl,b5⟩;rw [H4.out];have e6:=(b5.cell (block_lt_of_cell a6)).trans a6;have f6:=(b5.cell (block_lt_of_cell c6)).trans c6;have HB5:=yH (HB.out.trans (b5.mono HB.out.size));have KA5:=yH (KOA.out.later b5);have KB5:=yH (KOB.out.later b5);clear b5 a6 c6) | (refine (sleq_any _ _ _ _ _ _ _ _ w5 KA5.out.key.ints KB5.out.key.ints KA5.out.key.top).mono ?_;rintro _ w6 ⟨rfl,j6,rfl⟩))
 rw [HP.out]
 go_ret
 exact ⟨rfl,Below.drewN HB5.out j6⟩
theorem nempty_any (a:Kd) (w:World) (ha:a.Ok w):
  Calls Tryz.prog 20 #[.agg a.cells.toArray] w fun e w'=>e= .returned (.bool (decide (a.pk=PK.none)))∧Below w.heap.size w w':=by
 have hb1:Below w.heap.size w (w.alloc (.cells a.cells.toArray 34)):=(Below.refl _ _).alloc (Nat.le_refl _) _
 have r1:=heap_alloc_new w (.cells a.cells.toArray 34)
 obtain ⟨d,hd,hdr⟩:=UKd
 have HA:=yH ha
 have HD:=yH hd
 have HDR:=yH hdr
 clear ha hd hdr
 go_enter Tryz.func20,Tryz.ntmps20
 go_upto_region 1 with fail
 generalize w.alloc (.cells a.cells.toArray 34)=W at *
 have R1:=yH (range_kd r1)
 have HOK:=yH (HA.out.later hb1)
 have HL:=yH (Kd.cells_length HA.out.len)
 have HB:=yH hb1
 clear r1 hb1
 go_wp2_with (first
  | (refine wpList_load_mid (by rfl) 34 _ (by rfl) _ 0 (by rfl) a.cells d R1.out HD.out HDR.out (by rw [HL.out];exact SKd) ?_)
  | (refine wpList_build (by rfl) (by rfl) kd0_built ?_)
  | (refine (nsame_any a kd0 W HOK.out (kd0_ok W)).mono ?_;rintro _ w5 ⟨rfl,b5⟩;rw [kd0_pk]))
 go_ret
 exact ⟨rfl,HB.out.trans (b5.mono HB.out.size)⟩
end Go.Proofs.YtinihaflmdihaaaGreat.Nd
namespace Go.Proofs.YtinihaflmdihaaaGreat
open Go.RowKit
def BoxAt (w:World) (B:Nat) (p:Option Addr) (n c:Nat) (q:Option Addr) (m d:Nat):Prop:=w.cell? ⟨B,0,none⟩=some (.slice p n c)∧w.cell? ⟨B,1,none⟩=some (.slice q m d)
theorem enter_side {F:Nat} {fn:Func} {c:Code} (hf:Tryz.prog.funcs[F]? =some fn) (hname:(fn.name== "runtime.NumGoroutine")=false) (hb:fn.body=some c):∀args w,(callFunc F args).run Tryz.prog w= .ok (.enter F args) w:=fun args w=>by
 have h1:fn.name≠ "runtime.NumGoroutine" :=by simpa using hname
 simp [callFunc,hf,h1,hb,mark]
theorem boxed (w:World) (v:Value) (t:TypeId):(w.alloc (.cells #[v] t)).cell? ⟨w.heap.size,0,none⟩=some v:=cell_of_row _ _ 0 _ t (0,0) (heap_alloc_new w _)
theorem dimensions_any (d:Int) (w:World):
  Calls Tryz.prog 263 #[.int .i64 d] w fun e w'=>e= .returned (.bool (decide (1≤d∧d≤8)))∧w=w':=by
 by_cases h1:1≤d
 ·by_cases h2:d≤8
  ·go_enter Tryz.func263,Tryz.ntmps263
   go_wp2_with fail
   go_ret
   exact ⟨ret_dec ⟨h1,h2⟩,rfl⟩
  ·go_enter Tryz.func263,Tryz.ntmps263
   go_wp2_with fail
   go_ret
   exact ⟨ret_ndec (by omega),rfl⟩
 ·go_enter Tryz.func263,Tryz.ntmps263
  go_wp2_with fail
  go_ret
  exact ⟨congrArg (fun b=>Ending.returned (.bool b)) (by rw [decide_eq_false (show ¬1≤d by omega)];rfl),rfl⟩
def alls (f:Nat→Bool):Nat→Bool
 | 0=>true
 | k+1=>alls f k&&f k
theorem alls_iff (f:Nat→Bool):∀n,alls f n=true↔∀k,k<n→f k=true
 | 0=>⟨fun _ k hk=>by omega,fun _=>rfl⟩
 | n+1=>by
  show (alls f n&&f n)=true↔_
  rw [Bool.and_eq_true,alls_iff f n]
  constructor
  ·rintro ⟨h1,h2⟩ k hk
   by_cases hkn:k=n
   ·rw [hkn];exact h2
   ·exact h1 k (by omega)
  ·intro h
   exact ⟨fun k hk=>h k (by omega),h n (by omega)⟩
theorem alls_false {f:Nat→Bool} {k n:Nat} (hk:k<n) (h:f k=false):alls f n=false:=by
 cases e:alls f n with
 | false=>rfl
 | true=>rw [(alls_iff f n).1 e k hk] at h;cases h
theorem alls_les (R S:List Int):∀n,alls (fun k=>decide (R.getD k 0≤S.getD k 0)) n=les R S n
 | 0=>rfl
 | n+1=>by
  show (alls _ n&&_)=(les R S n&&_)
  rw [alls_les R S n]
def Asks (w:World) (n:Nat) (f:Nat→Bool) (F:Nat) (cap:Array Value):Prop:=
 ∀(k:Nat) (w':World),k<n→Below w.heap.size w w'→Calls Tryz.prog F (#[.int .i64 k]++cap) w' fun e w''=>e= .returned (.bool (f k))∧∃j,w''=w'.drewN j
def EachRel (w:World) (f:Nat→Bool) (n:Nat) (i:Value) (wr:World):Prop:=∃k j:Nat,k≤n∧i= .int .i64 k∧alls f k=true∧wr=w.drewN j
theorem each_any (n:Nat) (hn:n<9223372036854775807) (f:Nat→Bool) (F:Nat) (cap:Array Value) (hF:∀args w,(callFunc F args).run Tryz.prog w= .ok (.enter F args) w) (w:World) (hs:Asks w n f F cap):
  Calls Tryz.prog 264 #[.int .i64 n,.func (.func F) #[] cap] w fun e w'=>e= .returned (.bool (alls f n))∧∃j,w'=w.drewN j:=by
 have HS:=yH hs
 clear hs
 go_enter Tryz.func264,Tryz.ntmps264
 go_wp2_with fail
 go_loopw [7] (fun i wr=>EachRel w f n i wr) (fun i _=>n - (intOf i).toNat)
 case atStart=>exact ⟨0,0,by omega,rfl,rfl,rfl⟩
 case round=>
  obtain ⟨k,j,hk,rfl,hal,rfl⟩:=hrel
  have HA:=yH hal
  clear hal
  by_cases hlt:k<n
  ·have hc:=HS.out k (w.drewN j) hlt (Below.drewN (Below.refl _ _) j)
   cases hfk:f k with
   | false=>
    rw [hfk] at hc
    have HC:=yH hc
    have HX:=yH (alls_false hlt hfk)
    clear hc hfk
    go_wp2_with (refine HC.out.mono ?_;rintro e w'' ⟨rfl,j2,rfl⟩)
    go_ret
    exact ⟨congrArg (fun b=>Ending.returned (.bool b)) HX.out.symm,j+j2,rfl⟩
   | true=>
    rw [hfk] at hc
    have HC:=yH hc
    have HX:=yH (show alls f (k+1)=true by show (alls f k&&f k)=true;rw [HA.out,hfk];rfl)
    clear hc hfk
    go_wp2_with (refine HC.out.mono ?_;rintro e w'' ⟨rfl,j2,rfl⟩)
    go_roundw
    case rel=>exact ⟨k+1,j+j2,by omega,by go_num,HX.out,rfl⟩
    case measure=>simp [intOf];omega
  ·obtain rfl:k=n:=by omega
   go_wp2_with fail
   go_ret
   exact ⟨congrArg (fun b=>Ending.returned (.bool b)) HA.out.symm,j,rfl⟩
theorem rightside (B:Nat) (p q:Option Addr) (n c m e:Nat) (R S:List Int) (k:Nat) (hk:k<n) (hm:k<m) (w:World) (hB:BoxAt w B p n c q m e) (h:Ints w p n c R) (h2:Ints w q m e S):
  Calls Tryz.prog 265 #[.int .i64 k,.pointer (some ⟨B,0,none⟩)] w fun e w'=>e= .returned (.bool (decide (R.getD k 0≤S.getD k 0)))∧∃j,w'=w.drewN j:=by
 obtain ⟨hB0,hB1⟩:=hB
 obtain ⟨g,o,rfl,hc⟩:=h.cell k hk
 obtain ⟨g2,o2,rfl,hc2⟩:=h2.cell k hm
 clear h h2
 generalize R.getD k 0=x at *
 generalize S.getD k 0=y at *
 have b1:(0:Int)≤k∧(k:Int)<n:=by omega
 have b2:(0:Int)≤k∧(k:Int)<m:=by omega
 go_enter Tryz.func265,Tryz.ntmps265
 go_wp2_with fail
 go_quiet (fail)
 go_wp2_with fail
 go_ret
 exact ⟨rfl,_,rfl⟩
theorem right_any (p q:Option Addr) (n c m e:Nat) (R S:List Int) (d:Int) (w:World) (h:Ints w p n c R) (h2:Ints w q m e S):
  Calls Tryz.prog 237 #[.agg #[.slice p n c,.slice q m e],.int .i64 d] w fun e w'=>e= .returned (.bool (rightB R S n m d))∧Below w.heap.size w w':=by
 have hb:Below w.heap.size w (w.alloc (.cells #[.slice p n c,.slice q m e] 32)):=(Below.refl _ _).alloc (Nat.le_refl _) _
 obtain ⟨e0,e1⟩:=pair_alloc w (.slice p n c) (.slice q m e) 32
 have H1:=yH (h.later hb)
 have H2:=yH (h2.later hb)
 have HB:=yH hb
 clear h h2 hb
 have hD:=dimensions_any d
 by_cases hd:1≤d∧d≤8
 case neg=>
  rw [decide_eq_false hd] at hD
  have HD:=yH hD
  rw [rightB_not (by omega)]
  clear hD hd
  go_enter Tryz.func237,Tryz.ntmps237
  go_wp2_with ((go_at_call 263;refine (HD.out _).mono ?_;rintro _ w' ⟨rfl,rfl⟩))
  go_ret
  exact ⟨rfl,HB.out⟩
 rw [decide_eq_true hd] at hD
 have HD:=yH hD
 clear hD
 by_cases hn:(n:Int)=d
 case neg=>
  rw [rightB_not (fun h=>hn h.2.2.1)]
  have q1:((n:Int)==d)=false:=by simpa using hn
  clear hd hn
  go_enter Tryz.func237,Tryz.ntmps237
  go_wp2_with ((go_at_call 263;refine (HD.out _).mono ?_;rintro _ w' ⟨rfl,rfl⟩))
  go_ret
  exact ⟨rfl,HB.out⟩
 subst hn
 by_cases hm:(m:Int)=n
 case neg=>
  rw [rightB_not (fun h=>hm h.2.2.2)]
  have q1:((m:Int)==n)=false:=by simpa using hm
  clear hd hm
  go_enter Tryz.func237,Tryz.ntmps237
  go_wp2_with ((go_at_call 263;refine (HD.out _).mono ?_;rintro _ w' ⟨rfl,rfl⟩))
  go_ret
  exact ⟨rfl,HB.out⟩
 obtain rfl:m=n:=by omega
 rw [rightB_les (by omega)]
 have hn8:m<9223372036854775807:=by omega
 clear hm hd
 go_enter Tryz.func237,Tryz.ntmps237
 go_upto_region 1 with fail
 have hs0:w.heap.size<(w.alloc (.cells #[.slice p m c,.slice q m e] 32)).heap.size:=by simp
 generalize w.alloc (.cells #[.slice p m c,.slice q m e] 32)=w0 at *
 have HE:=yH (each_any m hn8 (fun k=>decide (R.getD k 0≤S.getD k 0)) 265 #[.pointer (some ⟨w.heap.size,0,none⟩)] (enter_side Tryz.func265 (by kernel_rfl) rfl) w0 (fun k w' hk hb=>rightside w.heap.size p q m c m e R S k hk hk w' ⟨(hb.cell (p:=⟨w.heap.size,0,none⟩) hs0).trans e0,(hb.cell (p:=⟨w.heap.size,1,none⟩) hs0).trans e1⟩ (H1.out.later hb) (H2.out.later hb)))
 rw [alls_les] at HE
 go_wp2_with (first | (go_at_call 263;refine (HD.out _).mono ?_;rintro _ w' ⟨rfl,rfl⟩) | (go_at_call 264;refine HE.out.mono ?_;rintro _ w' ⟨rfl,j,rfl⟩))
 go_ret
 exact ⟨rfl,Below.drewN HB.out _⟩
end Go.Proofs.YtinihaflmdihaaaGreat
namespace Go.Proofs.YtinihaflmdihaaaGreat.Nd
open Go.RowKit
theorem nil_pair (R S:List Int):(decide (R=[])&&decide (S=[]))=decide (R.length+S.length=0):=by
 rw [Bool.eq_iff_iff,Bool.and_eq_true,decide_eq_true_iff,decide_eq_true_iff,decide_eq_true_iff,← List.length_eq_zero_iff,← List.length_eq_zero_iff]
 omega
theorem nkid_any (a:Kd) (dm:Int) (w:World) (ha:a.Ok w):
  Calls Tryz.prog 204 #[.agg a.cells.toArray,.int .i64 dm] w fun e w'=>e= .returned (.bool (a.pk.right dm))∧Below w.heap.size w w':=by
 have hb1:Below w.heap.size w (w.alloc (.cells a.cells.toArray 34)):=(Below.refl _ _).alloc (Nat.le_refl _) _
 have r1:=heap_alloc_new w (.cells a.cells.toArray 34)
 obtain ⟨d,hd,hdr⟩:=UKd
 have hp:a.pk.right dm=if a.pk=PK.none then true else if a.size<1∨1048576<a.size∨a.live<0∨a.size<a.live then false else if a.live=0 then decide (a.lo.R.length+a.hi.R.length=0) else rightB a.lo.R a.hi.R a.lo.n a.hi.n dm:=by
  rw [ha.lo.ints.size,ha.hi.ints.size]
  rfl
 obtain ⟨X,hX⟩:∃X,a.pk.right dm=X:=⟨_,rfl⟩
 rw [hX] at hp
 rw [hX]
 have HX:=yH hp
 have HA:=yH ha
 have HD:=yH hd
 have HDR:=yH hdr
 clear ha hd hdr hp hX
 go_enter Tryz.func204,Tryz.ntmps204
 go_upto_region 1 with fail
 generalize w.alloc (.cells a.cells.toArray 34)=W at *
 have R1:=yH (range_kd r1)
 have KA:=yH (kat_row r1 HA.out.len)
 have HOK:=yH (HA.out.later hb1)
 have HL:=yH (Kd.cells_length HA.out.len)
 have HB:=yH hb1
 clear r1 hb1
 by_cases h0:a.pk=PK.none
 ·have hx:=HX.out
  rw [if_pos h0] at hx
  subst hx
  have H0:=yH (decide_eq_true h0)
  clear h0
  go_wp2_with (first
   | (refine wpList_load_mid (by rfl) 34 _ (by rfl) _ 0 (by rfl) a.cells d R1.out HD.out HDR.out (by rw [HL.out];exact SKd) ?_)
   | (refine (nempty_any a W HOK.out).mono ?_;rintro _ w5 ⟨rfl,b5⟩;rw [H0.out]))
  go_ret
  exact ⟨rfl,HB.out.trans (b5.mono HB.out.size)⟩
 have hx:=HX.out
 rw [if_neg h0] at hx
 have HX2:=yH hx
 have H0:=yH (decide_eq_false h0)
 clear h0 hx HX
 go_upto_region 3 with (first
  | (refine wpList_load_mid (by rfl) 34 _ (by rfl) _ 0 (by rfl) a.cells d R1.out HD.out HDR.out (by rw [HL.out];exact SKd) ?_)
  | (refine (nempty_any a W HOK.out).mono ?_;rintro _ w5 ⟨rfl,b5⟩;rw [H0.out];have a2:=(b5.cell (block_lt_of_cell KA.out.live)).trans KA.out.live;have a3:=(b5.cell (block_lt_of_cell KA.out.size)).trans KA.out.size;have a4:=(b5.cell (block_lt_of_cell KA.out.lo)).trans KA.out.lo;have a5:=(b5.cell (block_lt_of_cell KA.out.hi)).trans KA.out.hi;have HB5:=yH (HB.out.trans (b5.mono HB.out.size));have HK5:=yH (HOK.out.later b5);clear b5))
 simp only [Nat.zero_add,Rw.val] at a2 a3 a4 a5
 by_cases h1:a.size<1
 ·have hx:=HX2.out
  rw [if_pos (Or.inl h1)] at hx
  subst hx
  go_wp2_with fail
  go_ret
  exact ⟨rfl,HB5.out⟩
 by_cases h2:1048576<a.size
 ·have hx:=HX2.out
  rw [if_pos (Or.inr (Or.inl h2))] at hx
  subst hx
  go_wp2_with fail
  go_ret
  exact ⟨rfl,HB5.out⟩
 by_cases h3:a.live<0
 ·have hx:=HX2.out
  rw [if_pos (Or.inr (Or.inr (Or.inl h3)))] at hx
  subst hx
  go_wp2_with fail
  go_ret
  exact ⟨rfl,HB5.out⟩
 by_cases h4:a.size<a.live
 ·have hx:=HX2.out
  rw [if_pos (Or.inr (Or.inr (Or.inr h4)))] at hx
  subst hx
  go_wp2_with fail
  go_ret
  exact ⟨rfl,HB5.out⟩
 have hx:=HX2.out
 rw [if_neg (by omega)] at hx
 by_cases h5:a.live=0
 ·have h5b:(a.live==0)=true:=by simp [h5]
  rw [if_pos h5,← nil_pair] at hx
  have HX5:=yH hx
  have H5:=yH h5
  clear h5 hx HX2
  go_wp2_with (refine (nbsame_any _ _ _ _ _ _ _ _ _ _ _ _ a.lo.R a.hi.R [] [] w5 HK5.out.lo.ints HK5.out.hi.ints (ints_nil _ _ _) (ints_nil _ _ _) HK5.out.lo.top HK5.out.hi.top).mono ?_;rintro _ w6 ⟨rfl,b6⟩)
  go_ret
  exact ⟨by rw [HX5.out];rfl,HB5.out.trans (b6.mono HB5.out.size)⟩
 ·have h5b:(a.live==0)=false:=by simp [h5]
  rw [if_neg h5] at hx
  have HX5:=yH hx
  clear h5 hx HX2
  go_wp2_with (refine (right_any _ _ _ _ _ _ _ _ dm w5 HK5.out.lo.ints HK5.out.hi.ints).mono ?_;rintro _ w6 ⟨rfl,b6⟩)
  go_ret
  exact ⟨by rw [HX5.out];rfl,HB5.out.trans (b6.mono HB5.out.size)⟩
def AskE (w:World) (E:List En) (f:PE→Bool) (F:Nat) (cap:Array Value):Prop:=
 ∀(e:En) (w':World),e∈E→e.row.Ok w'→Below w.heap.size w w'→Calls Tryz.prog F (#[.agg #[e.row.val,.bool e.live]]++cap) w' fun r w''=>r= .returned (.bool (f e.pe))∧Below w'.heap.size w' w''
def AskK (w:World) (K:List Kd) (f:PK→Bool) (F:Nat) (cap:Array Value):Prop:=
 ∀(k:Kd) (w':World),k∈K→k.Ok w'→Below w.heap.size w w'→Calls Tryz.prog F (#[.agg k.cells.toArray]++cap) w' fun r w''=>r= .returned (.bool (f k.pk))∧Below w'.heap.size w' w''
theorem allT_map {α β:Type} [Inhabited α] (g:α→β) (f:β→Bool) (L:List α) (k:Nat) (h:k<L.length):allT f (L.map g) (k+1)=(allT f (L.map g) k&&f (g (L.getD k default))):=by
 unfold allT
 rw [← List.map_take,← List.map_take,List.take_succ_eq_append_getElem h,List.map_append,List.all_append,List.getD_eq_getElem?_getD,List.getElem?_eq_getElem h]
 simp
theorem all_map_false {α β:Type} [Inhabited α] (g:α→β) (f:β→Bool) (L:List α) (k:Nat) (h:k<L.length) (hf:f (g (L.getD k default))=false):(L.map g).all f=false:=by
 rw [List.all_eq_false]
 refine ⟨g L[k],List.mem_map.2 ⟨_,List.getElem_mem h,rfl⟩,?_⟩
 rw [List.getD_eq_getElem?_getD,List.getElem?_eq_getElem h] at hf
 simpa using hf
theorem allT_whole {α β:Type} (g:α→β) (f:β→Bool) (L:List α):allT f (L.map g) L.length=(L.map g).all f:=by
 have:=allT_all f (L.map g)
 rwa [List.length_map] at this
def EaRel {α:Type} (w:World) (n:Nat) (f:α→Bool) (L:List α) (i:Value) (wr:World):Prop:=∃k:Nat,k≤n∧i= .int .i64 k∧allT f L k=true∧Below w.heap.size w wr
theorem UEn0:(Tryz.prog.underlying 85).map (·.isRow)=some true:=by kernel_rfl
theorem UEn:∃d,Tryz.prog.underlying 85=some d∧d.isRow=true:=by
 have h:=UEn0
 revert h
 cases Tryz.prog.underlying 85 with
 | none=>intro h;cases h
 | some d=>intro h;exact ⟨d,rfl,by simpa using h⟩
theorem SEn:(Tryz.prog.info? 85).map (·.size)=some 2:=by kernel_rfl
theorem eachE_any (p:Option Addr) (n c:Nat) (E:List En) (f:PE→Bool) (F:Nat) (cap:Array Value) (hF:∀args w,(callFunc F args).run Tryz.prog w= .ok (.enter F args) w) (w:World) (hE:EntsIn w p n c E) (hs:AskE w E f F cap):
  Calls Tryz.prog 200 #[.slice p n c,.func (.func F) #[] cap] w fun e w'=>e= .returned (.bool ((E.map En.pe).all f))∧Below w.heap.size w w':=by
 have HS:=yH hs
 have HE:=yH hE
 have HN:=yH hE.size
 have HTOP:=yH hE.top
 clear hs hE
 go_enter Tryz.func200,Tryz.ntmps200
 go_wp2_with fail
 go_loopw [9] (fun i wr=>EaRel w n f (E.map En.pe) i wr) (fun i _=>n - (intOf i).toNat)
 case atStart=>exact ⟨0,by omega,rfl,rfl,Below.refl _ _⟩
 case round=>
  obtain ⟨k,hk,rfl,hal,hb⟩:=hrel
  have HA:=yH hal
  have HB:=yH hb
  have htop:=HTOP.out
  clear hal hb
  by_cases hlt:k<n
  ·obtain ⟨g,o,rfl,c1,c2,hok⟩:=(HE.out.later HB.out).get k hlt
   have i1:(0:Int)≤k∧(k:Int)<n:=by omega
   have hlen:k<E.length:=by rw [← HN.out];exact hlt
   have HT:=yH (allT_map En.pe f E k hlen)
   have HX:=yH (all_map_false En.pe f E k hlen)
   have hmem:=getD_mem E k hlen
   generalize E.getD k default=e at *
   have hb1:Below wr.heap.size wr (wr.alloc (.cells #[e.row.val,.bool e.live] 85)):=(Below.refl _ _).alloc (Nat.le_refl _) _
   have hc:=HS.out e _ hmem (hok.later hb1) (HB.out.trans (hb1.mono HB.out.size))
   have HB1:=yH (HB.out.trans (hb1.mono HB.out.size))
   simp only [Rw.val] at c1
   unfold Rw.val at hc HB1
   clear hok hmem hb1
   go_upto_region 4 with fail
   obtain ⟨z0,z1⟩:=pair_alloc wr (.slice e.row.p e.row.n e.row.c) (.bool e.live) 85
   generalize wr.alloc (.cells #[.slice e.row.p e.row.n e.row.c,.bool e.live] 85)=w1 at *
   cases hfk:f e.pe with
   | false=>
    rw [hfk] at hc
    have HC:=yH hc
    have HXX:=yH (HX.out hfk)
    clear hc hfk HX HT
    go_wp2_with (refine HC.out.mono ?_;rintro e w'' ⟨rfl,b2⟩)
    go_ret
    exact ⟨congrArg (fun b=>Ending.returned (.bool b)) HXX.out.symm,HB1.out.trans (b2.mono HB1.out.size)⟩
   | true=>
    rw [hfk] at hc
    have HC:=yH hc
    have HXX:=yH (show allT f (E.map En.pe) (k+1)=true by rw [HT.out,HA.out,hfk];rfl)
    clear hc hfk HX HT
    go_wp2_with (refine HC.out.mono ?_;rintro e w'' ⟨rfl,b2⟩;have HB2:=yH (HB1.out.trans (b2.mono HB1.out.size));clear b2)
    go_roundw
    case rel=>exact ⟨k+1,by omega,by go_num,HXX.out,HB2.out⟩
    case measure=>simp [intOf];omega
  ·obtain rfl:n=k:=by omega
   have HW:=yH (show allT f (E.map En.pe) n=(E.map En.pe).all f from by rw [HN.out];exact allT_whole En.pe f E)
   go_wp2_with fail
   go_ret
   exact ⟨congrArg (fun b=>Ending.returned (.bool b)) (by rw [← HW.out,HA.out]),HB.out⟩
end Go.Proofs.YtinihaflmdihaaaGreat.Nd
namespace Go.Proofs.YtinihaflmdihaaaGreat.Wl
open Go.RowKit
structure Out (w0 w:World) (v:Value) (n:Nat) (B:List Nat):Prop where
 len:n=B.length
 own:w.ownsRow w0.heap.size 5 1 v n (vals B)
 ok:Sm.allB B
 low:Below w0.heap.size w0 w
theorem Out.none (w:World):Out w w (.slice none 0 0) 0 []:=⟨rfl,World.ownsRow_nil w w.heap.size 5 1,(fun x hx=>by cases hx),Below.refl _ _⟩
theorem Out.later {w0 w w':World} {v:Value} {n:Nat} {B:List Nat} (h:Out w0 w v n B) (hb:Below w.heap.size w w'):Out w0 w' v n B:=⟨h.len,owns_later h.own hb,h.ok,h.low.trans (hb.mono h.low.size)⟩
theorem Out.put {w0 w1 w7:World} {v v7:Value} {n:Nat} {B P:List Nat} {m:Nat} (h:Out w0 w1 v n B) (hP:Sm.allB P) (hm:P.length=m) (hown:w7.ownsRow w0.heap.size 5 1 v7 (n+m) (vals B++vals P)) (hg:w1.grownBy w7 v.ownBlock):Out w0 w7 v7 (n+m) (B++P):=
 ⟨by rw [List.length_append,hm,h.len],by rw [vals_append];exact hown,(fun x hx=>by
  rcases List.mem_append.1 hx with hx | hx
  ·exact h.ok x hx
  ·exact hP x hx),h.low.grown hg h.low.size (fun k hk=>(h.own.lt k hk).1)⟩
theorem Out.form {w0 w:World} {v:Value} {n:Nat} {B:List Nat} (h:Out w0 w v n B):∃q c,v= .slice q n c:=by
 rcases h.own.2 with ⟨rfl,h0⟩ | ⟨g,cap,cur,rfl,_⟩
 ·exact ⟨Option.none,0,by rw [h0]⟩
 ·exact ⟨_,cap,rfl⟩
theorem Out.tx {w0 w:World} {q:Option Addr} {n c:Nat} {B:List Nat} (h:Out w0 w (.slice q n c) n B):Tx w q n c B:=tx_of_owns h.own h.ok
theorem owns_base {w:World} {base base' n size:Nat} {e:TypeId} {v:Value} {xs:List Value} (h:w.ownsRow base e size v n xs) (hb:base'≤base):w.ownsRow base' e size v n xs:=
 ⟨h.1,h.2.imp id fun ⟨g,cap,cur,hv,hg,r⟩=>⟨g,cap,cur,hv,Nat.le_trans hb hg,r⟩⟩
end Go.Proofs.YtinihaflmdihaaaGreat.Wl
