/- NlReads, NlRow, CodDgCopy, NlDigest, NlRet. -/
import Derived.Laws.ResultCell
import Derived.Test.YtinihaflmdihaaaGreatW1
import Derived.Test.YtinihaflmdihaaaGreatW2
import Derived.Test.YtinihaflmdihaaaGreatW4
import Derived.Test.YtinihaflmdihaaaGreatW5
import Derived.Test.YtinihaflmdihaaaGreatW7
set_option maxRecDepth 100000
set_option maxHeartbeats 8000000
set_option linter.unusedVariables false
set_option linter.unusedSimpArgs false
namespace Go.Proofs.YtinihaflmdihaaaGreat.Nd
open Go.RowKit
open List renaming setIfInBounds_toArray → sA, set_cons_zero → sZ, set_cons_succ → sS
theorem one_val {s:Rd} (h:Cm.val (s.part 1)≠0):(s.past 1).e=0:=by
 unfold Rd.part at h
 unfold Rd.past
 split at h
 ·rename_i k;rw [if_pos k]
 ·exact absurd rfl h
theorem ltruth_any (s:Rd) (g:Nat) (w:World) (hs:RSx w g s) (hl:s.R.length<1099511627776):
  Calls Tryz.prog 194 #[.pointer (some ⟨g,0,none⟩)] w (RPost w g (.bool s.truthV) s.truth):=by
 have HV:=Lib.hid (rbyte_any s g w hs hl)
 clear hs
 by_cases hx:1<Cm.val (s.part 1)
 ·have he:=one_val (s:=s) (by omega)
  have e1:s.truthV=false:=by unfold Rd.truthV;exact decide_eq_false (by omega)
  have e2:s.truth=(s.past 1).refuse 21:=by unfold Rd.truth Rd.refuse;rw [if_pos ⟨he,hx⟩,if_pos he]
  rw [e1,e2]
  clear e1 e2 he
  have b1:(1:Int)<(Cm.val (s.part 1):Nat):=by omega
  have b2:(((Cm.val (s.part 1):Nat):Int)==1)=false:=by simp;omega
  generalize Cm.val (s.part 1)=x at *
  clear hx
  go_enter Tryz.func194,Tryz.ntmps194
  go_wp2_with fail
  refine HV.out.mono ?_
  rintro e w1 hp
  obtain ⟨rfl,h1,h2⟩:=hp
  have H1:=Lib.hid h1
  have H2:=Lib.hid h2
  clear h1 h2
  go_wp2_with fail
  refine (rrefuse_any (s.past 1) 21 g _ H1.out).mono ?_
  rintro e w2 hp
  obtain ⟨rfl,h3,h4⟩:=hp
  have H3:=Lib.hid h3
  have H4:=Lib.hid (grown_twice H2.out h4)
  clear h3 h4
  go_wp2_with fail
  go_ret
  exact ⟨rfl,H3.out,H4.out⟩
 ·have e2:s.truth=s.past 1:=by unfold Rd.truth;rw [if_neg (fun h=>hx h.2)]
  have e1:(((Cm.val (s.part 1):Nat):Int)==1)=s.truthV:=by
   unfold Rd.truthV
   rw [Bool.eq_iff_iff,beq_iff_eq,decide_eq_true_iff]
   constructor
   ·intro h;exact ⟨one_val (by omega),by omega⟩
   ·intro h;omega
  rw [e2]
  have b1:¬(1:Int)<(Cm.val (s.part 1):Nat):=by omega
  generalize s.truthV=X at *
  generalize Cm.val (s.part 1)=x at *
  clear hx e2
  have E1:=Lib.hid e1
  clear e1
  go_enter Tryz.func194,Tryz.ntmps194
  go_wp2_with fail
  refine HV.out.mono ?_
  rintro e w1 hp
  obtain ⟨rfl,h1,h2⟩:=hp
  have H1:=Lib.hid h1
  have H2:=Lib.hid h2
  clear h1 h2
  go_wp2_with fail
  go_ret
  exact ⟨by rw [← E1.out];rfl,H1.out,H2.out⟩
theorem part_nil {s:Rd} {n:Nat} (hn:0<n) (h:(s.past n).e=0):s.part n≠[]:=by
 unfold Rd.past Rd.refuse at h
 unfold Rd.part
 split at h
 ·rename_i k
  rw [if_pos k]
  intro e
  have h1:=congrArg List.length e
  rw [List.length_take,List.length_nil] at h1
  have h2:=k.2
  omega
 ·split at h
  ·cases h
  ·rename_i k;exact absurd h k
theorem past_nil {s:Rd} {n:Nat} (h:(s.past n).e≠0):s.part n=[]:=by
 unfold Rd.past at h
 unfold Rd.part
 split at h
 ·exact absurd rfl h
 ·rename_i k;rw [if_neg k]
theorem numV_in {s:Rd} (h:Sm.allB s.R): -9223372036854775808≤s.numV∧s.numV≤9223372036854775807:=by
 have h1:=Cm.val_lt (Rd.part_ok h 8)
 have h2:=pow256' _ (Rd.part_len s 8)
 unfold Rd.numV
 split<;>omega
theorem lnum_any (s:Rd) (g:Nat) (w:World) (hs:RSx w g s) (hl:s.R.length<1099511627776):
  Calls Tryz.prog 234 #[.pointer (some ⟨g,0,none⟩)] w (RPost w g (.int .i64 s.numV) (s.past 8)):=by
 have hok:Sm.allB s.R:=by obtain ⟨p,n,c,h⟩:=hs;exact h.tx.ok
 have HV:=Lib.hid (rvalue_any s 8 g w hs (by omega) hl)
 have hin:=numV_in hok
 clear hs
 by_cases he:(s.past 8).e=0
 ·have hp:=part_nil (n:=8) (by omega) he
  have hz:Cm.z64 s.numV=Cm.val (s.part 8):=by
   unfold Cm.z64 Rd.numV
   rw [if_neg hp]
   omega
  have hsb:=sign_back hin.1 hin.2
  rw [hz] at hsb
  have HSB:=Lib.hid hsb
  have HE:=Lib.hid he
  clear hp hz hsb hin hok he
  generalize s.numV=x at *
  generalize Cm.val (s.part 8)=z at *
  go_enter Tryz.func234,Tryz.ntmps234
  go_wp2_with fail
  refine HV.out.mono ?_
  rintro e w1 hp
  obtain ⟨rfl,⟨p3,n3,c3,h3⟩,h4⟩:=hp
  have h5:=h3.err
  rw [HE.out] at h5
  have H3:=Lib.hid h3
  have H4:=Lib.hid h4
  have hsb:=HSB.out
  clear h3 h4
  go_wp2_with fail
  go_ret
  exact ⟨rfl,⟨p3,n3,c3,H3.out⟩,H4.out⟩
 ·have hv:s.numV=0:=by unfold Rd.numV;rw [if_pos (past_nil he)]
  have b1:(((s.past 8).e:Int) !=0)=true:=by simp;omega
  rw [hv]
  clear hv hin hok he
  generalize Cm.val (s.part 8)=z at *
  go_enter Tryz.func234,Tryz.ntmps234
  go_wp2_with fail
  refine HV.out.mono ?_
  rintro e w1 hp
  obtain ⟨rfl,⟨p3,n3,c3,h3⟩,h4⟩:=hp
  have h5:=h3.err
  have H3:=Lib.hid h3
  have H4:=Lib.hid h4
  clear h3 h4
  go_wp2_with fail
  go_ret
  exact ⟨rfl,⟨p3,n3,c3,H3.out⟩,H4.out⟩
def LRow (w:World) (g:Nat) (L:List Int) (s:Rd) (e:Ending) (w':World):Prop:=
 ∃v,e= .returned v∧w'.ownsRow w.heap.size 2 1 v L.length (ivs L)∧RSx w' g s∧w.grownBy w' (some g)
structure LrSt (w:World) (g gr n:Nat) (T:List Int×Rd) (k:Nat) (C:Array Value) (s:Rd) (wr:World):Prop where
 row:wr.heap[gr]? =some (.cells C 2 (0,0))
 size:C.size=n
 rd:RSx wr g s
 grown:w.grownBy wr (some g)
 len:s.R.length<1099511627776
 run:(∃L,s.e=0∧L.length=k∧C.toList.take k=ivs L∧readN (n - k) s L=T)∨(s.e≠0∧T.2=s)
def LrRel (w:World) (g gr n:Nat) (T:List Int×Rd) (i:Value) (wr:World):Prop:=∃k C s,k≤n∧i= .int .i64 k∧LrSt w g gr n T k C s wr
theorem past_err {s:Rd} {n:Nat} (h:s.e≠0):s.past n=s:=by
 unfold Rd.past Rd.refuse
 rw [if_neg (fun k=>h k.1),if_neg h]
theorem lr_step {s:Rd} {n k:Nat} {T:List Int×Rd} {C:Array Value} (hk:k<n) (hC:C.size=n) (h:(∃L,s.e=0∧L.length=k∧C.toList.take k=ivs L∧readN (n - k) s L=T)∨(s.e≠0∧T.2=s)):
  (∃L,(s.past 8).e=0∧L.length=k+1∧(C.setIfInBounds k (.int .i64 s.numV)).toList.take (k+1)=ivs L∧readN (n - (k+1)) (s.past 8) L=T)∨((s.past 8).e≠0∧T.2=s.past 8):=by
 rcases h with ⟨L,he,hl,hc,hr⟩ | ⟨he,ht⟩
 ·have h1:=readN_go (n:=n - k) (L:=L) he (by omega)
  rw [h1] at hr
  by_cases h8:(s.past 8).e=0
  ·refine Or.inl ⟨L++[s.numV],h8,by rw [List.length_append,hl];rfl,?_,by rw [show n - (k+1)=n - k - 1 by omega];exact hr⟩
   have hlt:k<(C.setIfInBounds k (.int .i64 s.numV)).toList.length:=by simp [hC,hk]
   have e1:(C.setIfInBounds k (.int .i64 s.numV)).toList.take k=C.toList.take k:=by
    rw [Array.toList_setIfInBounds,List.take_set_of_le (Nat.le_refl _)]
   have e2:(C.setIfInBounds k (.int .i64 s.numV)).toList[k]= .int .i64 s.numV:=by
    simp [Array.toList_setIfInBounds]
   rw [List.take_succ_eq_append_getElem hlt,e1,e2,hc,ivs_append]
   rfl
  ·refine Or.inr ⟨h8,?_⟩
   rw [readN_no h8] at hr
   rw [← hr]
 ·rw [past_err he]
  exact Or.inr ⟨he,ht⟩
theorem lrow_any (s:Rd) (g:Nat) (w:World) (hs:RSx w g s) (hl:s.R.length<1099511627776):
  Calls Tryz.prog 195 #[.pointer (some ⟨g,0,none⟩),.int .i64 8] w (LRow w g (s.rowV 8) (s.row 8).2):=by
 have hok:Sm.allB s.R:=by obtain ⟨p,n,c,h⟩:=hs;exact h.tx.ok
 have HB:=Lib.hid (rbyte_any s g w hs hl)
 have hpl:=Rd.past_len s 1
 -- how many numbers are read,and with what
 obtain ⟨m,s2,hm,hs2,hT,hm8⟩:∃(m:Nat) (s2:Rd),(if (8:Int)<(Cm.val (s.part 1):Nat) then (0:Int) else (Cm.val (s.part 1):Nat))=(m:Int)∧(if (8:Int)<(Cm.val (s.part 1):Nat) then (s.past 1).refuse 10 else s.past 1)=s2∧(readN m s2 []=s.row 8∨(s2.e≠0∧(s.row 8).2=s2))∧m≤8:=by
  have hr:s.row 8=readN (Cm.val (s.part 1)) (s.rowN 8) []:=rfl
  by_cases h:(8:Int)<(Cm.val (s.part 1):Nat)
  ·have he:=one_val (s:=s) (by omega)
   refine ⟨0,_,if_pos h,if_pos h,Or.inr ?_,by omega⟩
   have e1:s.rowN 8=⟨(s.past 1).R,10⟩:=by unfold Rd.rowN;rw [if_pos ⟨he,h⟩]
   have e2:(s.past 1).refuse 10=⟨(s.past 1).R,10⟩:=by unfold Rd.refuse;rw [if_pos he]
   rw [e2,hr,e1,readN_no (by simp)]
   exact ⟨by simp,rfl⟩
  ·refine ⟨Cm.val (s.part 1),_,if_neg h,if_neg h,Or.inl ?_,by omega⟩
   have e1:s.rowN 8=s.past 1:=by unfold Rd.rowN;rw [if_neg (fun k=>h k.2)]
   rw [hr,e1]
 have hV:s.rowV 8=if (s.row 8).2.e=0 then (s.row 8).1 else []:=rfl
 have hs2l:s2.R.length<1099511627776:=by
  rw [← hs2]
  split
  ·exact Nat.lt_of_le_of_lt (Rd.refuse_len _ _) (Nat.lt_of_le_of_lt hpl hl)
  ·exact Nat.lt_of_le_of_lt hpl hl
 have HAT:=Lib.hid (fun w1 (h:RSx w1 g (s.past 1))=>by
  have:=atmost_any (s.past 1) 8 (Cm.val (s.part 1):Nat) g w1 h
  rw [hm,hs2] at this
  exact this)
 have HT:=Lib.hid hT
 have HV:=Lib.hid hV
 have hv256:=val1 hok
 generalize s.rowV 8=X at *
 generalize s.row 8=T at *
 generalize Cm.val (s.part 1)=cnt at *
 have HL2:=Lib.hid hs2l
 obtain ⟨i2,hi,hi0,hi1,hi2⟩:=info_parts I2n
 have HI:=Lib.hid hi
 have HI0:=Lib.hid hi0
 have HI1:=Lib.hid hi1
 have HI2:=Lib.hid hi2
 have e8:IntKind.i64.wrap (cnt:Int)=(cnt:Nat):=by rw [IntKind.wrap_i64];omega
 clear hs hok hpl hm hs2 hT hV hs2l hi hi0 hi1 hi2 hl
 go_enter Tryz.func195,Tryz.ntmps195
 go_wp2_with fail
 refine HB.out.mono ?_
 rintro e w1 hp
 obtain ⟨rfl,h1,h2⟩:=hp
 have HA:=Lib.hid (HAT.out w1 h1)
 have H2:=Lib.hid h2
 clear h1 h2
 go_wp2_with fail
 refine HA.out.mono ?_
 rintro e w2 hp
 obtain ⟨rfl,h3,h4⟩:=hp
 have hg:g<w2.heap.size:=h3.lt
 have H3:=Lib.hid h3
 have H4:=Lib.hid (grown_twice H2.out h4)
 clear h3 h4
 go_wp2_with (at_make;refine wpList_make_full _ (by rfl) _ _ 24 (by rfl) w2.heap.size 2 i2 (.int .i64 0) 1 URn HI.out HI0.out HI1.out .i64 .i64 _ _ m (by rfl) (by rfl) (by rfl) (by rfl) (by rw [HI2.out];omega) (by unfold maxLen;omega) (Nat.le_refl _) ?_;intro w3 hown3 hgrow3;have O3:=Lib.hid hown3;have G3:=Lib.hid hgrow3;clear hown3 hgrow3)
 have hb23:Below w2.heap.size w2 w3:=⟨G3.out.os,G3.out.tape,G3.out.output,G3.out.size,fun k hk=>G3.out.block k hk (by simp)⟩
 have hg3:=grown_new (w:=w) H4.out H4.out.size hb23 hb23.size
 have hr3:=H3.out.later hb23
 obtain ⟨cur,hcur,hcs⟩:∃cur,w3.heap[w2.heap.size]? =some (.cells cur 2 (0,0))∧cur.size=m:=by
  rcases O3.out.2 with ⟨h1,_⟩ | ⟨k,cap,cur,hv,_,hrow,_,_,hsz,_⟩
  ·simp at h1
  ·simp only [Value.slice.injEq,Option.some.injEq,Addr.mk.injEq,true_and,and_true] at hv
   obtain ⟨rfl,rfl⟩:=hv
   exact ⟨cur,hrow,by omega⟩
 have HGR:=Lib.hid (show g<w2.heap.size∧w.heap.size≤w2.heap.size from ⟨hg,H4.out.size⟩)
 generalize w2.heap.size=gr at *
 have HR3:=Lib.hid (show LrSt w g gr m T 0 cur s2 w3 from ⟨hcur,hcs,hr3,hg3,HL2.out,by
  by_cases he:s2.e=0
  ·rcases HT.out with h | h
   ·exact Or.inl ⟨[],he,rfl,rfl,h⟩
   ·exact absurd he h.1
  ·rcases HT.out with h | h
   ·rw [readN_no he] at h
    exact Or.inr ⟨he,by rw [← h]⟩
   ·exact Or.inr h⟩)
 clear hb23 hg3 hr3 hcur hcs O3 G3 H3 H4 H2 hg HB HA HAT HT e8
 go_loopw [16] (fun i wr=>LrRel w g gr m T i wr) (fun i _=>m - (intOf i).toNat)
 case atStart=>exact ⟨0,cur,s2,by omega,rfl,HR3.out⟩
 case round=>
  obtain ⟨k,C,sk,hk,rfl,hr⟩:=hrel
  have HR:=Lib.hid hr
  clear hr HR3
  by_cases hlt:k<m
  ·have hnum:=lnum_any sk g wr HR.out.rd HR.out.len
   have HST:=Lib.hid (lr_step hlt HR.out.size HR.out.run)
   have HPL:=Lib.hid (Nat.lt_of_le_of_lt (Rd.past_len sk 8) HR.out.len)
   have HNUM:=Lib.hid hnum
   have i1:(0:Int)≤k∧(k:Int)<m:=by omega
   clear hnum
   generalize sk.numV=x at *
   generalize sk.past 8=t at *
   go_wp2_with fail
   refine HNUM.out.mono ?_
   rintro e w4 hp
   obtain ⟨rfl,h5,h6⟩:=hp
   have hrow4:=(h6.block gr (Array.getElem?_eq_some_iff.1 HR.out.row).1 (by simp;have:=HGR.out.1;omega)).trans HR.out.row
   obtain ⟨u,hu⟩:∃u,w4.cell? ⟨gr,k,none⟩=some u:=by
    rw [cell_of_row w4 gr k _ _ _ hrow4]
    exact ⟨_,Array.getElem?_eq_getElem (by rw [HR.out.size];exact hlt)⟩
   have hf:=frozen_of_row w4 gr k _ _ hrow4
   have hrow5:=heap_setCell_same w4 gr k _ _ (.int .i64 x) hrow4
   have H5:=Lib.hid h5
   have H6:=Lib.hid (grown_twice HR.out.grown h6)
   have HROW5:=Lib.hid hrow5
   clear h5 h6 hrow4 hrow5
   go_wp2_with fail
   go_roundw
   case rel=>
    refine ⟨k+1,_,t,by omega,by go_num,HROW5.out,by simp [HR.out.size],H5.out.low ((Below.refl _ _).setCell (p:=⟨gr,k,none⟩) (by have:=HGR.out.1;show g+1≤gr;omega) _),grown_new H6.out (B:=gr) HGR.out.2 ((Below.refl _ _).setCell (p:=⟨gr,k,none⟩) (Nat.le_refl _) _) (by simp [World.setCell]),HPL.out,HST.out⟩
   case measure=>simp [intOf];omega
  ·obtain rfl:m=k:=by omega
   have hrd:=HR.out.rd
   obtain ⟨p6,n6,c6,h6⟩:=hrd
   have h7:=h6.err
   have H6:=Lib.hid h6
   clear h6
   by_cases he:sk.e=0
   ·rw [he] at h7
    rcases HR.out.run with ⟨L,_,hl,hc,hr⟩ | ⟨hne,_⟩
    ·rw [Nat.sub_self] at hr
     have hr:(L,sk)=T:=hr
     have HX:=Lib.hid (show X=L from by rw [HV.out,← hr,if_pos he])
     have HT2:=Lib.hid (show T.2=sk from by rw [← hr])
     have HC:=Lib.hid hc
     have HLL:=Lib.hid hl
     clear hr hc hl he
     go_wp2_with fail
     go_ret
     rw [HX.out,HT2.out]
     refine ⟨_,rfl,?_,⟨p6,n6,c6,H6.out⟩,HR.out.grown⟩
     rw [HLL.out]
     exact ⟨by rw [ivs_length,HLL.out,Nat.mul_one],Or.inr ⟨gr,m,C,rfl,HGR.out.2,HR.out.row,Nat.le_refl _,by unfold maxLen;omega,by rw [HR.out.size,Nat.mul_one],by rw [Nat.mul_one];exact HC.out⟩⟩
    ·exact absurd he hne
   ·have ht:T.2=sk:=by
     rcases HR.out.run with ⟨L,he',_⟩ | ⟨_,h⟩
     ·exact absurd he' he
     ·exact h
    have hx:X=[]:=by rw [HV.out,if_neg (by rw [ht];exact he)]
    have b1:((sk.e:Int) !=0)=true:=by simp;omega
    have HX:=Lib.hid hx
    have HT2:=Lib.hid ht
    clear he ht hx
    go_wp2_with fail
    go_ret
    rw [HX.out,HT2.out]
    exact ⟨_,rfl,owns_nil _ _,⟨p6,n6,c6,H6.out⟩,HR.out.grown⟩
end Go.Proofs.YtinihaflmdihaaaGreat.Nd
namespace Go.Proofs.YtinihaflmdihaaaGreat
open Go.RowKit
open List renaming setIfInBounds_toArray → sA, set_cons_zero → sZ, set_cons_succ → sS
theorem tx_some {w:World} {q:Option Addr} {n c:Nat} {B:List Nat} (h:Tx w q n c B) (hB:B≠[]):∃x,q=some x:=by
 rcases h.at' with ⟨_,hc⟩ | ⟨x,hp,_⟩
 ·have:=h.size
  have:=h.le
  exact absurd (List.length_eq_zero_iff.1 (by omega)) hB
 ·exact ⟨x,hp⟩
theorem copy_digest {W:World} {g:Nat} {Z D:List Nat} {x:Addr} {c:Nat} (hg:W.heap[g]? =some (.cells (u8s Z) 30 (0,0))) (hZ:Z.length=32) (hD:D.length=32) (h:Tx W (some x) 32 c D):
  (Builtin.copy_ #[45,45] 3 #[.slice (some ⟨g,0,none⟩) 32 32,.slice (some x) 32 c]).run Tryz.prog W= .ok (goInt 32) (W.setCells g 0 (vals D)):=by
 have:=run_copy_cells (P:=Tryz.prog) W 45 45 3 5 g 0 32 32 x 32 c (vals D) A22 E5 (by rw [vals_length,hD];rfl) h.cells
  (fun j hj=>by rw [vals_length,hD] at hj;rw [Nat.zero_add,u8s_cell hg j (by omega)];rfl) (fun j _=>frozen_of_row W g _ _ _ hg) (vals_one D)
 rw [vals_length,hD] at this
 exact this
theorem set_digest {W:World} {g:Nat} {Z D:List Nat} (hg:W.heap[g]? =some (.cells (u8s Z) 30 (0,0))) (hZ:Z.length=32) (hD:D.length=32):(W.setCells g 0 (vals D)).heap[g]? =some (.cells (u8s D) 30 (0,0)):=by
 have:=heap_setCells_same g 30 (vals D) [] (vals Z) [] W (by simpa [vals_toArray] using hg) (by rw [vals_length,vals_length,hZ,hD])
 simpa [vals_toArray] using this
end Go.Proofs.YtinihaflmdihaaaGreat
namespace Go.Proofs.YtinihaflmdihaaaGreat.Nd
open Go.RowKit
open List renaming setIfInBounds_toArray → sA, set_cons_zero → sZ, set_cons_succ → sS
theorem ldigest_any (s:Rd) (g:Nat) (w:World) (hs:RSx w g s) (hl:s.R.length<1099511627776):
  Calls Tryz.prog 196 #[.pointer (some ⟨g,0,none⟩)] w (RPost w g (.agg (u8s s.digV)) (s.past 32)):=by
 have hz:=(zero_of_info Z25).1
 have hsl:=fun w'=>arr_slice (w.heap.size+1) w'
 have hg:g<w.heap.size:=hs.lt
 have HS:=Lib.hid hs
 have hd0:s.digV=s.part 32++zeros (32 - (s.part 32).length):=rfl
 have hdl:=digV_length s
 have hpn:=part_nk s 32
 generalize s.digV=D at *
 have HD:=Lib.hid hdl
 have HPN:=Lib.hid hpn
 have HD0:=Lib.hid hd0
 clear hs hdl hpn hd0
 go_enter Tryz.func196,Tryz.ntmps196
 go_upto_region 2 with fail
 have hb1:Below w.heap.size w (w.alloc (.cells (u8s (zeros 32)) 30)):=(Below.refl _ _).alloc (Nat.le_refl _) _
 have r1:=heap_alloc_new w (.cells (u8s (zeros 32)) 30)
 have z1:(w.alloc (.cells (u8s (zeros 32)) 30)).heap.size=w.heap.size+1:=by simp
 generalize w.alloc (.cells (u8s (zeros 32)) 30)=w1 at *
 have hb2:Below w1.heap.size w1 (w1.alloc (.cells (u8s (zeros 32)) 30)):=(Below.refl _ _).alloc (Nat.le_refl _) _
 have r2:=heap_alloc_new w1 (.cells (u8s (zeros 32)) 30)
 rw [z1] at r2
 generalize w1.alloc (.cells (u8s (zeros 32)) 30)=w2 at *
 have hb12:Below w.heap.size w w2:=hb1.trans (hb2.mono (by omega))
 have R1:=Lib.hid ((hb2.block w.heap.size (by omega)).trans r1)
 have R2:=Lib.hid r2
 have B2:=Lib.hid hb12
 have hk:=take_any s 32 g w2.drew (HS.out.later (Below.drew hb12)) (by omega) hl
 unfold TakePost at hk
 have HK:=Lib.hid hk
 clear hb1 hb2 r1 r2 z1 hb12 hk hz
 rcases HPN.out with hp | hp
 ·have hD:D=zeros 32:=by rw [HD0.out,hp];rfl
  subst hD
  rw [hp] at HK
  clear hp HPN HD0
  go_region_law (go_simp;go_at_call 232;refine HK.out.mono ?_;rintro e w3 hp;obtain ⟨q,c,rfl,h5,h6,h7⟩:=hp;have hrow3:=(h7.block (w.heap.size+1) (Array.getElem?_eq_some_iff.1 R2.out).1 (by simp;omega)).trans R2.out;have hcp:=run_copy_none (P:=Tryz.prog) w3 45 45 3 5 (some ⟨w.heap.size+1,0,none⟩) q 32 32 0 c A22 E5 (by rfl);have H6:=Lib.hid h6;have H7:=Lib.hid h7;have HROW3:=Lib.hid hrow3;clear h5 h6 h7 hrow3)
  all_goals
   have G4:=Lib.hid (grown_twice (grown_of_below B2.out (some g)) (show w2.grownBy w3 (some g) from ⟨H7.out.os,H7.out.tape,H7.out.output,H7.out.size,H7.out.block⟩))
   have R14:=Lib.hid ((H7.out.block w.heap.size (Array.getElem?_eq_some_iff.1 R1.out).1 (by simp;omega)).trans R1.out)
   clear H7 hcp R1 R2 HK
   go_wp2_with (first
    | (refine wpList_load_row (by rfl) 30 _ (by rfl) (w.heap.size+1) (by rfl) 30 _ (0,0) _ HROW3.out A25 (by rfl) (by rw [u8s_size,HD.out];exact S25) ?_)
    | (refine wpList_store_row (by rfl) 30 _ _ (by rfl) w.heap.size (u8s (zeros 32)) (by rfl) (by rfl) _ _ R14.out (by rw [u8s_size,HD.out];exact S25) rfl (u8s_one _) ?_))
   refine ret_row 2 (by kernel_rfl) w.heap.size _ _ A25 S25 rfl (setRow_heap _ _ _ _ _ _ R14.out) (by rw [u8s_size,HD.out]) ⟨rfl,?_,?_⟩
   ·exact H6.out.low (Below.setRow (Below.refl _ _) (by omega) _)
   ·exact grown_new G4.out (Nat.le_refl _) (Below.setRow (Below.refl _ _) (Nat.le_refl _) _) (by simp)
 ·have hD:s.part 32=D:=by rw [HD0.out,hp];simp [zeros]
  rw [hD,HD.out] at HK
  clear hp HPN HD0
  go_region_law (go_simp;go_at_call 232;refine HK.out.mono ?_;rintro e w3 hp;obtain ⟨q,c,rfl,h5,h6,h7⟩:=hp;obtain ⟨x,rfl⟩:=tx_some h5 (by intro e;have:=HD.out;rw [e] at this;simp at this);have hrow3:=(h7.block (w.heap.size+1) (Array.getElem?_eq_some_iff.1 R2.out).1 (by simp;omega)).trans R2.out;have hcp:=copy_digest hrow3 (by simp [zeros]) HD.out h5;have H6:=Lib.hid h6;have H7:=Lib.hid h7;have HROW3:=Lib.hid hrow3;clear h5 h6 h7 hrow3)
  all_goals
   have r4:=set_digest HROW3.out (by simp [zeros]) HD.out
   have hb4:=below_setCells (w:=w3) (w.heap.size+1) 0 (vals D) (w.heap.size+1) (Nat.le_refl _)
   have H64:=Lib.hid (H6.out.low (hb4.mono (by omega)))
   have G4:=Lib.hid (grown_new (grown_twice (grown_of_below B2.out (some g)) (show w2.grownBy w3 (some g) from ⟨H7.out.os,H7.out.tape,H7.out.output,H7.out.size,H7.out.block⟩)) (show w.heap.size≤w.heap.size+1 by omega) hb4 (by rw [(size_setCells _ _ _ _).1];exact Nat.le_refl _))
   have R14:=Lib.hid (((hb4.block w.heap.size (by omega)).trans (H7.out.block w.heap.size (Array.getElem?_eq_some_iff.1 R1.out).1 (by simp;omega))).trans R1.out)
   generalize w3.setCells (w.heap.size+1) 0 (vals D)=w4 at *
   have R4:=Lib.hid r4
   clear r4 hb4 H6 H7 HROW3 hcp R1 R2 HK
   go_wp2_with (first
    | (refine wpList_load_row (by rfl) 30 _ (by rfl) (w.heap.size+1) (by rfl) 30 _ (0,0) _ R4.out A25 (by rfl) (by rw [u8s_size,HD.out];exact S25) ?_)
    | (refine wpList_store_row (by rfl) 30 _ _ (by rfl) w.heap.size (u8s D) (by rfl) (by rfl) _ _ R14.out (by rw [u8s_size,HD.out];exact S25) (by rw [u8s_size,u8s_size,HD.out];simp [zeros]) (u8s_one _) ?_))
   refine ret_row 2 (by kernel_rfl) w.heap.size _ _ A25 S25 rfl (setRow_heap _ _ _ _ _ _ R14.out) (by rw [u8s_size,HD.out]) ⟨rfl,?_,?_⟩
   ·exact H64.out.low (Below.setRow (Below.refl _ _) (by omega) _)
   ·exact grown_new G4.out (Nat.le_refl _) (Below.setRow (Below.refl _ _) (Nat.le_refl _) _) (by simp)
theorem ret_str {fn:Func} {P:Ending→World→Prop} (p:Tmp) {ty:TypeId} (hr:fn.results= #[.cell p ty]) {tmps:Array Value} {w:World} (g:Nat) (t:TypeId) (cs:Array Value) {d:TypeDesc}
  (hu:Tryz.prog.underlying ty=some d) (hd:d.isRow=true) (hi:(Tryz.prog.info? ty).map (·.size)=some cs.size)
  (hp:tmps.getD p undef= .pointer (some ⟨g,0,none⟩)) (hg:w.heap[g]? =some (.cells cs t (0,0))) (h:P (.returned (.agg cs)) w):bodyPost Tryz.prog fn P .ret ⟨tmps,[]⟩ w:=
 bodyPost_ret (a:=⟨tmps,[]⟩) (v:=.agg cs) (results_cell_row hr tmps w g t cs (0,0) d hp hg hu (by cases d<;>first | rfl | (cases hd)) hi) rfl h
theorem ret_str2 {fn:Func} {P:Ending→World→Prop} (p u:Tmp) {ty:TypeId} (hr:fn.results= #[.cell p ty,.tmp u]) {tmps:Array Value} {w:World} (g:Nat) (t:TypeId) (cs:Array Value) {d:TypeDesc} (x:Value)
  (hu:Tryz.prog.underlying ty=some d) (hd:d.isRow=true) (hi:(Tryz.prog.info? ty).map (·.size)=some cs.size)
  (hp:tmps.getD p undef= .pointer (some ⟨g,0,none⟩)) (hx:tmps.getD u undef=x) (hg:w.heap[g]? =some (.cells cs t (0,0))) (h:P (.returned (.tuple #[.agg cs,x])) w):bodyPost Tryz.prog fn P .ret ⟨tmps,[]⟩ w:=
 bodyPost_ret (a:=⟨tmps,[]⟩) (v:=.tuple #[.agg cs,x]) (by
  rw [results_cell_tmp hr,hp,hx]
  simp only [asAddr,Sem.run_pure,Result.andThen_ok,run_loadVar_row w g t ty cs (0,0) d hg hu (by cases d<;>first | rfl | (cases hd)) hi]) rfl h
structure FrRw (w:World) (base:Nat) (r:Rw):Prop where
 ok:r.Ok w
 lo:∀x,r.p=some x→r.R≠[]→base≤x.block
theorem FrRw.later {w w':World} {base:Nat} {r:Rw} (h:FrRw w base r) (hb:Below w.heap.size w w'):FrRw w' base r:=⟨h.ok.later hb,h.lo⟩
theorem FrRw.base {w:World} {base base':Nat} {r:Rw} (h:FrRw w base r) (hb:base'≤base):FrRw w base' r:=⟨h.ok,fun x hx hR=>Nat.le_trans hb (h.lo x hx hR)⟩
theorem rw_keep {w w':World} {r:Rw} (h:r.Ok w) (hk:∀x,r.p=some x→r.R≠[]→w'.heap[x.block]? =w.heap[x.block]?):r.Ok w':=
 ⟨⟨h.ints.size,h.ints.le,h.ints.ok,h.ints.at'.imp id fun ⟨g,o,hp,hx⟩=>⟨g,o,hp,fun i hi=>by
  have hR:r.R≠[]:=by rintro e;rw [e] at hi;simp at hi
  rw [World.cell?_of_block (w:=w) (w':=w') (a:=⟨g,o+i,none⟩) (hk ⟨g,o,none⟩ hp hR)]
  exact hx i hi⟩⟩,h.top⟩
theorem FrRw.keep {w w':World} {base:Nat} {r:Rw} (h:FrRw w base r) (hk:∀k,base≤k→k<w.heap.size→w'.heap[k]? =w.heap[k]?):FrRw w' base r:=
 ⟨rw_keep h.ok fun x hx hR=>hk _ (h.lo x hx hR) (by
  rcases h.ok.ints.at' with h0 | ⟨g,o,hp,hc⟩
  ·exact absurd h0 hR
  ·rw [hx] at hp
   obtain rfl:x=⟨g,o,Option.none⟩:=by simpa using hp
   have:=hc 0 (List.length_pos_iff.2 hR)
   exact block_lt_of_cell this),h.lo⟩
theorem FrRw.lt {w:World} {base:Nat} {r:Rw} (h:FrRw w base r):∀x,r.p=some x→r.R≠[]→x.block<w.heap.size:=fun x hx hR=>by
 rcases h.ok.ints.at' with h0 | ⟨g,o,hp,hc⟩
 ·exact absurd h0 hR
 ·rw [hx] at hp
  obtain rfl:x=⟨g,o,Option.none⟩:=by simpa using hp
  have:=hc 0 (List.length_pos_iff.2 hR)
  exact block_lt_of_cell this
theorem fr_none (w:World) (base:Nat):FrRw w base ⟨Option.none,0,0,[]⟩:=⟨⟨⟨rfl,Nat.le_refl _,(fun x hx=>by cases hx),Or.inl rfl⟩,by simp⟩,(fun x hx=>by cases hx)⟩
theorem fr_of_own {w:World} {base:Nat} {v:Value} {L:List Int} (h:w.ownsRow base 2 1 v L.length (ivs L)) (hL:∀x∈L,-9223372036854775808≤x∧x≤9223372036854775807) (hl:L.length≤9223372036854775807):∃r:Rw,v=r.val∧r.R=L∧r.n=L.length∧FrRw w base r:=by
 rcases h.2 with ⟨rfl,h0⟩ | ⟨g,cap,cur,rfl,hb,hg,hle,hm,hs,ht⟩
 ·obtain rfl:=List.length_eq_zero_iff.1 h0
  exact ⟨⟨none,0,0,[]⟩,rfl,rfl,rfl,fr_none _ _⟩
 ·refine ⟨⟨some ⟨g,0,none⟩,L.length,cap,L⟩,rfl,rfl,rfl,⟨(OwnRow.ints (base:=base) h hL),hl⟩,fun x hx _=>?_⟩
  obtain rfl:x=⟨g,0,none⟩:=by simpa using hx.symm
  exact hb
theorem past_okR {s:Rd} {n:Nat} (h:Sm.allB s.R):Sm.allB (s.past n).R:=by
 unfold Rd.past Rd.refuse
 split
 ·exact fun x hx=>h x (List.mem_of_mem_drop hx)
 ·split<;>exact h
theorem readN_in:∀(n:Nat) (s:Rd) (L:List Int),Sm.allB s.R→(∀x∈L,-9223372036854775808≤x∧x≤9223372036854775807)→∀x∈(readN n s L).1,-9223372036854775808≤x∧x≤9223372036854775807
 | 0,s,L,_,h=>h
 | n+1,s,L,hs,h=>by
  show ∀x∈(if s.e=0 then readN n (s.past 8) (L++[s.numV]) else (L,s)).1,_
  split
  ·exact readN_in n _ _ (past_okR hs) (fun x hx=>by
    rcases List.mem_append.1 hx with hx | hx
    ·exact h x hx
    ·simp only [List.mem_cons,List.not_mem_nil,or_false] at hx
     rw [hx]
     exact numV_in hs)
  ·exact h
theorem readN_len:∀(n:Nat) (s:Rd) (L:List Int),(readN n s L).1.length≤L.length+n
 | 0,s,L=>Nat.le_refl _
 | n+1,s,L=>by
  show (if s.e=0 then readN n (s.past 8) (L++[s.numV]) else (L,s)).1.length≤_
  split
  ·have:=readN_len n (s.past 8) (L++[s.numV])
   simp at this
   omega
  ·simp
theorem readN_R:∀(n:Nat) (s:Rd) (L:List Int),Sm.allB s.R→Sm.allB (readN n s L).2.R∧(readN n s L).2.R.length≤s.R.length
 | 0,s,L,h=>⟨h,Nat.le_refl _⟩
 | n+1,s,L,h=>by
  show Sm.allB (if s.e=0 then readN n (s.past 8) (L++[s.numV]) else (L,s)).2.R∧(if s.e=0 then readN n (s.past 8) (L++[s.numV]) else (L,s)).2.R.length≤_
  split
  ·have:=readN_R n (s.past 8) (L++[s.numV]) (past_okR h)
   exact ⟨this.1,Nat.le_trans this.2 (Rd.past_len s 8)⟩
  ·exact ⟨h,Nat.le_refl _⟩
theorem rowN_okR {s:Rd} {m:Int} (h:Sm.allB s.R):Sm.allB (s.rowN m).R:=by
 unfold Rd.rowN
 split
 ·exact past_okR h
 ·exact past_okR h
theorem rowV_in {s:Rd} {m:Int} (h:Sm.allB s.R):∀x∈s.rowV m,-9223372036854775808≤x∧x≤9223372036854775807:=by
 unfold Rd.rowV
 split
 ·exact readN_in _ _ _ (rowN_okR h) (fun x hx=>by cases hx)
 ·intro x hx;cases hx
theorem rowV_len {s:Rd} {m:Int} (h:Sm.allB s.R):(s.rowV m).length≤255:=by
 unfold Rd.rowV
 split
 ·have h1:=readN_len (Cm.val (s.part 1)) (s.rowN m) []
  have h2:=val1 h
  unfold Rd.row
  simp at h1
  omega
 ·simp
theorem row_R {s:Rd} {m:Int} (h:Sm.allB s.R):Sm.allB (s.row m).2.R∧(s.row m).2.R.length≤s.R.length:=by
 have:=readN_R (Cm.val (s.part 1)) (s.rowN m) [] (rowN_okR h)
 exact ⟨this.1,Nat.le_trans this.2 (rowN_len s m)⟩
theorem truth_R {s:Rd} (h:Sm.allB s.R):Sm.allB s.truth.R∧s.truth.R.length≤s.R.length:=by
 unfold Rd.truth
 split
 ·exact ⟨past_okR h,Rd.past_len s 1⟩
 ·exact ⟨past_okR h,Rd.past_len s 1⟩
theorem count_R {s:Rd} {m:Int} (h:Sm.allB s.R):Sm.allB (s.count m).R∧(s.count m).R.length≤s.R.length:=by
 unfold Rd.count
 split
 ·refine ⟨?_,Nat.le_trans (Rd.refuse_len _ _) (Rd.past_len s 3)⟩
  have:=past_okR (n:=3) h
  unfold Rd.refuse
  split<;>exact this
 ·exact ⟨past_okR h,Rd.past_len s 3⟩
theorem countV_in {s:Rd} {m:Int} (_h:Sm.allB s.R) (hm:0≤m):0≤s.countV m∧s.countV m≤1048576:=by
 unfold Rd.countV
 split<;>omega
def _root_.Go.Proofs.YtinihaflmdihaaaGreat.Rd.entV (s:Rd) (m:Int):PE:=⟨s.truth.rowV m,s.truthV⟩
def _root_.Go.Proofs.YtinihaflmdihaaaGreat.Rd.entN (s:Rd) (m:Int):Rd:=(s.truth.row m).2
def _root_.Go.Proofs.YtinihaflmdihaaaGreat.Rd.k1 (s:Rd):Rd:=s.past 32
def _root_.Go.Proofs.YtinihaflmdihaaaGreat.Rd.k2 (s:Rd):Rd:=s.k1.count 1048576
def _root_.Go.Proofs.YtinihaflmdihaaaGreat.Rd.k3 (s:Rd):Rd:=s.k2.count 1048576
def _root_.Go.Proofs.YtinihaflmdihaaaGreat.Rd.k4 (s:Rd) (m:Int):Rd:=(s.k3.row m).2
def _root_.Go.Proofs.YtinihaflmdihaaaGreat.Rd.k5 (s:Rd) (m:Int):Rd:=((s.k4 m).row m).2
def _root_.Go.Proofs.YtinihaflmdihaaaGreat.Rd.kidN (s:Rd) (m:Int):Rd:=((s.k5 m).row m).2
def _root_.Go.Proofs.YtinihaflmdihaaaGreat.Rd.kidV (s:Rd) (m:Int):PK:=⟨s.digV,s.k3.rowV m,(s.k4 m).rowV m,s.k1.countV 1048576,s.k2.countV 1048576,(s.k5 m).rowV m⟩
theorem ent_R {s:Rd} {m:Int} (h:Sm.allB s.R):Sm.allB (s.entN m).R∧(s.entN m).R.length≤s.R.length:=by
 have h1:=truth_R h
 have h2:=row_R (m:=m) h1.1
 exact ⟨h2.1,Nat.le_trans h2.2 h1.2⟩
section
variable {s:Rd} {m:Int} (h:Sm.allB s.R)
include h
theorem k1_R:Sm.allB s.k1.R∧s.k1.R.length≤s.R.length:=by
 unfold Rd.k1
 exact ⟨past_okR h,Rd.past_len s 32⟩
theorem k2_R:Sm.allB s.k2.R∧s.k2.R.length≤s.R.length:=by
 have h1:=k1_R h
 have h2:=count_R (m:=1048576) h1.1
 unfold Rd.k2
 exact ⟨h2.1,Nat.le_trans h2.2 h1.2⟩
theorem k3_R:Sm.allB s.k3.R∧s.k3.R.length≤s.R.length:=by
 have h1:=k2_R h
 have h2:=count_R (m:=1048576) h1.1
 unfold Rd.k3
 exact ⟨h2.1,Nat.le_trans h2.2 h1.2⟩
theorem k4_R:Sm.allB (s.k4 m).R∧(s.k4 m).R.length≤s.R.length:=by
 have h1:=k3_R h
 have h2:=row_R (m:=m) h1.1
 unfold Rd.k4
 exact ⟨h2.1,Nat.le_trans h2.2 h1.2⟩
theorem k5_R:Sm.allB (s.k5 m).R∧(s.k5 m).R.length≤s.R.length:=by
 have h1:=k4_R (m:=m) h
 have h2:=row_R (m:=m) h1.1
 unfold Rd.k5
 exact ⟨h2.1,Nat.le_trans h2.2 h1.2⟩
theorem kid_R:Sm.allB (s.kidN m).R∧(s.kidN m).R.length≤s.R.length:=by
 have h1:=k5_R (m:=m) h
 have h2:=row_R (m:=m) h1.1
 unfold Rd.kidN
 exact ⟨h2.1,Nat.le_trans h2.2 h1.2⟩
end
end Go.Proofs.YtinihaflmdihaaaGreat.Nd
