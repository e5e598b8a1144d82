/- CodRV, CodRByte, CodRLow, CodRCount, NdRd, NlReads, NlRow, CodDgCopy, NlDigest, NlRet, NlKey. -/
import Derived.Lib.BitFns
import Derived.Lib.MinMax
import Derived.Laws.ResultCell
import Derived.Test.YtinihaflmdihaaaGreatK5
set_option maxRecDepth 100000
set_option maxHeartbeats 8000000
set_option linter.all false
namespace Go.Proofs.YtinihaflmdihaaaGreat
open Go.RowKit
theorem shl8_or {m b:Nat} (hm:m<72057594037927936) (hb:b<256):bits .or .u64 ((m:Int)*256) (b:Int)=((m*256+b:Nat):Int):=by
 rw [show (m:Int)*256=((m*256:Nat):Int) from by omega,u64_or_nat _ _ (by omega) (by omega)]
 have:m*256||| b=m*256+b:=by
  have h:=Nat.shiftLeft_add_eq_or_of_lt (i:=8) (b:=b) (by omega) m
  rw [Nat.shiftLeft_eq] at h
  exact h.symm
 rw [this]
def RVRel (w:World) (g:Nat) (s:Rd) (B:List Nat) (q:Option Addr) (c:Nat) (a i:Value) (wr:World):Prop:=
 ∃k:Nat,k≤B.length∧i= .int .i64 k∧a= .int .u64 (Cm.val (B.take k):Nat)∧Tx wr q B.length c B∧RSx wr g s∧w.grownBy wr (some g)
theorem rvalue_any (s:Rd) (n:Nat) (g:Nat) (w:World) (hs:RSx w g s) (hn:n≤8) (hl:s.R.length<1099511627776):
  Calls Tryz.prog 193 #[.pointer (some ⟨g,0,none⟩),.int .i64 n] w (RPost w g (.int .u64 (Cm.val (s.part n):Nat)) (s.past n)):=by
 have HS:=yH hs
 have HL:=yH hl
 clear hs hl
 go_enter Tryz.func193,Tryz.ntmps193
 go_wp2_with fail
 refine (take_any s n g _ HS.out (by omega) HL.out).mono ?_
 rintro e w1 hp
 obtain ⟨q,c,rfl,h1,h2,h3⟩:=hp
 have hpl:=Rd.part_len s n
 generalize s.part n=B at *
 generalize s.past n=s1 at *
 have H1:=yH h1
 have H2:=yH h2
 have H3:=yH h3
 clear h1 h2 h3 HS
 go_wp2_with fail
 go_loopw [5,12] (fun a i wr=>RVRel w g s1 B q c a i wr) (fun _ i _=>B.length - (intOf i).toNat)
 case atStart=>exact ⟨0,by omega,rfl,rfl,H1.out,H2.out,H3.out⟩
 case round=>
  obtain ⟨k,hk,rfl,rfl,h4,h5,h6⟩:=hrel
  have H4:=yH h4
  have H5:=yH h5
  have H6:=yH h6
  clear h4 h5 h6 H1 H2 H3
  by_cases hlt:k<B.length
  ·obtain ⟨g1,o1,hp,hx⟩:=H4.out.bytes.ne (by rintro rfl;simp at hlt)
   subst hp
   have hc:=hx k hlt
   have hle:=H4.out.le
   have hb8:B.getD k 0<256:=Sm.getD_lt H4.out.ok (by omega) k
   have hvl:Cm.val (B.take k)<256^(B.take k).length:=Cm.val_lt (fun x hx=>H4.out.ok x (List.mem_of_mem_take hx))
   have hv7:Cm.val (B.take k)<72057594037927936:=Nat.lt_of_lt_of_le hvl (pow256 _ (by rw [List.length_take];omega))
   have hst:Cm.val (B.take (k+1))=Cm.val (B.take k)*256+B.getD k 0:=by rw [take_snoc B k hlt,Cm.val_snoc]
   have HST:=yH hst
   clear hst hvl hx
   generalize Cm.val (B.take k)=m at *
   generalize B.getD k 0=b at *
   have hor:=shl8_or hv7 hb8
   have HOR:=yH hor
   clear hor
   go_wp2_with fail
   rw [HOR.out]
   go_roundw
   case rel=>exact ⟨k+1,by omega,by go_num,by rw [HST.out],H4.out,H5.out,H6.out⟩
   case measure=>simp [intOf];omega
  ·obtain rfl:k=B.length:=by omega
   rw [List.take_length]
   go_wp2_with fail
   go_ret
   exact ⟨rfl,H5.out,H6.out⟩
theorem rbyte_any (s:Rd) (g:Nat) (w:World) (hs:RSx w g s) (hl:s.R.length<1099511627776):
  Calls Tryz.prog 145 #[.pointer (some ⟨g,0,none⟩)] w (RPost w g (.int .u8 (Cm.val (s.part 1):Nat)) (s.past 1)):=by
 have hok:Sm.allB s.R:=by obtain ⟨p,n,c,h⟩:=hs;exact h.tx.ok
 have h3:=val1 hok
 have hv:=rvalue_any s 1 g w hs (by omega) hl
 generalize Cm.val (s.part 1)=x at *
 have HV:=yH hv
 have e8:IntKind.u8.wrap (x:Int)=(x:Nat):=by rw [IntKind.wrap_u8];omega
 clear hs hv hok
 go_enter Tryz.func145,Tryz.ntmps145
 go_wp2_with fail
 refine HV.out.mono ?_
 rintro e w1 hp
 obtain ⟨rfl,h1,h2⟩:=hp
 have H1:=yH h1
 have H2:=yH h2
 clear h1 h2
 go_wp2_with fail
 go_ret
 exact ⟨rfl,H1.out,H2.out⟩
theorem sign_back {n:Int} (h1: -9223372036854775808≤n) (h2:n≤9223372036854775807):IntKind.i64.wrap (bits .xor .u64 ((Cm.z64 n:Nat):Int) 9223372036854775808)=n:=by
 have hz:=(Cm.z64_lt h1 h2).2
 by_cases h:n<0
 ·have:=Cm.sign_int (n:=n+9223372036854775808) (by omega) (by omega)
  rw [Cm.wrap_u64,show (n+9223372036854775808)%18446744073709551616=((Cm.z64 n:Nat):Int) from by omega] at this
  rw [this,(Cm.z64_lt (n:=n+9223372036854775808) (by omega) (by omega)).2,IntKind.wrap_i64]
  omega
 ·have:=Cm.sign_int (n:=n - 9223372036854775808) (by omega) (by omega)
  rw [Cm.wrap_u64,show (n - 9223372036854775808)%18446744073709551616=((Cm.z64 n:Nat):Int) from by omega] at this
  rw [this,(Cm.z64_lt (n:=n - 9223372036854775808) (by omega) (by omega)).2,IntKind.wrap_i64]
  omega
theorem RSx.low {w w':World} {g:Nat} {s:Rd} (h:RSx w g s) (hb:Below (g+1) w w'):RSx w' g s:=by
 obtain ⟨p,n,c,h⟩:=h
 refine ⟨p,n,c,(hb.block g (Nat.lt_succ_self g)).trans h.row,⟨h.tx.size,h.tx.le,h.tx.ok,h.tx.at'.imp id fun ⟨x,hp,hx⟩=>⟨x,hp,fun j u hu=>?_⟩,h.tx.sp⟩,h.lo⟩
 have hB:s.R≠[]:=by rintro e;rw [e] at hu;simp [vals] at hu
 have hb2:(x.add j).block=x.block:=by cases x;simp [Addr.add];split<;>rfl
 exact (hb.cell (p:=x.add j) (by rw [hb2];exact Nat.lt_succ_of_lt (h.lo x hp hB))).trans (hx j u hu)
theorem below_setCells {w:World} (k o:Nat) (vs:List Value) (B:Nat) (hB:B≤k):Below B w (w.setCells k o vs):=by
 obtain ⟨h1,h2,h3,h4⟩:=size_setCells k vs o w
 exact ⟨h2,h3,h4,by omega,fun j hj=>heap_setCells_other k vs o w j (by omega)⟩
theorem atmost_any (s:Rd) (most n:Int) (g:Nat) (w:World) (hs:RSx w g s):
  Calls Tryz.prog 233 #[.pointer (some ⟨g,0,none⟩),.int .i64 most,.int .i64 n] w (RPost w g (.int .i64 (if most<n then 0 else n)) (if most<n then s.refuse 10 else s)):=by
 have HS:=yH hs
 clear hs
 by_cases h:most<n
 ·rw [if_pos h,if_pos h]
  go_enter Tryz.func233,Tryz.ntmps233
  go_wp2_with fail
  refine (rrefuse_any s 10 g _ HS.out).mono ?_
  rintro e w1 hp
  obtain ⟨rfl,h2,h3⟩:=hp
  have H2:=yH h2
  have H3:=yH h3
  clear h2 h3
  go_wp2_with fail
  go_ret
  exact ⟨rfl,H2.out,H3.out⟩
 ·rw [if_neg h,if_neg h]
  go_enter Tryz.func233,Tryz.ntmps233
  go_wp2_with fail
  go_ret
  exact ⟨rfl,HS.out,grown_same _ _⟩
theorem rcount_any (s:Rd) (most:Int) (g:Nat) (w:World) (hs:RSx w g s) (hl:s.R.length<1099511627776):
  Calls Tryz.prog 197 #[.pointer (some ⟨g,0,none⟩),.int .i64 most] w (RPost w g (.int .i64 (s.countV most)) (s.count most)):=by
 have hok:Sm.allB s.R:=by obtain ⟨p,n,c,h⟩:=hs;exact h.tx.ok
 have h3:=val3 hok
 have hva:=rvalue_any s 3 g w hs (by omega) hl
 clear hs hok
 by_cases hc:min most 1048576<((Cm.val (s.part 3):Nat):Int)
 ·have e1:s.countV most=0:=by unfold Rd.countV;rw [if_pos hc]
  have e2:s.count most=(s.past 3).refuse 10:=by unfold Rd.count;rw [if_pos hc]
  rw [e1,e2]
  clear e1 e2
  generalize Cm.val (s.part 3)=m at *
  have HC:=yH hc
  clear hc
  go_enter Tryz.func197,Tryz.ntmps197
  go_wp2_with fail
  refine hva.mono ?_
  rintro e w1 hp
  obtain ⟨rfl,h4,h5⟩:=hp
  have H4:=yH h4
  have H5:=yH h5
  clear h4 h5 hva
  go_wp2_with fail
  have hat:=atmost_any (s.past 3) (min most 1048576) m g _ H4.out
  rw [if_pos HC.out,if_pos HC.out] at hat
  refine hat.mono ?_
  rintro e w2 hp
  obtain ⟨rfl,h6,h7⟩:=hp
  have H6:=yH h6
  have H7:=yH (grown_twice H5.out h7)
  clear h6 h7 hat
  go_wp2_with fail
  go_ret
  exact ⟨rfl,H6.out,H7.out⟩
 ·have e1:s.countV most=((Cm.val (s.part 3):Nat):Int):=by unfold Rd.countV;rw [if_neg hc]
  have e2:s.count most=s.past 3:=by unfold Rd.count;rw [if_neg hc]
  rw [e1,e2]
  clear e1 e2
  generalize Cm.val (s.part 3)=m at *
  have HC:=yH hc
  clear hc
  go_enter Tryz.func197,Tryz.ntmps197
  go_wp2_with fail
  refine hva.mono ?_
  rintro e w1 hp
  obtain ⟨rfl,h4,h5⟩:=hp
  have H4:=yH h4
  have H5:=yH h5
  clear h4 h5 hva
  go_wp2_with fail
  have hat:=atmost_any (s.past 3) (min most 1048576) m g _ H4.out
  rw [if_neg (Int.not_lt.mpr HC.out),if_neg (Int.not_lt.mpr HC.out)] at hat
  refine hat.mono ?_
  rintro e w2 hp
  obtain ⟨rfl,h6,h7⟩:=hp
  have H6:=yH h6
  have H7:=yH (grown_twice H5.out h7)
  clear h6 h7 hat
  go_wp2_with fail
  go_ret
  exact ⟨rfl,H6.out,H7.out⟩
end Go.Proofs.YtinihaflmdihaaaGreat
namespace Go.Proofs.YtinihaflmdihaaaGreat.Nd
open Go.RowKit
theorem part1 (s:Rd):s.part 1=[]∨∃b,s.part 1=[b]:=by
 have h:=Rd.part_len s 1
 match hp:s.part 1 with
 |[]=>exact Or.inl rfl
 |[b]=>exact Or.inr ⟨b,rfl⟩
 | a::b::L=>rw [hp] at h;simp at h
theorem val_one (b:Nat):Cm.val [b]=b:=by simp [Cm.val]
def _root_.Go.Proofs.YtinihaflmdihaaaGreat.Rd.truth (s:Rd):Rd:=if (s.past 1).e=0∧1<Cm.val (s.part 1) then ⟨(s.past 1).R,21⟩ else s.past 1
def _root_.Go.Proofs.YtinihaflmdihaaaGreat.Rd.truthV (s:Rd):Bool:=decide ((s.past 1).e=0∧Cm.val (s.part 1)=1)
theorem part_nk (s:Rd) (n:Nat):s.part n=[]∨(s.part n).length=n:=by
 unfold Rd.part
 split
 ·rename_i h
  exact Or.inr (by rw [List.length_take];have:=h.2;omega)
 ·exact Or.inl rfl
def _root_.Go.Proofs.YtinihaflmdihaaaGreat.Rd.numV (s:Rd):Int:=if s.part 8=[] then 0 else ((Cm.val (s.part 8):Nat):Int) - 9223372036854775808
theorem pow256' (k:Nat) (h:k≤8):256^k≤18446744073709551616:=Nat.le_trans (Nat.pow_le_pow_right (by omega) h) (by decide)
def _root_.Go.Proofs.YtinihaflmdihaaaGreat.Rd.digV (s:Rd):List Nat:=s.part 32++zeros (32 - (s.part 32).length)
theorem digV_length (s:Rd):s.digV.length=32:=by
 have:=Rd.part_len s 32
 simp [Rd.digV,zeros]
 omega
theorem digV_ok {s:Rd} (h:Sm.allB s.R):Sm.allB s.digV:=by
 intro x hx
 rcases List.mem_append.1 hx with k | k
 ·exact Rd.part_ok h 32 x k
 ·exact zeros_ok _ x k
def readN:Nat→Rd→List Int→List Int×Rd
 | 0,s,L=>(L,s)
 | n+1,s,L=>if s.e=0 then readN n (s.past 8) (L++[s.numV]) else (L,s)
theorem readN_go {n:Nat} {s:Rd} {L:List Int} (h:s.e=0) (hn:0<n):readN n s L=readN (n - 1) (s.past 8) (L++[s.numV]):=by
 obtain ⟨m,rfl⟩:∃m,n=m+1:=⟨n - 1,by omega⟩
 show (if s.e=0 then _ else _)=_
 rw [if_pos h]
 rfl
theorem readN_no {n:Nat} {s:Rd} {L:List Int} (h:s.e≠0):readN n s L=(L,s):=by
 cases n with
 | zero=>rfl
 | succ n=>
  show (if s.e=0 then _ else _)=_
  rw [if_neg h]
def _root_.Go.Proofs.YtinihaflmdihaaaGreat.Rd.rowN (s:Rd) (most:Int):Rd:=if (s.past 1).e=0∧most<(Cm.val (s.part 1):Nat) then ⟨(s.past 1).R,10⟩ else s.past 1
def _root_.Go.Proofs.YtinihaflmdihaaaGreat.Rd.row (s:Rd) (most:Int):List Int×Rd:=readN (Cm.val (s.part 1)) (s.rowN most) []
def _root_.Go.Proofs.YtinihaflmdihaaaGreat.Rd.rowV (s:Rd) (most:Int):List Int:=if (s.row most).2.e=0 then (s.row most).1 else []
theorem rowN_len (s:Rd) (most:Int):(s.rowN most).R.length≤s.R.length:=by
 unfold Rd.rowN
 split
 ·exact Rd.past_len s 1
 ·exact Rd.past_len s 1
theorem owns_nil (w:World) (base:Nat):w.ownsRow base 2 1 (.slice none 0 0) 0 (ivs []):=⟨rfl,Or.inl ⟨rfl,rfl⟩⟩
theorem ivs_append (A B:List Int):ivs (A++B)=ivs A++ivs B:=List.map_append ..
theorem one_val {s:Rd} (h:Cm.val (s.part 1)≠0):(s.past 1).e=0:=by
 unfold Rd.part at h
 unfold Rd.past
 split at h
 ·rename_i k;rw [if_pos k]
 ·exact absurd rfl h
theorem ltruth_any (s:Rd) (g:Nat) (w:World) (hs:RSx w g s) (hl:s.R.length<1099511627776):
  Calls Tryz.prog 194 #[.pointer (some ⟨g,0,none⟩)] w (RPost w g (.bool s.truthV) s.truth):=by
 have HV:=yH (rbyte_any s g w hs hl)
 clear hs
 by_cases hx:1<Cm.val (s.part 1)
 ·have he:=one_val (s:=s) (by omega)
  have e1:s.truthV=false:=by unfold Rd.truthV;exact decide_eq_false (by omega)
  have e2:s.truth=(s.past 1).refuse 21:=by unfold Rd.truth Rd.refuse;rw [if_pos ⟨he,hx⟩,if_pos he]
  rw [e1,e2]
  clear e1 e2 he
  have b1:(1:Int)<(Cm.val (s.part 1):Nat):=by omega
  have b2:(((Cm.val (s.part 1):Nat):Int)==1)=false:=by simp;omega
  generalize Cm.val (s.part 1)=x at *
  clear hx
  go_enter Tryz.func194,Tryz.ntmps194
  go_wp2_with fail
  refine HV.out.mono ?_
  rintro e w1 hp
  obtain ⟨rfl,h1,h2⟩:=hp
  have H1:=yH h1
  have H2:=yH h2
  clear h1 h2
  go_wp2_with fail
  refine (rrefuse_any (s.past 1) 21 g _ H1.out).mono ?_
  rintro e w2 hp
  obtain ⟨rfl,h3,h4⟩:=hp
  have H3:=yH h3
  have H4:=yH (grown_twice H2.out h4)
  clear h3 h4
  go_wp2_with fail
  go_ret
  exact ⟨rfl,H3.out,H4.out⟩
 ·have e2:s.truth=s.past 1:=by unfold Rd.truth;rw [if_neg (fun h=>hx h.2)]
  have e1:(((Cm.val (s.part 1):Nat):Int)==1)=s.truthV:=by
   unfold Rd.truthV
   rw [Bool.eq_iff_iff,beq_iff_eq,decide_eq_true_iff]
   constructor
   ·intro h;exact ⟨one_val (by omega),by omega⟩
   ·intro h;omega
  rw [e2]
  have b1:¬(1:Int)<(Cm.val (s.part 1):Nat):=by omega
  generalize s.truthV=X at *
  generalize Cm.val (s.part 1)=x at *
  clear hx e2
  have E1:=yH e1
  clear e1
  go_enter Tryz.func194,Tryz.ntmps194
  go_wp2_with fail
  refine HV.out.mono ?_
  rintro e w1 hp
  obtain ⟨rfl,h1,h2⟩:=hp
  have H1:=yH h1
  have H2:=yH h2
  clear h1 h2
  go_wp2_with fail
  go_ret
  exact ⟨by rw [← E1.out];rfl,H1.out,H2.out⟩
theorem part_nil {s:Rd} {n:Nat} (hn:0<n) (h:(s.past n).e=0):s.part n≠[]:=by
 unfold Rd.past Rd.refuse at h
 unfold Rd.part
 split at h
 ·rename_i k
  rw [if_pos k]
  intro e
  have h1:=congrArg List.length e
  rw [List.length_take,List.length_nil] at h1
  have h2:=k.2
  omega
 ·split at h
  ·cases h
  ·rename_i k;exact absurd h k
theorem past_nil {s:Rd} {n:Nat} (h:(s.past n).e≠0):s.part n=[]:=by
 unfold Rd.past at h
 unfold Rd.part
 split at h
 ·exact absurd rfl h
 ·rename_i k;rw [if_neg k]
theorem numV_in {s:Rd} (h:Sm.allB s.R): -9223372036854775808≤s.numV∧s.numV≤9223372036854775807:=by
 have h1:=Cm.val_lt (Rd.part_ok h 8)
 have h2:=pow256' _ (Rd.part_len s 8)
 unfold Rd.numV
 split<;>omega
theorem lnum_any (s:Rd) (g:Nat) (w:World) (hs:RSx w g s) (hl:s.R.length<1099511627776):
  Calls Tryz.prog 234 #[.pointer (some ⟨g,0,none⟩)] w (RPost w g (.int .i64 s.numV) (s.past 8)):=by
 have hok:Sm.allB s.R:=by obtain ⟨p,n,c,h⟩:=hs;exact h.tx.ok
 have HV:=yH (rvalue_any s 8 g w hs (by omega) hl)
 have hin:=numV_in hok
 clear hs
 by_cases he:(s.past 8).e=0
 ·have hp:=part_nil (n:=8) (by omega) he
  have hz:Cm.z64 s.numV=Cm.val (s.part 8):=by
   unfold Cm.z64 Rd.numV
   rw [if_neg hp]
   omega
  have hsb:=sign_back hin.1 hin.2
  rw [hz] at hsb
  have HSB:=yH hsb
  have HE:=yH he
  clear hp hz hsb hin hok he
  generalize s.numV=x at *
  generalize Cm.val (s.part 8)=z at *
  go_enter Tryz.func234,Tryz.ntmps234
  go_wp2_with fail
  refine HV.out.mono ?_
  rintro e w1 hp
  obtain ⟨rfl,⟨p3,n3,c3,h3⟩,h4⟩:=hp
  have h5:=h3.err
  rw [HE.out] at h5
  have H3:=yH h3
  have H4:=yH h4
  have hsb:=HSB.out
  clear h3 h4
  go_wp2_with fail
  go_ret
  exact ⟨rfl,⟨p3,n3,c3,H3.out⟩,H4.out⟩
 ·have hv:s.numV=0:=by unfold Rd.numV;rw [if_pos (past_nil he)]
  have b1:(((s.past 8).e:Int) !=0)=true:=by simp;omega
  rw [hv]
  clear hv hin hok he
  generalize Cm.val (s.part 8)=z at *
  go_enter Tryz.func234,Tryz.ntmps234
  go_wp2_with fail
  refine HV.out.mono ?_
  rintro e w1 hp
  obtain ⟨rfl,⟨p3,n3,c3,h3⟩,h4⟩:=hp
  have h5:=h3.err
  have H3:=yH h3
  have H4:=yH h4
  clear h3 h4
  go_wp2_with fail
  go_ret
  exact ⟨rfl,⟨p3,n3,c3,H3.out⟩,H4.out⟩
def LRow (w:World) (g:Nat) (L:List Int) (s:Rd) (e:Ending) (w':World):Prop:=
 ∃v,e= .returned v∧w'.ownsRow w.heap.size 2 1 v L.length (ivs L)∧RSx w' g s∧w.grownBy w' (some g)
structure LrSt (w:World) (g gr n:Nat) (T:List Int×Rd) (k:Nat) (C:Array Value) (s:Rd) (wr:World):Prop where
 row:wr.heap[gr]? =some (.cells C 2 (0,0))
 size:C.size=n
 rd:RSx wr g s
 grown:w.grownBy wr (some g)
 len:s.R.length<1099511627776
 run:(∃L,s.e=0∧L.length=k∧C.toList.take k=ivs L∧readN (n - k) s L=T)∨(s.e≠0∧T.2=s)
def LrRel (w:World) (g gr n:Nat) (T:List Int×Rd) (i:Value) (wr:World):Prop:=∃k C s,k≤n∧i= .int .i64 k∧LrSt w g gr n T k C s wr
theorem past_err {s:Rd} {n:Nat} (h:s.e≠0):s.past n=s:=by
 unfold Rd.past Rd.refuse
 rw [if_neg (fun k=>h k.1),if_neg h]
theorem lr_step {s:Rd} {n k:Nat} {T:List Int×Rd} {C:Array Value} (hk:k<n) (hC:C.size=n) (h:(∃L,s.e=0∧L.length=k∧C.toList.take k=ivs L∧readN (n - k) s L=T)∨(s.e≠0∧T.2=s)):
  (∃L,(s.past 8).e=0∧L.length=k+1∧(C.setIfInBounds k (.int .i64 s.numV)).toList.take (k+1)=ivs L∧readN (n - (k+1)) (s.past 8) L=T)∨((s.past 8).e≠0∧T.2=s.past 8):=by
 rcases h with ⟨L,he,hl,hc,hr⟩ | ⟨he,ht⟩
 ·have h1:=readN_go (n:=n - k) (L:=L) he (by omega)
  rw [h1] at hr
  by_cases h8:(s.past 8).e=0
  ·refine Or.inl ⟨L++[s.numV],h8,by rw [List.length_append,hl];rfl,?_,by rw [show n - (k+1)=n - k - 1 by omega];exact hr⟩
   have hlt:k<(C.setIfInBounds k (.int .i64 s.numV)).toList.length:=by simp [hC,hk]
   have e1:(C.setIfInBounds k (.int .i64 s.numV)).toList.take k=C.toList.take k:=by
    rw [Array.toList_setIfInBounds,List.take_set_of_le (Nat.le_refl _)]
   have e2:(C.setIfInBounds k (.int .i64 s.numV)).toList[k]= .int .i64 s.numV:=by
    simp [Array.toList_setIfInBounds]
   rw [List.take_succ_eq_append_getElem hlt,e1,e2,hc,ivs_append]
   rfl
  ·refine Or.inr ⟨h8,?_⟩
   rw [readN_no h8] at hr
   rw [← hr]
 ·rw [past_err he]
  exact Or.inr ⟨he,ht⟩
theorem lrow_any (s:Rd) (g:Nat) (w:World) (hs:RSx w g s) (hl:s.R.length<1099511627776):
  Calls Tryz.prog 195 #[.pointer (some ⟨g,0,none⟩),.int .i64 8] w (LRow w g (s.rowV 8) (s.row 8).2):=by
 have hok:Sm.allB s.R:=by obtain ⟨p,n,c,h⟩:=hs;exact h.tx.ok
 have HB:=yH (rbyte_any s g w hs hl)
 have hpl:=Rd.past_len s 1
 -- how many numbers are read,and with what
 obtain ⟨m,s2,hm,hs2,hT,hm8⟩:∃(m:Nat) (s2:Rd),(if (8:Int)<(Cm.val (s.part 1):Nat) then (0:Int) else (Cm.val (s.part 1):Nat))=(m:Int)∧(if (8:Int)<(Cm.val (s.part 1):Nat) then (s.past 1).refuse 10 else s.past 1)=s2∧(readN m s2 []=s.row 8∨(s2.e≠0∧(s.row 8).2=s2))∧m≤8:=by
  have hr:s.row 8=readN (Cm.val (s.part 1)) (s.rowN 8) []:=rfl
  by_cases h:(8:Int)<(Cm.val (s.part 1):Nat)
  ·have he:=one_val (s:=s) (by omega)
   refine ⟨0,_,if_pos h,if_pos h,Or.inr ?_,by omega⟩
   have e1:s.rowN 8=⟨(s.past 1).R,10⟩:=by unfold Rd.rowN;rw [if_pos ⟨he,h⟩]
   have e2:(s.past 1).refuse 10=⟨(s.past 1).R,10⟩:=by unfold Rd.refuse;rw [if_pos he]
   rw [e2,hr,e1,readN_no (by simp)]
   exact ⟨by simp,rfl⟩
  ·refine ⟨Cm.val (s.part 1),_,if_neg h,if_neg h,Or.inl ?_,by omega⟩
   have e1:s.rowN 8=s.past 1:=by unfold Rd.rowN;rw [if_neg (fun k=>h k.2)]
   rw [hr,e1]
 have hV:s.rowV 8=if (s.row 8).2.e=0 then (s.row 8).1 else []:=rfl
 have hs2l:s2.R.length<1099511627776:=by
  rw [← hs2]
  split
  ·exact Nat.lt_of_le_of_lt (Rd.refuse_len _ _) (Nat.lt_of_le_of_lt hpl hl)
  ·exact Nat.lt_of_le_of_lt hpl hl
 have HAT:=yH (fun w1 (h:RSx w1 g (s.past 1))=>by
  have:=atmost_any (s.past 1) 8 (Cm.val (s.part 1):Nat) g w1 h
  rw [hm,hs2] at this
  exact this)
 have HT:=yH hT
 have HV:=yH hV
 have hv256:=val1 hok
 generalize s.rowV 8=X at *
 generalize s.row 8=T at *
 generalize Cm.val (s.part 1)=cnt at *
 have HL2:=yH hs2l
 obtain ⟨i2,hi,hi0,hi1,hi2⟩:=info_parts I2n
 have HI:=yH hi
 have HI0:=yH hi0
 have HI1:=yH hi1
 have HI2:=yH hi2
 have e8:IntKind.i64.wrap (cnt:Int)=(cnt:Nat):=by rw [IntKind.wrap_i64];omega
 clear hs hok hpl hm hs2 hT hV hs2l hi hi0 hi1 hi2 hl
 go_enter Tryz.func195,Tryz.ntmps195
 go_wp2_with fail
 refine HB.out.mono ?_
 rintro e w1 hp
 obtain ⟨rfl,h1,h2⟩:=hp
 have HA:=yH (HAT.out w1 h1)
 have H2:=yH h2
 clear h1 h2
 go_wp2_with fail
 refine HA.out.mono ?_
 rintro e w2 hp
 obtain ⟨rfl,h3,h4⟩:=hp
 have hg:g<w2.heap.size:=h3.lt
 have H3:=yH h3
 have H4:=yH (grown_twice H2.out h4)
 clear h3 h4
 go_wp2_with (at_make;refine wpList_make_full _ (by rfl) _ _ 24 (by rfl) w2.heap.size 2 i2 (.int .i64 0) 1 URn HI.out HI0.out HI1.out .i64 .i64 _ _ m (by rfl) (by rfl) (by rfl) (by rfl) (by rw [HI2.out];omega) (by unfold maxLen;omega) (Nat.le_refl _) ?_;intro w3 hown3 hgrow3;have O3:=yH hown3;have G3:=yH hgrow3;clear hown3 hgrow3)
 have hb23:Below w2.heap.size w2 w3:=⟨G3.out.os,G3.out.tape,G3.out.output,G3.out.size,fun k hk=>G3.out.block k hk (by simp)⟩
 have hg3:=grown_new (w:=w) H4.out H4.out.size hb23 hb23.size
 have hr3:=H3.out.later hb23
 obtain ⟨cur,hcur,hcs⟩:∃cur,w3.heap[w2.heap.size]? =some (.cells cur 2 (0,0))∧cur.size=m:=by
  rcases O3.out.2 with ⟨h1,_⟩ | ⟨k,cap,cur,hv,_,hrow,_,_,hsz,_⟩
  ·simp at h1
  ·simp only [Value.slice.injEq,Option.some.injEq,Addr.mk.injEq,true_and,and_true] at hv
   obtain ⟨rfl,rfl⟩:=hv
   exact ⟨cur,hrow,by omega⟩
 have HGR:=yH (show g<w2.heap.size∧w.heap.size≤w2.heap.size from ⟨hg,H4.out.size⟩)
 generalize w2.heap.size=gr at *
 have HR3:=yH (show LrSt w g gr m T 0 cur s2 w3 from ⟨hcur,hcs,hr3,hg3,HL2.out,by
  by_cases he:s2.e=0
  ·rcases HT.out with h | h
   ·exact Or.inl ⟨[],he,rfl,rfl,h⟩
   ·exact absurd he h.1
  ·rcases HT.out with h | h
   ·rw [readN_no he] at h
    exact Or.inr ⟨he,by rw [← h]⟩
   ·exact Or.inr h⟩)
 clear hb23 hg3 hr3 hcur hcs O3 G3 H3 H4 H2 hg HB HA HAT HT e8
 go_loopw [16] (fun i wr=>LrRel w g gr m T i wr) (fun i _=>m - (intOf i).toNat)
 case atStart=>exact ⟨0,cur,s2,by omega,rfl,HR3.out⟩
 case round=>
  obtain ⟨k,C,sk,hk,rfl,hr⟩:=hrel
  have HR:=yH hr
  clear hr HR3
  by_cases hlt:k<m
  ·have hnum:=lnum_any sk g wr HR.out.rd HR.out.len
   have HST:=yH (lr_step hlt HR.out.size HR.out.run)
   have HPL:=yH (Nat.lt_of_le_of_lt (Rd.past_len sk 8) HR.out.len)
   have HNUM:=yH hnum
   have i1:(0:Int)≤k∧(k:Int)<m:=by omega
   clear hnum
   generalize sk.numV=x at *
   generalize sk.past 8=t at *
   go_wp2_with fail
   refine HNUM.out.mono ?_
   rintro e w4 hp
   obtain ⟨rfl,h5,h6⟩:=hp
   have hrow4:=(h6.block gr (yL HR.out.row) (by simp;have:=HGR.out.1;omega)).trans HR.out.row
   obtain ⟨u,hu⟩:∃u,w4.cell? ⟨gr,k,none⟩=some u:=by
    rw [cell_of_row w4 gr k _ _ _ hrow4]
    exact ⟨_,Array.getElem?_eq_getElem (by rw [HR.out.size];exact hlt)⟩
   have hf:=frozen_of_row w4 gr k _ _ hrow4
   have hrow5:=heap_setCell_same w4 gr k _ _ (.int .i64 x) hrow4
   have H5:=yH h5
   have H6:=yH (grown_twice HR.out.grown h6)
   have HROW5:=yH hrow5
   clear h5 h6 hrow4 hrow5
   go_wp2_with fail
   go_roundw
   case rel=>
    refine ⟨k+1,_,t,by omega,by go_num,HROW5.out,by simp [HR.out.size],H5.out.low ((Below.refl _ _).setCell (p:=⟨gr,k,none⟩) (by have:=HGR.out.1;show g+1≤gr;omega) _),grown_new H6.out (B:=gr) HGR.out.2 ((Below.refl _ _).setCell (p:=⟨gr,k,none⟩) (Nat.le_refl _) _) (by simp [World.setCell]),HPL.out,HST.out⟩
   case measure=>simp [intOf];omega
  ·obtain rfl:m=k:=by omega
   have hrd:=HR.out.rd
   obtain ⟨p6,n6,c6,h6⟩:=hrd
   have h7:=h6.err
   have H6:=yH h6
   clear h6
   by_cases he:sk.e=0
   ·rw [he] at h7
    rcases HR.out.run with ⟨L,_,hl,hc,hr⟩ | ⟨hne,_⟩
    ·rw [Nat.sub_self] at hr
     have hr:(L,sk)=T:=hr
     have HX:=yH (show X=L from by rw [HV.out,← hr,if_pos he])
     have HT2:=yH (show T.2=sk from by rw [← hr])
     have HC:=yH hc
     have HLL:=yH hl
     clear hr hc hl he
     go_wp2_with fail
     go_ret
     rw [HX.out,HT2.out]
     refine ⟨_,rfl,?_,⟨p6,n6,c6,H6.out⟩,HR.out.grown⟩
     rw [HLL.out]
     exact ⟨by rw [ivs_length,HLL.out,Nat.mul_one],Or.inr ⟨gr,m,C,rfl,HGR.out.2,HR.out.row,Nat.le_refl _,by unfold maxLen;omega,by rw [HR.out.size,Nat.mul_one],by rw [Nat.mul_one];exact HC.out⟩⟩
    ·exact absurd he hne
   ·have ht:T.2=sk:=by
     rcases HR.out.run with ⟨L,he',_⟩ | ⟨_,h⟩
     ·exact absurd he' he
     ·exact h
    have hx:X=[]:=by rw [HV.out,if_neg (by rw [ht];exact he)]
    have b1:((sk.e:Int) !=0)=true:=by simp;omega
    have HX:=yH hx
    have HT2:=yH ht
    clear he ht hx
    go_wp2_with fail
    go_ret
    rw [HX.out,HT2.out]
    exact ⟨_,rfl,owns_nil _ _,⟨p6,n6,c6,H6.out⟩,HR.out.grown⟩
end Go.Proofs.YtinihaflmdihaaaGreat.Nd
namespace Go.Proofs.YtinihaflmdihaaaGreat
open Go.RowKit
theorem tx_some {w:World} {q:Option Addr} {n c:Nat} {B:List Nat} (h:Tx w q n c B) (hB:B≠[]):∃x,q=some x:=by
 rcases h.at' with ⟨_,hc⟩ | ⟨x,hp,_⟩
 ·have:=h.size
  have:=h.le
  exact absurd (List.length_eq_zero_iff.1 (by omega)) hB
 ·exact ⟨x,hp⟩
theorem copy_digest {W:World} {g:Nat} {Z D:List Nat} {x:Addr} {c:Nat} (hg:W.heap[g]? =some (.cells (u8s Z) 30 (0,0))) (hZ:Z.length=32) (hD:D.length=32) (h:Tx W (some x) 32 c D):
  (Builtin.copy_ #[45,45] 3 #[.slice (some ⟨g,0,none⟩) 32 32,.slice (some x) 32 c]).run Tryz.prog W= .ok (goInt 32) (W.setCells g 0 (vals D)):=by
 have:=run_copy_cells (P:=Tryz.prog) W 45 45 3 5 g 0 32 32 x 32 c (vals D) A22 E5 (by rw [vals_length,hD];rfl) h.cells
  (fun j hj=>by rw [vals_length,hD] at hj;rw [Nat.zero_add,u8s_cell hg j (by omega)];rfl) (fun j _=>frozen_of_row W g _ _ _ hg) (vals_one D)
 rw [vals_length,hD] at this
 exact this
theorem set_digest {W:World} {g:Nat} {Z D:List Nat} (hg:W.heap[g]? =some (.cells (u8s Z) 30 (0,0))) (hZ:Z.length=32) (hD:D.length=32):(W.setCells g 0 (vals D)).heap[g]? =some (.cells (u8s D) 30 (0,0)):=by
 have:=heap_setCells_same g 30 (vals D) [] (vals Z) [] W (by simpa [vals_toArray] using hg) (by rw [vals_length,vals_length,hZ,hD])
 simpa [vals_toArray] using this
end Go.Proofs.YtinihaflmdihaaaGreat
namespace Go.Proofs.YtinihaflmdihaaaGreat.Nd
open Go.RowKit
theorem ldigest_any (s:Rd) (g:Nat) (w:World) (hs:RSx w g s) (hl:s.R.length<1099511627776):
  Calls Tryz.prog 196 #[.pointer (some ⟨g,0,none⟩)] w (RPost w g (.agg (u8s s.digV)) (s.past 32)):=by
 have hz:=(zero_of_info Z25).1
 have hsl:=fun w'=>arr_slice (w.heap.size+1) w'
 have hg:g<w.heap.size:=hs.lt
 have HS:=yH hs
 have hd0:s.digV=s.part 32++zeros (32 - (s.part 32).length):=rfl
 have hdl:=digV_length s
 have hpn:=part_nk s 32
 generalize s.digV=D at *
 have HD:=yH hdl
 have HPN:=yH hpn
 have HD0:=yH hd0
 clear hs hdl hpn hd0
 go_enter Tryz.func196,Tryz.ntmps196
 go_upto_region 2 with fail
 have hb1:Below w.heap.size w (w.alloc (.cells (u8s (zeros 32)) 30)):=(Below.refl _ _).alloc (Nat.le_refl _) _
 have r1:=heap_alloc_new w (.cells (u8s (zeros 32)) 30)
 have z1:(w.alloc (.cells (u8s (zeros 32)) 30)).heap.size=w.heap.size+1:=by simp
 generalize w.alloc (.cells (u8s (zeros 32)) 30)=w1 at *
 have hb2:Below w1.heap.size w1 (w1.alloc (.cells (u8s (zeros 32)) 30)):=(Below.refl _ _).alloc (Nat.le_refl _) _
 have r2:=heap_alloc_new w1 (.cells (u8s (zeros 32)) 30)
 rw [z1] at r2
 generalize w1.alloc (.cells (u8s (zeros 32)) 30)=w2 at *
 have hb12:Below w.heap.size w w2:=hb1.trans (hb2.mono (by omega))
 have R1:=yH ((hb2.block w.heap.size (by omega)).trans r1)
 have R2:=yH r2
 have B2:=yH hb12
 have hk:=take_any s 32 g w2.drew (HS.out.later (Below.drew hb12)) (by omega) hl
 unfold TakePost at hk
 have HK:=yH hk
 clear hb1 hb2 r1 r2 z1 hb12 hk hz
 rcases HPN.out with hp | hp
 ·have hD:D=zeros 32:=by rw [HD0.out,hp];rfl
  subst hD
  rw [hp] at HK
  clear hp HPN HD0
  go_region_law (go_simp;go_at_call 232;refine HK.out.mono ?_;rintro e w3 hp;obtain ⟨q,c,rfl,h5,h6,h7⟩:=hp;have hrow3:=(h7.block (w.heap.size+1) (yL R2.out) (by simp;omega)).trans R2.out;have hcp:=run_copy_none (P:=Tryz.prog) w3 45 45 3 5 (some ⟨w.heap.size+1,0,none⟩) q 32 32 0 c A22 E5 (by rfl);have H6:=yH h6;have H7:=yH h7;have HROW3:=yH hrow3;clear h5 h6 h7 hrow3)
  all_goals
   have G4:=yH (grown_twice (grown_of_below B2.out (some g)) (show w2.grownBy w3 (some g) from ⟨H7.out.os,H7.out.tape,H7.out.output,H7.out.size,H7.out.block⟩))
   have R14:=yH ((H7.out.block w.heap.size (yL R1.out) (by simp;omega)).trans R1.out)
   clear H7 hcp R1 R2 HK
   go_wp2_with (first
    | (refine wpList_load_row (by rfl) 30 _ (by rfl) (w.heap.size+1) (by rfl) 30 _ (0,0) _ HROW3.out A25 (by rfl) (by rw [u8s_size,HD.out];exact S25) ?_)
    | (refine wpList_store_row (by rfl) 30 _ _ (by rfl) w.heap.size (u8s (zeros 32)) (by rfl) (by rfl) _ _ R14.out (by rw [u8s_size,HD.out];exact S25) rfl (u8s_one _) ?_))
   refine ret_row 2 (by kernel_rfl) w.heap.size _ _ A25 S25 rfl (setRow_heap _ _ _ _ _ _ R14.out) (by rw [u8s_size,HD.out]) ⟨rfl,?_,?_⟩
   ·exact H6.out.low (Below.setRow (Below.refl _ _) (by omega) _)
   ·exact grown_new G4.out (Nat.le_refl _) (Below.setRow (Below.refl _ _) (Nat.le_refl _) _) (by simp)
 ·have hD:s.part 32=D:=by rw [HD0.out,hp];simp [zeros]
  rw [hD,HD.out] at HK
  clear hp HPN HD0
  go_region_law (go_simp;go_at_call 232;refine HK.out.mono ?_;rintro e w3 hp;obtain ⟨q,c,rfl,h5,h6,h7⟩:=hp;obtain ⟨x,rfl⟩:=tx_some h5 (by intro e;have:=HD.out;rw [e] at this;simp at this);have hrow3:=(h7.block (w.heap.size+1) (yL R2.out) (by simp;omega)).trans R2.out;have hcp:=copy_digest hrow3 (by simp [zeros]) HD.out h5;have H6:=yH h6;have H7:=yH h7;have HROW3:=yH hrow3;clear h5 h6 h7 hrow3)
  all_goals
   have r4:=set_digest HROW3.out (by simp [zeros]) HD.out
   have hb4:=below_setCells (w:=w3) (w.heap.size+1) 0 (vals D) (w.heap.size+1) (Nat.le_refl _)
   have H64:=yH (H6.out.low (hb4.mono (by omega)))
   have G4:=yH (grown_new (grown_twice (grown_of_below B2.out (some g)) (show w2.grownBy w3 (some g) from ⟨H7.out.os,H7.out.tape,H7.out.output,H7.out.size,H7.out.block⟩)) (show w.heap.size≤w.heap.size+1 by omega) hb4 (by rw [(size_setCells _ _ _ _).1];exact Nat.le_refl _))
   have R14:=yH (((hb4.block w.heap.size (by omega)).trans (H7.out.block w.heap.size (yL R1.out) (by simp;omega))).trans R1.out)
   generalize w3.setCells (w.heap.size+1) 0 (vals D)=w4 at *
   have R4:=yH r4
   clear r4 hb4 H6 H7 HROW3 hcp R1 R2 HK
   go_wp2_with (first
    | (refine wpList_load_row (by rfl) 30 _ (by rfl) (w.heap.size+1) (by rfl) 30 _ (0,0) _ R4.out A25 (by rfl) (by rw [u8s_size,HD.out];exact S25) ?_)
    | (refine wpList_store_row (by rfl) 30 _ _ (by rfl) w.heap.size (u8s D) (by rfl) (by rfl) _ _ R14.out (by rw [u8s_size,HD.out];exact S25) (by rw [u8s_size,u8s_size,HD.out];simp [zeros]) (u8s_one _) ?_))
   refine ret_row 2 (by kernel_rfl) w.heap.size _ _ A25 S25 rfl (setRow_heap _ _ _ _ _ _ R14.out) (by rw [u8s_size,HD.out]) ⟨rfl,?_,?_⟩
   ·exact H64.out.low (Below.setRow (Below.refl _ _) (by omega) _)
   ·exact grown_new G4.out (Nat.le_refl _) (Below.setRow (Below.refl _ _) (Nat.le_refl _) _) (by simp)
theorem ret_str {fn:Func} {P:Ending→World→Prop} (p:Tmp) {ty:TypeId} (hr:fn.results= #[.cell p ty]) {tmps:Array Value} {w:World} (g:Nat) (t:TypeId) (cs:Array Value) {d:TypeDesc}
  (hu:Tryz.prog.underlying ty=some d) (hd:d.isRow=true) (hi:(Tryz.prog.info? ty).map (·.size)=some cs.size)
  (hp:tmps.getD p undef= .pointer (some ⟨g,0,none⟩)) (hg:w.heap[g]? =some (.cells cs t (0,0))) (h:P (.returned (.agg cs)) w):bodyPost Tryz.prog fn P .ret ⟨tmps,[]⟩ w:=
 bodyPost_ret (a:=⟨tmps,[]⟩) (v:=.agg cs) (results_cell_row hr tmps w g t cs (0,0) d hp hg hu (by cases d<;>first | rfl | (cases hd)) hi) rfl h
theorem ret_str2 {fn:Func} {P:Ending→World→Prop} (p u:Tmp) {ty:TypeId} (hr:fn.results= #[.cell p ty,.tmp u]) {tmps:Array Value} {w:World} (g:Nat) (t:TypeId) (cs:Array Value) {d:TypeDesc} (x:Value)
  (hu:Tryz.prog.underlying ty=some d) (hd:d.isRow=true) (hi:(Tryz.prog.info? ty).map (·.size)=some cs.size)
  (hp:tmps.getD p undef= .pointer (some ⟨g,0,none⟩)) (hx:tmps.getD u undef=x) (hg:w.heap[g]? =some (.cells cs t (0,0))) (h:P (.returned (.tuple #[.agg cs,x])) w):bodyPost Tryz.prog fn P .ret ⟨tmps,[]⟩ w:=
 bodyPost_ret (a:=⟨tmps,[]⟩) (v:=.tuple #[.agg cs,x]) (by
  rw [results_cell_tmp hr,hp,hx]
  simp only [asAddr,Sem.run_pure,Result.andThen_ok,run_loadVar_row w g t ty cs (0,0) d hg hu (by cases d<;>first | rfl | (cases hd)) hi]) rfl h
structure FrRw (w:World) (base:Nat) (r:Rw):Prop where
 ok:r.Ok w
 lo:∀x,r.p=some x→r.R≠[]→base≤x.block
theorem FrRw.later {w w':World} {base:Nat} {r:Rw} (h:FrRw w base r) (hb:Below w.heap.size w w'):FrRw w' base r:=⟨h.ok.later hb,h.lo⟩
theorem FrRw.base {w:World} {base base':Nat} {r:Rw} (h:FrRw w base r) (hb:base'≤base):FrRw w base' r:=⟨h.ok,fun x hx hR=>Nat.le_trans hb (h.lo x hx hR)⟩
theorem rw_keep {w w':World} {r:Rw} (h:r.Ok w) (hk:∀x,r.p=some x→r.R≠[]→w'.heap[x.block]? =w.heap[x.block]?):r.Ok w':=
 ⟨⟨h.ints.size,h.ints.le,h.ints.ok,h.ints.at'.imp id fun ⟨g,o,hp,hx⟩=>⟨g,o,hp,fun i hi=>by
  have hR:r.R≠[]:=by rintro e;rw [e] at hi;simp at hi
  rw [World.cell?_of_block (w:=w) (w':=w') (a:=⟨g,o+i,none⟩) (hk ⟨g,o,none⟩ hp hR)]
  exact hx i hi⟩⟩,h.top⟩
theorem FrRw.keep {w w':World} {base:Nat} {r:Rw} (h:FrRw w base r) (hk:∀k,base≤k→k<w.heap.size→w'.heap[k]? =w.heap[k]?):FrRw w' base r:=
 ⟨rw_keep h.ok fun x hx hR=>hk _ (h.lo x hx hR) (by
  rcases h.ok.ints.at' with h0 | ⟨g,o,hp,hc⟩
  ·exact absurd h0 hR
  ·rw [hx] at hp
   obtain rfl:x=⟨g,o,Option.none⟩:=by simpa using hp
   have:=hc 0 (List.length_pos_iff.2 hR)
   exact block_lt_of_cell this),h.lo⟩
theorem FrRw.lt {w:World} {base:Nat} {r:Rw} (h:FrRw w base r):∀x,r.p=some x→r.R≠[]→x.block<w.heap.size:=fun x hx hR=>by
 rcases h.ok.ints.at' with h0 | ⟨g,o,hp,hc⟩
 ·exact absurd h0 hR
 ·rw [hx] at hp
  obtain rfl:x=⟨g,o,Option.none⟩:=by simpa using hp
  have:=hc 0 (List.length_pos_iff.2 hR)
  exact block_lt_of_cell this
theorem fr_none (w:World) (base:Nat):FrRw w base ⟨Option.none,0,0,[]⟩:=⟨⟨⟨rfl,Nat.le_refl _,(fun x hx=>by cases hx),Or.inl rfl⟩,by simp⟩,(fun x hx=>by cases hx)⟩
theorem fr_of_own {w:World} {base:Nat} {v:Value} {L:List Int} (h:w.ownsRow base 2 1 v L.length (ivs L)) (hL:∀x∈L,-9223372036854775808≤x∧x≤9223372036854775807) (hl:L.length≤9223372036854775807):∃r:Rw,v=r.val∧r.R=L∧r.n=L.length∧FrRw w base r:=by
 rcases h.2 with ⟨rfl,h0⟩ | ⟨g,cap,cur,rfl,hb,hg,hle,hm,hs,ht⟩
 ·obtain rfl:=List.length_eq_zero_iff.1 h0
  exact ⟨⟨none,0,0,[]⟩,rfl,rfl,rfl,fr_none _ _⟩
 ·refine ⟨⟨some ⟨g,0,none⟩,L.length,cap,L⟩,rfl,rfl,rfl,⟨(OwnRow.ints (base:=base) h hL),hl⟩,fun x hx _=>?_⟩
  obtain rfl:x=⟨g,0,none⟩:=by simpa using hx.symm
  exact hb
theorem past_okR {s:Rd} {n:Nat} (h:Sm.allB s.R):Sm.allB (s.past n).R:=by
 unfold Rd.past Rd.refuse
 split
 ·exact fun x hx=>h x (List.mem_of_mem_drop hx)
 ·split<;>exact h
theorem readN_in:∀(n:Nat) (s:Rd) (L:List Int),Sm.allB s.R→(∀x∈L,-9223372036854775808≤x∧x≤9223372036854775807)→∀x∈(readN n s L).1,-9223372036854775808≤x∧x≤9223372036854775807
 | 0,s,L,_,h=>h
 | n+1,s,L,hs,h=>by
  show ∀x∈(if s.e=0 then readN n (s.past 8) (L++[s.numV]) else (L,s)).1,_
  split
  ·exact readN_in n _ _ (past_okR hs) (fun x hx=>by
    rcases List.mem_append.1 hx with hx | hx
    ·exact h x hx
    ·simp only [List.mem_cons,List.not_mem_nil,or_false] at hx
     rw [hx]
     exact numV_in hs)
  ·exact h
theorem readN_len:∀(n:Nat) (s:Rd) (L:List Int),(readN n s L).1.length≤L.length+n
 | 0,s,L=>Nat.le_refl _
 | n+1,s,L=>by
  show (if s.e=0 then readN n (s.past 8) (L++[s.numV]) else (L,s)).1.length≤_
  split
  ·have:=readN_len n (s.past 8) (L++[s.numV])
   simp at this
   omega
  ·simp
theorem readN_R:∀(n:Nat) (s:Rd) (L:List Int),Sm.allB s.R→Sm.allB (readN n s L).2.R∧(readN n s L).2.R.length≤s.R.length
 | 0,s,L,h=>⟨h,Nat.le_refl _⟩
 | n+1,s,L,h=>by
  show Sm.allB (if s.e=0 then readN n (s.past 8) (L++[s.numV]) else (L,s)).2.R∧(if s.e=0 then readN n (s.past 8) (L++[s.numV]) else (L,s)).2.R.length≤_
  split
  ·have:=readN_R n (s.past 8) (L++[s.numV]) (past_okR h)
   exact ⟨this.1,Nat.le_trans this.2 (Rd.past_len s 8)⟩
  ·exact ⟨h,Nat.le_refl _⟩
theorem rowN_okR {s:Rd} {m:Int} (h:Sm.allB s.R):Sm.allB (s.rowN m).R:=by
 unfold Rd.rowN
 split
 ·exact past_okR h
 ·exact past_okR h
theorem rowV_in {s:Rd} {m:Int} (h:Sm.allB s.R):∀x∈s.rowV m,-9223372036854775808≤x∧x≤9223372036854775807:=by
 unfold Rd.rowV
 split
 ·exact readN_in _ _ _ (rowN_okR h) (fun x hx=>by cases hx)
 ·intro x hx;cases hx
theorem rowV_len {s:Rd} {m:Int} (h:Sm.allB s.R):(s.rowV m).length≤255:=by
 unfold Rd.rowV
 split
 ·have h1:=readN_len (Cm.val (s.part 1)) (s.rowN m) []
  have h2:=val1 h
  unfold Rd.row
  simp at h1
  omega
 ·simp
theorem row_R {s:Rd} {m:Int} (h:Sm.allB s.R):Sm.allB (s.row m).2.R∧(s.row m).2.R.length≤s.R.length:=by
 have:=readN_R (Cm.val (s.part 1)) (s.rowN m) [] (rowN_okR h)
 exact ⟨this.1,Nat.le_trans this.2 (rowN_len s m)⟩
theorem truth_R {s:Rd} (h:Sm.allB s.R):Sm.allB s.truth.R∧s.truth.R.length≤s.R.length:=by
 unfold Rd.truth
 split
 ·exact ⟨past_okR h,Rd.past_len s 1⟩
 ·exact ⟨past_okR h,Rd.past_len s 1⟩
theorem count_R {s:Rd} {m:Int} (h:Sm.allB s.R):Sm.allB (s.count m).R∧(s.count m).R.length≤s.R.length:=by
 unfold Rd.count
 split
 ·refine ⟨?_,Nat.le_trans (Rd.refuse_len _ _) (Rd.past_len s 3)⟩
  have:=past_okR (n:=3) h
  unfold Rd.refuse
  split<;>exact this
 ·exact ⟨past_okR h,Rd.past_len s 3⟩
theorem countV_in {s:Rd} {m:Int} (_h:Sm.allB s.R) (hm:0≤m):0≤s.countV m∧s.countV m≤1048576:=by
 unfold Rd.countV
 split<;>omega
def _root_.Go.Proofs.YtinihaflmdihaaaGreat.Rd.entV (s:Rd) (m:Int):PE:=⟨s.truth.rowV m,s.truthV⟩
def _root_.Go.Proofs.YtinihaflmdihaaaGreat.Rd.entN (s:Rd) (m:Int):Rd:=(s.truth.row m).2
def _root_.Go.Proofs.YtinihaflmdihaaaGreat.Rd.k1 (s:Rd):Rd:=s.past 32
def _root_.Go.Proofs.YtinihaflmdihaaaGreat.Rd.k2 (s:Rd):Rd:=s.k1.count 1048576
def _root_.Go.Proofs.YtinihaflmdihaaaGreat.Rd.k3 (s:Rd):Rd:=s.k2.count 1048576
def _root_.Go.Proofs.YtinihaflmdihaaaGreat.Rd.k4 (s:Rd) (m:Int):Rd:=(s.k3.row m).2
def _root_.Go.Proofs.YtinihaflmdihaaaGreat.Rd.k5 (s:Rd) (m:Int):Rd:=((s.k4 m).row m).2
def _root_.Go.Proofs.YtinihaflmdihaaaGreat.Rd.kidN (s:Rd) (m:Int):Rd:=((s.k5 m).row m).2
def _root_.Go.Proofs.YtinihaflmdihaaaGreat.Rd.kidV (s:Rd) (m:Int):PK:=⟨s.digV,s.k3.rowV m,(s.k4 m).rowV m,s.k1.countV 1048576,s.k2.countV 1048576,(s.k5 m).rowV m⟩
theorem ent_R {s:Rd} {m:Int} (h:Sm.allB s.R):Sm.allB (s.entN m).R∧(s.entN m).R.length≤s.R.length:=by
 have h1:=truth_R h
 have h2:=row_R (m:=m) h1.1
 exact ⟨h2.1,Nat.le_trans h2.2 h1.2⟩
section
variable {s:Rd} {m:Int} (h:Sm.allB s.R)
include h
theorem k1_R:Sm.allB s.k1.R∧s.k1.R.length≤s.R.length:=by
 unfold Rd.k1
 exact ⟨past_okR h,Rd.past_len s 32⟩
theorem k2_R:Sm.allB s.k2.R∧s.k2.R.length≤s.R.length:=by
 have h1:=k1_R h
 have h2:=count_R (m:=1048576) h1.1
 unfold Rd.k2
 exact ⟨h2.1,Nat.le_trans h2.2 h1.2⟩
theorem k3_R:Sm.allB s.k3.R∧s.k3.R.length≤s.R.length:=by
 have h1:=k2_R h
 have h2:=count_R (m:=1048576) h1.1
 unfold Rd.k3
 exact ⟨h2.1,Nat.le_trans h2.2 h1.2⟩
theorem k4_R:Sm.allB (s.k4 m).R∧(s.k4 m).R.length≤s.R.length:=by
 have h1:=k3_R h
 have h2:=row_R (m:=m) h1.1
 unfold Rd.k4
 exact ⟨h2.1,Nat.le_trans h2.2 h1.2⟩
theorem k5_R:Sm.allB (s.k5 m).R∧(s.k5 m).R.length≤s.R.length:=by
 have h1:=k4_R (m:=m) h
 have h2:=row_R (m:=m) h1.1
 unfold Rd.k5
 exact ⟨h2.1,Nat.le_trans h2.2 h1.2⟩
theorem kid_R:Sm.allB (s.kidN m).R∧(s.kidN m).R.length≤s.R.length:=by
 have h1:=k5_R (m:=m) h
 have h2:=row_R (m:=m) h1.1
 unfold Rd.kidN
 exact ⟨h2.1,Nat.le_trans h2.2 h1.2⟩
end
def PN.keyOf (n:PN):List Int:=if n.kind=2 then (n.rows.headD ⟨[],false⟩).row else if n.kind=3 then (n.kids.headD PK.none).key else []
theorem PN.kinds {n:PN} {d:Int} (h:n.right d=true):(1≤d∧d≤8)∧(∀e∈n.rows,(e.row.length:Int)=d)∧(∀k∈n.kids,k.right d=true)∧
  ((n.kind=1∧n.rows.length=1∧n.kids.length=2)∨(n.kind=2∧1≤n.rows.length∧n.rows.length≤4∧n.kids.length=0)∨(n.kind=3∧n.rows.length=0∧2≤n.kids.length∧n.kids.length≤4∧∀k∈n.kids,(k.key.length:Int)=d)):=by
 rw [PN.right_shape,Bool.and_eq_true,Bool.and_eq_true,Bool.and_eq_true,decide_eq_true_iff] at h
 obtain ⟨⟨⟨hd,hs⟩,hr⟩,hk⟩:=h
 refine ⟨hd,fun e he=>of_decide_eq_true (List.all_eq_true.1 hr e he),fun k hkm=>List.all_eq_true.1 hk k hkm,?_⟩
 unfold PN.shape at hs
 split at hs
 ·rename_i k1
  rw [Bool.and_eq_true,Bool.and_eq_true,decide_eq_true_iff,decide_eq_true_iff] at hs
  exact Or.inl ⟨k1,hs.1.1,hs.1.2⟩
 ·split at hs
  ·rename_i k2
   rw [Bool.and_eq_true,Bool.and_eq_true,Bool.and_eq_true,decide_eq_true_iff,decide_eq_true_iff,decide_eq_true_iff] at hs
   exact Or.inr (Or.inl ⟨k2,hs.1.1.1,hs.1.1.2,hs.1.2⟩)
  ·split at hs
   ·rename_i k3
    rw [Bool.and_eq_true,Bool.and_eq_true,Bool.and_eq_true,decide_eq_true_iff,decide_eq_true_iff,decide_eq_true_iff] at hs
    exact Or.inr (Or.inr ⟨k3,hs.1.1.1,hs.1.1.2,hs.1.2,fun k hkm=>of_decide_eq_true (List.all_eq_true.1 hs.2 k hkm)⟩)
   ·cases hs
def KeyPost (w:World) (R:List Int) (e:Ending) (w':World):Prop:=∃r:Rw,e= .returned r.val∧r.R=R∧FrRw w' w.heap.size r∧Below w.heap.size w w'
theorem fr_own {w:World} {base g n c:Nat} {R:List Int} (h:OwnRow w base g n c R) (hR:∀x∈R,-9223372036854775808≤x∧x≤9223372036854775807) (hg:base≤g) (hn:n≤8):FrRw w base ⟨some ⟨g,0,none⟩,n,c,R⟩:=by
 refine ⟨⟨h.ints hR,by show n≤_;omega⟩,fun x hx _=>?_⟩
 obtain rfl:x=⟨g,0,none⟩:=by simpa using hx.symm
 exact hg
theorem key_any (kind:Nat) (p:Option Addr) (n c:Nat) (q:Option Addr) (m f:Nat) (E:List En) (K:List Kd) (d:Int) (w:World) (hE:EntsIn w p n c E) (hK:KidsIn w q m f K) (hr:(pnOf kind E K).right d=true):
  Calls Tryz.prog 243 #[.agg #[.int .u8 kind,.slice p n c,.slice q m f]] w (KeyPost w (pnOf kind E K).keyOf):=by
 have hb1:Below w.heap.size w (w.alloc (.cells #[.int .u8 kind,.slice p n c,.slice q m f] 81)):=(Below.refl _ _).alloc (Nat.le_refl _) _
 have hn:=NodeAt.start w kind p n c q m f
 obtain ⟨hd,hrow,hkid,hk⟩:=PN.kinds hr
 have HE:=yH (hE.later hb1)
 have HK:=yH (hK.later hb1)
 have HB:=yH hb1
 have HN:=yH hn
 have HES:=yH hE.size
 have HKS:=yH hK.size
 clear hr hb1 hn hE hK
 rcases hk with ⟨k1,-,-⟩ | ⟨k2,h1,h2,-⟩ | ⟨k3,-,h1,h2,hkey⟩
 ·obtain rfl:kind=1:=k1
  have HKO:=yH (show (pnOf 1 E K).keyOf=[] from rfl)
  clear hrow hkid
  go_enter Tryz.func243,Tryz.ntmps243
  go_upto_region 1 with fail
  generalize w.alloc (.cells #[.int .u8 (1:Nat),.slice p n c,.slice q m f] 81)=w1 at *
  obtain ⟨t0,t1,t2⟩:=HN.out.cells
  go_wp2_with fail
  go_ret
  exact ⟨⟨none,0,0,[]⟩,rfl,HKO.out.symm,fr_none _ _,HB.out⟩
 ·obtain rfl:kind=2:=k2
  have hn1:1≤n:=by rw [HES.out];simpa [pnOf] using h1
  obtain ⟨g,o,rfl,c1,c2,hok⟩:=HE.out.get 0 (by omega)
  obtain ⟨e,E',rfl⟩:∃e E',E=e::E':=by
   cases E with
   | nil=>have:=HES.out;simp at this;omega
   | cons e E'=>exact ⟨e,E',rfl⟩
  have HKO:=yH (show (pnOf 2 (e::E') K).keyOf=e.row.R from rfl)
  have hlen:=hrow e.pe (by simp [pnOf])
  have hlen:(e.row.R.length:Int)=d:=hlen
  simp only [List.getD_cons_zero,Nat.zero_mul,Nat.add_zero] at c1 hok
  have hrn:=hok.ints.size
  have HC:=yH (rowclone_any e.row.p e.row.n e.row.c e.row.R _ hok.ints (by omega) (by omega))
  have HIN:=yH hok.ints.ok
  have HN8:=yH (show e.row.n≤8 from by omega)
  have i1:(0:Int)<n:=by omega
  unfold Rw.val at c1
  clear hrow hkid c2 hlen hrn hok h1 h2
  go_enter Tryz.func243,Tryz.ntmps243
  go_upto_region 1 with fail
  generalize w.alloc (.cells #[.int .u8 (2:Nat),.slice (some ⟨g,o,none⟩) n c,.slice q m f] 81)=w1 at *
  obtain ⟨t0,t1,t2⟩:=HN.out.cells
  go_wp2_with (go_at_call 271;refine HC.out.mono ?_;rintro _ w2 ⟨g2,k2,rfl,o2,hg2,b2⟩;have HF2:=yH (fr_own o2 HIN.out hg2 HN8.out);have HB2:=yH (HB.out.trans (b2.mono HB.out.size));clear o2 hg2 b2)
  go_ret
  exact ⟨⟨some ⟨g2,0,none⟩,e.row.n,k2,e.row.R⟩,rfl,HKO.out.symm,HF2.out.base HB.out.size,HB2.out⟩
 ·obtain rfl:kind=3:=k3
  have hn1:2≤m:=by rw [HKS.out];simpa [pnOf] using h1
  obtain ⟨g,o,rfl,hrg,hok⟩:=HK.out.get 0 (by omega)
  obtain ⟨e,K',rfl⟩:∃e K',K=e::K':=by
   cases K with
   | nil=>have:=HKS.out;simp at this;omega
   | cons e K'=>exact ⟨e,K',rfl⟩
  have HKO:=yH (show (pnOf 3 E (e::K')).keyOf=e.key.R from rfl)
  have hlen:=hkey e.pk (by simp [pnOf])
  have hlen:(e.key.R.length:Int)=d:=hlen
  simp only [List.getD_cons_zero,Nat.zero_mul,Nat.add_zero] at hrg hok
  have c1:=(kat_of hrg hok.len).key
  have hrn:=hok.key.ints.size
  have HC:=yH (rowclone_any e.key.p e.key.n e.key.c e.key.R _ hok.key.ints (by omega) (by omega))
  have HIN:=yH hok.key.ints.ok
  have HN8:=yH (show e.key.n≤8 from by omega)
  have i1:(0:Int)<m:=by omega
  unfold Rw.val at c1
  clear hrow hkid hrg hlen hrn hok h1 h2 hkey
  go_enter Tryz.func243,Tryz.ntmps243
  go_upto_region 1 with fail
  generalize w.alloc (.cells #[.int .u8 (3:Nat),.slice p n c,.slice (some ⟨g,o,none⟩) m f] 81)=w1 at *
  obtain ⟨t0,t1,t2⟩:=HN.out.cells
  go_wp2_with (go_at_call 271;refine HC.out.mono ?_;rintro _ w2 ⟨g2,k2,rfl,o2,hg2,b2⟩;have HF2:=yH (fr_own o2 HIN.out hg2 HN8.out);have HB2:=yH (HB.out.trans (b2.mono HB.out.size));clear o2 hg2 b2)
  go_ret
  exact ⟨⟨some ⟨g2,0,none⟩,e.key.n,k2,e.key.R⟩,rfl,HKO.out.symm,HF2.out.base HB.out.size,HB2.out⟩
end Go.Proofs.YtinihaflmdihaaaGreat.Nd
