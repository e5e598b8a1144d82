/- ShaWriteC, ShaWriteD, ShaDone. -/
import Derived.Test.YtinihaflmdihaaaGreatW1
import Derived.Test.YtinihaflmdihaaaGreatW2
import Derived.Test.YtinihaflmdihaaaGreatW20
set_option maxRecDepth 100000
set_option maxHeartbeats 8000000
set_option linter.unusedVariables false
set_option linter.unusedSimpArgs false
namespace Go.Proofs.YtinihaflmdihaaaGreat
open Go.RowKit
open List renaming setIfInBounds_toArray → sA, set_cons_zero → sZ, set_cons_succ → sS
theorem write_c (T B:List Nat) (g:Nat) (p:Option Addr) (len cap:Nat) (w:World) (r:Nat) (hr:T.length%64=r) (hr0:0<r) (hs:r+len<64) (v:Sm.V8) (bl:List Nat) (hh:Held T v bl)
  (hg:w.heap[g]? =some (.cells (stL v bl T.length).toArray 303 (0,0)))
  (hB:Bytes w p len cap B) (hn:B≠[]→∀a,p=some a→a.block≠g) (hl:(T++B).length<1152921504606846976):
  Calls Tryz.prog 246 #[.pointer (some ⟨g,0,none⟩),.slice p len cap] w fun e w'=>e= .returned (.tuple #[])∧StateAt w' g (T++B)∧w.grownBy w' (some g):=by
 have hL0:((T.length:Int)==0)=false:=by
  have:T≠[]:=by rintro rfl;simp at hr;omega
  have:=List.length_pos_iff.2 this
  simp;omega
 have hT:T≠[]:=by rintro rfl;simp at hr;omega
 have hL1:(T.length:Int)%64=(r:Int):=by omega
 have hcl:w.cell? ⟨g,72,none⟩=some (.int .u64 (T.length:Nat)):=st_len hg hh.size
 have hfl:w.frozen? ⟨g,72,none⟩=false:=frozen_of_row w g _ _ _ hg
 have hsl:=st_set_len hg hh.size (T.length+len)
 obtain ⟨N,hN⟩:∃N,N=T.length:=⟨_,rfl⟩
 rw [← hN] at hcl hL0 hL1 hsl
 have hlen:=hB.size
 have hb1:N+len<1152921504606846976:=by simp at hl;omega
 have HLT0:=Lib.hid (show (T++B).length=N+len from by simp;omega)
 have h0:(0:Int)<r∧(r:Int)<64:=by omega
 have HBB:=Lib.hid (hB.grown (grown_setCell w g 72 (.int .u64 ((N+len:Nat):Int))) hn)
 have HH:=Lib.hid hh
 have HSL:=Lib.hid hsl
 have HR:=Lib.hid hr
 have HT:=Lib.hid hT
 have HN:=Lib.hid hN
 have HLen:=Lib.hid hlen
 clear hg hh hB hN hlen hsl hr hT
 have hlt:(r:Int)+len<64:=by omega
 have hbs:=block_slice g r (by omega)
 rcases HBB.out.at' with hc | ⟨gb,ob,hp,hx⟩
 ·subst hc
  cases p with
  | none=>
   obtain rfl:len=0:=by have:=HBB.out.le;omega
   have hB0:B=[]:=List.length_eq_zero_iff.1 HLen.out.symm
   have hcp:=run_copy_none (P:=Tryz.prog) (w.setCell ⟨g,72,none⟩ (.int .u64 (N:Int))) 45 45 3 5 (some ⟨g,8+r,none⟩) none (64 - r) (64 - r) 0 0 A22 E5 (Nat.zero_min _)
   have HB0:=Lib.hid hB0
   clear hB0
   go_enter Tryz.func246,Tryz.ntmps246
   go_wp2_with fail
   (try simp only [Exit.inBlock,Exit.then])
   refine bodyPost_ret (results_none rfl _ _ _) rfl ?_
   have hT2:T++B=T:=by rw [HB0.out,List.append_nil]
   refine ⟨rfl,?_,grown_setCell _ _ _ _⟩
   rw [hT2]
   refine ⟨v,bl,HH.out,?_⟩
   rw [← HN.out]
   exact HSL.out
  | some x=>
   obtain rfl:len=0:=by have:=HBB.out.le;omega
   have hB0:B=[]:=List.length_eq_zero_iff.1 HLen.out.symm
   have hcp:=run_copy_none (P:=Tryz.prog) (w.setCell ⟨g,72,none⟩ (.int .u64 (N:Int))) 45 45 3 5 (some ⟨g,8+r,none⟩) (some x) (64 - r) (64 - r) 0 0 A22 E5 (Nat.zero_min _)
   have HB0:=Lib.hid hB0
   clear hB0
   go_enter Tryz.func246,Tryz.ntmps246
   go_wp2_with fail
   (try simp only [Exit.inBlock,Exit.then])
   refine bodyPost_ret (results_none rfl _ _ _) rfl ?_
   have hT2:T++B=T:=by rw [HB0.out,List.append_nil]
   refine ⟨rfl,?_,grown_setCell _ _ _ _⟩
   rw [hT2]
   refine ⟨v,bl,HH.out,?_⟩
   rw [← HN.out]
   exact HSL.out
 ·subst hp
  clear hx
  have hcp:=st_copy_in HSL.out HH.out.size HBB.out r len (by omega) (Nat.min_eq_left (by omega)).symm
  rw [show B.take len=B from List.take_of_length_le (by have:=HLen.out;omega)] at hcp
  rw [show ((N+len:Nat):Int)=(N:Int)+(len:Int) from by omega] at hcp
  go_enter Tryz.func246,Tryz.ntmps246
  go_wp2_with fail
  (try simp only [Exit.inBlock,Exit.then])
  refine bodyPost_ret (results_none rfl _ _ _) rfl ?_
  rw [show (N:Int)+(len:Int)=((N+len:Nat):Int) from by omega]
  have hrow:=st_set_block HSL.out HH.out.size r B (by have:=HLen.out;omega)
  refine ⟨rfl,⟨v,_,HH.out.small HR.out hr0 (by have:=HLen.out;omega) HBB.out.ok hl,?_⟩,grown_setCells (grown_setCell _ _ _ _) _ _⟩
  rw [HLT0.out]
  exact hrow
theorem write_d (T B:List Nat) (g:Nat) (p:Option Addr) (len cap:Nat) (w:World) (r m:Nat) (hr:T.length%64=r) (hr0:0<r) (hs:r+m=64) (hml:m≤len) (v:Sm.V8) (bl:List Nat) (hh:Held T v bl)
  (hg:w.heap[g]? =some (.cells (stL v bl T.length).toArray 303 (0,0)))
  (hB:Bytes w p len cap B) (hn:B≠[]→∀a,p=some a→a.block≠g) (hl:(T++B).length<1152921504606846976):
  Calls Tryz.prog 246 #[.pointer (some ⟨g,0,none⟩),.slice p len cap] w fun e w'=>e= .returned (.tuple #[])∧StateAt w' g (T++B)∧w.grownBy w' (some g):=by
 have hL0:((T.length:Int)==0)=false:=by
  have:T≠[]:=by rintro rfl;simp at hr;omega
  have:=List.length_pos_iff.2 this
  simp;omega
 have hT:T≠[]:=by rintro rfl;simp at hr;omega
 have hL1:(T.length:Int)%64=(r:Int):=by omega
 have hcl:w.cell? ⟨g,72,none⟩=some (.int .u64 (T.length:Nat)):=st_len hg hh.size
 have hfl:w.frozen? ⟨g,72,none⟩=false:=frozen_of_row w g _ _ _ hg
 have hsl:=st_set_len hg hh.size (T.length+len)
 obtain ⟨N,hN⟩:∃N,N=T.length:=⟨_,rfl⟩
 rw [← hN] at hcl hL0 hL1 hsl
 have hlen:=hB.size
 have hb1:N+len<1152921504606846976:=by simp at hl;omega
 have HLT0:=Lib.hid (show (T++B).length=N+len from by simp;omega)
 have h0:(0:Int)<r∧(r:Int)<64:=by omega
 have HBB:=Lib.hid (hB.grown (grown_setCell w g 72 (.int .u64 ((N+len:Nat):Int))) hn)
 have HH:=Lib.hid hh
 have HSL:=Lib.hid hsl
 have HR:=Lib.hid hr
 have HT:=Lib.hid hT
 have HN:=Lib.hid hN
 have HLen:=Lib.hid hlen
 clear hg hh hB hN hlen hsl hr hT
 have hbs:=block_slice g r (by omega)
 obtain ⟨gb,ob,hp,hx⟩:=HBB.out.ne (by intro e;have:=HLen.out;rw [e] at this;simp at this;omega)
 subst hp
 clear hx
 have hcp:=st_copy_in HSL.out HH.out.size HBB.out r m (by omega) (by rw [show 64 - r=m from by omega];exact (Nat.min_eq_right hml).symm)
 have HCPW:=Lib.hid (show ((N+len:Nat):Int)=(N:Int)+(len:Int) from by omega)
 rw [HCPW.out] at hcp
 have hm1:(r:Int)+m=64:=by omega
 have hm2:(0:Int)≤m∧(m:Int)≤len:=by omega
 have hcap0:=HBB.out.le
 rcases Nat.lt_or_eq_of_le (Nat.le_trans hml hcap0) with hmc | hmc
 ·go_enter Tryz.func246,Tryz.ntmps246
  go_wp2_with fail
  rw [← HCPW.out]
  generalize hW2:(w.setCell ⟨g,72,none⟩ (.int .u64 ((N+len:Nat):Int))).setCells g (8+r) (vals (B.take m))=W2
  obtain ⟨bl2,hbl2⟩:∃x,x=bl.take r++B.take m:=⟨_,rfl⟩
  have hlm:(B.take m).length=m:=by have:=HLen.out;simp;omega
  have hsz:=HH.out.size
  have hM2:Mid w W2 g v bl2 (N+len) (some ⟨gb,ob,none⟩) len cap B:=by
   have hrow2:=st_set_block HSL.out hsz r (B.take m) (by omega)
   rw [hW2,hlm,List.drop_eq_nil_of_le (by omega),List.append_nil,← hbl2] at hrow2
   have hgr:w.grownBy W2 (some g):=by rw [← hW2];exact grown_setCells (grown_setCell _ _ _ _) _ _
   have hgr2:(w.setCell ⟨g,72,none⟩ (.int .u64 ((N+len:Nat):Int))).grownBy W2 (some g):=by rw [← hW2];exact grown_setCells (World.grownBy.refl _ _) _ _
   exact ⟨hrow2,by have:=HLen.out;rw [hbl2];simp [hsz];omega,HBB.out.grown hgr2 hn,hn,hgr⟩
  have hbo2:Sm.allB bl2:=by
   rw [hbl2]
   intro x hx
   rcases List.mem_append.1 hx with hx | hx
   ·exact HH.out.bok x (List.mem_of_mem_take hx)
   ·exact HBB.out.ok x (List.mem_of_mem_take hx)
  have hst2:=Start.block (B:=B) HH.out HR.out hr0 hs (by have:=HLen.out;omega)
  rw [← hbl2] at hst2
  obtain ⟨V2,hV2⟩:∃V2,V2=Sm.blocks bl2 v 1:=⟨_,rfl⟩
  have HA2:=all_any v HH.out.vok bl2 (some ⟨g,8,none⟩) 64 64 W2.drew ((Bytes.block hM2.row hM2.size hbo2).heap rfl) (by rw [hM2.size])
  rw [hM2.size,show 64/64=1 from rfl,← hV2] at HA2
  rw [← hV2] at hst2
  have HAA2:=Lib.hid HA2
  have HM2:=Lib.hid hM2
  have HS2:=Lib.hid hst2
  have HVV2:=Lib.hid hst2.1
  have HBO2:=Lib.hid hbo2
  clear HA2 hM2 hst2 hbo2 hV2 hbl2 hW2 hsz hlm hcp hcl hfl hL0 hL1 HSL
  obtain ⟨a,b,c,d,e,f,h,k⟩:=v
  have c0:W2.cell? ⟨g,0,none⟩=some (.int .u32 a):=st_cell HM2.out.row 0 (by omega)
  have c1:W2.cell? ⟨g,1,none⟩=some (.int .u32 b):=st_cell HM2.out.row 1 (by omega)
  have c2:W2.cell? ⟨g,2,none⟩=some (.int .u32 c):=st_cell HM2.out.row 2 (by omega)
  have c3:W2.cell? ⟨g,3,none⟩=some (.int .u32 d):=st_cell HM2.out.row 3 (by omega)
  have c4:W2.cell? ⟨g,4,none⟩=some (.int .u32 e):=st_cell HM2.out.row 4 (by omega)
  have c5:W2.cell? ⟨g,5,none⟩=some (.int .u32 f):=st_cell HM2.out.row 5 (by omega)
  have c6:W2.cell? ⟨g,6,none⟩=some (.int .u32 h):=st_cell HM2.out.row 6 (by omega)
  have c7:W2.cell? ⟨g,7,none⟩=some (.int .u32 k):=st_cell HM2.out.row 7 (by omega)
  go_region_law ((go_simp;go_at_call 277;refine HAA2.out.mono ?_;rintro _ w3 ⟨rfl,hb4⟩;have m4:=Lib.hid (HM2.out.later (below_of hb4 rfl rfl rfl rfl));clear hb4;have hst4:=st_store m4.out.row m4.out.size V2;have hu8:=size8 V2))
  generalize hW5:w3.setCells g 0 (w32 V2.list)=W3
  have m5:=m4.out.words V2
  rw [hW5] at m5
  have HM3:=Lib.hid m5
  clear hW5 m5 hst4 hu8 m4 c0 c1 c2 c3 c4 c5 c6 c7
  go_wp2_with fail
  obtain ⟨T2,hT2⟩:∃x,x=T++B.take m:=⟨_,rfl⟩
  obtain ⟨B2,hB2⟩:∃x,x=B.drop m:=⟨_,rfl⟩
  have HET:=Lib.hid (show T2++B2=T++B from by rw [hT2,hB2,List.append_assoc,List.take_append_drop])
  have hl2:(T2++B2).length<1152921504606846976:=by rw [HET.out];exact hl
  have HLT2:=Lib.hid (show (T2++B2).length=N+len from by rw [HET.out];exact HLT0.out)
  have HTO2:=Lib.hid (show Sm.allB T2 from by
   rw [hT2]
   intro x hx
   rcases List.mem_append.1 hx with hx | hx
   ·exact HH.out.ok x hx
   ·exact HBB.out.ok x (List.mem_of_mem_take hx))
  rw [← hT2] at HS2
  have hM4:Mid w W3 g V2 bl2 (N+len) (some ⟨gb,ob+m,none⟩) (len - m) (cap - m) B2:=by
   have h0:=HM3.out
   exact ⟨h0.row,h0.size,by rw [hB2];exact h0.bytes.drop m hml,(fun hb a ha=>by cases ha;exact hn (by intro e0;rw [hB2,e0] at hb;simp at hb) ⟨gb,ob,none⟩ rfl),h0.grown⟩
  have HM4:=Lib.hid hM4
  clear hM4 HM3 hT2 hB2
  obtain ⟨len2,hlen2⟩:∃x,x=len - m:=⟨_,rfl⟩
  obtain ⟨cap2,hcap2⟩:∃x,x=cap - m:=⟨_,rfl⟩
  obtain ⟨ob2,hob2⟩:∃x,x=ob+m:=⟨_,rfl⟩
  rw [← hlen2,← hcap2,← hob2] at HM4
  rw [← hlen2,← hcap2,← hob2]
  clear hlen2 hcap2 hob2 hm1 hm2 hcap0 hmc hbs HCPW HBB HR HT
  obtain ⟨F,hF⟩:∃F,F=len2 - len2%64:=⟨_,rfl⟩
  rw [show (len2:Int) - (len2:Int)%64=(F:Int) from by omega]
  have hFl:F≤len2:=by omega
  have hF64:F%64=0:=by omega
  have HF:=Lib.hid hF
  have HF64:=Lib.hid hF64
  clear hF hF64
  have hcap:=HM4.out.bytes.le
  have a1:(0:Int)≤F∧(F:Int)≤cap2:=by omega
  obtain ⟨U,hU⟩:∃U,U=Sm.blocks (B2.take F) V2 ((B2.take F).length/64):=⟨_,rfl⟩
  have HA:=all_any V2 HVV2.out (B2.take F) (some ⟨gb,ob2,none⟩) F cap2 W3.drew ((HM4.out.bytes.take F hFl).heap rfl) (by have:=HF64.out;have:=HM4.out.bytes.size;simp;omega)
  rw [← hU] at HA
  have HAA:=Lib.hid HA
  have HU:=Lib.hid hU
  clear HA hU
  obtain ⟨a,b,c,d,e,f,h,k⟩:=V2
  have c0:W3.cell? ⟨g,0,none⟩=some (.int .u32 a):=st_cell HM4.out.row 0 (by omega)
  have c1:W3.cell? ⟨g,1,none⟩=some (.int .u32 b):=st_cell HM4.out.row 1 (by omega)
  have c2:W3.cell? ⟨g,2,none⟩=some (.int .u32 c):=st_cell HM4.out.row 2 (by omega)
  have c3:W3.cell? ⟨g,3,none⟩=some (.int .u32 d):=st_cell HM4.out.row 3 (by omega)
  have c4:W3.cell? ⟨g,4,none⟩=some (.int .u32 e):=st_cell HM4.out.row 4 (by omega)
  have c5:W3.cell? ⟨g,5,none⟩=some (.int .u32 f):=st_cell HM4.out.row 5 (by omega)
  have c6:W3.cell? ⟨g,6,none⟩=some (.int .u32 h):=st_cell HM4.out.row 6 (by omega)
  have c7:W3.cell? ⟨g,7,none⟩=some (.int .u32 k):=st_cell HM4.out.row 7 (by omega)
  go_region_law ((go_simp;go_at_call 277;refine HAA.out.mono ?_;rintro _ w5 ⟨rfl,hb4⟩;have m4:=Lib.hid (HM4.out.later (below_of hb4 rfl rfl rfl rfl));clear hb4;have hst4:=st_store m4.out.row m4.out.size U;have hu8:=size8 U))
  generalize hW5:w5.setCells g 0 (w32 U.list)=W5
  have m5:=m4.out.words U
  rw [hW5] at m5
  have M5:=Lib.hid m5
  clear hW5 m5 hst4 hu8 m4 c0 c1 c2 c3 c4 c5 c6 c7
  go_wp2_with fail
  rcases Nat.lt_or_eq_of_le (Nat.le_trans hFl hcap) with hcc | hcc
  ·have hcp:=st_copy M5.out F (by have:=HF.out;omega) hcc
   go_still_tail 7,(by kernel_rfl)
   go_wp2_with fail
   go_end0
   have hlF:(B2.drop F).length=len2 - F:=by have:=M5.out.bytes.size;simp;omega
   have hrow:=st_set_block (W:=W5.drew) M5.out.row M5.out.size 0 (B2.drop F) (by have:=HF.out;omega)
   have hfin:=Held.next HS2.out HTO2.out M5.out.bytes.ok hl2 M5.out.bytes.size HF.out HU.out M5.out.size HBO2.out
   refine ⟨rfl,⟨U,_,(by rw [← HET.out];exact hfin),?_⟩,?_⟩
   ·rw [hlF] at hrow
    rw [← HET.out]
    have h0:=HLT2.out
    (try simp only [List.nil_append] at h0)
    rw [h0]
    simpa using hrow
   ·exact grown_setCells (w1:=W5.drew) ⟨M5.out.grown.os,M5.out.grown.tape,M5.out.grown.output,M5.out.grown.size,M5.out.grown.block⟩ 8 _
  ·subst hcc
   obtain rfl:len2=F:=by omega
   have hcp:=run_copy_none (P:=Tryz.prog) W5.drew 45 45 3 5 (some ⟨g,8,none⟩) (some ⟨gb,ob2,none⟩) 64 64 0 0 A22 E5 (by rfl)
   go_still_tail 7,(by kernel_rfl)
   go_wp2_with fail
   go_end0
   have hfin:=Held.next HS2.out HTO2.out M5.out.bytes.ok hl2 M5.out.bytes.size HF.out HU.out M5.out.size HBO2.out
   have e1:B2.drop len2=[]:=List.drop_eq_nil_of_le (by have:=M5.out.bytes.size;omega)
   rw [e1,Nat.sub_self,List.drop_zero,List.nil_append] at hfin
   refine ⟨rfl,⟨U,bl2,(by rw [← HET.out];exact hfin),?_⟩,?_⟩
   ·rw [← HET.out];have h0:=HLT2.out;(try simp only [List.nil_append] at h0);rw [h0];exact M5.out.row
   ·exact ⟨M5.out.grown.os,M5.out.grown.tape,M5.out.grown.output,M5.out.grown.size,M5.out.grown.block⟩
 ·subst hmc
  obtain rfl:m=len:=by omega
  go_enter Tryz.func246,Tryz.ntmps246
  go_wp2_with fail
  rw [← HCPW.out]
  generalize hW2:(w.setCell ⟨g,72,none⟩ (.int .u64 ((N+m:Nat):Int))).setCells g (8+r) (vals (B.take m))=W2
  obtain ⟨bl2,hbl2⟩:∃x,x=bl.take r++B.take m:=⟨_,rfl⟩
  have hlm:(B.take m).length=m:=by have:=HLen.out;simp;omega
  have hsz:=HH.out.size
  have hM2:Mid w W2 g v bl2 (N+m) (some ⟨gb,ob,none⟩) m m B:=by
   have hrow2:=st_set_block HSL.out hsz r (B.take m) (by omega)
   rw [hW2,hlm,List.drop_eq_nil_of_le (by omega),List.append_nil,← hbl2] at hrow2
   have hgr:w.grownBy W2 (some g):=by rw [← hW2];exact grown_setCells (grown_setCell _ _ _ _) _ _
   have hgr2:(w.setCell ⟨g,72,none⟩ (.int .u64 ((N+m:Nat):Int))).grownBy W2 (some g):=by rw [← hW2];exact grown_setCells (World.grownBy.refl _ _) _ _
   exact ⟨hrow2,by have:=HLen.out;rw [hbl2];simp [hsz];omega,HBB.out.grown hgr2 hn,hn,hgr⟩
  have hbo2:Sm.allB bl2:=by
   rw [hbl2]
   intro x hx
   rcases List.mem_append.1 hx with hx | hx
   ·exact HH.out.bok x (List.mem_of_mem_take hx)
   ·exact HBB.out.ok x (List.mem_of_mem_take hx)
  have hst2:=Start.block (B:=B) HH.out HR.out hr0 hs (by have:=HLen.out;omega)
  rw [← hbl2] at hst2
  obtain ⟨V2,hV2⟩:∃V2,V2=Sm.blocks bl2 v 1:=⟨_,rfl⟩
  have HA2:=all_any v HH.out.vok bl2 (some ⟨g,8,none⟩) 64 64 W2.drew ((Bytes.block hM2.row hM2.size hbo2).heap rfl) (by rw [hM2.size])
  rw [hM2.size,show 64/64=1 from rfl,← hV2] at HA2
  rw [← hV2] at hst2
  have HAA2:=Lib.hid HA2
  have HM2:=Lib.hid hM2
  have HS2:=Lib.hid hst2
  have HVV2:=Lib.hid hst2.1
  have HBO2:=Lib.hid hbo2
  clear HA2 hM2 hst2 hbo2 hV2 hbl2 hW2 hsz hlm hcp hcl hfl hL0 hL1 HSL
  obtain ⟨a,b,c,d,e,f,h,k⟩:=v
  have c0:W2.cell? ⟨g,0,none⟩=some (.int .u32 a):=st_cell HM2.out.row 0 (by omega)
  have c1:W2.cell? ⟨g,1,none⟩=some (.int .u32 b):=st_cell HM2.out.row 1 (by omega)
  have c2:W2.cell? ⟨g,2,none⟩=some (.int .u32 c):=st_cell HM2.out.row 2 (by omega)
  have c3:W2.cell? ⟨g,3,none⟩=some (.int .u32 d):=st_cell HM2.out.row 3 (by omega)
  have c4:W2.cell? ⟨g,4,none⟩=some (.int .u32 e):=st_cell HM2.out.row 4 (by omega)
  have c5:W2.cell? ⟨g,5,none⟩=some (.int .u32 f):=st_cell HM2.out.row 5 (by omega)
  have c6:W2.cell? ⟨g,6,none⟩=some (.int .u32 h):=st_cell HM2.out.row 6 (by omega)
  have c7:W2.cell? ⟨g,7,none⟩=some (.int .u32 k):=st_cell HM2.out.row 7 (by omega)
  go_region_law ((go_simp;go_at_call 277;refine HAA2.out.mono ?_;rintro _ w3 ⟨rfl,hb4⟩;have m4:=Lib.hid (HM2.out.later (below_of hb4 rfl rfl rfl rfl));clear hb4;have hst4:=st_store m4.out.row m4.out.size V2;have hu8:=size8 V2))
  generalize hW5:w3.setCells g 0 (w32 V2.list)=W3
  have m5:=m4.out.words V2
  rw [hW5] at m5
  have HM3:=Lib.hid m5
  clear hW5 m5 hst4 hu8 m4 c0 c1 c2 c3 c4 c5 c6 c7
  go_wp2_with fail
  obtain ⟨T2,hT2⟩:∃x,x=T++B.take m:=⟨_,rfl⟩
  obtain ⟨B2,hB2⟩:∃x,x=B.drop m:=⟨_,rfl⟩
  have HET:=Lib.hid (show T2++B2=T++B from by rw [hT2,hB2,List.append_assoc,List.take_append_drop])
  have hl2:(T2++B2).length<1152921504606846976:=by rw [HET.out];exact hl
  have HLT2:=Lib.hid (show (T2++B2).length=N+m from by rw [HET.out];exact HLT0.out)
  have HTO2:=Lib.hid (show Sm.allB T2 from by
   rw [hT2]
   intro x hx
   rcases List.mem_append.1 hx with hx | hx
   ·exact HH.out.ok x hx
   ·exact HBB.out.ok x (List.mem_of_mem_take hx))
  rw [← hT2] at HS2
  have hM4:Mid w W3 g V2 bl2 (N+m) (some ⟨gb,ob,none⟩) 0 0 B2:=by
   have h0:=HM3.out
   have hB0:B2=[]:=by rw [hB2];exact List.drop_eq_nil_of_le (by have:=HLen.out;omega)
   exact ⟨h0.row,h0.size,by rw [hB0];exact ⟨rfl,Nat.le_refl _,fun x hx=>by simp at hx,Or.inr ⟨gb,ob,rfl,fun i hi=>by simp at hi⟩⟩,fun hb=>absurd hB0 hb,h0.grown⟩
  have HM4:=Lib.hid hM4
  have hFl:0≤0:=Nat.le_refl _
  clear hM4 HM3 hT2 hB2 hm1 hm2 hcap0 hbs HCPW HBB HR HT
  obtain ⟨U,hU⟩:∃U,U=Sm.blocks (B2.take 0) V2 ((B2.take 0).length/64):=⟨_,rfl⟩
  have HA:=all_any V2 HVV2.out (B2.take 0) (some ⟨gb,ob,none⟩) 0 0 W3.drew ((HM4.out.bytes.take 0 hFl).heap rfl) (by simp)
  rw [← hU] at HA
  have HAA:=Lib.hid HA
  have HU:=Lib.hid hU
  clear HA hU
  obtain ⟨a,b,c,d,e,f,h,k⟩:=V2
  have c0:W3.cell? ⟨g,0,none⟩=some (.int .u32 a):=st_cell HM4.out.row 0 (by omega)
  have c1:W3.cell? ⟨g,1,none⟩=some (.int .u32 b):=st_cell HM4.out.row 1 (by omega)
  have c2:W3.cell? ⟨g,2,none⟩=some (.int .u32 c):=st_cell HM4.out.row 2 (by omega)
  have c3:W3.cell? ⟨g,3,none⟩=some (.int .u32 d):=st_cell HM4.out.row 3 (by omega)
  have c4:W3.cell? ⟨g,4,none⟩=some (.int .u32 e):=st_cell HM4.out.row 4 (by omega)
  have c5:W3.cell? ⟨g,5,none⟩=some (.int .u32 f):=st_cell HM4.out.row 5 (by omega)
  have c6:W3.cell? ⟨g,6,none⟩=some (.int .u32 h):=st_cell HM4.out.row 6 (by omega)
  have c7:W3.cell? ⟨g,7,none⟩=some (.int .u32 k):=st_cell HM4.out.row 7 (by omega)
  go_region_law ((go_simp;go_at_call 277;refine HAA.out.mono ?_;rintro _ w5 ⟨rfl,hb4⟩;have m4:=Lib.hid (HM4.out.later (below_of hb4 rfl rfl rfl rfl));clear hb4;have hst4:=st_store m4.out.row m4.out.size U;have hu8:=size8 U))
  generalize hW5:w5.setCells g 0 (w32 U.list)=W5
  have m5:=m4.out.words U
  rw [hW5] at m5
  have M5:=Lib.hid m5
  clear hW5 m5 hst4 hu8 m4 c0 c1 c2 c3 c4 c5 c6 c7
  go_wp2_with fail
  have hcp:=run_copy_none (P:=Tryz.prog) W5.drew 45 45 3 5 (some ⟨g,8,none⟩) (some ⟨gb,ob,none⟩) 64 64 0 0 A22 E5 (by rfl)
  go_still_tail 7,(by kernel_rfl)
  go_wp2_with fail
  go_end0
  have hfin:=Held.next HS2.out HTO2.out M5.out.bytes.ok hl2 M5.out.bytes.size (show 0=0 - 0%64 from rfl) HU.out M5.out.size HBO2.out
  have e1:B2.drop 0=[]:=List.drop_eq_nil_of_le (by have:=M5.out.bytes.size;omega)
  rw [e1,Nat.sub_self,List.drop_zero,List.nil_append] at hfin
  refine ⟨rfl,⟨U,bl2,(by rw [← HET.out];exact hfin),?_⟩,?_⟩
  ·rw [← HET.out];have h0:=HLT2.out;(try simp only [List.nil_append] at h0);rw [h0];exact M5.out.row
  ·exact ⟨M5.out.grown.os,M5.out.grown.tape,M5.out.grown.output,M5.out.grown.size,M5.out.grown.block⟩
theorem write_any (T B:List Nat) (g:Nat) (p:Option Addr) (len cap:Nat) (w:World) (hs:StateAt w g T)
  (hB:Bytes w p len cap B) (hn:B≠[]→∀a,p=some a→a.block≠g) (hl:(T++B).length<1152921504606846976):
  Calls Tryz.prog 246 #[.pointer (some ⟨g,0,none⟩),.slice p len cap] w fun e w'=>e= .returned (.tuple #[])∧StateAt w' g (T++B)∧w.grownBy w' (some g):=by
 obtain ⟨v,bl,hh,hg⟩:=hs
 by_cases h0:T=[]
 ·exact write_a T B g p len cap w h0 v bl hh hg hB hn hl
 ·by_cases h1:T.length%64=0
  ·exact write_b T B g p len cap w h0 h1 v bl hh hg hB hn hl
  ·by_cases h2:T.length%64+len<64
   ·exact write_c T B g p len cap w _ rfl (by omega) h2 v bl hh hg hB hn hl
   ·exact write_d T B g p len cap w _ (64 - T.length%64) rfl (by omega) (by omega) (by omega) v bl hh hg hB hn hl
theorem U36':(match Tryz.prog.underlying 303 with | some (.struct _)=>true | _=>false)=true:=by kernel_rfl
theorem U36:∃fs,Tryz.prog.underlying 303=some (.struct fs):=by
 have h:=U36'
 split at h
 ·rename_i fs hfs;exact ⟨fs,hfs⟩
 ·cases h
def zero8:Sm.V8:=⟨0,0,0,0,0,0,0,0⟩
theorem Z36:(Tryz.prog.info? 303).map (fun i=>(i.zero,i.size))=some (some (.agg (stL zero8 (zeros 64) 0).toArray),73):=by kernel_rfl
theorem held_zero:Held [] zero8 (zeros 64):=
 ⟨fun x hx=>by simp at hx,⟨by decide,by decide,by decide,by decide,by decide,by decide,by decide,by decide⟩,by decide,fun h=>absurd rfl h,by simp [zeros],zeros_ok 64,by simp⟩
theorem state_zero {w:World} {g:Nat} (h:w.heap[g]? =some (.cells (stL zero8 (zeros 64) 0).toArray 303 (0,0))):StateAt w g []:=⟨_,_,held_zero,h⟩
theorem stL_one (v:Sm.V8) (bl:List Nat) (L:Nat):((stL v bl L).toArray).all (·.oneCell')=true:=
 all_oneCell_toArray fun u hu=>by
  simp only [stL,List.mem_append,List.mem_singleton] at hu
  rcases hu with (hu | hu) | rfl
  ·exact u32_of_w32 _ u hu
  ·exact vals_one _ u hu
  ·rfl
theorem stL_size (v:Sm.V8) (bl:List Nat) (L:Nat) (h:bl.length=64):((stL v bl L).toArray).size=73:=by simp [stL_length v bl L h]
theorem StateAt.later {w w':World} {g:Nat} {T:List Nat} (h:StateAt w g T) (hb:Below w.heap.size w w'):StateAt w' g T:=by
 obtain ⟨v,bl,hh,hg⟩:=h
 exact ⟨v,bl,hh,(hb.block _ (Array.getElem?_eq_some_iff.1 hg).1).trans hg⟩
theorem StateAt.lt {w:World} {g:Nat} {T:List Nat} (h:StateAt w g T):g<w.heap.size:=by
 obtain ⟨v,bl,hh,hg⟩:=h
 exact (Array.getElem?_eq_some_iff.1 hg).1
theorem sum_size (B:List Nat):(u8s (Sm.sum B)).size=32:=rfl
theorem bytes4_len (v:Sm.V8):(u8s (Sm.bytesOf v)).size=32:=rfl
theorem done_any (T:List Nat) (g:Nat) (w:World) (hs:StateAt w g T) (hl:T.length<576460752303423488):
  Calls Tryz.prog 248 #[.pointer (some ⟨g,0,none⟩)] w fun e w'=>e= .returned (.agg (u8s (Sm.sum T)))∧Below w.heap.size w w':=by
 have hlt:=hs.lt
 obtain ⟨v,bl,hh,hg⟩:=hs
 obtain ⟨fs,hu⟩:=U36
 have hz:=(zero_of_info Z25).1
 have hz6:=(zero_of_info Z36).1
 have hg1:(w.alloc (.cells (u8s (zeros 32)) 30)).heap[g]? =_:=(Below.heap_alloc w _ _ hlt).trans hg
 have hg2:((w.alloc (.cells (u8s (zeros 32)) 30)).alloc (.cells (stL v bl T.length).toArray 303)).heap[g]? =_:=(Below.heap_alloc _ _ _ (by simp;omega)).trans hg1
 have hcl:((w.alloc (.cells (u8s (zeros 32)) 30)).alloc (.cells (stL v bl T.length).toArray 303)).cell? ⟨g,72,none⟩=some (.int .u64 (T.length:Nat)):=st_len hg2 hh.size
 have hS2:StateAt ((w.alloc (.cells (u8s (zeros 32)) 30)).alloc (.cells (stL v bl T.length).toArray 303)) (w.heap.size+1) T:=⟨v,bl,hh,heap_alloc2_new _ _ _⟩
 have hB2:Below w.heap.size w ((w.alloc (.cells (u8s (zeros 32)) 30)).alloc (.cells (stL v bl T.length).toArray 303)):=((Below.refl _ _).alloc (Nat.le_refl _) _).alloc (by simp) _
 have hR2:((w.alloc (.cells (u8s (zeros 32)) 30)).alloc (.cells (stL v bl T.length).toArray 303)).heap[w.heap.size]? =some (.cells (u8s (zeros 32)) 30 (0,0)):=heap_alloc2_old _ _ _
 have HG1:=Lib.hid hg1
 have HS2:=Lib.hid hS2
 have HB2:=Lib.hid hB2
 have HR2:=Lib.hid hR2
 have HU:=Lib.hid hu
 have HSZ:=Lib.hid hh.size
 clear hu hg1 hg2 hh hg hS2 hB2 hR2
 go_enter Tryz.func248,Tryz.ntmps248
 go_wp2_with (first | (refine wpList_load_row (by rfl) 303 _ (by rfl) g (by rfl) 303 _ (0,0) _ HG1.out HU.out (by rfl) (by rw [stL_size _ _ _ HSZ.out];exact A36) ?_) | (refine wpList_store_row (by rfl) 303 _ _ (by rfl) (w.heap.size+1) _ (by rfl) (by rfl) _ _ (by exact heap_alloc2_new _ _ _) (by rw [stL_size _ _ _ HSZ.out];exact A36) (by rw [stL_size _ _ _ HSZ.out,stL_size _ _ _ (by simp [zeros])]) (stL_one _ _ _) ?_;rw [setRow_alloc2]))
 refine (filling_any T.length (by omega) _).mono ?_
 rintro _ w3 ⟨len,cap,rfl,hbf,hb3⟩
 rw [show ((w.alloc (.cells (u8s (zeros 32)) 30)).alloc (.cells (stL v bl T.length).toArray 303)).heap.size=w.heap.size+2 from by simp] at hbf ⊢
 have hfl:(T++Sm.fill T.length).length<1152921504606846976:=by simp [Sm.fill,Sm.bigs];omega
 have hS3:=HS2.out.later hb3
 have hB3:=HB2.out.trans (hb3.mono HB2.out.size)
 have hR3:=(hb3.block _ (Array.getElem?_eq_some_iff.1 HR2.out).1).trans HR2.out
 have HS3:=Lib.hid hS3
 have HB3:=Lib.hid hB3
 have HR3:=Lib.hid hR3
 have HBF:=Lib.hid hbf
 clear hS3 hB3 hR3 hb3 hbf hcl
 go_wp2_with fail
 refine (write_any T (Sm.fill T.length) (w.heap.size+1) (some ⟨w.heap.size+2,0,none⟩) len cap w3 HS3.out HBF.out (fun _ a ha=>by cases ha;show w.heap.size+2≠w.heap.size+1;omega) hfl).mono ?_
 rintro _ w4 ⟨rfl,⟨v4,bl4,hh4,hg4⟩,hgr⟩
 have hne:T++Sm.fill T.length≠[]:=by simp [Sm.fill]
 have hlt4:w.heap.size<w4.heap.size:=Nat.lt_of_lt_of_le (Array.getElem?_eq_some_iff.1 HR3.out).1 hgr.size
 have hR4:w4.heap[w.heap.size]? =_:=(hgr.block _ (Array.getElem?_eq_some_iff.1 HR3.out).1 (by simp)).trans HR3.out
 have hB4:Below w.heap.size w w4:=⟨hgr.os.trans HB3.out.os,hgr.tape.trans HB3.out.tape,hgr.output.trans HB3.out.output,Nat.le_trans HB3.out.size hgr.size,fun k hk=>(hgr.block k (Nat.lt_of_lt_of_le hk HB3.out.size) (by simp;omega)).trans (HB3.out.block k hk)⟩
 have HV4:=Lib.hid hh4.vok
 have HW4:=Lib.hid (hh4.words hne)
 have HG4:=Lib.hid hg4
 have HR4:=Lib.hid hR4
 have HB4:=Lib.hid hB4
 clear hh4 hg4 hR4 hB4 hgr hne
 go_wp2_with (refine wpList_load_mid (by rfl) 300 _ (by rfl) (w.heap.size+1) 0 (by rfl) (w32 v4.list) _ (st_words HG4.out) A32 (by rfl) (by exact S32) ?_)
 refine (bytesOf_any v4 HV4.out w4).mono ?_
 rintro _ w5 ⟨rfl,hb5⟩
 have hR5:=(hb5.block _ hlt4).trans HR4.out
 have HR5:=Lib.hid hR5
 have HB5:=Lib.hid (HB4.out.trans (hb5.mono HB4.out.size))
 clear hR5 hb5
 go_wp2_with (refine wpList_store_row (by rfl) 30 _ _ (by rfl) w.heap.size (u8s (Sm.bytesOf v4)) (by rfl) (by rfl) _ _ HR5.out (by rw [bytes4_len];exact S25) (by rw [bytes4_len];simp [u8s,zeros]) (u8s_one _) ?_)
 refine ret_row 2 (by kernel_rfl) w.heap.size _ _ A25 S25 rfl (setRow_heap _ _ _ _ _ _ HR5.out) (bytes4_len v4) ⟨?_,Below.setRow HB5.out (Nat.le_refl _) _⟩
 rw [HW4.out]
 rfl
end Go.Proofs.YtinihaflmdihaaaGreat
