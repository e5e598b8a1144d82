/- ShaWriteD, ShaDone, ShaHash, PgHashS, PgBEq. -/
import Derived.Test.YtinihaflmdihaaaGreatK15
set_option maxRecDepth 100000
set_option maxHeartbeats 8000000
set_option linter.all false
namespace Go.Proofs.YtinihaflmdihaaaGreat
open Go.RowKit
theorem write_d (T B:List Nat) (g:Nat) (p:Option Addr) (len cap:Nat) (w:World) (r m:Nat) (hr:T.length%64=r) (hr0:0<r) (hs:r+m=64) (hml:m≤len) (v:Sm.V8) (bl:List Nat) (hh:Held T v bl)
  (hg:w.heap[g]? =some (.cells (stL v bl T.length).toArray 303 (0,0)))
  (hB:Bytes w p len cap B) (hn:B≠[]→∀a,p=some a→a.block≠g) (hl:(T++B).length<1152921504606846976):
  Calls Tryz.prog 246 #[.pointer (some ⟨g,0,none⟩),.slice p len cap] w fun e w'=>e= .returned (.tuple #[])∧StateAt w' g (T++B)∧w.grownBy w' (some g):=by
 have hL0:((T.length:Int)==0)=false:=by
  have:T≠[]:=by rintro rfl;simp at hr;omega
  have:=List.length_pos_iff.2 this
  simp;omega
 have hT:T≠[]:=by rintro rfl;simp at hr;omega
 have hL1:(T.length:Int)%64=(r:Int):=by omega
 have hcl:w.cell? ⟨g,72,none⟩=some (.int .u64 (T.length:Nat)):=st_len hg hh.size
 have hfl:w.frozen? ⟨g,72,none⟩=false:=frozen_of_row w g _ _ _ hg
 have hsl:=st_set_len hg hh.size (T.length+len)
 obtain ⟨N,hN⟩:∃N,N=T.length:=⟨_,rfl⟩
 rw [← hN] at hcl hL0 hL1 hsl
 have hlen:=hB.size
 have hb1:N+len<1152921504606846976:=by simp at hl;omega
 have HLT0:=yH (show (T++B).length=N+len from by simp;omega)
 have h0:(0:Int)<r∧(r:Int)<64:=by omega
 have HBB:=yH (hB.grown (grown_setCell w g 72 (.int .u64 ((N+len:Nat):Int))) hn)
 have HH:=yH hh
 have HSL:=yH hsl
 have HR:=yH hr
 have HT:=yH hT
 have HN:=yH hN
 have HLen:=yH hlen
 clear hg hh hB hN hlen hsl hr hT
 have hbs:=block_slice g r (by omega)
 obtain ⟨gb,ob,hp,hx⟩:=HBB.out.ne (by intro e;have:=HLen.out;rw [e] at this;simp at this;omega)
 subst hp
 clear hx
 have hcp:=st_copy_in HSL.out HH.out.size HBB.out r m (by omega) (by rw [show 64 - r=m from by omega];exact (Nat.min_eq_right hml).symm)
 have HCPW:=yH (show ((N+len:Nat):Int)=(N:Int)+(len:Int) from by omega)
 rw [HCPW.out] at hcp
 have hm1:(r:Int)+m=64:=by omega
 have hm2:(0:Int)≤m∧(m:Int)≤len:=by omega
 have hcap0:=HBB.out.le
 rcases Nat.lt_or_eq_of_le (Nat.le_trans hml hcap0) with hmc | hmc
 ·go_enter Tryz.func246,Tryz.ntmps246
  go_wp2_with fail
  rw [← HCPW.out]
  generalize hW2:(w.setCell ⟨g,72,none⟩ (.int .u64 ((N+len:Nat):Int))).setCells g (8+r) (vals (B.take m))=W2
  obtain ⟨bl2,hbl2⟩:∃x,x=bl.take r++B.take m:=⟨_,rfl⟩
  have hlm:(B.take m).length=m:=by have:=HLen.out;simp;omega
  have hsz:=HH.out.size
  have hM2:Mid w W2 g v bl2 (N+len) (some ⟨gb,ob,none⟩) len cap B:=by
   have hrow2:=st_set_block HSL.out hsz r (B.take m) (by omega)
   rw [hW2,hlm,List.drop_eq_nil_of_le (by omega),List.append_nil,← hbl2] at hrow2
   have hgr:w.grownBy W2 (some g):=by rw [← hW2];exact grown_setCells (grown_setCell _ _ _ _) _ _
   have hgr2:(w.setCell ⟨g,72,none⟩ (.int .u64 ((N+len:Nat):Int))).grownBy W2 (some g):=by rw [← hW2];exact grown_setCells (World.grownBy.refl _ _) _ _
   exact ⟨hrow2,by have:=HLen.out;rw [hbl2];simp [hsz];omega,HBB.out.grown hgr2 hn,hn,hgr⟩
  have hbo2:Sm.allB bl2:=by
   rw [hbl2]
   intro x hx
   rcases List.mem_append.1 hx with hx | hx
   ·exact HH.out.bok x (List.mem_of_mem_take hx)
   ·exact HBB.out.ok x (List.mem_of_mem_take hx)
  have hst2:=Start.block (B:=B) HH.out HR.out hr0 hs (by have:=HLen.out;omega)
  rw [← hbl2] at hst2
  obtain ⟨V2,hV2⟩:∃V2,V2=Sm.blocks bl2 v 1:=⟨_,rfl⟩
  have HA2:=all_any v HH.out.vok bl2 (some ⟨g,8,none⟩) 64 64 W2.drew ((Bytes.block hM2.row hM2.size hbo2).heap rfl) (by rw [hM2.size])
  rw [hM2.size,show 64/64=1 from rfl,← hV2] at HA2
  rw [← hV2] at hst2
  have HAA2:=yH HA2
  have HM2:=yH hM2
  have HS2:=yH hst2
  have HVV2:=yH hst2.1
  have HBO2:=yH hbo2
  clear HA2 hM2 hst2 hbo2 hV2 hbl2 hW2 hsz hlm hcp hcl hfl hL0 hL1 HSL
  obtain ⟨a,b,c,d,e,f,h,k⟩:=v
  have c0:W2.cell? ⟨g,0,none⟩=some (.int .u32 a):=st_cell HM2.out.row 0 (by omega)
  have c1:W2.cell? ⟨g,1,none⟩=some (.int .u32 b):=st_cell HM2.out.row 1 (by omega)
  have c2:W2.cell? ⟨g,2,none⟩=some (.int .u32 c):=st_cell HM2.out.row 2 (by omega)
  have c3:W2.cell? ⟨g,3,none⟩=some (.int .u32 d):=st_cell HM2.out.row 3 (by omega)
  have c4:W2.cell? ⟨g,4,none⟩=some (.int .u32 e):=st_cell HM2.out.row 4 (by omega)
  have c5:W2.cell? ⟨g,5,none⟩=some (.int .u32 f):=st_cell HM2.out.row 5 (by omega)
  have c6:W2.cell? ⟨g,6,none⟩=some (.int .u32 h):=st_cell HM2.out.row 6 (by omega)
  have c7:W2.cell? ⟨g,7,none⟩=some (.int .u32 k):=st_cell HM2.out.row 7 (by omega)
  go_region_law ((go_simp;go_at_call 277;refine HAA2.out.mono ?_;rintro _ w3 ⟨rfl,hb4⟩;have m4:=yH (HM2.out.later (below_of hb4 rfl rfl rfl rfl));clear hb4;have hst4:=st_store m4.out.row m4.out.size V2;have hu8:=size8 V2))
  generalize hW5:w3.setCells g 0 (w32 V2.list)=W3
  have m5:=m4.out.words V2
  rw [hW5] at m5
  have HM3:=yH m5
  clear hW5 m5 hst4 hu8 m4 c0 c1 c2 c3 c4 c5 c6 c7
  go_wp2_with fail
  obtain ⟨T2,hT2⟩:∃x,x=T++B.take m:=⟨_,rfl⟩
  obtain ⟨B2,hB2⟩:∃x,x=B.drop m:=⟨_,rfl⟩
  have HET:=yH (show T2++B2=T++B from by rw [hT2,hB2,List.append_assoc,List.take_append_drop])
  have hl2:(T2++B2).length<1152921504606846976:=by rw [HET.out];exact hl
  have HLT2:=yH (show (T2++B2).length=N+len from by rw [HET.out];exact HLT0.out)
  have HTO2:=yH (show Sm.allB T2 from by
   rw [hT2]
   intro x hx
   rcases List.mem_append.1 hx with hx | hx
   ·exact HH.out.ok x hx
   ·exact HBB.out.ok x (List.mem_of_mem_take hx))
  rw [← hT2] at HS2
  have hM4:Mid w W3 g V2 bl2 (N+len) (some ⟨gb,ob+m,none⟩) (len - m) (cap - m) B2:=by
   have h0:=HM3.out
   exact ⟨h0.row,h0.size,by rw [hB2];exact h0.bytes.drop m hml,(fun hb a ha=>by cases ha;exact hn (by intro e0;rw [hB2,e0] at hb;simp at hb) ⟨gb,ob,none⟩ rfl),h0.grown⟩
  have HM4:=yH hM4
  clear hM4 HM3 hT2 hB2
  obtain ⟨len2,hlen2⟩:∃x,x=len - m:=⟨_,rfl⟩
  obtain ⟨cap2,hcap2⟩:∃x,x=cap - m:=⟨_,rfl⟩
  obtain ⟨ob2,hob2⟩:∃x,x=ob+m:=⟨_,rfl⟩
  rw [← hlen2,← hcap2,← hob2] at HM4
  rw [← hlen2,← hcap2,← hob2]
  clear hlen2 hcap2 hob2 hm1 hm2 hcap0 hmc hbs HCPW HBB HR HT
  obtain ⟨F,hF⟩:∃F,F=len2 - len2%64:=⟨_,rfl⟩
  rw [show (len2:Int) - (len2:Int)%64=(F:Int) from by omega]
  have hFl:F≤len2:=by omega
  have hF64:F%64=0:=by omega
  have HF:=yH hF
  have HF64:=yH hF64
  clear hF hF64
  have hcap:=HM4.out.bytes.le
  have a1:(0:Int)≤F∧(F:Int)≤cap2:=by omega
  obtain ⟨U,hU⟩:∃U,U=Sm.blocks (B2.take F) V2 ((B2.take F).length/64):=⟨_,rfl⟩
  have HA:=all_any V2 HVV2.out (B2.take F) (some ⟨gb,ob2,none⟩) F cap2 W3.drew ((HM4.out.bytes.take F hFl).heap rfl) (by have:=HF64.out;have:=HM4.out.bytes.size;simp;omega)
  rw [← hU] at HA
  have HAA:=yH HA
  have HU:=yH hU
  clear HA hU
  obtain ⟨a,b,c,d,e,f,h,k⟩:=V2
  have c0:W3.cell? ⟨g,0,none⟩=some (.int .u32 a):=st_cell HM4.out.row 0 (by omega)
  have c1:W3.cell? ⟨g,1,none⟩=some (.int .u32 b):=st_cell HM4.out.row 1 (by omega)
  have c2:W3.cell? ⟨g,2,none⟩=some (.int .u32 c):=st_cell HM4.out.row 2 (by omega)
  have c3:W3.cell? ⟨g,3,none⟩=some (.int .u32 d):=st_cell HM4.out.row 3 (by omega)
  have c4:W3.cell? ⟨g,4,none⟩=some (.int .u32 e):=st_cell HM4.out.row 4 (by omega)
  have c5:W3.cell? ⟨g,5,none⟩=some (.int .u32 f):=st_cell HM4.out.row 5 (by omega)
  have c6:W3.cell? ⟨g,6,none⟩=some (.int .u32 h):=st_cell HM4.out.row 6 (by omega)
  have c7:W3.cell? ⟨g,7,none⟩=some (.int .u32 k):=st_cell HM4.out.row 7 (by omega)
  go_region_law ((go_simp;go_at_call 277;refine HAA.out.mono ?_;rintro _ w5 ⟨rfl,hb4⟩;have m4:=yH (HM4.out.later (below_of hb4 rfl rfl rfl rfl));clear hb4;have hst4:=st_store m4.out.row m4.out.size U;have hu8:=size8 U))
  generalize hW5:w5.setCells g 0 (w32 U.list)=W5
  have m5:=m4.out.words U
  rw [hW5] at m5
  have M5:=yH m5
  clear hW5 m5 hst4 hu8 m4 c0 c1 c2 c3 c4 c5 c6 c7
  go_wp2_with fail
  rcases Nat.lt_or_eq_of_le (Nat.le_trans hFl hcap) with hcc | hcc
  ·have hcp:=st_copy M5.out F (by have:=HF.out;omega) hcc
   go_still_tail 7,(by kernel_rfl)
   go_wp2_with fail
   go_end0
   have hlF:(B2.drop F).length=len2 - F:=by have:=M5.out.bytes.size;simp;omega
   have hrow:=st_set_block (W:=W5.drew) M5.out.row M5.out.size 0 (B2.drop F) (by have:=HF.out;omega)
   have hfin:=Held.next HS2.out HTO2.out M5.out.bytes.ok hl2 M5.out.bytes.size HF.out HU.out M5.out.size HBO2.out
   refine ⟨rfl,⟨U,_,(by rw [← HET.out];exact hfin),?_⟩,?_⟩
   ·rw [hlF] at hrow
    rw [← HET.out]
    have h0:=HLT2.out
    (try simp only [List.nil_append] at h0)
    rw [h0]
    simpa using hrow
   ·exact grown_setCells (w1:=W5.drew) ⟨M5.out.grown.os,M5.out.grown.tape,M5.out.grown.output,M5.out.grown.size,M5.out.grown.block⟩ 8 _
  ·subst hcc
   obtain rfl:len2=F:=by omega
   have hcp:=run_copy_none (P:=Tryz.prog) W5.drew 45 45 3 5 (some ⟨g,8,none⟩) (some ⟨gb,ob2,none⟩) 64 64 0 0 A22 E5 (by rfl)
   go_still_tail 7,(by kernel_rfl)
   go_wp2_with fail
   go_end0
   have hfin:=Held.next HS2.out HTO2.out M5.out.bytes.ok hl2 M5.out.bytes.size HF.out HU.out M5.out.size HBO2.out
   have e1:B2.drop len2=[]:=List.drop_eq_nil_of_le (by have:=M5.out.bytes.size;omega)
   rw [e1,Nat.sub_self,List.drop_zero,List.nil_append] at hfin
   refine ⟨rfl,⟨U,bl2,(by rw [← HET.out];exact hfin),?_⟩,?_⟩
   ·rw [← HET.out];have h0:=HLT2.out;(try simp only [List.nil_append] at h0);rw [h0];exact M5.out.row
   ·exact ⟨M5.out.grown.os,M5.out.grown.tape,M5.out.grown.output,M5.out.grown.size,M5.out.grown.block⟩
 ·subst hmc
  obtain rfl:m=len:=by omega
  go_enter Tryz.func246,Tryz.ntmps246
  go_wp2_with fail
  rw [← HCPW.out]
  generalize hW2:(w.setCell ⟨g,72,none⟩ (.int .u64 ((N+m:Nat):Int))).setCells g (8+r) (vals (B.take m))=W2
  obtain ⟨bl2,hbl2⟩:∃x,x=bl.take r++B.take m:=⟨_,rfl⟩
  have hlm:(B.take m).length=m:=by have:=HLen.out;simp;omega
  have hsz:=HH.out.size
  have hM2:Mid w W2 g v bl2 (N+m) (some ⟨gb,ob,none⟩) m m B:=by
   have hrow2:=st_set_block HSL.out hsz r (B.take m) (by omega)
   rw [hW2,hlm,List.drop_eq_nil_of_le (by omega),List.append_nil,← hbl2] at hrow2
   have hgr:w.grownBy W2 (some g):=by rw [← hW2];exact grown_setCells (grown_setCell _ _ _ _) _ _
   have hgr2:(w.setCell ⟨g,72,none⟩ (.int .u64 ((N+m:Nat):Int))).grownBy W2 (some g):=by rw [← hW2];exact grown_setCells (World.grownBy.refl _ _) _ _
   exact ⟨hrow2,by have:=HLen.out;rw [hbl2];simp [hsz];omega,HBB.out.grown hgr2 hn,hn,hgr⟩
  have hbo2:Sm.allB bl2:=by
   rw [hbl2]
   intro x hx
   rcases List.mem_append.1 hx with hx | hx
   ·exact HH.out.bok x (List.mem_of_mem_take hx)
   ·exact HBB.out.ok x (List.mem_of_mem_take hx)
  have hst2:=Start.block (B:=B) HH.out HR.out hr0 hs (by have:=HLen.out;omega)
  rw [← hbl2] at hst2
  obtain ⟨V2,hV2⟩:∃V2,V2=Sm.blocks bl2 v 1:=⟨_,rfl⟩
  have HA2:=all_any v HH.out.vok bl2 (some ⟨g,8,none⟩) 64 64 W2.drew ((Bytes.block hM2.row hM2.size hbo2).heap rfl) (by rw [hM2.size])
  rw [hM2.size,show 64/64=1 from rfl,← hV2] at HA2
  rw [← hV2] at hst2
  have HAA2:=yH HA2
  have HM2:=yH hM2
  have HS2:=yH hst2
  have HVV2:=yH hst2.1
  have HBO2:=yH hbo2
  clear HA2 hM2 hst2 hbo2 hV2 hbl2 hW2 hsz hlm hcp hcl hfl hL0 hL1 HSL
  obtain ⟨a,b,c,d,e,f,h,k⟩:=v
  have c0:W2.cell? ⟨g,0,none⟩=some (.int .u32 a):=st_cell HM2.out.row 0 (by omega)
  have c1:W2.cell? ⟨g,1,none⟩=some (.int .u32 b):=st_cell HM2.out.row 1 (by omega)
  have c2:W2.cell? ⟨g,2,none⟩=some (.int .u32 c):=st_cell HM2.out.row 2 (by omega)
  have c3:W2.cell? ⟨g,3,none⟩=some (.int .u32 d):=st_cell HM2.out.row 3 (by omega)
  have c4:W2.cell? ⟨g,4,none⟩=some (.int .u32 e):=st_cell HM2.out.row 4 (by omega)
  have c5:W2.cell? ⟨g,5,none⟩=some (.int .u32 f):=st_cell HM2.out.row 5 (by omega)
  have c6:W2.cell? ⟨g,6,none⟩=some (.int .u32 h):=st_cell HM2.out.row 6 (by omega)
  have c7:W2.cell? ⟨g,7,none⟩=some (.int .u32 k):=st_cell HM2.out.row 7 (by omega)
  go_region_law ((go_simp;go_at_call 277;refine HAA2.out.mono ?_;rintro _ w3 ⟨rfl,hb4⟩;have m4:=yH (HM2.out.later (below_of hb4 rfl rfl rfl rfl));clear hb4;have hst4:=st_store m4.out.row m4.out.size V2;have hu8:=size8 V2))
  generalize hW5:w3.setCells g 0 (w32 V2.list)=W3
  have m5:=m4.out.words V2
  rw [hW5] at m5
  have HM3:=yH m5
  clear hW5 m5 hst4 hu8 m4 c0 c1 c2 c3 c4 c5 c6 c7
  go_wp2_with fail
  obtain ⟨T2,hT2⟩:∃x,x=T++B.take m:=⟨_,rfl⟩
  obtain ⟨B2,hB2⟩:∃x,x=B.drop m:=⟨_,rfl⟩
  have HET:=yH (show T2++B2=T++B from by rw [hT2,hB2,List.append_assoc,List.take_append_drop])
  have hl2:(T2++B2).length<1152921504606846976:=by rw [HET.out];exact hl
  have HLT2:=yH (show (T2++B2).length=N+m from by rw [HET.out];exact HLT0.out)
  have HTO2:=yH (show Sm.allB T2 from by
   rw [hT2]
   intro x hx
   rcases List.mem_append.1 hx with hx | hx
   ·exact HH.out.ok x hx
   ·exact HBB.out.ok x (List.mem_of_mem_take hx))
  rw [← hT2] at HS2
  have hM4:Mid w W3 g V2 bl2 (N+m) (some ⟨gb,ob,none⟩) 0 0 B2:=by
   have h0:=HM3.out
   have hB0:B2=[]:=by rw [hB2];exact List.drop_eq_nil_of_le (by have:=HLen.out;omega)
   exact ⟨h0.row,h0.size,by rw [hB0];exact ⟨rfl,Nat.le_refl _,fun x hx=>by simp at hx,Or.inr ⟨gb,ob,rfl,fun i hi=>by simp at hi⟩⟩,fun hb=>absurd hB0 hb,h0.grown⟩
  have HM4:=yH hM4
  have hFl:0≤0:=Nat.le_refl _
  clear hM4 HM3 hT2 hB2 hm1 hm2 hcap0 hbs HCPW HBB HR HT
  obtain ⟨U,hU⟩:∃U,U=Sm.blocks (B2.take 0) V2 ((B2.take 0).length/64):=⟨_,rfl⟩
  have HA:=all_any V2 HVV2.out (B2.take 0) (some ⟨gb,ob,none⟩) 0 0 W3.drew ((HM4.out.bytes.take 0 hFl).heap rfl) (by simp)
  rw [← hU] at HA
  have HAA:=yH HA
  have HU:=yH hU
  clear HA hU
  obtain ⟨a,b,c,d,e,f,h,k⟩:=V2
  have c0:W3.cell? ⟨g,0,none⟩=some (.int .u32 a):=st_cell HM4.out.row 0 (by omega)
  have c1:W3.cell? ⟨g,1,none⟩=some (.int .u32 b):=st_cell HM4.out.row 1 (by omega)
  have c2:W3.cell? ⟨g,2,none⟩=some (.int .u32 c):=st_cell HM4.out.row 2 (by omega)
  have c3:W3.cell? ⟨g,3,none⟩=some (.int .u32 d):=st_cell HM4.out.row 3 (by omega)
  have c4:W3.cell? ⟨g,4,none⟩=some (.int .u32 e):=st_cell HM4.out.row 4 (by omega)
  have c5:W3.cell? ⟨g,5,none⟩=some (.int .u32 f):=st_cell HM4.out.row 5 (by omega)
  have c6:W3.cell? ⟨g,6,none⟩=some (.int .u32 h):=st_cell HM4.out.row 6 (by omega)
  have c7:W3.cell? ⟨g,7,none⟩=some (.int .u32 k):=st_cell HM4.out.row 7 (by omega)
  go_region_law ((go_simp;go_at_call 277;refine HAA.out.mono ?_;rintro _ w5 ⟨rfl,hb4⟩;have m4:=yH (HM4.out.later (below_of hb4 rfl rfl rfl rfl));clear hb4;have hst4:=st_store m4.out.row m4.out.size U;have hu8:=size8 U))
  generalize hW5:w5.setCells g 0 (w32 U.list)=W5
  have m5:=m4.out.words U
  rw [hW5] at m5
  have M5:=yH m5
  clear hW5 m5 hst4 hu8 m4 c0 c1 c2 c3 c4 c5 c6 c7
  go_wp2_with fail
  have hcp:=run_copy_none (P:=Tryz.prog) W5.drew 45 45 3 5 (some ⟨g,8,none⟩) (some ⟨gb,ob,none⟩) 64 64 0 0 A22 E5 (by rfl)
  go_still_tail 7,(by kernel_rfl)
  go_wp2_with fail
  go_end0
  have hfin:=Held.next HS2.out HTO2.out M5.out.bytes.ok hl2 M5.out.bytes.size (show 0=0 - 0%64 from rfl) HU.out M5.out.size HBO2.out
  have e1:B2.drop 0=[]:=List.drop_eq_nil_of_le (by have:=M5.out.bytes.size;omega)
  rw [e1,Nat.sub_self,List.drop_zero,List.nil_append] at hfin
  refine ⟨rfl,⟨U,bl2,(by rw [← HET.out];exact hfin),?_⟩,?_⟩
  ·rw [← HET.out];have h0:=HLT2.out;(try simp only [List.nil_append] at h0);rw [h0];exact M5.out.row
  ·exact ⟨M5.out.grown.os,M5.out.grown.tape,M5.out.grown.output,M5.out.grown.size,M5.out.grown.block⟩
theorem write_any (T B:List Nat) (g:Nat) (p:Option Addr) (len cap:Nat) (w:World) (hs:StateAt w g T)
  (hB:Bytes w p len cap B) (hn:B≠[]→∀a,p=some a→a.block≠g) (hl:(T++B).length<1152921504606846976):
  Calls Tryz.prog 246 #[.pointer (some ⟨g,0,none⟩),.slice p len cap] w fun e w'=>e= .returned (.tuple #[])∧StateAt w' g (T++B)∧w.grownBy w' (some g):=by
 obtain ⟨v,bl,hh,hg⟩:=hs
 by_cases h0:T=[]
 ·exact write_a T B g p len cap w h0 v bl hh hg hB hn hl
 ·by_cases h1:T.length%64=0
  ·exact write_b T B g p len cap w h0 h1 v bl hh hg hB hn hl
  ·by_cases h2:T.length%64+len<64
   ·exact write_c T B g p len cap w _ rfl (by omega) h2 v bl hh hg hB hn hl
   ·exact write_d T B g p len cap w _ (64 - T.length%64) rfl (by omega) (by omega) (by omega) v bl hh hg hB hn hl
theorem U36':(match Tryz.prog.underlying 303 with | some (.struct _)=>true | _=>false)=true:=by kernel_rfl
theorem U36:∃fs,Tryz.prog.underlying 303=some (.struct fs):=by
 have h:=U36'
 split at h
 ·rename_i fs hfs;exact ⟨fs,hfs⟩
 ·cases h
def zero8:Sm.V8:=⟨0,0,0,0,0,0,0,0⟩
theorem Z36:(Tryz.prog.info? 303).map (fun i=>(i.zero,i.size))=some (some (.agg (stL zero8 (zeros 64) 0).toArray),73):=by kernel_rfl
theorem held_zero:Held [] zero8 (zeros 64):=
 ⟨fun x hx=>by simp at hx,⟨by decide,by decide,by decide,by decide,by decide,by decide,by decide,by decide⟩,by decide,fun h=>absurd rfl h,by simp [zeros],zeros_ok 64,by simp⟩
theorem state_zero {w:World} {g:Nat} (h:w.heap[g]? =some (.cells (stL zero8 (zeros 64) 0).toArray 303 (0,0))):StateAt w g []:=⟨_,_,held_zero,h⟩
theorem stL_one (v:Sm.V8) (bl:List Nat) (L:Nat):((stL v bl L).toArray).all (·.oneCell')=true:=
 all_oneCell_toArray fun u hu=>by
  simp only [stL,List.mem_append,List.mem_singleton] at hu
  rcases hu with (hu | hu) | rfl
  ·exact u32_of_w32 _ u hu
  ·exact vals_one _ u hu
  ·rfl
theorem stL_size (v:Sm.V8) (bl:List Nat) (L:Nat) (h:bl.length=64):((stL v bl L).toArray).size=73:=by simp [stL_length v bl L h]
theorem StateAt.later {w w':World} {g:Nat} {T:List Nat} (h:StateAt w g T) (hb:Below w.heap.size w w'):StateAt w' g T:=by
 obtain ⟨v,bl,hh,hg⟩:=h
 exact ⟨v,bl,hh,(hb.block _ (yL hg)).trans hg⟩
theorem StateAt.lt {w:World} {g:Nat} {T:List Nat} (h:StateAt w g T):g<w.heap.size:=by
 obtain ⟨v,bl,hh,hg⟩:=h
 exact (yL hg)
theorem sum_size (B:List Nat):(u8s (Sm.sum B)).size=32:=rfl
theorem bytes4_len (v:Sm.V8):(u8s (Sm.bytesOf v)).size=32:=rfl
theorem done_any (T:List Nat) (g:Nat) (w:World) (hs:StateAt w g T) (hl:T.length<576460752303423488):
  Calls Tryz.prog 248 #[.pointer (some ⟨g,0,none⟩)] w fun e w'=>e= .returned (.agg (u8s (Sm.sum T)))∧Below w.heap.size w w':=by
 have hlt:=hs.lt
 obtain ⟨v,bl,hh,hg⟩:=hs
 obtain ⟨fs,hu⟩:=U36
 have hz:=(zero_of_info Z25).1
 have hz6:=(zero_of_info Z36).1
 have hg1:(w.alloc (.cells (u8s (zeros 32)) 30)).heap[g]? =_:=(Below.heap_alloc w _ _ hlt).trans hg
 have hg2:((w.alloc (.cells (u8s (zeros 32)) 30)).alloc (.cells (stL v bl T.length).toArray 303)).heap[g]? =_:=(Below.heap_alloc _ _ _ (by simp;omega)).trans hg1
 have hcl:((w.alloc (.cells (u8s (zeros 32)) 30)).alloc (.cells (stL v bl T.length).toArray 303)).cell? ⟨g,72,none⟩=some (.int .u64 (T.length:Nat)):=st_len hg2 hh.size
 have hS2:StateAt ((w.alloc (.cells (u8s (zeros 32)) 30)).alloc (.cells (stL v bl T.length).toArray 303)) (w.heap.size+1) T:=⟨v,bl,hh,heap_alloc2_new _ _ _⟩
 have hB2:Below w.heap.size w ((w.alloc (.cells (u8s (zeros 32)) 30)).alloc (.cells (stL v bl T.length).toArray 303)):=((Below.refl _ _).alloc (Nat.le_refl _) _).alloc (by simp) _
 have hR2:((w.alloc (.cells (u8s (zeros 32)) 30)).alloc (.cells (stL v bl T.length).toArray 303)).heap[w.heap.size]? =some (.cells (u8s (zeros 32)) 30 (0,0)):=heap_alloc2_old _ _ _
 have HG1:=yH hg1
 have HS2:=yH hS2
 have HB2:=yH hB2
 have HR2:=yH hR2
 have HU:=yH hu
 have HSZ:=yH hh.size
 clear hu hg1 hg2 hh hg hS2 hB2 hR2
 go_enter Tryz.func248,Tryz.ntmps248
 go_wp2_with (first | (refine wpList_load_row (by rfl) 303 _ (by rfl) g (by rfl) 303 _ (0,0) _ HG1.out HU.out (by rfl) (by rw [stL_size _ _ _ HSZ.out];exact A36) ?_) | (refine wpList_store_row (by rfl) 303 _ _ (by rfl) (w.heap.size+1) _ (by rfl) (by rfl) _ _ (by exact heap_alloc2_new _ _ _) (by rw [stL_size _ _ _ HSZ.out];exact A36) (by rw [stL_size _ _ _ HSZ.out,stL_size _ _ _ (by simp [zeros])]) (stL_one _ _ _) ?_;rw [setRow_alloc2]))
 refine (filling_any T.length (by omega) _).mono ?_
 rintro _ w3 ⟨len,cap,rfl,hbf,hb3⟩
 rw [show ((w.alloc (.cells (u8s (zeros 32)) 30)).alloc (.cells (stL v bl T.length).toArray 303)).heap.size=w.heap.size+2 from by simp] at hbf ⊢
 have hfl:(T++Sm.fill T.length).length<1152921504606846976:=by simp [Sm.fill,Sm.bigs];omega
 have hS3:=HS2.out.later hb3
 have hB3:=HB2.out.trans (hb3.mono HB2.out.size)
 have hR3:=(hb3.block _ (yL HR2.out)).trans HR2.out
 have HS3:=yH hS3
 have HB3:=yH hB3
 have HR3:=yH hR3
 have HBF:=yH hbf
 clear hS3 hB3 hR3 hb3 hbf hcl
 go_wp2_with fail
 refine (write_any T (Sm.fill T.length) (w.heap.size+1) (some ⟨w.heap.size+2,0,none⟩) len cap w3 HS3.out HBF.out (fun _ a ha=>by cases ha;show w.heap.size+2≠w.heap.size+1;omega) hfl).mono ?_
 rintro _ w4 ⟨rfl,⟨v4,bl4,hh4,hg4⟩,hgr⟩
 have hne:T++Sm.fill T.length≠[]:=by simp [Sm.fill]
 have hlt4:w.heap.size<w4.heap.size:=Nat.lt_of_lt_of_le (yL HR3.out) hgr.size
 have hR4:w4.heap[w.heap.size]? =_:=(hgr.block _ (yL HR3.out) (by simp)).trans HR3.out
 have hB4:Below w.heap.size w w4:=⟨hgr.os.trans HB3.out.os,hgr.tape.trans HB3.out.tape,hgr.output.trans HB3.out.output,Nat.le_trans HB3.out.size hgr.size,fun k hk=>(hgr.block k (Nat.lt_of_lt_of_le hk HB3.out.size) (by simp;omega)).trans (HB3.out.block k hk)⟩
 have HV4:=yH hh4.vok
 have HW4:=yH (hh4.words hne)
 have HG4:=yH hg4
 have HR4:=yH hR4
 have HB4:=yH hB4
 clear hh4 hg4 hR4 hB4 hgr hne
 go_wp2_with (refine wpList_load_mid (by rfl) 300 _ (by rfl) (w.heap.size+1) 0 (by rfl) (w32 v4.list) _ (st_words HG4.out) A32 (by rfl) (by exact S32) ?_)
 refine (bytesOf_any v4 HV4.out w4).mono ?_
 rintro _ w5 ⟨rfl,hb5⟩
 have hR5:=(hb5.block _ hlt4).trans HR4.out
 have HR5:=yH hR5
 have HB5:=yH (HB4.out.trans (hb5.mono HB4.out.size))
 clear hR5 hb5
 go_wp2_with (refine wpList_store_row (by rfl) 30 _ _ (by rfl) w.heap.size (u8s (Sm.bytesOf v4)) (by rfl) (by rfl) _ _ HR5.out (by rw [bytes4_len];exact S25) (by rw [bytes4_len];simp [u8s,zeros]) (u8s_one _) ?_)
 refine ret_row 2 (by kernel_rfl) w.heap.size _ _ A25 S25 rfl (setRow_heap _ _ _ _ _ _ HR5.out) (bytes4_len v4) ⟨?_,Below.setRow HB5.out (Nat.le_refl _) _⟩
 rw [HW4.out]
 rfl
def HashRel (w:World) (tag len:Nat) (L:List (List Nat)) (i:Value) (wr:World):Prop:=
 ∃k:Nat,k≤len∧i= .int .i64 k∧StateAt wr (w.heap.size+1) (pre tag (L.take k))∧wr.heap[w.heap.size]? =some (.cells (u8s (zeros 32)) 30 (0,0))∧Below w.heap.size w wr
theorem hash_any (tag:Nat) (htag:tag<256) (L:List (List Nat)) (p:Option Addr) (len cap:Nat) (w:World) (hL:Texts w p len cap L) (hl:tot L<1099511627776):
  Calls Tryz.prog 207 #[.int .u8 tag,.slice p len cap] w fun e w'=>e= .returned (.agg (u8s (Sm.sum (pre tag L))))∧Below w.heap.size w w':=by
 have hsz:=hL.size
 have hle:=hL.le
 have hlen:len<1099511627776:=by have:=len_le_tot L;omega
 have hz:=(zero_of_info Z25).1
 have hz6:=(zero_of_info Z36).1
 have h59:=(zero_of_info Z59).1
 have HL:=yH hL
 have HSZ:=yH hsz
 clear hL hsz
 have hB2:Below w.heap.size w ((w.alloc (.cells (u8s (zeros 32)) 30)).alloc (.cells (stL zero8 (zeros 64) 0).toArray 303)):=((Below.refl _ _).alloc (Nat.le_refl _) _).alloc (by simp) _
 have hS2:StateAt ((w.alloc (.cells (u8s (zeros 32)) 30)).alloc (.cells (stL zero8 (zeros 64) 0).toArray 303)) (w.heap.size+1) []:=state_zero (heap_alloc2_new _ _ _)
 have hR2:((w.alloc (.cells (u8s (zeros 32)) 30)).alloc (.cells (stL zero8 (zeros 64) 0).toArray 303)).heap[w.heap.size]? =some (.cells (u8s (zeros 32)) 30 (0,0)):=heap_alloc2_old _ _ _
 have HB2:=yH hB2
 have HS2:=yH hS2
 have HR2:=yH hR2
 clear hB2 hS2 hR2
 go_enter Tryz.func207,Tryz.ntmps207
 go_wp2_with fail
 generalize hWW:(w.alloc (.cells (u8s (zeros 32)) 30)).alloc (.cells (stL zero8 (zeros 64) 0).toArray 303)=WW
 have hsz2:WW.heap.size=w.heap.size+1+1:=by subst hWW;simp
 rw [hWW] at HB2 HS2 HR2
 have hs3:StateAt (WW.alloc (.cells #[.int .u8 tag] 5)) (w.heap.size+1) []:=HS2.out.later ((Below.refl _ _).alloc (Nat.le_refl _) _)
 have hb3:Bytes (WW.alloc (.cells #[.int .u8 tag] 5)) (some ⟨w.heap.size+1+1,0,none⟩) 1 1 [tag]:=by
  rw [← hsz2]
  exact Bytes.row (L:=[tag]) (heap_alloc_new WW _) (by intro x hx;simp at hx;omega)
 have hB3:Below w.heap.size w (WW.alloc (.cells #[.int .u8 tag] 5)):=HB2.out.alloc HB2.out.size _
 have hR3:(WW.alloc (.cells #[.int .u8 tag] 5)).heap[w.heap.size]? =some (.cells (u8s (zeros 32)) 30 (0,0)):=(Below.heap_alloc _ _ _ (by omega)).trans HR2.out
 refine (write_any [] [tag] (w.heap.size+1) _ 1 1 _ hs3 hb3 (fun _ a ha=>by cases ha;show w.heap.size+1+1≠w.heap.size+1;omega) (by simp)).mono ?_
 rintro _ w4 ⟨rfl,hs4,hg4⟩
 have HB4:=yH (grown_below hB3 hg4 (by omega))
 have HR4:=yH ((hg4.block _ (yL hR3) (by simp)).trans hR3)
 have HS4:=yH hs4
 clear hs3 hb3 hB3 hR3 hs4 hg4 hWW hsz2 HB2 HS2 HR2
 go_wp2_with fail
 go_loopw [14] (fun i wr=>HashRel w tag len L i wr) (fun i _=>len - (intOf i).toNat)
 case atStart=>exact ⟨0,by omega,rfl,HS4.out,HR4.out,HB4.out⟩
 case round=>
  obtain ⟨k,hk,rfl,hs,hr,hb⟩:=hrel
  have HS:=yH hs
  have HR:=yH hr
  have HB:=yH hb
  clear hs hr hb HB4 HR4 HS4
  by_cases hlt:k<len
  ·obtain ⟨g,o,hp,hx⟩:=HL.out.at' (by intro e;have:=HSZ.out;rw [e] at this;simp at this;omega)
   obtain ⟨q,n,c,h1,h2⟩:=hx k (by have:=HSZ.out;omega)
   subst hp
   have e1:=tot_step L k (by have:=HSZ.out;omega)
   have e2:=tot_take_le L (k+1)
   have e3:n=(L.getD k []).length:=h2.size
   have hbk:∀a,q=some a→L.getD k []≠[]→a.block<w.heap.size:=fun a ha hn=>by
    subst ha
    have:=h2.cells 0 _ (vals_get _ 0 (List.length_pos_iff.2 hn))
    exact block_lt_of_cell this
   have hcell:wr.cell? ⟨g,o+k,none⟩=some (.slice q n c):=(HB.out.cell (p:=⟨g,o+k,none⟩) (block_lt_of_cell h1)).trans h1
   have HT:=yH h2
   have HBK:=yH hbk
   have HE:=yH (show tot (L.take k)+(8+n)<1099511627776 from by omega)
   have HE3:=yH e3
   have hn:n<1099511627776:=by omega
   clear hx h1 h2 hbk e1 e2 e3
   go_wp2_with fail
   refine (bigEnd_any n (by omega) _).mono ?_
   rintro _ w3 ⟨rfl,hb3⟩
   have hs3:StateAt (w3.alloc (.cells (u8s (Sm.bigs n)) 305)) (w.heap.size+1) (pre tag (L.take k)):=(HS.out.later hb3).later ((Below.refl _ _).alloc (Nat.le_refl _) _)
   have hB3:Below w.heap.size w (w3.alloc (.cells (u8s (Sm.bigs n)) 305)):=(HB.out.trans (hb3.mono HB.out.size)).alloc (Nat.le_trans HB.out.size hb3.size) _
   have hr3:=(hb3.block _ (yL HR.out)).trans HR.out
   have hR3:(w3.alloc (.cells (u8s (Sm.bigs n)) 305)).heap[w.heap.size]? =some (.cells (u8s (zeros 32)) 30 (0,0)):=(Below.heap_alloc _ _ _ (yL hr3)).trans hr3
   have hgs:w.heap.size+1<w3.heap.size:=Nat.lt_of_lt_of_le HS.out.lt hb3.size
   have HS3:=yH hs3
   have HB3:=yH hB3
   have HR3:=yH hR3
   have HGS:=yH hgs
   have HY3:=yH (Bytes.row (L:=Sm.bigs n) (heap_alloc_new w3 (.cells (u8s (Sm.bigs n)) 305)) (bigs_all n))
   clear hs3 hB3 hR3 hr3 hgs hb3
   go_wp2_with (refine wpList_store_row (by rfl) 305 _ _ (by rfl) w3.heap.size (u8s (Sm.bigs n)) (by rfl) (by rfl) _ _ (heap_alloc_new _ _) (by exact S59) (by simp [u8s,zeros];rfl) (u8s_one _) ?_;rw [setRow_alloc])
   refine (write_any (pre tag (L.take k)) (Sm.bigs n) (w.heap.size+1) _ 8 8 _ HS3.out HY3.out (fun _ a ha=>by cases ha;have:=HGS.out;show w3.heap.size≠w.heap.size+1;omega) (by have:=HE.out;simp only [List.length_append,pre_length,Sm.bigs,List.length_cons,List.length_nil];omega)).mono ?_
   rintro _ w5 ⟨rfl,hs5,hg5⟩
   have HB5:=yH (grown_below HB3.out hg5 (by omega))
   have HR5:=yH ((hg5.block _ (yL HR3.out) (by simp)).trans HR3.out)
   have HS5:=yH hs5
   clear hs5 hg5
   go_wp2_with fail
   refine (write_any (pre tag (L.take k)++Sm.bigs n) (L.getD k []) (w.heap.size+1) q n c _ HS5.out (HT.out.later HB5.out).bytes (fun hne a ha=>by have:=HBK.out a ha hne;omega) (by have:=HE.out;have:=HE3.out;simp only [List.length_append,pre_length,Sm.bigs,List.length_cons,List.length_nil];omega)).mono ?_
   rintro _ w6 ⟨rfl,hs6,hg6⟩
   have HB6:=yH (grown_below HB5.out hg6 (by omega))
   have HR6:=yH ((hg6.block _ (yL HR5.out) (by simp)).trans HR5.out)
   have HS6:=yH hs6
   clear hs6 hg6
   go_wp2_with fail
   go_roundw
   case rel=>
    refine ⟨k+1,by omega,by go_num,?_,HR6.out,HB6.out⟩
    have e:=HS6.out
    rw [pre_step tag L k (by have:=HSZ.out;omega),tpart,← HE3.out,← List.append_assoc]
    exact e
   case measure=>simp [intOf];omega
  ·obtain rfl:k=len:=by omega
   have hT:pre tag (L.take k)=pre tag L:=by rw [List.take_of_length_le (by have:=HSZ.out;omega)]
   rw [hT] at HS
   clear hT
   go_wp2_with fail
   refine (done_any (pre tag L) _ _ HS.out (by rw [pre_length];omega)).mono ?_
   rintro _ w5 ⟨rfl,hb5⟩
   have HR5:=yH ((hb5.block _ (yL HR.out)).trans HR.out)
   have HB5:=yH (HB.out.trans (hb5.mono HB.out.size))
   clear hb5
   go_wp2_with (refine wpList_store_row (by rfl) 30 _ _ (by rfl) w.heap.size (u8s (Sm.sum (pre tag L))) (by rfl) (by rfl) _ _ HR5.out (by rw [sum_size];exact S25) (by rw [sum_size];simp [u8s,zeros]) (u8s_one _) ?_)
   exact ret_row 4 (by kernel_rfl) w.heap.size _ _ A25 S25 rfl (setRow_heap _ _ _ _ _ _ HR5.out) (sum_size _) ⟨rfl,Below.setRow HB5.out (Nat.le_refl _) _⟩
end Go.Proofs.YtinihaflmdihaaaGreat
namespace Go.Proofs.YtinihaflmdihaaaGreat.Pg
open Go.RowKit
theorem sum_any' (b:List Nat) (p:Option Addr) (n c:Nat) (w:World) (hT:Tx w p n c b) (hn:n≤100000):
  Calls Tryz.prog 151 #[.slice p n c] w fun e w'=>e= .returned (.agg (u8s (sumOf b)))∧Below w.heap.size w w':=by
 have hz:=(zero_of_info Z25).1
 have h0:=(Below.refl w.heap.size w).alloc (Nat.le_refl _) (.cells (u8s (zeros 32)) 30)
 have hb:=(Below.refl (w.alloc (.cells (u8s (zeros 32)) 30)).heap.size (w.alloc (.cells (u8s (zeros 32)) 30))).alloc (Nat.le_refl _) (.cells #[.slice p n c] 45)
 have TX:=yH (one_text (heap_alloc_new (w.alloc (.cells (u8s (zeros 32)) 30)) (.cells #[.slice p n c] 45)) ((hT.later h0).later hb))
 have B1:=yH (h0.trans (hb.mono h0.size))
 have HR:=yH ((heap_alloc_old (w.alloc (.cells (u8s (zeros 32)) 30)) (.cells #[.slice p n c] 45) (Array.getElem?_eq_some_iff.1 (heap_alloc_new w (.cells (u8s (zeros 32)) 30))).1).trans (heap_alloc_new w (.cells (u8s (zeros 32)) 30)))
 have HL:=yH hT.size
 clear hT hb h0
 go_enter Tryz.func151,Tryz.ntmps151
 go_wp2_with fail
 rw [show (w.alloc (.cells (u8s (zeros 32)) 30)).heap.size=w.heap.size+1 from by simp] at TX
 generalize (w.alloc (.cells (u8s (zeros 32)) 30)).alloc (.cells #[.slice p n c] 45)=w1 at *
 refine (hash_any 80 (by omega) [b] _ 1 1 w1 TX.out (by have:=HL.out;rw [tot_one];omega)).mono ?_
 rintro e w3 ⟨rfl,b3⟩
 have B3:=yH (B1.out.trans (b3.mono B1.out.size))
 have R3:=yH ((b3.block _ (yL HR.out)).trans HR.out)
 obtain ⟨D,hD⟩:∃D,D=sumOf b:=⟨_,rfl⟩
 rw [show Sm.sum (pre 80 [b])=D from hD.symm]
 have HDH:=yH (show D.length=32 from by rw [hD];rfl)
 have HDE:=yH hD
 clear b3 hD
 go_wp2_with (refine wpList_store_row (by rfl) 30 _ _ (by rfl) w.heap.size (u8s D) (by rfl) (by rfl) _ _ R3.out (by rw [u8s_size,HDH.out];exact S25) (by rw [u8s_size,u8s_size,HDH.out];rfl) (u8s_one _) ?_)
 exact ret_row 2 (by kernel_rfl) w.heap.size _ _ A25 S25 rfl (setRow_heap _ _ _ _ _ _ R3.out) (by rw [u8s_size];exact HDH.out) ⟨by rw [HDE.out],Below.setRow B3.out (Nat.le_refl _) _⟩
theorem bequal_any {a b:List Nat} {p q:Option Addr} {n c m d:Nat} {w:World} (ha:Tx w p n c a) (hb:Tx w q m d b):
  Calls Tryz.prog 250 #[.slice p n c,.slice q m d] w fun e w'=>e= .returned (.bool (decide (a=b)))∧w=w':=by
 have h1:=convert_tx ha
 have h2:=convert_tx hb
 have HE:=yH (str_eq ha.ok hb.ok)
 rw [← HE.out]
 clear ha hb
 go_enter Tryz.func250,Tryz.ntmps250
 go_wp2_with fail
 go_ret
 exact ⟨rfl,rfl⟩
end Go.Proofs.YtinihaflmdihaaaGreat.Pg
