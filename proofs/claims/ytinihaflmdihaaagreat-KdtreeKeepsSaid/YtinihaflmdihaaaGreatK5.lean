/- NlRight, CodWRow, CodWTruth, CodClone, CodWBytes, NlWriteKid, NlEncode, CodR. -/
import Derived.Laws.AppendOwn
import Derived.Test.YtinihaflmdihaaaGreatK4
set_option maxRecDepth 100000
set_option maxHeartbeats 8000000
set_option linter.all false
namespace Go.Proofs.YtinihaflmdihaaaGreat.Nd
open Go.RowKit
structure NR (w:World) (g kind:Nat) (p:Option Addr) (n c:Nat) (q:Option Addr) (m f:Nat) (d:Int):Prop where
 node:NodeAt w g kind p n c q m f
 dim:w.cell? ⟨g+1,0,none⟩=some (.int .i64 d)
theorem NR.later {w w':World} {g kind:Nat} {p:Option Addr} {n c:Nat} {q:Option Addr} {m f:Nat} {d:Int} (h:NR w g kind p n c q m f d) (hb:Below w.heap.size w w'):NR w' g kind p n c q m f d:=
 ⟨h.node.later hb,(hb.cell (block_lt_of_cell h.dim)).trans h.dim⟩
theorem nright_any (kind:Nat) (p:Option Addr) (n c:Nat) (q:Option Addr) (m f:Nat) (E:List En) (K:List Kd) (d:Int) (w:World) (hE:EntsIn w p n c E) (hK:KidsIn w q m f K):
  Calls Tryz.prog 149 #[.agg #[.int .u8 kind,.slice p n c,.slice q m f],.int .i64 d] w fun e w'=>e= .returned (.bool ((pnOf kind E K).right d))∧Below w.heap.size w w':=by
 have hb1:Below w.heap.size w (w.alloc (.cells #[.int .u8 kind,.slice p n c,.slice q m f] 81)):=(Below.refl _ _).alloc (Nat.le_refl _) _
 have hn:=NodeAt.start w kind p n c q m f
 have hz:(w.alloc (.cells #[.int .u8 kind,.slice p n c,.slice q m f] 81)).heap.size=w.heap.size+1:=by simp
 have hb2:Below (w.heap.size+1) (w.alloc (.cells #[.int .u8 kind,.slice p n c,.slice q m f] 81)) ((w.alloc (.cells #[.int .u8 kind,.slice p n c,.slice q m f] 81)).alloc (.cells #[.int .i64 d] 3)):=(Below.refl _ _).alloc (by omega) _
 have hd:=boxed (w.alloc (.cells #[.int .u8 kind,.slice p n c,.slice q m f] 81)) (.int .i64 d) 3
 rw [hz] at hd
 have hnr:NR ((w.alloc (.cells #[.int .u8 kind,.slice p n c,.slice q m f] 81)).alloc (.cells #[.int .i64 d] 3)) w.heap.size kind p n c q m f d:=⟨hn.later (by rw [hz];exact hb2),hd⟩
 have hb12:=hb1.trans (hb2.mono (by omega))
 have hr:=PN.right_shape (pnOf kind E K) d
 have HR0:=yH hr
 have HSH:=yH (fun w1 (h:Below w.heap.size w w1)=>nshaped_any kind p n c q m f E K d w1 (hE.later h) (hK.later h))
 have HLE:=yH (fun w1 (h:Below w.heap.size w w1) (hc:w1.cell? ⟨w.heap.size+1,0,none⟩=some (.int .i64 d))=>eachE_any p n c E (PE.long d) 201 #[.pointer (some ⟨w.heap.size+1,0,none⟩)] (fun args w=>by as_aux_lemma=>kernel_rfl) w1 (hE.later h) (fun e w' _ he hb=>fnLong_any e _ d w' ((hb.cell (block_lt_of_cell hc)).trans hc) he))
 have HKE:=yH (fun w1 (h:Below w.heap.size w w1) (hc:w1.cell? ⟨w.heap.size+1,0,none⟩=some (.int .i64 d))=>eachK_any q m f K (PK.right · d) 203 #[.pointer (some ⟨w.heap.size+1,0,none⟩)] (fun args w=>by as_aux_lemma=>kernel_rfl) w1 (hK.later h) (fun e w' _ he hb=>fnKid_any e _ d w' ((hb.cell (block_lt_of_cell hc)).trans hc) he))
 rw [show (pnOf kind E K).rows=E.map En.pe from rfl,show (pnOf kind E K).kids=K.map Kd.pk from rfl] at hr
 generalize (pnOf kind E K).right d=X at *
 generalize (pnOf kind E K).shape d=XS at *
 generalize (E.map En.pe).all (PE.long d)=XL at *
 generalize (K.map Kd.pk).all (PK.right · d)=XK at *
 have HS:=yH hr
 have HB:=yH hb12
 have HNR:=yH hnr
 clear hE hK hb1 hb2 hb12 hn hnr hd hz hr HR0
 go_enter Tryz.func149,Tryz.ntmps149
 go_upto_region 1 with fail
 generalize (w.alloc (.cells #[.int .u8 kind,.slice p n c,.slice q m f] 81)).alloc (.cells #[.int .i64 d] 3)=w1 at *
 obtain ⟨t0,t1,t2⟩:=HNR.out.node.cells
 have t3:=HNR.out.dim
 by_cases h1:1≤d
 case neg=>
  have hs:=HS.out
  rw [decide_eq_false (fun e=>h1 e.1)] at hs
  obtain rfl:X=false:=by simpa using hs
  clear hs
  go_wp2_with fail
  go_ret
  exact ⟨rfl,HB.out⟩
 by_cases h2:d≤8
 case neg=>
  have hs:=HS.out
  rw [decide_eq_false (fun e=>h2 e.2)] at hs
  obtain rfl:X=false:=by simpa using hs
  clear hs
  go_wp2_with fail
  go_ret
  exact ⟨rfl,HB.out⟩
 have hs:=HS.out
 rw [decide_eq_true ⟨h1,h2⟩] at hs
 have HS1:=yH hs
 clear hs HS
 have A1:=yH (HSH.out w1 HB.out)
 clear HSH
 cases XS with
 | false=>
  obtain rfl:X=false:=by have:=HS1.out;simpa using this
  clear HS1
  go_wp2_with (go_at_call 199;refine A1.out.mono ?_;rintro e w2 ⟨rfl,b2⟩;have HB2:=yH (HB.out.trans (b2.mono HB.out.size));clear b2)
  go_ret
  exact ⟨rfl,HB2.out⟩
 | true=>
 cases XL with
 | false=>
  obtain rfl:X=false:=by have:=HS1.out;simpa using this
  clear HS1
  go_wp2_with (first
   | (go_at_call 199;refine A1.out.mono ?_;rintro e w2 ⟨rfl,b2⟩;have HB2:=yH (HB.out.trans (b2.mono HB.out.size));have H2:=yH (HNR.out.later b2);obtain ⟨t0,t1,t2⟩:=H2.out.node.cells;have t3:=H2.out.dim;have A2:=yH (HLE.out w2 HB2.out t3);clear b2)
   | (go_at_call 200;refine A2.out.mono ?_;rintro e w3 ⟨rfl,b3⟩;have HB3:=yH (HB2.out.trans (b3.mono HB2.out.size));clear b3))
  go_ret
  exact ⟨rfl,HB3.out⟩
 | true=>
 have HX:=yH (show XK=X from by have:=HS1.out;simpa using this.symm)
 clear HS1
 go_wp2_with (first
  | (go_at_call 199;refine A1.out.mono ?_;rintro e w2 ⟨rfl,b2⟩;have HB2:=yH (HB.out.trans (b2.mono HB.out.size));have H2:=yH (HNR.out.later b2);obtain ⟨t0,t1,t2⟩:=H2.out.node.cells;have t3:=H2.out.dim;have A2:=yH (HLE.out w2 HB2.out t3);clear b2)
  | (go_at_call 200;refine A2.out.mono ?_;rintro e w3 ⟨rfl,b3⟩;have HB3:=yH (HB2.out.trans (b3.mono HB2.out.size));have H3:=yH (H2.out.later b3);obtain ⟨t0,t1,t2⟩:=H3.out.node.cells;have t3:=H3.out.dim;have A3:=yH (HKE.out w3 HB3.out t3);clear b3)
  | (go_at_call 202;refine A3.out.mono ?_;rintro e w4 ⟨rfl,b4⟩;have HB4:=yH (HB3.out.trans (b4.mono HB3.out.size));clear b4))
 go_ret
 exact ⟨by rw [HX.out];rfl,HB4.out⟩
end Go.Proofs.YtinihaflmdihaaaGreat.Nd
namespace Go.Proofs.YtinihaflmdihaaaGreat
open Go.RowKit
def St.row' (s:St) (R:List Int):St:=if R.length≤255 then s.put (rowB R) else .no
def WRowRel (w:World) (base g:Nat) (v:Value) (s:St) (R:List Int) (i:Value) (wr:World):Prop:=
 ∃(k:Nat) (v':Value),k≤R.length∧i= .int .i64 k∧WS wr base g v' (s.put (R.length::nums (R.take k)))∧WStep w wr g v v'
theorem roww_any (s:St) (R:List Int) (p:Option Addr) (n c:Nat) (base g:Nat) (v:Value) (w:World) (hs:WS w base g v s) (hR:Ints w p n c R) (hl:s.B.length+(1+8*R.length)<1099511627776) (hbw:base≤w.heap.size)
  (hg:∀x,p=some x→R≠[]→x.block≠g∧v.ownBlock≠some x.block):
  Calls Tryz.prog 240 #[.pointer (some ⟨g,0,none⟩),.slice p n c] w (WPost w base g v (s.row' R)):=by
 have HS:=yH hs
 have HR:=yH hR
 have HL:=yH hl
 have HG:=yH hg
 have HN:=yH hR.size
 have HBW:=yH hbw
 have hn:n<1099511627776:=by have:=hR.size;omega
 clear hs hR hl hg hbw
 go_enter Tryz.func240,Tryz.ntmps240
 by_cases h:255<n
 ·have b1:(255:Int)<n:=by omega
  go_wp2_with fail
  refine (refuse_any s base g v _ HS.out).mono ?_
  rintro e w1 hp
  obtain ⟨rfl,v2,h3,h4⟩:=hp
  have H3:=yH h3
  have H4:=yH h4
  clear h3 h4
  go_wp2_with fail
  go_end0
  refine ⟨rfl,v2,?_,H4.out⟩
  unfold St.row'
  rw [if_neg (by have:=HN.out;omega)]
  exact H3.out
 ·have b1:¬(255:Int)<n:=by omega
  go_wp2_with fail
  refine (byte_any s n (by omega) base g v _ HS.out (by have:=HL.out;omega) HBW.out).mono ?_
  rintro e w1 hp
  obtain ⟨rfl,v2,h3,h4⟩:=hp
  have H3:=yH h3
  have H4:=yH h4
  clear h3 h4
  go_wp2_with fail
  go_loopw [18] (fun i wr=>WRowRel w base g v s R i wr) (fun i _=>n - (intOf i).toNat)
  case atStart=>exact ⟨0,v2,by omega,rfl,by rw [← HN.out];exact H3.out,H4.out⟩
  case round=>
   obtain ⟨k,v1,hk,rfl,h1,h2⟩:=hrel
   rw [← HN.out] at hk
   have H1:=yH h1
   have H2:=yH h2
   clear h1 h2 H3 H4
   by_cases hlt:k<n
   ·have hkR:k<R.length:=by rw [← HN.out];exact hlt
    have hx:=HR.out.get k hlt
    rcases HR.out.at' with h0 | ⟨gx,o,hp,hc⟩
    ·rw [h0] at hkR;exact absurd hkR (by simp)
    ·have hne:R≠[]:=by rintro rfl;exact absurd hkR (by simp)
     obtain ⟨e1,e2⟩:=HG.out _ hp hne
     subst hp
     have hc1:=hc k hkR
     have hcell:wr.cell? ⟨gx,o+k,none⟩=some (.int .i64 (R.getD k 0)):=by
      rw [World.cell?_of_block (w:=w) (w':=wr) (a:=⟨gx,o+k,none⟩) (H2.out.block gx (block_lt_of_cell hc1) e1 e2)]
      exact hc1
     obtain ⟨x,hxx⟩:∃x,x=R.getD k 0:=⟨_,rfl⟩
     rw [← hxx] at hcell hx
     have hlen:=St.put_len s (R.length::nums (R.take k))
     rw [List.length_cons,nums_length,List.length_take_of_le (Nat.le_of_lt hkR)] at hlen
     have HXX:=yH hxx
     have HLN:=yH hlen
     have HX:=yH hx
     have HLE:=yH HR.out.le
     clear hc hc1 hne e1 e2 hxx hlen hx
     have hle:=HLE.out
     go_wp2_with fail
     refine (num_any _ x HX.out.1 HX.out.2 base g v1 _ H1.out (by have:=HLN.out;have:=HL.out;omega) (Nat.le_trans HBW.out H2.out.size)).mono ?_
     rintro e w3 hp
     obtain ⟨rfl,v3,h5,h6⟩:=hp
     have H5:=yH h5
     have H6:=yH (H2.out.trans h6)
     clear h5 h6
     go_wp2_with fail
     go_roundw
     case rel=>
      refine ⟨k+1,v3,by omega,by go_num,?_,H6.out⟩
      have:=H5.out
      rw [St.put_put,HXX.out,List.cons_append,← nums_step R k hkR] at this
      exact this
     case measure=>simp [intOf];omega
   ·obtain rfl:k=n:=by omega
    go_wp2_with fail
    go_end0
    refine ⟨rfl,v1,?_,H2.out⟩
    have:=H1.out
    rw [List.take_of_length_le (by have:=HN.out;omega)] at this
    unfold St.row'
    rw [if_pos (by have:=HN.out;omega)]
    exact this
theorem truth_any (s:St) (x:Bool) (base g:Nat) (v:Value) (w:World) (hs:WS w base g v s) (hl:s.B.length+1<1099511627776) (hbw:base≤w.heap.size):
  Calls Tryz.prog 239 #[.pointer (some ⟨g,0,none⟩),.bool x] w (WPost w base g v (s.truth x)):=by
 have HS:=yH hs
 clear hs
 unfold St.truth
 cases x
 ·go_enter Tryz.func239,Tryz.ntmps239
  go_wp2_with fail
  refine (byte_any s 0 (by omega) base g v _ HS.out hl hbw).mono ?_
  rintro e w1 hp
  obtain ⟨rfl,v2,h3,h4⟩:=hp
  have H3:=yH h3
  have H4:=yH h4
  clear h3 h4
  go_wp2_with fail
  go_end0
  exact ⟨rfl,v2,H3.out,H4.out⟩
 ·go_enter Tryz.func239,Tryz.ntmps239
  go_wp2_with fail
  refine (byte_any s 1 (by omega) base g v _ HS.out hl hbw).mono ?_
  rintro e w1 hp
  obtain ⟨rfl,v2,h3,h4⟩:=hp
  have H3:=yH h3
  have H4:=yH h4
  clear h3 h4
  go_wp2_with fail
  go_end0
  exact ⟨rfl,v2,H3.out,H4.out⟩
def ClonePost (w:World) (B:List Nat) (e:Ending) (w':World):Prop:=∃q c,e= .returned (.slice q B.length c)∧w'.ownsRow w.heap.size 5 1 (.slice q B.length c) B.length (vals B)∧Below w.heap.size w w'
theorem clone_any (B:List Nat) (p:Option Addr) (n c:Nat) (w:World) (hB:Tx w p n c B) (hl:n<1099511627776):
  Calls Tryz.prog 67 #[.slice p n c] w (ClonePost w B):=by
 have heq:=fun w'=>Lib.run_eql_slice_nil (P:=Tryz.prog) w' 45 5 p n c 0 0 A22
 have hn:=hB.size
 have hle:=hB.le
 have HN:=yH hn
 have HB:=yH hB
 rcases hB.at' with ⟨hp,hc⟩ | ⟨x,hp,_⟩
 ·subst hp
  subst hc
  obtain rfl:n=0:=by omega
  have hB0:B=[]:=List.length_eq_zero_iff.1 hn.symm
  subst hB0
  clear hn hB
  go_enter Tryz.func67,Tryz.ntmps67
  go_wp2_with fail
  go_ret
  exact ⟨none,0,rfl,World.ownsRow_nil _ _ _ _,Below.refl _ _⟩
 ·subst hp
  obtain ⟨i5,hi,hi0,hi1,hi2⟩:=info_parts I5
  have HI:=yH hi
  have HI0:=yH hi0
  have HI1:=yH hi1
  have HI2:=yH hi2
  clear hi hi0 hi1 hi2 hn hB hle
  have hE:(w.alloc (.cells #[] 5)).ownsRow w.heap.size 5 1 (.slice (some ⟨w.heap.size,0,none⟩) 0 0) 0 (vals ([]:List Nat)):=owns_mk (L:=[]) (heap_alloc_new w _) rfl (Nat.le_refl _) (by unfold maxLen;omega) (Nat.le_refl _)
  have HE:=yH hE
  clear hE
  go_enter Tryz.func67,Tryz.ntmps67
  go_wp2_with (at_builtin;refine wpList_append_own _ (by rfl) (.tmp 5) (.tmp 6) 45 (by rfl) w.heap.size 5 i5 (.int .u8 0) 1 1 A22 HI.out HI0.out HI1.out HI2.out (by rfl) (by decide) _ 0 [] (by rfl) HE.out x n c (vals B) (by rfl) (by rw [vals_length,Nat.mul_one];exact HN.out.symm) ((HB.out.later ((Below.refl _ _).alloc (Nat.le_refl _) _)).cells) (vals_one _) (by unfold maxLen;omega) (by omega) (by simp) ?_;intro v2 w2 hown2 hgrow2 _;obtain ⟨q2,c2,hv2⟩:=slice_of_owns hown2;have HO3:=yH hown2;have HG3:=yH hgrow2;have HV3:=yH hv2;rw [hv2];clear hown2 hgrow2 hv2)
  go_ret
  have e:n=B.length:=HN.out
  subst e
  have ho:=HO3.out
  rw [HV3.out,Nat.zero_add] at ho
  exact ⟨q2,c2,rfl,ho,((Below.refl w.heap.size w).alloc (Nat.le_refl _) _).grown HG3.out (by simp) (fun k hk=>by simp [Value.ownBlock] at hk;omega)⟩
theorem wbytes_any (s:St) (base g:Nat) (v:Value) (w:World) (hs:WS w base g v s) (hl:s.B.length<1099511627776):
  Calls Tryz.prog 242 #[.pointer (some ⟨g,0,none⟩)] w (ClonePost w s.B):=by
 obtain ⟨q0,c0,hv0,hb⟩:=owns_form hs.own hs.ok
 subst hv0
 have h0:=hs.out
 have HB:=yH hb.tx
 clear hs hb
 go_enter Tryz.func242,Tryz.ntmps242
 go_wp2_with fail
 refine (clone_any s.B q0 _ c0 _ HB.out hl).mono ?_
 rintro e w1 hp
 obtain ⟨q,c,rfl,ho,hb⟩:=hp
 have HO:=yH ho
 have HB1:=yH hb
 clear ho hb
 go_wp2_with fail
 go_ret
 exact ⟨q,c,rfl,HO.out,HB1.out⟩
end Go.Proofs.YtinihaflmdihaaaGreat
namespace Go.Proofs.YtinihaflmdihaaaGreat.Nd
open Go.RowKit
structure PK.Fit (k:PK):Prop where
 live:0≤k.live∧k.live≤1048576
 size:0≤k.size∧k.size≤1048576
 lo:k.lo.length≤8
 hi:k.hi.length≤8
 key:k.key.length≤8
theorem rintsLt {w:World} {x:Addr} {p:Option Addr} {n c:Nat} {R:List Int} (h:Ints w p n c R) (hx:p=some x) (hR:R≠[]):x.block<w.heap.size:=by
 rcases h.at' with h0 | ⟨g,o,hp,hc⟩
 ·exact absurd h0 hR
 ·rw [hx] at hp
  obtain rfl:x=⟨g,o,Option.none⟩:=by simpa using hp
  have:=hc 0 (List.length_pos_iff.2 hR)
  exact block_lt_of_cell this
theorem rowBs_eq {R:List Int} (h:R.length≤8):rowB R=rowBs R:=by
 unfold rowB rowBs
 rw [Nat.mod_eq_of_lt (by omega)]
theorem put_row {s:St} {R:List Int} (h:R.length≤8):s.row' R=s.put (rowBs R):=by
 unfold St.row'
 rw [if_pos (by omega),rowBs_eq h]
theorem put_count {s:St} {n:Int} (h:0≤n∧n≤1048576):s.count n=s.put (Cm.be n.toNat 3):=by
 unfold St.count
 rw [if_pos h]
structure WkSt (w0:World) (gx:Nat) (kd:Kd) (w:World) (g:Nat) (v:Value) (s:St):Prop where
 ws:WS w w0.heap.size g v s
 row:w.heap[gx]? =some (.cells kd.cells.toArray 34 (0,0))
 ne:v.ownBlock≠some gx
 ng:gx≠g
 low:Below w0.heap.size w0 w
 lg:w0.heap.size≤g
theorem WkSt.step {w0 w w':World} {gx g:Nat} {kd:Kd} {v v':Value} {s s':St} (h:WkSt w0 gx kd w g v s) (hs:WS w' w0.heap.size g v' s') (k:WStep w w' g v v'):WkSt w0 gx kd w' g v' s':=
 ⟨hs,(k.block _ (yL h.row) h.ng h.ne).trans h.row,fun e=>by
  rcases k.own _ e with h1 | h1
  ·exact h.ne h1
  ·have:=(yL h.row)
   omega,h.ng,h.low.trans (k.below h.lg (fun j hj=>(h.ws.own.lt j hj).1) h.low.size),h.lg⟩
theorem WkSt.start {w0 w:World} {g:Nat} {kd:Kd} {v:Value} {s:St} (h:WS w w0.heap.size g v s) (hl:Below w0.heap.size w0 w) (hg:w0.heap.size≤g):WkSt w0 w.heap.size kd (w.alloc (.cells kd.cells.toArray 34)) g v s:=
 ⟨h.later ((Below.refl _ _).alloc (Nat.le_refl _) _),heap_alloc_new w _,(fun e=>by have:=(h.own.lt _ e).2;omega),(fun e=>by have:=h.lt;omega),hl.alloc hl.size _,hg⟩
theorem wkid_any (w0:World) (kd:Kd) (hk:kd.Ok w0) (hf:kd.pk.Fit) (s:St) (g:Nat) (v:Value) (w:World) (hs:WS w w0.heap.size g v s) (hl:s.B.length+2000<1099511627776) (hlow:Below w0.heap.size w0 w) (hg:w0.heap.size≤g):
  Calls Tryz.prog 241 #[.pointer (some ⟨g,0,Option.none⟩),.agg kd.cells.toArray] w (WPost w w0.heap.size g v (s.put kd.pk.bytes)):=by
 have hst:=WkSt.start (kd:=kd) hs hlow hg
 have HSL:=yH hk.len
 have HSO:=yH hk.ok
 have HOK:=yH hk
 have HF:=yH hf
 have HL:=yH hl
 have HA:=yH (WStep.alloc w g v (.cells kd.cells.toArray 34))
 have hgx:w.heap.size=w.heap.size:=rfl
 have HLV:=yH hk.live
 have HSV:=yH hk.size
 clear hk hf hl hs hlow hg
 go_enter Tryz.func241,Tryz.ntmps241
 go_upto_region 1 with fail
 generalize w.alloc (.cells kd.cells.toArray 34)=w1 at *
 generalize w.heap.size=gx at *
 have HB0:=yH hst
 clear hst hgx
 have hlen9:s.B.length≤s.B.length+0:=by omega
 have K9:=yH (kat_row HB0.out.row HSL.out)
 have HC9:=yH (digestw_any s kd.sum HSL.out HSO.out w0.heap.size g v w1 HB0.out.ws (by have:=HL.out;omega) HB0.out.low.size)
 clear hlen9
 go_upto_region 2 with (first
  | (refine wpList_load_mid (by rfl) 30 _ (by rfl) _ 0 (by rfl) (vals kd.sum) _ K9.out.sum A25 (by rfl) (by rw [vals_length,HSL.out];exact S25) ?_;rw [vals_toArray])
  | (go_at_call 269;refine HC9.out.mono ?_;rintro _ w2 ⟨rfl,v1,h9,k9⟩;have HB1:=yH (HB0.out.step h9 k9);have HW1:=yH ((WStep.refl _ _ _).trans k9);clear h9 k9))
 have hn9:=St.put_len s kd.sum
 rw [HSL.out] at hn9
 have hl9:(s.put kd.sum).B.length≤s.B.length+32:=by omega
 have HLN1:=yH hl9
 obtain ⟨s1,hs9⟩:∃s1,s.put kd.sum=s1:=⟨_,rfl⟩
 rw [hs9] at HB1 HLN1
 have HS1:=yH hs9
 clear hs9 hn9 hl9 HC9 K9
 have hlen9:s1.B.length≤s.B.length+32:=HLN1.out
 have c9:=(kat_row HB1.out.row HSL.out).live
 rw [Nat.zero_add] at c9
 have hc9:=count_any s1 kd.live HLV.out.1 HLV.out.2 w0.heap.size g v1 w2 HB1.out.ws (by have:=HL.out;omega) HB1.out.low.size
 rw [put_count (n:=kd.live) HF.out.live] at hc9
 have HC9:=yH hc9
 clear hc9
 clear hlen9
 go_upto_region 3 with (go_at_call 270;refine HC9.out.mono ?_;rintro _ w3 ⟨rfl,v2,h9,k9⟩;have HB2:=yH (HB1.out.step h9 k9);have HW2:=yH ((WStep.refl _ _ _).trans k9);clear h9 k9)
 have hn9:=St.put_len s1 (Cm.be kd.live.toNat 3)
 rw [Cm.be_length] at hn9
 have hl9:(s1.put (Cm.be kd.live.toNat 3)).B.length≤s.B.length+35:=by have:=HLN1.out;omega
 have HLN2:=yH hl9
 obtain ⟨s2,hs9⟩:∃s2,s1.put (Cm.be kd.live.toNat 3)=s2:=⟨_,rfl⟩
 rw [hs9] at HB2 HLN2
 have HS2:=yH hs9
 clear hs9 hn9 hl9 HC9 c9
 have hlen9:s2.B.length≤s.B.length+35:=HLN2.out
 have c9:=(kat_row HB2.out.row HSL.out).size
 rw [Nat.zero_add] at c9
 have hc9:=count_any s2 kd.size HSV.out.1 HSV.out.2 w0.heap.size g v2 w3 HB2.out.ws (by have:=HL.out;omega) HB2.out.low.size
 rw [put_count (n:=kd.size) HF.out.size] at hc9
 have HC9:=yH hc9
 clear hc9
 clear hlen9
 go_upto_region 4 with (go_at_call 270;refine HC9.out.mono ?_;rintro _ w4 ⟨rfl,v3,h9,k9⟩;have HB3:=yH (HB2.out.step h9 k9);have HW3:=yH ((WStep.refl _ _ _).trans k9);clear h9 k9)
 have hn9:=St.put_len s2 (Cm.be kd.size.toNat 3)
 rw [Cm.be_length] at hn9
 have hl9:(s2.put (Cm.be kd.size.toNat 3)).B.length≤s.B.length+38:=by have:=HLN2.out;omega
 have HLN3:=yH hl9
 obtain ⟨s3,hs9⟩:∃s3,s2.put (Cm.be kd.size.toNat 3)=s3:=⟨_,rfl⟩
 rw [hs9] at HB3 HLN3
 have HS3:=yH hs9
 clear hs9 hn9 hl9 HC9 c9
 have hlen9:s3.B.length≤s.B.length+38:=HLN3.out
 have c9:=(kat_row HB3.out.row HSL.out).lo
 rw [Nat.zero_add] at c9
 unfold Rw.val at c9
 have hok9:=HOK.out.lo.later HB3.out.low
 have hl9:kd.lo.R.length≤8:=HF.out.lo
 have hc9:=roww_any s3 kd.lo.R _ _ _ w0.heap.size g v3 w4 HB3.out.ws hok9.ints (by have:=HL.out;omega) HB3.out.low.size (fun x hx hR=>by have h8:=rintsLt HOK.out.lo.ints hx hR;exact ⟨fun e=>by have:=HB3.out.lg;omega,fun e=>by have:=(HB3.out.ws.own.lt _ e).1;omega⟩)
 rw [put_row hl9] at hc9
 have HC9:=yH hc9
 have HL9:=yH hl9
 clear hc9 hok9 hl9
 clear hlen9
 go_upto_region 5 with (go_at_call 240;refine HC9.out.mono ?_;rintro _ w5 ⟨rfl,v4,h9,k9⟩;have HB4:=yH (HB3.out.step h9 k9);have HW4:=yH ((WStep.refl _ _ _).trans k9);clear h9 k9)
 have hn9:=St.put_len s3 (rowBs kd.lo.R)
 rw [rowBs_length] at hn9
 have hl9:(s3.put (rowBs kd.lo.R)).B.length≤s.B.length+103:=by have:=HLN3.out;have:=HL9.out;omega
 have HLN4:=yH hl9
 obtain ⟨s4,hs9⟩:∃s4,s3.put (rowBs kd.lo.R)=s4:=⟨_,rfl⟩
 rw [hs9] at HB4 HLN4
 have HS4:=yH hs9
 clear hs9 hn9 hl9 HC9 c9 HL9
 have hlen9:s4.B.length≤s.B.length+103:=HLN4.out
 have c9:=(kat_row HB4.out.row HSL.out).hi
 rw [Nat.zero_add] at c9
 unfold Rw.val at c9
 have hok9:=HOK.out.hi.later HB4.out.low
 have hl9:kd.hi.R.length≤8:=HF.out.hi
 have hc9:=roww_any s4 kd.hi.R _ _ _ w0.heap.size g v4 w5 HB4.out.ws hok9.ints (by have:=HL.out;omega) HB4.out.low.size (fun x hx hR=>by have h8:=rintsLt HOK.out.hi.ints hx hR;exact ⟨fun e=>by have:=HB4.out.lg;omega,fun e=>by have:=(HB4.out.ws.own.lt _ e).1;omega⟩)
 rw [put_row hl9] at hc9
 have HC9:=yH hc9
 have HL9:=yH hl9
 clear hc9 hok9 hl9
 clear hlen9
 go_upto_region 6 with (go_at_call 240;refine HC9.out.mono ?_;rintro _ w6 ⟨rfl,v5,h9,k9⟩;have HB5:=yH (HB4.out.step h9 k9);have HW5:=yH ((WStep.refl _ _ _).trans k9);clear h9 k9)
 have hn9:=St.put_len s4 (rowBs kd.hi.R)
 rw [rowBs_length] at hn9
 have hl9:(s4.put (rowBs kd.hi.R)).B.length≤s.B.length+168:=by have:=HLN4.out;have:=HL9.out;omega
 have HLN5:=yH hl9
 obtain ⟨s5,hs9⟩:∃s5,s4.put (rowBs kd.hi.R)=s5:=⟨_,rfl⟩
 rw [hs9] at HB5 HLN5
 have HS5:=yH hs9
 clear hs9 hn9 hl9 HC9 c9 HL9
 have hlen9:s5.B.length≤s.B.length+168:=HLN5.out
 have c9:=(kat_row HB5.out.row HSL.out).key
 rw [Nat.zero_add] at c9
 unfold Rw.val at c9
 have hok9:=HOK.out.key.later HB5.out.low
 have hl9:kd.key.R.length≤8:=HF.out.key
 have hc9:=roww_any s5 kd.key.R _ _ _ w0.heap.size g v5 w6 HB5.out.ws hok9.ints (by have:=HL.out;omega) HB5.out.low.size (fun x hx hR=>by have h8:=rintsLt HOK.out.key.ints hx hR;exact ⟨fun e=>by have:=HB5.out.lg;omega,fun e=>by have:=(HB5.out.ws.own.lt _ e).1;omega⟩)
 rw [put_row hl9] at hc9
 have HC9:=yH hc9
 have HL9:=yH hl9
 clear hc9 hok9 hl9
 clear hlen9
 go_wp2_with (go_at_call 240;refine HC9.out.mono ?_;rintro _ w7 ⟨rfl,v6,h9,k9⟩;have HB6:=yH (HB5.out.step h9 k9);have HW6:=yH ((WStep.refl _ _ _).trans k9);clear h9 k9)
 have hn9:=St.put_len s5 (rowBs kd.key.R)
 rw [rowBs_length] at hn9
 have hl9:(s5.put (rowBs kd.key.R)).B.length≤s.B.length+233:=by have:=HLN5.out;have:=HL9.out;omega
 have HLN6:=yH hl9
 obtain ⟨s6,hs9⟩:∃s6,s5.put (rowBs kd.key.R)=s6:=⟨_,rfl⟩
 rw [hs9] at HB6 HLN6
 have HS6:=yH hs9
 clear hs9 hn9 hl9 HC9 c9 HL9
 go_end0
 refine ⟨rfl,v6,?_,((((((HA.out.trans HW1.out).trans HW2.out).trans HW3.out).trans HW4.out).trans HW5.out).trans HW6.out)⟩
 have h:=HB6.out.ws
 rw [← HS6.out,← HS5.out,← HS4.out,← HS3.out,← HS2.out,← HS1.out] at h
 simp only [St.put_put] at h
 have e:kd.pk.bytes=kd.sum++Cm.be kd.live.toNat 3++Cm.be kd.size.toNat 3++rowBs kd.lo.R++rowBs kd.hi.R++rowBs kd.key.R:=by
  show kd.sum++(Cm.be kd.live.toNat 3++(Cm.be kd.size.toNat 3++(rowBs kd.lo.R++(rowBs kd.hi.R++rowBs kd.key.R))))=_
  simp only [List.append_assoc]
 rw [e]
 simpa only [List.append_assoc] using h
end Go.Proofs.YtinihaflmdihaaaGreat.Nd
namespace Go.Proofs.YtinihaflmdihaaaGreat.Nd
open Go.RowKit Go.Proofs.YtinihaflmdihaaaGreat.Wl
theorem right_kid {k:PK} {d:Int} (h:k.right d=true):(0≤k.live∧k.live≤1048576)∧(0≤k.size∧k.size≤1048576)∧k.lo.length≤8∧k.hi.length≤8:=by
 unfold PK.right at h
 split at h
 ·rename_i h0
  rw [h0]
  simp [PK.none]
 ·split at h
  ·cases h
  ·split at h
   ·have:=of_decide_eq_true h
    omega
   ·have:=rightB_dims h
    omega
structure PN.Fit (n:PN):Prop where
 rows:n.rows.length≤4
 kids:n.kids.length≤4
 row:∀e∈n.rows,e.row.length≤8
 kid:∀k∈n.kids,k.Fit
theorem PN.fit {n:PN} {d:Int} (h:n.right d=true):n.Fit:=by
 rw [PN.right_shape,Bool.and_eq_true,Bool.and_eq_true,Bool.and_eq_true,decide_eq_true_iff] at h
 obtain ⟨⟨⟨hd,hs⟩,hr⟩,hk⟩:=h
 have hrow:∀e∈n.rows,e.row.length≤8:=fun e he=>by
  have:=of_decide_eq_true (List.all_eq_true.1 hr e he)
  omega
 have key:∀(x:Int),x≤8→n.kids.all (PK.keys x)=true→∀k∈n.kids,k.Fit:=fun x hx hh k hkm=>by
  have h1:=right_kid (List.all_eq_true.1 hk k hkm)
  have h2:=of_decide_eq_true (List.all_eq_true.1 hh k hkm)
  exact ⟨h1.1,h1.2.1,h1.2.2.1,h1.2.2.2,by omega⟩
 unfold PN.shape at hs
 split at hs
 ·rw [Bool.and_eq_true,Bool.and_eq_true,decide_eq_true_iff,decide_eq_true_iff] at hs
  exact ⟨by omega,by omega,hrow,key 0 (by omega) hs.2⟩
 ·split at hs
  ·rw [Bool.and_eq_true,Bool.and_eq_true,Bool.and_eq_true,decide_eq_true_iff,decide_eq_true_iff,decide_eq_true_iff] at hs
   exact ⟨by omega,by omega,hrow,fun k hkm=>by rw [List.length_eq_zero_iff.1 hs.1.2] at hkm;cases hkm⟩
  ·split at hs
   ·rw [Bool.and_eq_true,Bool.and_eq_true,Bool.and_eq_true,decide_eq_true_iff,decide_eq_true_iff,decide_eq_true_iff] at hs
    exact ⟨by omega,by omega,hrow,key d hd.2 hs.2⟩
   ·cases hs
structure EcSt (w0 w:World) (gn kind:Nat) (p:Option Addr) (n c:Nat) (q:Option Addr) (m f:Nat) (g:Nat) (v:Value) (s:St):Prop where
 ws:WS w w0.heap.size g v s
 node:NodeAt w gn kind p n c q m f
 ne:v.ownBlock≠some gn
 ng:gn≠g
 low:Below w0.heap.size w0 w
 lg:w0.heap.size≤g
section
variable {w0 w w':World} {gn kind:Nat} {p:Option Addr} {n c:Nat} {q:Option Addr} {m f g:Nat} {v v':Value} {s s':St}
theorem EcSt.step (h:EcSt w0 w gn kind p n c q m f g v s) (hs:WS w' w0.heap.size g v' s') (k:WStep w w' g v v'):EcSt w0 w' gn kind p n c q m f g v' s':=
 ⟨hs,⟨(k.block _ (yL h.node.row) h.ng h.ne).trans h.node.row⟩,fun e=>by
  rcases k.own _ e with h1 | h1
  ·exact h.ne h1
  ·have:=(yL h.node.row)
   omega,h.ng,h.low.trans (k.below h.lg (fun j hj=>(h.ws.own.lt j hj).1) h.low.size),h.lg⟩
theorem EcSt.later (h:EcSt w0 w gn kind p n c q m f g v s) (hb:Below w.heap.size w w'):EcSt w0 w' gn kind p n c q m f g v s:=
 ⟨h.ws.later hb,h.node.later hb,h.ne,h.ng,h.low.trans (hb.mono h.low.size),h.lg⟩
theorem EcSt.cell_keep {x:Nat} {o:Nat} {u:Value} (_h:EcSt w0 w gn kind p n c q m f g v s) (k:WStep w w' g v v') (hx:x≠g) (hv:v.ownBlock≠some x) (hc:w.cell? ⟨x,o,Option.none⟩=some u):w'.cell? ⟨x,o,Option.none⟩=some u:=
 (World.cell?_of_block (w:=w) (w':=w') (a:=⟨x,o,Option.none⟩) (k.block x (block_lt_of_cell hc) hx hv)).trans hc
theorem EcSt.fresh (h:EcSt w0 w gn kind p n c q m f g v s):w.heap.size≠g∧v.ownBlock≠some w.heap.size:=
 ⟨fun e=>by have:=h.ws.lt;omega,fun e=>by have:=(h.ws.own.lt _ e).2;omega⟩
end
def Ec1 (w0:World) (gn kind:Nat) (p:Option Addr) (n c:Nat) (q:Option Addr) (m f g:Nat) (E:List En) (H:List Nat) (i:Value) (wr:World):Prop:=
 ∃(k:Nat) (v:Value) (X:List Nat),k≤n∧i= .int .i64 k∧X=H++(E.take k).flatMap (fun e=>e.pe.bytes)∧X.length≤2+70*k∧EcSt w0 wr gn kind p n c q m f g v ⟨X,0⟩
def Ec2 (w0:World) (gn kind:Nat) (p:Option Addr) (n c:Nat) (q:Option Addr) (m f g:Nat) (K:List Kd) (H:List Nat) (i:Value) (wr:World):Prop:=
 ∃(k:Nat) (v:Value) (X:List Nat),k≤m∧i= .int .i64 k∧X=H++(K.take k).flatMap (fun e=>e.pk.bytes)∧X.length≤1000+300*k∧EcSt w0 wr gn kind p n c q m f g v ⟨X,0⟩
theorem kid_bytes_len {k:PK} (h:k.Fit) (hs:k.sum.length=32):k.bytes.length≤300:=by
 unfold PK.bytes
 simp only [List.length_append,Cm.be_length,rowBs_length,hs]
 have:=h.lo;have:=h.hi;have:=h.key
 omega
def EncPost (w:World) (n:PN) (d:Int) (e:Ending) (w':World):Prop:=
 Below w.heap.size w w'∧
 ((n.right d=true∧∃q c,e= .returned (.tuple #[.slice q n.bytes.length c,.int .i64 0])∧w'.ownsRow w.heap.size 5 1 (.slice q n.bytes.length c) n.bytes.length (vals n.bytes)∧Sm.allB n.bytes)∨
  (n.right d=false∧e= .returned (.tuple #[.slice Option.none 0 0,.int .i64 1])))
theorem encode_any (kind:Nat) (hkd:kind<256) (p:Option Addr) (n c:Nat) (q:Option Addr) (m f:Nat) (E:List En) (K:List Kd) (d:Int) (w:World) (hE:EntsIn w p n c E) (hK:KidsIn w q m f K):
  Calls Tryz.prog 205 #[.agg #[.int .u8 kind,.slice p n c,.slice q m f],.int .i64 d] w (EncPost w (pnOf kind E K) d):=by
 have hb1:Below w.heap.size w (w.alloc (.cells #[.int .u8 kind,.slice p n c,.slice q m f] 81)):=(Below.refl _ _).alloc (Nat.le_refl _) _
 have hn:=NodeAt.start w kind p n c q m f
 have HRT:=yH (nright_any kind p n c q m f E K d _ (hE.later hb1) (hK.later hb1))
 obtain ⟨X,hX⟩:∃X,(pnOf kind E K).right d=X:=⟨_,rfl⟩
 rw [hX] at HRT
 have HB:=yH hb1
 have HN:=yH hn
 have HEW:=yH hE
 have HKW:=yH hK
 have HES:=yH hE.size
 have HKS:=yH hK.size
 obtain ⟨du,hdu,hdr⟩:=UKd
 have HD:=yH hdu
 have HDR:=yH hdr
 have HZ:=yH (zero_of_info kz)
 clear hE hK hb1 hn hdu hdr
 cases X with
 | false=>
  have HX:=yH hX
  clear hX
  go_enter Tryz.func205,Tryz.ntmps205
  go_upto_region 1 with fail
  generalize w.alloc (.cells #[.int .u8 kind,.slice p n c,.slice q m f] 81)=w1 at *
  obtain ⟨t0,t1,t2⟩:=HN.out.cells
  go_wp2_with (go_at_call 149;refine HRT.out.mono ?_;rintro e w2 ⟨rfl,b2⟩;have HB2:=yH (HB.out.trans (b2.mono HB.out.size));clear b2)
  go_ret2
  exact ⟨HB2.out,Or.inr ⟨HX.out,rfl⟩⟩
 | true=>
 have hft:=PN.fit hX
 have HX:=yH hX
 have hn4:n≤4:=by have:=hft.rows;simp only [pnOf,List.length_map] at this;rw [HES.out];exact this
 have hm4:m≤4:=by have:=hft.kids;simp only [pnOf,List.length_map] at this;rw [HKS.out];exact this
 have HFR:=yH (show ∀e∈E,e.row.R.length≤8 from fun e he=>hft.row _ (List.mem_map.2 ⟨e,he,rfl⟩))
 have HFK:=yH (show ∀k∈K,k.pk.Fit from fun k hk=>hft.kid _ (List.mem_map.2 ⟨k,hk,rfl⟩))
 clear hX hft
 have e8:IntKind.u8.wrap (n:Int)=(n:Nat):=by rw [IntKind.wrap_u8];omega
 have e9:IntKind.u8.wrap (m:Int)=(m:Nat):=by rw [IntKind.wrap_u8];omega
 have HKD:=yH hkd
 have HN4:=yH hn4
 have HM4:=yH hm4
 clear hkd hn4 hm4
 go_enter Tryz.func205,Tryz.ntmps205
 go_upto_region 1 with fail
 generalize w.alloc (.cells #[.int .u8 kind,.slice p n c,.slice q m f] 81)=w1 at *
 obtain ⟨t0,t1,t2⟩:=HN.out.cells
 go_upto_region 3 with (go_at_call 149;refine HRT.out.mono ?_;rintro e w2 ⟨rfl,b2⟩;have HB2:=yH (HB.out.trans (b2.mono HB.out.size));have HN2:=yH (HN.out.later b2);clear b2)
 clear t0 t1 t2 HRT HN HB
 have hgn:w.heap.size<w2.heap.size:=(yL HN2.out.row)
 have hec:EcSt w (w2.alloc (.cells #[.slice Option.none 0 0,.int .i64 0] 291)) w.heap.size kind p n c q m f w2.heap.size (.slice Option.none 0 0) ⟨[],0⟩:=
  ⟨⟨heap_alloc_new w2 _,World.ownsRow_nil _ _ _ _,(fun x hx=>by cases hx),(fun h=>absurd rfl h)⟩,HN2.out.later ((Below.refl _ _).alloc (Nat.le_refl _) _),by simp [Value.ownBlock],by omega,HB2.out.alloc HB2.out.size _,HB2.out.size⟩
 go_upto_region 4 with fail
 generalize w2.alloc (.cells #[.slice Option.none 0 0,.int .i64 0] 291)=w3 at *
 generalize w2.heap.size=g at *
 have HC3:=yH hec
 obtain ⟨t0,t1,t2⟩:=hec.node.cells
 clear hec
 -- the kind,how many rows
 go_upto_region 5 with (go_at_call 238;refine (byte_any ⟨[],0⟩ kind HKD.out w.heap.size g _ w3 HC3.out.ws (by simp) HC3.out.low.size).mono ?_;rintro _ w4 ⟨rfl,v4,h9,k9⟩;have HC4:=yH (HC3.out.step h9 k9);clear h9 k9)
 clear t0 t1 t2
 obtain ⟨t0,t1,t2⟩:=HC4.out.node.cells
 go_upto_region 6 with (go_at_call 238;refine (byte_any _ n (by have:=HN4.out;omega) w.heap.size g _ w4 HC4.out.ws (by simp [St.put]) HC4.out.low.size).mono ?_;rintro _ w5 ⟨rfl,v5,h9,k9⟩;have hc5:=HC4.out.step h9 k9;rw [show (((St.mk [] 0).put [kind]).put [n])=⟨[kind,n],0⟩ from rfl] at hc5;have HC5:=yH hc5;clear h9 k9 hc5)
 clear t0 t1 t2 HC4 HC3
 obtain ⟨t0,t1,t2⟩:=HC5.out.node.cells
 go_wp2_with fail
 go_loopw [26] (fun i wr=>Ec1 w w.heap.size kind p n c q m f g E [kind,n] i wr) (fun i _=>n - (intOf i).toNat)
 case atStart=>exact ⟨0,v5,[kind,n],by omega,rfl,by simp,by simp,HC5.out⟩
 case round=>
  obtain ⟨k,v,Y,hk,rfl,hY,hYl,hec⟩:=hrel
  have HC:=yH hec
  have HY:=yH hY
  have HYL:=yH hYl
  have hn4:=HN4.out
  clear hec hY hYl HC5 t0 t1 t2
  by_cases hlt:k<n
  ·obtain ⟨g1,o1,rfl,c1,c2,hok⟩:=HEW.out.get k hlt
   have i1:(0:Int)≤k∧(k:Int)<n:=by omega
   have hlen:k<E.length:=by rw [← HES.out];exact hlt
   have HS:=yH (flat_succ (fun e:En=>e.pe.bytes) E k hlen)
   have hr8:=HFR.out _ (getD_mem E k hlen)
   have c1:=(HC.out.low.cell (block_lt_of_cell c1)).trans c1
   have c2:=(HC.out.low.cell (block_lt_of_cell c2)).trans c2
   generalize E.getD k default=e at *
   have HOK:=yH hok
   have HR8:=yH hr8
   simp only [Rw.val] at c1
   clear hok hr8
   go_upto_region 9 with fail
   obtain ⟨z0,z1⟩:=pair_alloc wr (.slice e.row.p e.row.n e.row.c) (.bool e.live) 85
   have HCA:=yH (HC.out.later (show Below wr.heap.size wr (wr.alloc (.cells #[.slice e.row.p e.row.n e.row.c,.bool e.live] 85)) from (Below.refl _ _).alloc (Nat.le_refl _) _))
   have HFX:=yH HC.out.fresh
   generalize wr.alloc (.cells #[.slice e.row.p e.row.n e.row.c,.bool e.live] 85)=wa at *
   generalize wr.heap.size=gx at *
   clear c1 c2
   go_upto_region 10 with (go_at_call 239;refine (truth_any ⟨Y,0⟩ e.live w.heap.size g _ wa HCA.out.ws (by have:=HYL.out;simp only [];omega) HCA.out.low.size).mono ?_;rintro _ w6 ⟨rfl,v6,h9,k9⟩;have z0:=HCA.out.cell_keep k9 HFX.out.1 HFX.out.2 z0;have HC6:=yH (HCA.out.step h9 k9);have HO6:=yH (show w6.heap.size≥wa.heap.size from k9.size);clear h9 k9)
   have HR6:=yH (show (St.mk Y 0).truth e.live=⟨Y++[if e.live then 1 else 0],0⟩ from rfl)
   rw [HR6.out] at HC6
   clear z1 HCA HR6
   have hrow:=roww_any ⟨Y++[if e.live then 1 else 0],0⟩ e.row.R _ _ _ w.heap.size g v6 w6 HC6.out.ws (HOK.out.later HC6.out.low).ints (by have:=HYL.out;have:=HR8.out;simp only [List.length_append,List.length_cons,List.length_nil];omega) HC6.out.low.size (fun x hx hR=>by have h8:=rintsLt HOK.out.ints hx hR;exact ⟨fun e=>by have:=HC6.out.lg;omega,fun e=>by have:=(HC6.out.ws.own.lt _ e).1;omega⟩)
   rw [put_row HR8.out] at hrow
   have HROW:=yH hrow
   clear hrow
   go_wp2_with (go_at_call 240;refine HROW.out.mono ?_;rintro _ w7 ⟨rfl,v7,h9,k9⟩;have HC7:=yH (HC6.out.step h9 k9);clear h9 k9)
   go_roundw
   case rel=>
    refine ⟨k+1,v7,(Y++[if e.live then 1 else 0])++rowBs e.row.R,by omega,by go_num,?_,?_,HC7.out⟩
    ·rw [HS.out,HY.out]
     cases hlv:e.live<;>simp [PE.bytes,En.pe,hlv]
    ·have:=HYL.out
     have:=HR8.out
     simp only [List.length_append,List.length_cons,List.length_nil,rowBs_length]
     omega
   case measure=>simp [intOf];omega
  ·obtain rfl:n=k:=by omega
   have e0:E.take n=E:=List.take_of_length_le (by rw [← HES.out];exact Nat.le_refl _)
   rw [e0] at HY
   have HYB:=yH (show Y.length≤300 from by have:=HYL.out;omega)
   clear e0 hlt hk HYL
   obtain ⟨t0,t1,t2⟩:=HC.out.node.cells
   go_upto_region 13 with (go_at_call 238;refine (byte_any ⟨Y,0⟩ m (by have:=HM4.out;omega) w.heap.size g _ wr HC.out.ws (by have:=HYB.out;simp only [];omega) HC.out.low.size).mono ?_;rintro _ w5 ⟨rfl,v5,h9,k9⟩;have hc5:=HC.out.step h9 k9;rw [show ((St.mk Y 0).put [m])=⟨Y++[m],0⟩ from rfl] at hc5;have HC5:=yH hc5;clear h9 k9 hc5)
   clear t0 t1 t2 HC
   obtain ⟨t0,t1,t2⟩:=HC5.out.node.cells
   go_wp2_with fail
   go_loopw [45] (fun i wr=>Ec2 w w.heap.size kind p n c q m f g K (Y++[m]) i wr) (fun i _=>m - (intOf i).toNat)
   case atStart=>exact ⟨0,v5,Y++[m],by omega,rfl,by simp,by have:=HYB.out;simp;omega,HC5.out⟩
   case round=>
    obtain ⟨k,v,Z,hk,rfl,hZ,hZl,hec⟩:=hrel
    have HC:=yH hec
    have HZ':=yH hZ
    have HZL:=yH hZl
    have hm4:=HM4.out
    clear hec hZ hZl HC5 t0 t1 t2
    by_cases hlt:k<m
    ·obtain ⟨g1,o1,rfl,hrg,hok⟩:=HKW.out.get k hlt
     have i1:(0:Int)≤k∧(k:Int)<m:=by omega
     have hlen:k<K.length:=by rw [← HKS.out];exact hlt
     have HS:=yH (flat_succ (fun e:Kd=>e.pk.bytes) K k hlen)
     have hfit:=HFK.out _ (getD_mem K k hlen)
     generalize K.getD k default=e at *
     have HR:=yH (range_later hrg HC.out.low)
     have HOK:=yH hok
     have HFIT:=yH hfit
     have HCL:=yH (Kd.cells_length hok.len)
     have hz0:=HZ.out.1
     clear hok hfit hrg
     go_upto_region 16 with (first
      | (refine wpList_load_mid (by rfl) 34 _ (by rfl) g1 (o1+k*37) (by rfl) e.cells du HR.out HD.out HDR.out (by rw [HCL.out];exact SKd) ?_)
      | (refine wpList_store_row (by rfl) 34 (.tmp 10) (.tmp 48) (by rfl) wr.heap.size e.cells.toArray (by rfl) (by rfl) _ _ (heap_alloc_new wr _) (by rw [List.size_toArray,HCL.out];exact SKd) (by simp only [List.size_toArray,HCL.out,kd0_size]) (all_oneCell_toArray Kd.one) ?_;rw [setRow_alloc]))
     have HRR:=yH (range_kd (heap_alloc_new wr (.cells e.cells.toArray 34)))
     have HCA:=yH (HC.out.later (show Below wr.heap.size wr (wr.alloc (.cells e.cells.toArray 34)) from (Below.refl _ _).alloc (Nat.le_refl _) _))
     generalize wr.alloc (.cells e.cells.toArray 34)=wa at *
     clear hz0 HC
     have HW:=yH (wkid_any w e HOK.out HFIT.out ⟨Z,0⟩ g v wa HCA.out.ws (by have:=HZL.out;simp only [];omega) HCA.out.low HCA.out.lg)
     go_wp2_with (first
      | (refine wpList_load_mid (by rfl) 34 _ (by rfl) _ 0 (by rfl) e.cells du HRR.out HD.out HDR.out (by rw [HCL.out];exact SKd) ?_)
      | (go_at_call 241;refine HW.out.mono ?_;rintro _ w7 ⟨rfl,v7,h9,k9⟩;have HC7:=yH (HCA.out.step h9 k9);clear h9 k9))
     go_roundw
     case rel=>
      refine ⟨k+1,v7,Z++e.pk.bytes,by omega,by go_num,?_,?_,HC7.out⟩
      ·rw [HS.out,HZ'.out]
       simp
      ·have:=HZL.out
       have:=kid_bytes_len HFIT.out HOK.out.len
       simp only [List.length_append]
       omega
     case measure=>simp [intOf];omega
    ·obtain rfl:m=k:=by omega
     have e0:K.take m=K:=List.take_of_length_le (by rw [← HKS.out];exact Nat.le_refl _)
     rw [e0] at HZ'
     have he:Z=(pnOf kind E K).bytes:=by
      have hn9:=HES.out
      have hm9:=HKS.out
      have hn4:=HN4.out
      rw [HZ'.out,HY.out]
      unfold PN.bytes pnOf
      simp only [List.length_map,List.flatMap_map]
      rw [← hn9,← hm9,Nat.mod_eq_of_lt (show n<256 by omega),Nat.mod_eq_of_lt (show m<256 by omega)]
      simp
     rw [he] at HC
     have HLZ:=yH (show (pnOf kind E K).bytes.length<1099511627776 from by rw [← he];have:=HZL.out;omega)
     clear he HZ' HY e0
     go_wp2_with (go_at_call 242;refine (wbytes_any ⟨(pnOf kind E K).bytes,0⟩ w.heap.size g v wr HC.out.ws HLZ.out).mono ?_;rintro _ w7 ⟨q7,c7,rfl,o7,b7⟩;have HO7:=yH o7;have HB7:=yH b7;clear o7 b7)
     go_ret2
     exact ⟨HC.out.low.trans (HB7.out.mono HC.out.low.size),Or.inl ⟨HX.out,q7,c7,rfl,owns_base HO7.out HC.out.low.size,HC.out.ws.ok⟩⟩
end Go.Proofs.YtinihaflmdihaaaGreat.Nd
namespace Go.Proofs.YtinihaflmdihaaaGreat
open Go.RowKit
structure RS (w:World) (g:Nat) (p:Option Addr) (n c:Nat) (s:Rd):Prop where
 row:w.heap[g]? =some (.cells #[.slice p n c,.int .i64 s.e] 251 (0,0))
 tx:Tx w p n c s.R
 lo:∀x,p=some x→s.R≠[]→x.block<g
def RSx (w:World) (g:Nat) (s:Rd):Prop:=∃p n c,RS w g p n c s
theorem RS.lt {w:World} {g:Nat} {p:Option Addr} {n c:Nat} {s:Rd} (h:RS w g p n c s):g<w.heap.size:=(yL h.row)
theorem RS.err {w:World} {g:Nat} {p:Option Addr} {n c:Nat} {s:Rd} (h:RS w g p n c s):w.cell? ⟨g,1,none⟩=some (.int .i64 s.e):=(cell_of_row w g 1 _ _ _ h.row).trans rfl
theorem RS.rest {w:World} {g:Nat} {p:Option Addr} {n c:Nat} {s:Rd} (h:RS w g p n c s):w.cell? ⟨g,0,none⟩=some (.slice p n c):=(cell_of_row w g 0 _ _ _ h.row).trans rfl
theorem RS.fz {w:World} {g:Nat} {p:Option Addr} {n c:Nat} {s:Rd} (h:RS w g p n c s) (j:Nat):w.frozen? ⟨g,j,none⟩=false:=frozen_of_row w g j _ _ h.row
theorem RS.later {w w':World} {g:Nat} {p:Option Addr} {n c:Nat} {s:Rd} (h:RS w g p n c s) (hb:Below w.heap.size w w'):RS w' g p n c s:=
 ⟨(hb.block _ h.lt).trans h.row,h.tx.later hb,h.lo⟩
theorem RSx.later {w w':World} {g:Nat} {s:Rd} (h:RSx w g s) (hb:Below w.heap.size w w'):RSx w' g s:=by
 obtain ⟨p,n,c,h⟩:=h
 exact ⟨p,n,c,h.later hb⟩
theorem RSx.lt {w:World} {g:Nat} {s:Rd} (h:RSx w g s):g<w.heap.size:=by
 obtain ⟨p,n,c,h⟩:=h
 exact h.lt
theorem tx_other {w:World} {g:Nat} {p q:Option Addr} {n c m d:Nat} {e:Nat} {B:List Nat} (hr:w.heap[g]? =some (.cells #[.slice p n c,.int .i64 e] 251 (0,0))) (h:Tx w q m d B):∀x,q=some x→B≠[]→x.block≠g:=by
 intro x hx hB hg
 subst hx
 have h0:=h.cells 0 _ (vals_get _ 0 (List.length_pos_iff.2 hB))
 have e0:x.add 0=x:=by simp [Addr.add]
 rw [e0] at h0
 simp only [World.cell?,hg,hr] at h0
 split at h0<;>simp_all
 match hx:x.off with
 | 0=>rw [hx] at h0;simp at h0
 | 1=>rw [hx] at h0;simp at h0
 | k+2=>rw [hx] at h0;simp at h0
def RPost (w:World) (g:Nat) (v:Value) (s:Rd) (e:Ending) (w':World):Prop:=e= .returned v∧RSx w' g s∧w.grownBy w' (some g)
theorem rrefuse_any (s:Rd) (k:Nat) (g:Nat) (w:World) (hs:RSx w g s):
  Calls Tryz.prog 198 #[.pointer (some ⟨g,0,none⟩),.int .i64 k] w (RPost w g (.tuple #[]) (s.refuse k)):=by
 obtain ⟨p,n,c,hs⟩:=hs
 have h1:=hs.err
 have f1:=hs.fz 1
 have HS:=yH hs
 clear hs
 by_cases he:s.e=0
 ·have e:s.refuse k=⟨s.R,k⟩:=by unfold Rd.refuse;rw [if_pos he]
  rw [he] at h1
  rw [e]
  clear he e
  go_enter Tryz.func198,Tryz.ntmps198
  go_wp2_with fail
  go_end0
  have r1:=heap_setCell_same w g 1 _ _ (.int .i64 k) HS.out.row
  refine ⟨rfl,⟨p,n,c,r1,HS.out.tx.grown (grown_setCell w g 1 _) (tx_other HS.out.row HS.out.tx),HS.out.lo⟩,grown_setCell w g 1 _⟩
 ·have e:s.refuse k=s:=by unfold Rd.refuse;rw [if_neg he]
  have b1:((s.e:Int)==0)=false:=by simp;omega
  rw [e]
  clear he e
  go_enter Tryz.func198,Tryz.ntmps198
  go_wp2_with fail
  go_end0
  exact ⟨rfl,⟨p,n,c,HS.out⟩,⟨rfl,rfl,rfl,Nat.le_refl _,fun _ _ _=>rfl⟩⟩
def TakePost (w:World) (g:Nat) (s:Rd) (n:Nat) (e:Ending) (w':World):Prop:=∃q c,e= .returned (.slice q (s.part n).length c)∧Tx w' q (s.part n).length c (s.part n)∧RSx w' g (s.past n)∧w.grownBy w' (some g)
theorem take_any (s:Rd) (n:Nat) (g:Nat) (w:World) (hs:RSx w g s) (hn:n<9223372036854775808) (hl:s.R.length<1099511627776):
  Calls Tryz.prog 232 #[.pointer (some ⟨g,0,none⟩),.int .i64 n] w (TakePost w g s n):=by
 obtain ⟨p,m,c,hs⟩:=hs
 have h0:=hs.rest
 have h1:=hs.err
 have hm:=hs.tx.size
 have hmc:=hs.tx.le
 have hml:m<1099511627776:=by omega
 have HM:=yH hm
 have HS:=yH hs
 clear hs hm
 by_cases hlt:m<n
 ·have b1:(m:Int)<n:=by omega
  have e:¬s.fits n:=fun h=>by have:=h.2;have:=HM.out;omega
  have e1:s.part n=[]:=by unfold Rd.part;rw [if_neg e]
  have e2:s.past n=s.refuse 20:=by unfold Rd.past;rw [if_neg e]
  unfold TakePost
  rw [e1,e2]
  clear e e1 e2 h1
  go_enter Tryz.func232,Tryz.ntmps232
  go_wp2_with fail
  refine (rrefuse_any s 20 g _ ⟨p,m,c,HS.out⟩).mono ?_
  rintro e w1 hp
  obtain ⟨rfl,⟨p1,m1,c1,h2⟩,h3⟩:=hp
  have h4:=h2.err
  have b2:(((s.refuse 20).e:Int) !=0)=true:=by
   unfold Rd.refuse
   split<;>simp
   assumption
  have H2:=yH h2
  have H3:=yH h3
  clear h2 h3
  go_wp2_with fail
  go_ret
  exact ⟨none,0,rfl,tx_nil _,⟨p1,m1,c1,H2.out⟩,H3.out⟩
 ·have b1:¬(m:Int)<n:=by omega
  by_cases he:s.e=0
  ·have e:s.fits n:=⟨he,by have:=HM.out;omega⟩
   have e1:s.part n=s.R.take n:=by unfold Rd.part;rw [if_pos e]
   have e2:s.past n=⟨s.R.drop n,0⟩:=by unfold Rd.past;rw [if_pos e]
   have e3:(s.R.take n).length=n:=by rw [List.length_take];have:=HM.out;omega
   unfold TakePost
   rw [e1,e2,e3]
   rw [he] at h1
   clear e e1 e2 e3
   have f0:=HS.out.fz 0
   have HE:=yH he
   clear he
   have b3:(0:Int)≤n:=by omega
   by_cases hcn:c=n
   ·subst hcn
    obtain rfl:m=c:=by omega
    go_enter Tryz.func232,Tryz.ntmps232
    go_wp2_with fail
    go_ret
    have r1:=heap_setCell_same w g 0 _ _ (.slice p 0 0) HS.out.row
    rw [HE.out] at r1
    have hd:s.R.drop m=[]:=List.drop_eq_nil_of_le (by have:=HM.out;omega)
    refine ⟨p,m,rfl,(HS.out.tx.take m (Nat.le_refl _)).grown (grown_setCell w g 0 _) (tx_other HS.out.row (HS.out.tx.take m (Nat.le_refl _))),?_,grown_setCell w g 0 _⟩
    rw [hd]
    exact ⟨p,0,0,r1,HS.out.tx.nothing.grown (grown_setCell w g 0 _) (fun x hx h=>absurd rfl h),fun x hx h=>absurd rfl h⟩
   ·go_enter Tryz.func232,Tryz.ntmps232
    go_wp2_with fail
    go_ret
    have r1:=heap_setCell_same w g 0 _ _ (.slice (Option.map (fun x=>x.add n) p) (m - n) (c - n)) HS.out.row
    rw [HE.out] at r1
    have t1:=HS.out.tx.take n (by omega)
    have t2:=HS.out.tx.drop n (by omega)
    exact ⟨p,c,rfl,t1.grown (grown_setCell w g 0 _) (tx_other HS.out.row t1),⟨_,_,_,r1,t2.grown (grown_setCell w g 0 _) (tx_other HS.out.row t2),fun x hx h=>lo_drop HS.out.lo n x hx h⟩,grown_setCell w g 0 _⟩
  ·have e:¬s.fits n:=fun h=>he h.1
   have e1:s.part n=[]:=by unfold Rd.part;rw [if_neg e]
   have e2:s.past n=s:=by unfold Rd.past Rd.refuse;rw [if_neg e,if_neg he]
   have b2:((s.e:Int) !=0)=true:=by simp;omega
   unfold TakePost
   rw [e1,e2]
   clear e e1 e2 he
   go_enter Tryz.func232,Tryz.ntmps232
   go_wp2_with fail
   go_ret
   exact ⟨none,0,rfl,tx_nil _,⟨p,m,c,HS.out⟩,grown_same _ _⟩
end Go.Proofs.YtinihaflmdihaaaGreat
