/- NlShaped, NlRight, CodWRow, CodWTruth, CodClone, CodWBytes, NlWriteKid. -/
import Derived.Laws.AppendOwn
import Derived.Test.YtinihaflmdihaaaGreatW1
import Derived.Test.YtinihaflmdihaaaGreatW4
import Derived.Test.YtinihaflmdihaaaGreatW5
set_option maxRecDepth 100000
set_option maxHeartbeats 8000000
set_option linter.unusedVariables false
set_option linter.unusedSimpArgs false
namespace Go.Proofs.YtinihaflmdihaaaGreat.Nd
open Go.RowKit
open List renaming setIfInBounds_toArray → sA, set_cons_zero → sZ, set_cons_succ → sS
def PN.shape (n:PN) (d:Int):Bool:=
 if n.kind=1 then decide (n.rows.length=1)&&decide (n.kids.length=2)&&n.kids.all (PK.keys 0)
 else if n.kind=2 then decide (1≤n.rows.length)&&decide (n.rows.length≤4)&&decide (n.kids.length=0)&&n.rows.all PE.live
 else if n.kind=3 then decide (n.rows.length=0)&&decide (2≤n.kids.length)&&decide (n.kids.length≤4)&&n.kids.all (PK.keys d)
 else false
theorem keys_keyless:∀K:List PK,K.all (PK.keys 0)=K.all PK.keyless:=fun K=>by
 congr 1
 funext k
 unfold PK.keys PK.keyless
 rw [Bool.eq_iff_iff,decide_eq_true_iff,decide_eq_true_iff]
 omega
theorem keys_keyed {d:Int} (h:1≤d):∀K:List PK,K.all (PK.keys d)=K.all (PK.keyed d):=fun K=>by
 congr 1
 funext k
 unfold PK.keys PK.keyed
 by_cases e:k=PK.none
 ·subst e
  rw [decide_eq_false (show ¬((PK.none.key.length:Nat):Int)=d from by show ¬((0:Nat):Int)=d;omega)]
  rfl
 ·rw [decide_eq_false e]
  simp
theorem PN.right_shape (n:PN) (d:Int):n.right d=(decide (1≤d∧d≤8)&&n.shape d&&n.rows.all (PE.long d)&&n.kids.all (PK.right · d)):=by
 unfold PN.right PN.shape
 by_cases hd:1≤d∧d≤8
 ·rw [if_neg (by simpa using hd),decide_eq_true hd,keys_keyless,keys_keyed hd.1]
  cases h1:n.rows.all (PE.long d)
  ·simp
  ·cases h2:n.kids.all (PK.right · d)
   ·simp
   ·simp only [Bool.true_eq_false,if_false,Bool.and_true,Bool.true_and]
    by_cases k1:n.kind=1
    ·rw [if_pos k1,if_pos k1]
     by_cases h:n.rows.length=1∧n.kids.length=2
     ·rw [if_pos h,decide_eq_true h.1,decide_eq_true h.2];rfl
     ·rw [if_neg h]
      by_cases h':n.rows.length=1
      ·rw [decide_eq_false (show ¬n.kids.length=2 from fun e=>h ⟨h',e⟩)];simp
      ·rw [decide_eq_false h'];rfl
    ·rw [if_neg k1,if_neg k1]
     by_cases k2:n.kind=2
     ·rw [if_pos k2,if_pos k2]
      by_cases h:0<n.rows.length∧n.rows.length<5∧n.kids.length=0
      ·rw [if_pos h,decide_eq_true (show 1≤n.rows.length by omega),decide_eq_true (show n.rows.length≤4 by omega),decide_eq_true h.2.2];rfl
      ·rw [if_neg h]
       by_cases a:1≤n.rows.length
       ·by_cases b:n.rows.length≤4
        ·rw [decide_eq_false (show ¬n.kids.length=0 by omega)];simp
        ·rw [decide_eq_false b];simp
       ·rw [decide_eq_false a];rfl
     ·rw [if_neg k2,if_neg k2]
      by_cases k3:n.kind=3
      ·rw [if_pos k3]
       by_cases h:n.rows.length=0∧1<n.kids.length∧n.kids.length<5
       ·rw [if_pos ⟨k3,h⟩,decide_eq_true h.1,decide_eq_true (show 2≤n.kids.length by omega),decide_eq_true (show n.kids.length≤4 by omega)];rfl
       ·rw [if_neg (fun e=>h e.2)]
        by_cases a:n.rows.length=0
        ·by_cases b:2≤n.kids.length
         ·rw [decide_eq_false (show ¬n.kids.length≤4 by omega)];simp
         ·rw [decide_eq_false b];simp
        ·rw [decide_eq_false a];rfl
      ·rw [if_neg (fun e=>k3 e.1),if_neg k3]
 ·rw [if_pos hd,decide_eq_false hd]
  rfl
theorem nshaped_any (kind:Nat) (p:Option Addr) (n c:Nat) (q:Option Addr) (m f:Nat) (E:List En) (K:List Kd) (d:Int) (w:World) (hE:EntsIn w p n c E) (hK:KidsIn w q m f K):
  Calls Tryz.prog 199 #[.agg #[.int .u8 kind,.slice p n c,.slice q m f],.int .i64 d] w fun e w'=>e= .returned (.bool ((pnOf kind E K).shape d))∧Below w.heap.size w w':=by
 have hb1:Below w.heap.size w (w.alloc (.cells #[.int .u8 kind,.slice p n c,.slice q m f] 81)):=(Below.refl _ _).alloc (Nat.le_refl _) _
 have hn:=NodeAt.start w kind p n c q m f
 have HE:=Lib.hid (hE.later hb1)
 have HK:=Lib.hid (hK.later hb1)
 have HB:=Lib.hid hb1
 have HN:=Lib.hid hn
 have hs:(pnOf kind E K).shape d=if kind=1 then decide (n=1)&&decide (m=2)&&(K.map Kd.pk).all (PK.keys 0)
   else if kind=2 then decide (1≤n)&&decide (n≤4)&&decide (m=0)&&(E.map En.pe).all PE.live
   else if kind=3 then decide (n=0)&&decide (2≤m)&&decide (m≤4)&&(K.map Kd.pk).all (PK.keys d)
   else false:=by
  unfold PN.shape pnOf
  simp only [List.length_map]
  rw [← hE.size,← hK.size]
 have HK0:=Lib.hid (fun w1 (h:Below w.heap.size w w1)=>nkeyed_any q m f K 0 w1 (hK.later h))
 have HKD:=Lib.hid (fun w1 (h:Below w.heap.size w w1)=>nkeyed_any q m f K d w1 (hK.later h))
 have HEL:=Lib.hid (fun w1 (h:Below w.heap.size w w1)=>eachE_any p n c E PE.live 236 #[] (fun args w=>by as_aux_lemma=>kernel_rfl) w1 (hE.later h) (fun e w' _ _ _=>fnLive_any e w'))
 generalize (pnOf kind E K).shape d=X at *
 generalize (K.map Kd.pk).all (PK.keys 0)=X0 at *
 generalize (K.map Kd.pk).all (PK.keys d)=XD at *
 generalize (E.map En.pe).all PE.live=XL at *
 have HS:=Lib.hid hs
 clear hE hK hb1 hn hs
 go_enter Tryz.func199,Tryz.ntmps199
 go_upto_region 1 with fail
 generalize w.alloc (.cells #[.int .u8 kind,.slice p n c,.slice q m f] 81)=w1 at *
 obtain ⟨t0,t1,t2⟩:=HN.out.cells
 by_cases k1:kind=1
 ·have hs:=HS.out
  rw [if_pos k1] at hs
  subst k1
  by_cases h1:n=1
  ·subst h1
   by_cases h2:m=2
   ·subst h2
    have HSS:=Lib.hid hs
    clear hs
    go_wp2_with (refine (HK0.out w1 HB.out).mono ?_;rintro e w'' ⟨rfl,b2⟩)
    go_ret
    exact ⟨by rw [HSS.out];rfl,HB.out.trans (b2.mono HB.out.size)⟩
   ·rw [decide_eq_false h2] at hs
    have e2:((m:Int)==2)=false:=by simp;omega
    obtain rfl:X=false:=by simpa using hs
    clear hs h2
    go_wp2_with fail
    go_ret
    exact ⟨rfl,HB.out⟩
  ·rw [decide_eq_false h1] at hs
   have e1:((n:Int)==1)=false:=by simp;omega
   obtain rfl:X=false:=by simpa using hs
   clear hs h1
   go_wp2_with fail
   go_ret
   exact ⟨rfl,HB.out⟩
 have g1:((kind:Int)==1)=false:=by simp;omega
 by_cases k2:kind=2
 ·have hs:=HS.out
  rw [if_neg k1,if_pos k2] at hs
  subst k2
  clear g1 k1
  by_cases h1:1≤n
  ·have e1:(1:Int)≤n:=by omega
   by_cases h2:n≤4
   ·have e2:(n:Int)≤4:=by omega
    by_cases h3:m=0
    ·subst h3
     rw [decide_eq_true h1,decide_eq_true h2] at hs
     have HSS:=Lib.hid hs
     clear hs h1 h2
     go_wp2_with (refine (HEL.out w1 HB.out).mono ?_;rintro e w'' ⟨rfl,b2⟩)
     go_ret
     exact ⟨by rw [HSS.out];rfl,HB.out.trans (b2.mono HB.out.size)⟩
    ·rw [decide_eq_false h3] at hs
     have e3:((m:Int)==0)=false:=by simp;omega
     obtain rfl:X=false:=by simpa using hs
     clear hs h3 h1 h2
     go_wp2_with fail
     go_ret
     exact ⟨rfl,HB.out⟩
   ·rw [decide_eq_false h2] at hs
    have e2:¬(n:Int)≤4:=by omega
    obtain rfl:X=false:=by simpa using hs
    clear hs h2 h1
    go_wp2_with fail
    go_ret
    exact ⟨rfl,HB.out⟩
  ·rw [decide_eq_false h1] at hs
   have e1:¬(1:Int)≤n:=by omega
   obtain rfl:X=false:=by simpa using hs
   clear hs h1
   go_wp2_with fail
   go_ret
   exact ⟨rfl,HB.out⟩
 have g2:((kind:Int)==2)=false:=by simp;omega
 by_cases k3:kind=3
 ·have hs:=HS.out
  rw [if_neg k1,if_neg k2,if_pos k3] at hs
  subst k3
  clear g1 k1 g2 k2
  by_cases h1:n=0
  ·subst h1
   by_cases h2:2≤m
   ·have e2:(2:Int)≤m:=by omega
    by_cases h3:m≤4
    ·have e3:(m:Int)≤4:=by omega
     rw [decide_eq_true h2,decide_eq_true h3] at hs
     have HSS:=Lib.hid hs
     clear hs h3 h2
     go_wp2_with (refine (HKD.out w1 HB.out).mono ?_;rintro e w'' ⟨rfl,b2⟩)
     go_ret
     exact ⟨by rw [HSS.out];rfl,HB.out.trans (b2.mono HB.out.size)⟩
    ·rw [decide_eq_false h3] at hs
     have e3:¬(m:Int)≤4:=by omega
     obtain rfl:X=false:=by simpa using hs
     clear hs h3 h2
     go_wp2_with fail
     go_ret
     exact ⟨rfl,HB.out⟩
   ·rw [decide_eq_false h2] at hs
    have e2:¬(2:Int)≤m:=by omega
    obtain rfl:X=false:=by simpa using hs
    clear hs h2
    go_wp2_with fail
    go_ret
    exact ⟨rfl,HB.out⟩
  ·rw [decide_eq_false h1] at hs
   have e1:((n:Int)==0)=false:=by simp;omega
   obtain rfl:X=false:=by simpa using hs
   clear hs h1
   go_wp2_with fail
   go_ret
   exact ⟨rfl,HB.out⟩
 have g3:((kind:Int)==3)=false:=by simp;omega
 have hs:=HS.out
 rw [if_neg k1,if_neg k2,if_neg k3] at hs
 subst hs
 clear k1 k2 k3
 go_wp2_with fail
 go_ret
 exact ⟨rfl,HB.out⟩
structure NR (w:World) (g kind:Nat) (p:Option Addr) (n c:Nat) (q:Option Addr) (m f:Nat) (d:Int):Prop where
 node:NodeAt w g kind p n c q m f
 dim:w.cell? ⟨g+1,0,none⟩=some (.int .i64 d)
theorem NR.later {w w':World} {g kind:Nat} {p:Option Addr} {n c:Nat} {q:Option Addr} {m f:Nat} {d:Int} (h:NR w g kind p n c q m f d) (hb:Below w.heap.size w w'):NR w' g kind p n c q m f d:=
 ⟨h.node.later hb,(hb.cell (block_lt_of_cell h.dim)).trans h.dim⟩
theorem nright_any (kind:Nat) (p:Option Addr) (n c:Nat) (q:Option Addr) (m f:Nat) (E:List En) (K:List Kd) (d:Int) (w:World) (hE:EntsIn w p n c E) (hK:KidsIn w q m f K):
  Calls Tryz.prog 149 #[.agg #[.int .u8 kind,.slice p n c,.slice q m f],.int .i64 d] w fun e w'=>e= .returned (.bool ((pnOf kind E K).right d))∧Below w.heap.size w w':=by
 have hb1:Below w.heap.size w (w.alloc (.cells #[.int .u8 kind,.slice p n c,.slice q m f] 81)):=(Below.refl _ _).alloc (Nat.le_refl _) _
 have hn:=NodeAt.start w kind p n c q m f
 have hz:(w.alloc (.cells #[.int .u8 kind,.slice p n c,.slice q m f] 81)).heap.size=w.heap.size+1:=by simp
 have hb2:Below (w.heap.size+1) (w.alloc (.cells #[.int .u8 kind,.slice p n c,.slice q m f] 81)) ((w.alloc (.cells #[.int .u8 kind,.slice p n c,.slice q m f] 81)).alloc (.cells #[.int .i64 d] 3)):=(Below.refl _ _).alloc (by omega) _
 have hd:=boxed (w.alloc (.cells #[.int .u8 kind,.slice p n c,.slice q m f] 81)) (.int .i64 d) 3
 rw [hz] at hd
 have hnr:NR ((w.alloc (.cells #[.int .u8 kind,.slice p n c,.slice q m f] 81)).alloc (.cells #[.int .i64 d] 3)) w.heap.size kind p n c q m f d:=⟨hn.later (by rw [hz];exact hb2),hd⟩
 have hb12:=hb1.trans (hb2.mono (by omega))
 have hr:=PN.right_shape (pnOf kind E K) d
 have HR0:=Lib.hid hr
 have HSH:=Lib.hid (fun w1 (h:Below w.heap.size w w1)=>nshaped_any kind p n c q m f E K d w1 (hE.later h) (hK.later h))
 have HLE:=Lib.hid (fun w1 (h:Below w.heap.size w w1) (hc:w1.cell? ⟨w.heap.size+1,0,none⟩=some (.int .i64 d))=>eachE_any p n c E (PE.long d) 201 #[.pointer (some ⟨w.heap.size+1,0,none⟩)] (fun args w=>by as_aux_lemma=>kernel_rfl) w1 (hE.later h) (fun e w' _ he hb=>fnLong_any e _ d w' ((hb.cell (block_lt_of_cell hc)).trans hc) he))
 have HKE:=Lib.hid (fun w1 (h:Below w.heap.size w w1) (hc:w1.cell? ⟨w.heap.size+1,0,none⟩=some (.int .i64 d))=>eachK_any q m f K (PK.right · d) 203 #[.pointer (some ⟨w.heap.size+1,0,none⟩)] (fun args w=>by as_aux_lemma=>kernel_rfl) w1 (hK.later h) (fun e w' _ he hb=>fnKid_any e _ d w' ((hb.cell (block_lt_of_cell hc)).trans hc) he))
 rw [show (pnOf kind E K).rows=E.map En.pe from rfl,show (pnOf kind E K).kids=K.map Kd.pk from rfl] at hr
 generalize (pnOf kind E K).right d=X at *
 generalize (pnOf kind E K).shape d=XS at *
 generalize (E.map En.pe).all (PE.long d)=XL at *
 generalize (K.map Kd.pk).all (PK.right · d)=XK at *
 have HS:=Lib.hid hr
 have HB:=Lib.hid hb12
 have HNR:=Lib.hid hnr
 clear hE hK hb1 hb2 hb12 hn hnr hd hz hr HR0
 go_enter Tryz.func149,Tryz.ntmps149
 go_upto_region 1 with fail
 generalize (w.alloc (.cells #[.int .u8 kind,.slice p n c,.slice q m f] 81)).alloc (.cells #[.int .i64 d] 3)=w1 at *
 obtain ⟨t0,t1,t2⟩:=HNR.out.node.cells
 have t3:=HNR.out.dim
 by_cases h1:1≤d
 case neg=>
  have hs:=HS.out
  rw [decide_eq_false (fun e=>h1 e.1)] at hs
  obtain rfl:X=false:=by simpa using hs
  clear hs
  go_wp2_with fail
  go_ret
  exact ⟨rfl,HB.out⟩
 by_cases h2:d≤8
 case neg=>
  have hs:=HS.out
  rw [decide_eq_false (fun e=>h2 e.2)] at hs
  obtain rfl:X=false:=by simpa using hs
  clear hs
  go_wp2_with fail
  go_ret
  exact ⟨rfl,HB.out⟩
 have hs:=HS.out
 rw [decide_eq_true ⟨h1,h2⟩] at hs
 have HS1:=Lib.hid hs
 clear hs HS
 have A1:=Lib.hid (HSH.out w1 HB.out)
 clear HSH
 cases XS with
 | false=>
  obtain rfl:X=false:=by have:=HS1.out;simpa using this
  clear HS1
  go_wp2_with (go_at_call 199;refine A1.out.mono ?_;rintro e w2 ⟨rfl,b2⟩;have HB2:=Lib.hid (HB.out.trans (b2.mono HB.out.size));clear b2)
  go_ret
  exact ⟨rfl,HB2.out⟩
 | true=>
 cases XL with
 | false=>
  obtain rfl:X=false:=by have:=HS1.out;simpa using this
  clear HS1
  go_wp2_with (first
   | (go_at_call 199;refine A1.out.mono ?_;rintro e w2 ⟨rfl,b2⟩;have HB2:=Lib.hid (HB.out.trans (b2.mono HB.out.size));have H2:=Lib.hid (HNR.out.later b2);obtain ⟨t0,t1,t2⟩:=H2.out.node.cells;have t3:=H2.out.dim;have A2:=Lib.hid (HLE.out w2 HB2.out t3);clear b2)
   | (go_at_call 200;refine A2.out.mono ?_;rintro e w3 ⟨rfl,b3⟩;have HB3:=Lib.hid (HB2.out.trans (b3.mono HB2.out.size));clear b3))
  go_ret
  exact ⟨rfl,HB3.out⟩
 | true=>
 have HX:=Lib.hid (show XK=X from by have:=HS1.out;simpa using this.symm)
 clear HS1
 go_wp2_with (first
  | (go_at_call 199;refine A1.out.mono ?_;rintro e w2 ⟨rfl,b2⟩;have HB2:=Lib.hid (HB.out.trans (b2.mono HB.out.size));have H2:=Lib.hid (HNR.out.later b2);obtain ⟨t0,t1,t2⟩:=H2.out.node.cells;have t3:=H2.out.dim;have A2:=Lib.hid (HLE.out w2 HB2.out t3);clear b2)
  | (go_at_call 200;refine A2.out.mono ?_;rintro e w3 ⟨rfl,b3⟩;have HB3:=Lib.hid (HB2.out.trans (b3.mono HB2.out.size));have H3:=Lib.hid (H2.out.later b3);obtain ⟨t0,t1,t2⟩:=H3.out.node.cells;have t3:=H3.out.dim;have A3:=Lib.hid (HKE.out w3 HB3.out t3);clear b3)
  | (go_at_call 202;refine A3.out.mono ?_;rintro e w4 ⟨rfl,b4⟩;have HB4:=Lib.hid (HB3.out.trans (b4.mono HB3.out.size));clear b4))
 go_ret
 exact ⟨by rw [HX.out];rfl,HB4.out⟩
end Go.Proofs.YtinihaflmdihaaaGreat.Nd
namespace Go.Proofs.YtinihaflmdihaaaGreat
open Go.RowKit
open List renaming setIfInBounds_toArray → sA, set_cons_zero → sZ, set_cons_succ → sS
def St.row' (s:St) (R:List Int):St:=if R.length≤255 then s.put (rowB R) else .no
def WRowRel (w:World) (base g:Nat) (v:Value) (s:St) (R:List Int) (i:Value) (wr:World):Prop:=
 ∃(k:Nat) (v':Value),k≤R.length∧i= .int .i64 k∧WS wr base g v' (s.put (R.length::nums (R.take k)))∧WStep w wr g v v'
theorem roww_any (s:St) (R:List Int) (p:Option Addr) (n c:Nat) (base g:Nat) (v:Value) (w:World) (hs:WS w base g v s) (hR:Ints w p n c R) (hl:s.B.length+(1+8*R.length)<1099511627776) (hbw:base≤w.heap.size)
  (hg:∀x,p=some x→R≠[]→x.block≠g∧v.ownBlock≠some x.block):
  Calls Tryz.prog 240 #[.pointer (some ⟨g,0,none⟩),.slice p n c] w (WPost w base g v (s.row' R)):=by
 have HS:=Lib.hid hs
 have HR:=Lib.hid hR
 have HL:=Lib.hid hl
 have HG:=Lib.hid hg
 have HN:=Lib.hid hR.size
 have HBW:=Lib.hid hbw
 have hn:n<1099511627776:=by have:=hR.size;omega
 clear hs hR hl hg hbw
 go_enter Tryz.func240,Tryz.ntmps240
 by_cases h:255<n
 ·have b1:(255:Int)<n:=by omega
  go_wp2_with fail
  refine (refuse_any s base g v _ HS.out).mono ?_
  rintro e w1 hp
  obtain ⟨rfl,v2,h3,h4⟩:=hp
  have H3:=Lib.hid h3
  have H4:=Lib.hid h4
  clear h3 h4
  go_wp2_with fail
  go_end0
  refine ⟨rfl,v2,?_,H4.out⟩
  unfold St.row'
  rw [if_neg (by have:=HN.out;omega)]
  exact H3.out
 ·have b1:¬(255:Int)<n:=by omega
  go_wp2_with fail
  refine (byte_any s n (by omega) base g v _ HS.out (by have:=HL.out;omega) HBW.out).mono ?_
  rintro e w1 hp
  obtain ⟨rfl,v2,h3,h4⟩:=hp
  have H3:=Lib.hid h3
  have H4:=Lib.hid h4
  clear h3 h4
  go_wp2_with fail
  go_loopw [18] (fun i wr=>WRowRel w base g v s R i wr) (fun i _=>n - (intOf i).toNat)
  case atStart=>exact ⟨0,v2,by omega,rfl,by rw [← HN.out];exact H3.out,H4.out⟩
  case round=>
   obtain ⟨k,v1,hk,rfl,h1,h2⟩:=hrel
   rw [← HN.out] at hk
   have H1:=Lib.hid h1
   have H2:=Lib.hid h2
   clear h1 h2 H3 H4
   by_cases hlt:k<n
   ·have hkR:k<R.length:=by rw [← HN.out];exact hlt
    have hx:=HR.out.get k hlt
    rcases HR.out.at' with h0 | ⟨gx,o,hp,hc⟩
    ·rw [h0] at hkR;exact absurd hkR (by simp)
    ·have hne:R≠[]:=by rintro rfl;exact absurd hkR (by simp)
     obtain ⟨e1,e2⟩:=HG.out _ hp hne
     subst hp
     have hc1:=hc k hkR
     have hcell:wr.cell? ⟨gx,o+k,none⟩=some (.int .i64 (R.getD k 0)):=by
      rw [World.cell?_of_block (w:=w) (w':=wr) (a:=⟨gx,o+k,none⟩) (H2.out.block gx (block_lt_of_cell hc1) e1 e2)]
      exact hc1
     obtain ⟨x,hxx⟩:∃x,x=R.getD k 0:=⟨_,rfl⟩
     rw [← hxx] at hcell hx
     have hlen:=St.put_len s (R.length::nums (R.take k))
     rw [List.length_cons,nums_length,List.length_take_of_le (Nat.le_of_lt hkR)] at hlen
     have HXX:=Lib.hid hxx
     have HLN:=Lib.hid hlen
     have HX:=Lib.hid hx
     have HLE:=Lib.hid HR.out.le
     clear hc hc1 hne e1 e2 hxx hlen hx
     have hle:=HLE.out
     go_wp2_with fail
     refine (num_any _ x HX.out.1 HX.out.2 base g v1 _ H1.out (by have:=HLN.out;have:=HL.out;omega) (Nat.le_trans HBW.out H2.out.size)).mono ?_
     rintro e w3 hp
     obtain ⟨rfl,v3,h5,h6⟩:=hp
     have H5:=Lib.hid h5
     have H6:=Lib.hid (H2.out.trans h6)
     clear h5 h6
     go_wp2_with fail
     go_roundw
     case rel=>
      refine ⟨k+1,v3,by omega,by go_num,?_,H6.out⟩
      have:=H5.out
      rw [St.put_put,HXX.out,List.cons_append,← nums_step R k hkR] at this
      exact this
     case measure=>simp [intOf];omega
   ·obtain rfl:k=n:=by omega
    go_wp2_with fail
    go_end0
    refine ⟨rfl,v1,?_,H2.out⟩
    have:=H1.out
    rw [List.take_of_length_le (by have:=HN.out;omega)] at this
    unfold St.row'
    rw [if_pos (by have:=HN.out;omega)]
    exact this
theorem truth_any (s:St) (x:Bool) (base g:Nat) (v:Value) (w:World) (hs:WS w base g v s) (hl:s.B.length+1<1099511627776) (hbw:base≤w.heap.size):
  Calls Tryz.prog 239 #[.pointer (some ⟨g,0,none⟩),.bool x] w (WPost w base g v (s.truth x)):=by
 have HS:=Lib.hid hs
 clear hs
 unfold St.truth
 cases x
 ·go_enter Tryz.func239,Tryz.ntmps239
  go_wp2_with fail
  refine (byte_any s 0 (by omega) base g v _ HS.out hl hbw).mono ?_
  rintro e w1 hp
  obtain ⟨rfl,v2,h3,h4⟩:=hp
  have H3:=Lib.hid h3
  have H4:=Lib.hid h4
  clear h3 h4
  go_wp2_with fail
  go_end0
  exact ⟨rfl,v2,H3.out,H4.out⟩
 ·go_enter Tryz.func239,Tryz.ntmps239
  go_wp2_with fail
  refine (byte_any s 1 (by omega) base g v _ HS.out hl hbw).mono ?_
  rintro e w1 hp
  obtain ⟨rfl,v2,h3,h4⟩:=hp
  have H3:=Lib.hid h3
  have H4:=Lib.hid h4
  clear h3 h4
  go_wp2_with fail
  go_end0
  exact ⟨rfl,v2,H3.out,H4.out⟩
def ClonePost (w:World) (B:List Nat) (e:Ending) (w':World):Prop:=∃q c,e= .returned (.slice q B.length c)∧w'.ownsRow w.heap.size 5 1 (.slice q B.length c) B.length (vals B)∧Below w.heap.size w w'
theorem clone_any (B:List Nat) (p:Option Addr) (n c:Nat) (w:World) (hB:Tx w p n c B) (hl:n<1099511627776):
  Calls Tryz.prog 67 #[.slice p n c] w (ClonePost w B):=by
 have heq:=fun w'=>Lib.run_eql_slice_nil (P:=Tryz.prog) w' 45 5 p n c 0 0 A22
 have hn:=hB.size
 have hle:=hB.le
 have HN:=Lib.hid hn
 have HB:=Lib.hid hB
 rcases hB.at' with ⟨hp,hc⟩ | ⟨x,hp,_⟩
 ·subst hp
  subst hc
  obtain rfl:n=0:=by omega
  have hB0:B=[]:=List.length_eq_zero_iff.1 hn.symm
  subst hB0
  clear hn hB
  go_enter Tryz.func67,Tryz.ntmps67
  go_wp2_with fail
  go_ret
  exact ⟨none,0,rfl,World.ownsRow_nil _ _ _ _,Below.refl _ _⟩
 ·subst hp
  obtain ⟨i5,hi,hi0,hi1,hi2⟩:=info_parts I5
  have HI:=Lib.hid hi
  have HI0:=Lib.hid hi0
  have HI1:=Lib.hid hi1
  have HI2:=Lib.hid hi2
  clear hi hi0 hi1 hi2 hn hB hle
  have hE:(w.alloc (.cells #[] 5)).ownsRow w.heap.size 5 1 (.slice (some ⟨w.heap.size,0,none⟩) 0 0) 0 (vals ([]:List Nat)):=owns_mk (L:=[]) (heap_alloc_new w _) rfl (Nat.le_refl _) (by unfold maxLen;omega) (Nat.le_refl _)
  have HE:=Lib.hid hE
  clear hE
  go_enter Tryz.func67,Tryz.ntmps67
  go_wp2_with (at_builtin;refine wpList_append_own _ (by rfl) (.tmp 5) (.tmp 6) 45 (by rfl) w.heap.size 5 i5 (.int .u8 0) 1 1 A22 HI.out HI0.out HI1.out HI2.out (by rfl) (by decide) _ 0 [] (by rfl) HE.out x n c (vals B) (by rfl) (by rw [vals_length,Nat.mul_one];exact HN.out.symm) ((HB.out.later ((Below.refl _ _).alloc (Nat.le_refl _) _)).cells) (vals_one _) (by unfold maxLen;omega) (by omega) (by simp) ?_;intro v2 w2 hown2 hgrow2 _;obtain ⟨q2,c2,hv2⟩:=slice_of_owns hown2;have HO3:=Lib.hid hown2;have HG3:=Lib.hid hgrow2;have HV3:=Lib.hid hv2;rw [hv2];clear hown2 hgrow2 hv2)
  go_ret
  have e:n=B.length:=HN.out
  subst e
  have ho:=HO3.out
  rw [HV3.out,Nat.zero_add] at ho
  exact ⟨q2,c2,rfl,ho,((Below.refl w.heap.size w).alloc (Nat.le_refl _) _).grown HG3.out (by simp) (fun k hk=>by simp [Value.ownBlock] at hk;omega)⟩
theorem wbytes_any (s:St) (base g:Nat) (v:Value) (w:World) (hs:WS w base g v s) (hl:s.B.length<1099511627776):
  Calls Tryz.prog 242 #[.pointer (some ⟨g,0,none⟩)] w (ClonePost w s.B):=by
 obtain ⟨q0,c0,hv0,hb⟩:=owns_form hs.own hs.ok
 subst hv0
 have h0:=hs.out
 have HB:=Lib.hid hb.tx
 clear hs hb
 go_enter Tryz.func242,Tryz.ntmps242
 go_wp2_with fail
 refine (clone_any s.B q0 _ c0 _ HB.out hl).mono ?_
 rintro e w1 hp
 obtain ⟨q,c,rfl,ho,hb⟩:=hp
 have HO:=Lib.hid ho
 have HB1:=Lib.hid hb
 clear ho hb
 go_wp2_with fail
 go_ret
 exact ⟨q,c,rfl,HO.out,HB1.out⟩
end Go.Proofs.YtinihaflmdihaaaGreat
namespace Go.Proofs.YtinihaflmdihaaaGreat.Nd
open Go.RowKit
open List renaming setIfInBounds_toArray → sA, set_cons_zero → sZ, set_cons_succ → sS
structure PK.Fit (k:PK):Prop where
 live:0≤k.live∧k.live≤1048576
 size:0≤k.size∧k.size≤1048576
 lo:k.lo.length≤8
 hi:k.hi.length≤8
 key:k.key.length≤8
theorem rintsLt {w:World} {x:Addr} {p:Option Addr} {n c:Nat} {R:List Int} (h:Ints w p n c R) (hx:p=some x) (hR:R≠[]):x.block<w.heap.size:=by
 rcases h.at' with h0 | ⟨g,o,hp,hc⟩
 ·exact absurd h0 hR
 ·rw [hx] at hp
  obtain rfl:x=⟨g,o,Option.none⟩:=by simpa using hp
  have:=hc 0 (List.length_pos_iff.2 hR)
  exact block_lt_of_cell this
theorem rowBs_eq {R:List Int} (h:R.length≤8):rowB R=rowBs R:=by
 unfold rowB rowBs
 rw [Nat.mod_eq_of_lt (by omega)]
theorem put_row {s:St} {R:List Int} (h:R.length≤8):s.row' R=s.put (rowBs R):=by
 unfold St.row'
 rw [if_pos (by omega),rowBs_eq h]
theorem put_count {s:St} {n:Int} (h:0≤n∧n≤1048576):s.count n=s.put (Cm.be n.toNat 3):=by
 unfold St.count
 rw [if_pos h]
structure WkSt (w0:World) (gx:Nat) (kd:Kd) (w:World) (g:Nat) (v:Value) (s:St):Prop where
 ws:WS w w0.heap.size g v s
 row:w.heap[gx]? =some (.cells kd.cells.toArray 34 (0,0))
 ne:v.ownBlock≠some gx
 ng:gx≠g
 low:Below w0.heap.size w0 w
 lg:w0.heap.size≤g
theorem WkSt.step {w0 w w':World} {gx g:Nat} {kd:Kd} {v v':Value} {s s':St} (h:WkSt w0 gx kd w g v s) (hs:WS w' w0.heap.size g v' s') (k:WStep w w' g v v'):WkSt w0 gx kd w' g v' s':=
 ⟨hs,(k.block _ (Array.getElem?_eq_some_iff.1 h.row).1 h.ng h.ne).trans h.row,fun e=>by
  rcases k.own _ e with h1 | h1
  ·exact h.ne h1
  ·have:=(Array.getElem?_eq_some_iff.1 h.row).1
   omega,h.ng,h.low.trans (k.below h.lg (fun j hj=>(h.ws.own.lt j hj).1) h.low.size),h.lg⟩
theorem WkSt.start {w0 w:World} {g:Nat} {kd:Kd} {v:Value} {s:St} (h:WS w w0.heap.size g v s) (hl:Below w0.heap.size w0 w) (hg:w0.heap.size≤g):WkSt w0 w.heap.size kd (w.alloc (.cells kd.cells.toArray 34)) g v s:=
 ⟨h.later ((Below.refl _ _).alloc (Nat.le_refl _) _),heap_alloc_new w _,(fun e=>by have:=(h.own.lt _ e).2;omega),(fun e=>by have:=h.lt;omega),hl.alloc hl.size _,hg⟩
theorem wkid_any (w0:World) (kd:Kd) (hk:kd.Ok w0) (hf:kd.pk.Fit) (s:St) (g:Nat) (v:Value) (w:World) (hs:WS w w0.heap.size g v s) (hl:s.B.length+2000<1099511627776) (hlow:Below w0.heap.size w0 w) (hg:w0.heap.size≤g):
  Calls Tryz.prog 241 #[.pointer (some ⟨g,0,Option.none⟩),.agg kd.cells.toArray] w (WPost w w0.heap.size g v (s.put kd.pk.bytes)):=by
 have hst:=WkSt.start (kd:=kd) hs hlow hg
 have HSL:=Lib.hid hk.len
 have HSO:=Lib.hid hk.ok
 have HOK:=Lib.hid hk
 have HF:=Lib.hid hf
 have HL:=Lib.hid hl
 have HA:=Lib.hid (WStep.alloc w g v (.cells kd.cells.toArray 34))
 have hgx:w.heap.size=w.heap.size:=rfl
 have HLV:=Lib.hid hk.live
 have HSV:=Lib.hid hk.size
 clear hk hf hl hs hlow hg
 go_enter Tryz.func241,Tryz.ntmps241
 go_upto_region 1 with fail
 generalize w.alloc (.cells kd.cells.toArray 34)=w1 at *
 generalize w.heap.size=gx at *
 have HB0:=Lib.hid hst
 clear hst hgx
 have hlen9:s.B.length≤s.B.length+0:=by omega
 have K9:=Lib.hid (kat_row HB0.out.row HSL.out)
 have HC9:=Lib.hid (digestw_any s kd.sum HSL.out HSO.out w0.heap.size g v w1 HB0.out.ws (by have:=HL.out;omega) HB0.out.low.size)
 clear hlen9
 go_upto_region 2 with (first
  | (refine wpList_load_mid (by rfl) 30 _ (by rfl) _ 0 (by rfl) (vals kd.sum) _ K9.out.sum A25 (by rfl) (by rw [vals_length,HSL.out];exact S25) ?_;rw [vals_toArray])
  | (go_at_call 269;refine HC9.out.mono ?_;rintro _ w2 ⟨rfl,v1,h9,k9⟩;have HB1:=Lib.hid (HB0.out.step h9 k9);have HW1:=Lib.hid ((WStep.refl _ _ _).trans k9);clear h9 k9))
 have hn9:=St.put_len s kd.sum
 rw [HSL.out] at hn9
 have hl9:(s.put kd.sum).B.length≤s.B.length+32:=by omega
 have HLN1:=Lib.hid hl9
 obtain ⟨s1,hs9⟩:∃s1,s.put kd.sum=s1:=⟨_,rfl⟩
 rw [hs9] at HB1 HLN1
 have HS1:=Lib.hid hs9
 clear hs9 hn9 hl9 HC9 K9
 have hlen9:s1.B.length≤s.B.length+32:=HLN1.out
 have c9:=(kat_row HB1.out.row HSL.out).live
 rw [Nat.zero_add] at c9
 have hc9:=count_any s1 kd.live HLV.out.1 HLV.out.2 w0.heap.size g v1 w2 HB1.out.ws (by have:=HL.out;omega) HB1.out.low.size
 rw [put_count (n:=kd.live) HF.out.live] at hc9
 have HC9:=Lib.hid hc9
 clear hc9
 clear hlen9
 go_upto_region 3 with (go_at_call 270;refine HC9.out.mono ?_;rintro _ w3 ⟨rfl,v2,h9,k9⟩;have HB2:=Lib.hid (HB1.out.step h9 k9);have HW2:=Lib.hid ((WStep.refl _ _ _).trans k9);clear h9 k9)
 have hn9:=St.put_len s1 (Cm.be kd.live.toNat 3)
 rw [Cm.be_length] at hn9
 have hl9:(s1.put (Cm.be kd.live.toNat 3)).B.length≤s.B.length+35:=by have:=HLN1.out;omega
 have HLN2:=Lib.hid hl9
 obtain ⟨s2,hs9⟩:∃s2,s1.put (Cm.be kd.live.toNat 3)=s2:=⟨_,rfl⟩
 rw [hs9] at HB2 HLN2
 have HS2:=Lib.hid hs9
 clear hs9 hn9 hl9 HC9 c9
 have hlen9:s2.B.length≤s.B.length+35:=HLN2.out
 have c9:=(kat_row HB2.out.row HSL.out).size
 rw [Nat.zero_add] at c9
 have hc9:=count_any s2 kd.size HSV.out.1 HSV.out.2 w0.heap.size g v2 w3 HB2.out.ws (by have:=HL.out;omega) HB2.out.low.size
 rw [put_count (n:=kd.size) HF.out.size] at hc9
 have HC9:=Lib.hid hc9
 clear hc9
 clear hlen9
 go_upto_region 4 with (go_at_call 270;refine HC9.out.mono ?_;rintro _ w4 ⟨rfl,v3,h9,k9⟩;have HB3:=Lib.hid (HB2.out.step h9 k9);have HW3:=Lib.hid ((WStep.refl _ _ _).trans k9);clear h9 k9)
 have hn9:=St.put_len s2 (Cm.be kd.size.toNat 3)
 rw [Cm.be_length] at hn9
 have hl9:(s2.put (Cm.be kd.size.toNat 3)).B.length≤s.B.length+38:=by have:=HLN2.out;omega
 have HLN3:=Lib.hid hl9
 obtain ⟨s3,hs9⟩:∃s3,s2.put (Cm.be kd.size.toNat 3)=s3:=⟨_,rfl⟩
 rw [hs9] at HB3 HLN3
 have HS3:=Lib.hid hs9
 clear hs9 hn9 hl9 HC9 c9
 have hlen9:s3.B.length≤s.B.length+38:=HLN3.out
 have c9:=(kat_row HB3.out.row HSL.out).lo
 rw [Nat.zero_add] at c9
 unfold Rw.val at c9
 have hok9:=HOK.out.lo.later HB3.out.low
 have hl9:kd.lo.R.length≤8:=HF.out.lo
 have hc9:=roww_any s3 kd.lo.R _ _ _ w0.heap.size g v3 w4 HB3.out.ws hok9.ints (by have:=HL.out;omega) HB3.out.low.size (fun x hx hR=>by have h8:=rintsLt HOK.out.lo.ints hx hR;exact ⟨fun e=>by have:=HB3.out.lg;omega,fun e=>by have:=(HB3.out.ws.own.lt _ e).1;omega⟩)
 rw [put_row hl9] at hc9
 have HC9:=Lib.hid hc9
 have HL9:=Lib.hid hl9
 clear hc9 hok9 hl9
 clear hlen9
 go_upto_region 5 with (go_at_call 240;refine HC9.out.mono ?_;rintro _ w5 ⟨rfl,v4,h9,k9⟩;have HB4:=Lib.hid (HB3.out.step h9 k9);have HW4:=Lib.hid ((WStep.refl _ _ _).trans k9);clear h9 k9)
 have hn9:=St.put_len s3 (rowBs kd.lo.R)
 rw [rowBs_length] at hn9
 have hl9:(s3.put (rowBs kd.lo.R)).B.length≤s.B.length+103:=by have:=HLN3.out;have:=HL9.out;omega
 have HLN4:=Lib.hid hl9
 obtain ⟨s4,hs9⟩:∃s4,s3.put (rowBs kd.lo.R)=s4:=⟨_,rfl⟩
 rw [hs9] at HB4 HLN4
 have HS4:=Lib.hid hs9
 clear hs9 hn9 hl9 HC9 c9 HL9
 have hlen9:s4.B.length≤s.B.length+103:=HLN4.out
 have c9:=(kat_row HB4.out.row HSL.out).hi
 rw [Nat.zero_add] at c9
 unfold Rw.val at c9
 have hok9:=HOK.out.hi.later HB4.out.low
 have hl9:kd.hi.R.length≤8:=HF.out.hi
 have hc9:=roww_any s4 kd.hi.R _ _ _ w0.heap.size g v4 w5 HB4.out.ws hok9.ints (by have:=HL.out;omega) HB4.out.low.size (fun x hx hR=>by have h8:=rintsLt HOK.out.hi.ints hx hR;exact ⟨fun e=>by have:=HB4.out.lg;omega,fun e=>by have:=(HB4.out.ws.own.lt _ e).1;omega⟩)
 rw [put_row hl9] at hc9
 have HC9:=Lib.hid hc9
 have HL9:=Lib.hid hl9
 clear hc9 hok9 hl9
 clear hlen9
 go_upto_region 6 with (go_at_call 240;refine HC9.out.mono ?_;rintro _ w6 ⟨rfl,v5,h9,k9⟩;have HB5:=Lib.hid (HB4.out.step h9 k9);have HW5:=Lib.hid ((WStep.refl _ _ _).trans k9);clear h9 k9)
 have hn9:=St.put_len s4 (rowBs kd.hi.R)
 rw [rowBs_length] at hn9
 have hl9:(s4.put (rowBs kd.hi.R)).B.length≤s.B.length+168:=by have:=HLN4.out;have:=HL9.out;omega
 have HLN5:=Lib.hid hl9
 obtain ⟨s5,hs9⟩:∃s5,s4.put (rowBs kd.hi.R)=s5:=⟨_,rfl⟩
 rw [hs9] at HB5 HLN5
 have HS5:=Lib.hid hs9
 clear hs9 hn9 hl9 HC9 c9 HL9
 have hlen9:s5.B.length≤s.B.length+168:=HLN5.out
 have c9:=(kat_row HB5.out.row HSL.out).key
 rw [Nat.zero_add] at c9
 unfold Rw.val at c9
 have hok9:=HOK.out.key.later HB5.out.low
 have hl9:kd.key.R.length≤8:=HF.out.key
 have hc9:=roww_any s5 kd.key.R _ _ _ w0.heap.size g v5 w6 HB5.out.ws hok9.ints (by have:=HL.out;omega) HB5.out.low.size (fun x hx hR=>by have h8:=rintsLt HOK.out.key.ints hx hR;exact ⟨fun e=>by have:=HB5.out.lg;omega,fun e=>by have:=(HB5.out.ws.own.lt _ e).1;omega⟩)
 rw [put_row hl9] at hc9
 have HC9:=Lib.hid hc9
 have HL9:=Lib.hid hl9
 clear hc9 hok9 hl9
 clear hlen9
 go_wp2_with (go_at_call 240;refine HC9.out.mono ?_;rintro _ w7 ⟨rfl,v6,h9,k9⟩;have HB6:=Lib.hid (HB5.out.step h9 k9);have HW6:=Lib.hid ((WStep.refl _ _ _).trans k9);clear h9 k9)
 have hn9:=St.put_len s5 (rowBs kd.key.R)
 rw [rowBs_length] at hn9
 have hl9:(s5.put (rowBs kd.key.R)).B.length≤s.B.length+233:=by have:=HLN5.out;have:=HL9.out;omega
 have HLN6:=Lib.hid hl9
 obtain ⟨s6,hs9⟩:∃s6,s5.put (rowBs kd.key.R)=s6:=⟨_,rfl⟩
 rw [hs9] at HB6 HLN6
 have HS6:=Lib.hid hs9
 clear hs9 hn9 hl9 HC9 c9 HL9
 go_end0
 refine ⟨rfl,v6,?_,((((((HA.out.trans HW1.out).trans HW2.out).trans HW3.out).trans HW4.out).trans HW5.out).trans HW6.out)⟩
 have h:=HB6.out.ws
 rw [← HS6.out,← HS5.out,← HS4.out,← HS3.out,← HS2.out,← HS1.out] at h
 simp only [St.put_put] at h
 have e:kd.pk.bytes=kd.sum++Cm.be kd.live.toNat 3++Cm.be kd.size.toNat 3++rowBs kd.lo.R++rowBs kd.hi.R++rowBs kd.key.R:=by
  show kd.sum++(Cm.be kd.live.toNat 3++(Cm.be kd.size.toNat 3++(rowBs kd.lo.R++(rowBs kd.hi.R++rowBs kd.key.R))))=_
  simp only [List.append_assoc]
 rw [e]
 simpa only [List.append_assoc] using h
end Go.Proofs.YtinihaflmdihaaaGreat.Nd
