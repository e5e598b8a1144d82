/- Proved: whatever point, number and list of rows it is handed, the Go function indenturelaw11.KdtreeWrong returns true (of points with too many numbers, or another number of them, and of trees whose nodes aren't there, each call tells its error, and puts nothing), and each argument reads afterwards as it read before. Conditions: none beyond the given row's own. -/
import Derived.Test.YtinihaflmdihaaaGreatW1
import Derived.Test.YtinihaflmdihaaaGreatW2
import Derived.Test.YtinihaflmdihaaaGreatW45
import Derived.Test.YtinihaflmdihaaaGreatW46
set_option maxRecDepth 100000
set_option maxHeartbeats 8000000
set_option linter.unusedVariables false
set_option linter.unusedSimpArgs false
namespace Go.Proofs.YtinihaflmdihaaaGreat.Kt
open Go.RowKit Go.Proofs.YtinihaflmdihaaaGreat.Nd Go.Proofs.YtinihaflmdihaaaGreat.Dk Go.Proofs.YtinihaflmdihaaaGreat.Pg
open List renaming setIfInBounds_toArray → sA, set_cons_zero → sZ, set_cons_succ → sS
def longB (d:Int) (r:Rw):Bool:=decide ((r.n:Int)≠d)
def badB (d:Int) (p:Rw):Bool:= !takesB d [p]
theorem badB_eq (d:Int) (p:Rw):badB d p=(decide (d<1)||decide (8<d)||longB d p):=by
 unfold badB takesB longB
 by_cases h1:d<1
 ·simp [h1,show ¬1≤d by omega]
 ·by_cases h2:8<d
  ·simp [h1,h2,show ¬d≤8 by omega]
  ·simp [h1,h2,show 1≤d by omega,show d≤8 by omega]
theorem takes_cons (d:Int) (p:Rw) (L:List Rw):takesB d (p::L)= !(badB d p||L.any (longB d)):=by
 unfold badB takesB
 rw [show (fun r:Rw=>decide ((r.n:Int)≠d))=longB d from rfl]
 simp only [List.any_cons,List.any_nil,Bool.or_false]
 cases decide (1≤d∧d≤8)<;>cases longB d p<;>simp
theorem want_bad (d:Int) (p:Rw):wantE d p=if badB d p then 1 else 21:=by
 unfold wantE badB
 cases takesB d [p]<;>rfl
theorem other_bad (d:Int):otherE d=if d<1∨8<d then 1 else 21:=by
 unfold otherE takesB
 by_cases h:d<1∨8<d
 ·rw [if_pos h]
  have:¬(1≤d∧d≤8):=by omega
  simp [this]
 ·rw [if_neg h]
  have:1≤d∧d≤8:=by omega
  simp [this]
def WgRel (w5:World) (d:Int) (bd:Bool) (L:List Rw) (n:Nat) (s i:Value) (wr:World):Prop:=∃(k:Nat) (acc:Bool),k≤n∧s= .bool acc∧i= .int .i64 k∧acc=(bd||(L.take k).any (longB d))∧wr=w5
theorem any_succ (L:List Rw) (k:Nat) (f:Rw→Bool) (h:k<L.length):(L.take (k+1)).any f=((L.take k).any f||f (L.getD k default)):=by
 rw [List.take_succ_eq_append_getElem h,List.any_append,List.getD_eq_getElem?_getD,List.getElem?_eq_getElem h]
 simp
theorem wrong_any (p q:Option Addr) (m e n c:Nat) (R:List Int) (d:Int) (L:List Rw) (w:World) (hP:Ints w p m e R) (hm:m≤9223372036854775807) (hd:In64 d) (hL:RowsIn w q n c L) (hq:q=none→c=0) (hn:n≤9223372036854775807):
  Calls Tryz.prog 5 #[.slice p m e,.int .i64 d,.slice q n c] w fun e w'=>e= .returned (.bool true)∧Below w.heap.size w w':=by
 have HP:=Lib.hid (show (⟨p,m,e,R⟩:Rw).Ok w from ⟨hP,hm⟩)
 have HL:=Lib.hid hL
 have HQ:=Lib.hid hq
 have HD:=Lib.hid hd
 have HBD:=Lib.hid (badB_eq d ⟨p,m,e,R⟩)
 have HTC:=Lib.hid (takes_cons d ⟨p,m,e,R⟩ L)
 have HWB:=Lib.hid (want_bad d ⟨p,m,e,R⟩)
 have HOB:=Lib.hid (other_bad d)
 have HLS:=Lib.hid hL.size
 have HZ:=Lib.hid (zero_of_info kz)
 have hz0:=HZ.out.1
 obtain ⟨du,hdu,hdr⟩:=UKd
 have HDU:=Lib.hid hdu
 have HDR:=Lib.hid hdr
 clear hP hL hq hdu hdr
 obtain ⟨bd,hbd⟩:∃b,b=badB d ⟨p,m,e,R⟩:=⟨_,rfl⟩
 rw [← hbd] at HBD HTC HWB
 clear hbd
 go_enter Tryz.func5,Tryz.ntmps5
 go_wp2_with fail
 refine (alive_any w).mono ?_
 rintro _ w1 ⟨rfl,b1⟩
 have B1:=Lib.hid b1
 clear b1
 by_cases h2:n>30
 ·have l2:(n:Int)>30:=by omega
  clear h2
  go_wp2_with fail
  go_ret
  exact ⟨rfl,B1.out⟩
 ·have l2:¬(n:Int)>30:=by omega
  have HN:=Lib.hid (show n≤30 by omega)
  clear h2
  go_upto_region 6 with (go_at_call 13;refine (Pg.new_any w1).mono ?_;rintro _ w2 ⟨g,Q,rfl,p2,-,b2⟩;have P2:=Lib.hid p2;have B2:=Lib.hid (B1.out.trans (b2.mono B1.out.size));clear p2 b2)
  clear l2
  go_cut [8] from 32 to 43 (fun s8 wx=>s8= .bool bd∧wx=w2)
  case first=>
   by_cases h1:d<1
   ·go_wp2_with fail
    go_meet
    exact ⟨by rw [HBD.out];simp [h1],rfl⟩
   ·by_cases h3:d>8
    ·go_wp2_with fail
     go_meet
     exact ⟨by rw [HBD.out];simp [h3],rfl⟩
    ·by_cases h4:(m:Int)=d
     ·have e4:((m:Int) !=d)=false:=by simp [h4]
      go_wp2_with fail
      go_meet
      exact ⟨by rw [HBD.out];simp [longB,h1,h3,h4],rfl⟩
     ·have e4:((m:Int) !=d)=true:=by simpa using h4
      go_wp2_with fail
      go_meet
      exact ⟨by rw [HBD.out];simp [longB,h4],rfl⟩
  case rest=>
   obtain ⟨rfl,rfl⟩:=hcut
   go_wp2_with fail
   go_loopw [9,10] (fun s i wr=>WgRel wc d bd L n s i wr) (fun _ i _=>n - (intOf i).toNat)
   case atStart=>exact ⟨0,bd,Nat.zero_le _,rfl,rfl,by simp,rfl⟩
   case round=>
    obtain ⟨k,acc,hk,rfl,rfl,hacc,rfl⟩:=hrel
    have HACC:=Lib.hid hacc
    clear hacc
    by_cases hlt:k<n
    ·have l1:(k:Int)<n:=by omega
     have i1:(0:Int)≤k∧(k:Int)<n:=by omega
     have hkl:k<L.length:=by have:=HLS.out;omega
     have HS:=Lib.hid (any_succ L k (longB d) hkl)
     obtain ⟨bg,bo,rfl,hx⟩:=HL.out.at'.resolve_left (by intro e;rw [e] at hkl;simp at hkl)
     have hx0:=hx k hkl
     obtain ⟨y,hy⟩:∃y,y=L.getD k default:=⟨_,rfl⟩
     rw [← hy] at hx0 HS
     have c0:=(B2.out.cell (block_lt_of_cell hx0)).trans hx0
     clear hx hx0 hy hkl
     obtain ⟨yp,yn,yc,yR⟩:=y
     unfold Rw.val at c0
     simp only at c0
     cases acc with
     | true=>
      go_wp2_with fail
      go_roundw
      case rel=>exact ⟨k+1,true,by omega,rfl,by go_num,by rw [HS.out,← Bool.or_assoc,← HACC.out];rfl,rfl⟩
      case measure=>simp [intOf];omega
     | false=>
      by_cases h4:(yn:Int)=d
      ·have e4:((yn:Int) !=d)=false:=by simp [h4]
       go_wp2_with fail
       go_roundw
       case rel=>exact ⟨k+1,false,by omega,rfl,by go_num,by rw [HS.out,← Bool.or_assoc,← HACC.out];simp [longB,h4],rfl⟩
       case measure=>simp [intOf];omega
      ·have e4:((yn:Int) !=d)=true:=by simpa using h4
       go_wp2_with fail
       go_roundw
       case rel=>exact ⟨k+1,true,by omega,rfl,by go_num,by rw [HS.out,← Bool.or_assoc,← HACC.out];simp [longB,h4],rfl⟩
       case measure=>simp [intOf];omega
    ·obtain rfl:n=k:=by omega
     have HNN:=Lib.hid (show acc= !takesB d ((⟨p,m,e,R⟩:Rw)::L) from by rw [HTC.out,HACC.out,HLS.out,List.take_length,Bool.not_not])
     clear hlt
     clear HACC
     go_upto_if 61 with fail
     go_cut [11,12] from 61 to 73 (fun _ _ wx=>Below wr.heap.size wr wx)
     case first=>
      cases acc with
      | false=>
       go_wp2_with fail
       go_meet
       exact Below.refl _ _
      | true=>
       go_upto_region 13 with fail
       have hba:Below wr.heap.size wr (wr.alloc (.cells #[.slice p m e] 24)):=(Below.refl _ _).alloc (Nat.le_refl _) _
       go_upto_region 14 with (first
        | (refine wpList_plain (by rfl) fun _ hK=>wp_app_in (r:=⟨p,m,e,R⟩) (L:=L) (.tmp 65) (.tmp 66) (by rfl) (HP.out.later B2.out) (by rfl) (by rfl) (HL.out.later B2.out) HQ.out (by have:=HN.out;omega) fun q' c' w4 hR hb4=>hK _ _ ?_;have HR4:=Lib.hid hR;have HB4:=Lib.hid hb4;clear hR hb4 hK)
        | (go_at_call 32;go_loud (refine (Build_bad (some ⟨g,0,none⟩) d q' (1+n) c' ((⟨p,m,e,R⟩:Rw)::L) w4 HR4.out (by have:=HN.out;omega) (by have:=HNN.out;simpa using this)).mono ?_;rintro _ w5 ⟨rfl,hb5⟩;have HB5:=Lib.hid (HB4.out.trans (hb5.mono HB4.out.size));clear hb5))
        | (refine wpList_store_row (by rfl) 34 (.tmp 11) (.tmp 70) (by rfl) w5.heap.size kd0.cells.toArray (by rfl) (by rfl) _ _ (heap_alloc_new w5 _) (by rw [List.size_toArray,kd0_size];exact SKd) rfl (all_oneCell_toArray Kd.one) ?_;rw [setRow_alloc]))
       have hb6:=HB5.out.alloc (HB5.out.size) (.cells kd0.cells.toArray 34)
       generalize w5.alloc (.cells kd0.cells.toArray 34)=w6 at *
       go_wp2_with fail
       go_meet
       exact hb6
     case rest=>
      obtain ⟨w6,hw6⟩:∃x,x=wc:=⟨_,rfl⟩
      rw [← hw6] at hcut ⊢
      clear hw6
      have P6:=Lib.hid (P2.out.keep (fun _=>False) (Only.of_below _ hcut) (fun _ _ e=>e))
      have B6:=Lib.hid (B2.out.trans (hcut.mono B2.out.size))
      have R6:=Lib.hid (HP.out.later B6.out)
      obtain ⟨kd,hkd⟩:∃kd,kd=goneK ⟨p,m,e,R⟩:=⟨_,rfl⟩
      obtain ⟨we,hwe⟩:∃x,x=wantE d ⟨p,m,e,R⟩:=⟨_,rfl⟩
      obtain ⟨oe,hoe⟩:∃x,x=otherE d:=⟨_,rfl⟩
      have hset:((((kd0.cells.set 35 (.int .i64 1)).set 34 (.int .i64 1)).set 32 (.slice p m e)).set 33 (.slice p m e))=kd.cells:=by rw [hkd];rfl
      have HCL:=Lib.hid (show kd.cells.length=37 from by rw [hkd];exact Kd.cells_length (gone_ok HP.out).len)
      have HINS:=Lib.hid (show ∀w',Below w6.heap.size w6 w'→Calls Tryz.prog 15 #[.pointer (some ⟨g,0,none⟩),.agg kd.cells.toArray,.slice p m e,.int .i64 d] w' fun e w''=>e= .returned (.tuple #[.agg kd0.cells.toArray,.int .i64 we])∧Below w'.heap.size w' w'' from fun w' hb=>by
       rw [hkd,hwe]
       exact Insert_err (some ⟨g,0,none⟩) d (goneK ⟨p,m,e,R⟩) ⟨p,m,e,R⟩ _ w' (gone_ok (R6.out.later hb)) (gone_way d _ w' (R6.out.later hb) (P6.out.keep (fun _=>False) (Only.of_below _ hb) (fun _ _ e=>e))) (wantE_ne _ _))
      have HDEL:=Lib.hid (show ∀w',Below w6.heap.size w6 w'→Calls Tryz.prog 17 #[.pointer (some ⟨g,0,none⟩),.agg kd.cells.toArray,.slice p m e,.int .i64 d] w' fun e w''=>e= .returned (.tuple #[.agg kd0.cells.toArray,.int .i64 we])∧Below w'.heap.size w' w'' from fun w' hb=>by
       rw [hkd,hwe]
       exact Delete_err (some ⟨g,0,none⟩) d (goneK ⟨p,m,e,R⟩) ⟨p,m,e,R⟩ _ w' (gone_ok (R6.out.later hb)) (gone_way d _ w' (R6.out.later hb) (P6.out.keep (fun _=>False) (Only.of_below _ hb) (fun _ _ e=>e))) (wantE_ne _ _))
      have HHAS:=Lib.hid (show ∀w',Below w6.heap.size w6 w'→Calls Tryz.prog 25 #[.pointer (some ⟨g,0,none⟩),.agg kd.cells.toArray,.slice p m e,.int .i64 d] w' fun e w''=>e= .returned (.tuple #[.bool false,.int .i64 we])∧Below w'.heap.size w' w'' from fun w' hb=>by
       rw [hkd,hwe]
       exact Has_err (some ⟨g,0,none⟩) d (goneK ⟨p,m,e,R⟩) ⟨p,m,e,R⟩ _ w' (gone_ok (R6.out.later hb)) (gone_way d _ w' (R6.out.later hb) (P6.out.keep (fun _=>False) (Only.of_below _ hb) (fun _ _ e=>e))) (wantE_ne _ _))
      have HROW:=Lib.hid (show ∀w',Below w6.heap.size w6 w'→Calls Tryz.prog 23 #[.pointer (some ⟨g,0,none⟩),.agg kd.cells.toArray,.int .i64 d] w' fun e w''=>e= .returned (.tuple #[.slice none 0 0,.int .i64 oe])∧Below w'.heap.size w' w'' from fun w' hb=>by
       rw [hkd,hoe]
       exact gone_rows d ⟨p,m,e,R⟩ w' (R6.out.later hb) (P6.out.keep (fun _=>False) (Only.of_below _ hb) (fun _ _ e=>e)))
      have HHEI:=Lib.hid (show ∀w',Below w6.heap.size w6 w'→Calls Tryz.prog 24 #[.pointer (some ⟨g,0,none⟩),.agg kd.cells.toArray,.int .i64 d] w' fun e w''=>e= .returned (.tuple #[.int .i64 0,.int .i64 oe])∧Below w'.heap.size w' w'' from fun w' hb=>by
       rw [hkd,hoe]
       exact gone_height d ⟨p,m,e,R⟩ w' (R6.out.later hb) (P6.out.keep (fun _=>False) (Only.of_below _ hb) (fun _ _ e=>e)))
      have HLEN:=Lib.hid (show ∀w',Below w6.heap.size w6 w'→Calls Tryz.prog 33 #[.pointer (some ⟨g,0,none⟩)] w' fun e w''=>e= .returned (.int .i64 0)∧Below w'.heap.size w' w'' from fun w' hb=>Pg.len_any (P6.out.keep (fun _=>False) (Only.of_below _ hb) (fun _ _ e=>e)))
      rw [← hwe] at HWB
      rw [← hoe] at HOB
      clear hkd hwe hoe hcut P2 B2 HNN HTC HBD HL HLS HQ HN HP
      go_upto_region 17 with (first
       | (refine wpList_store_row (by rfl) 34 (.tmp 13) (.tmp 77) (by rfl) w6.heap.size kd.cells.toArray (by rfl) (by rfl) _ _ (heap_alloc_new w6 _) (by rw [List.size_toArray,HCL.out];exact SKd) (by simp only [List.size_toArray,HCL.out,kd0_size]) (all_oneCell_toArray Kd.one) ?_;rw [setRow_alloc]))
      have hb7:=(Below.refl w6.heap.size w6).alloc (Nat.le_refl _) (.cells kd.cells.toArray 34)
      have hr7:=heap_alloc_new w6 (.cells kd.cells.toArray 34)
      generalize w6.alloc (.cells kd.cells.toArray 34)=w7 at *
      obtain ⟨bG,hbG⟩:∃b,b=w6.heap.size:=⟨_,rfl⟩
      rw [← hbG] at hr7 ⊢
      have B7:=Lib.hid hb7
      have R7:=Lib.hid hr7
      have RR7:=Lib.hid (range_kd hr7)
      clear hb7 hr7 hbG hset
      go_upto_region 18 with (first
       | (refine wpList_load_mid (by rfl) 34 _ (by rfl) bG 0 (by rfl) kd.cells du RR7.out HDU.out HDR.out (by rw [HCL.out];exact SKd) ?_)
       | (go_at_call 15;go_loud (refine (HINS.out w7 B7.out).mono ?_;rintro _ w8 ⟨rfl,hb8⟩;have B8:=Lib.hid (B7.out.trans (hb8.mono B7.out.size));have R8:=Lib.hid ((hb8.block _ (Array.getElem?_eq_some_iff.1 R7.out).1).trans R7.out);clear hb8))
       | (refine wpList_store_row (by rfl) 34 (.tmp 14) (.tmp 84) (by rfl) w8.heap.size kd0.cells.toArray (by rfl) (by rfl) _ _ (heap_alloc_new w8 _) (by rw [List.size_toArray,kd0_size];exact SKd) rfl (all_oneCell_toArray Kd.one) ?_;rw [setRow_alloc]))
      have hb9:=B8.out.alloc B8.out.size (.cells kd0.cells.toArray 34)
      have hr9:=(((Below.refl w8.heap.size w8).alloc (Nat.le_refl _) (.cells kd0.cells.toArray 34)).block _ (Array.getElem?_eq_some_iff.1 R8.out).1).trans R8.out
      generalize w8.alloc (.cells kd0.cells.toArray 34)=w9 at *
      have B9:=Lib.hid hb9
      have R9:=Lib.hid hr9
      have RR9:=Lib.hid (range_kd hr9)
      clear hb9 hr9 HINS B7 R7 RR7 B8 R8
      go_upto_region 19 with (first
       | (refine wpList_load_mid (by rfl) 34 _ (by rfl) bG 0 (by rfl) kd.cells du RR9.out HDU.out HDR.out (by rw [HCL.out];exact SKd) ?_)
       | (go_at_call 17;refine (HDEL.out w9 B9.out).mono ?_;rintro _ w10 ⟨rfl,hb10⟩;have B10:=Lib.hid (B9.out.trans (hb10.mono B9.out.size));have R10:=Lib.hid ((hb10.block _ (Array.getElem?_eq_some_iff.1 R9.out).1).trans R9.out);clear hb10)
       | (refine wpList_store_row (by rfl) 34 (.tmp 16) (.tmp 92) (by rfl) w10.heap.size kd0.cells.toArray (by rfl) (by rfl) _ _ (heap_alloc_new w10 _) (by rw [List.size_toArray,kd0_size];exact SKd) rfl (all_oneCell_toArray Kd.one) ?_;rw [setRow_alloc]))
      have hb11:=B10.out.alloc B10.out.size (.cells kd0.cells.toArray 34)
      have hr11:=(((Below.refl w10.heap.size w10).alloc (Nat.le_refl _) (.cells kd0.cells.toArray 34)).block _ (Array.getElem?_eq_some_iff.1 R10.out).1).trans R10.out
      generalize w10.alloc (.cells kd0.cells.toArray 34)=w11 at *
      have B11:=Lib.hid hb11
      have R11:=Lib.hid hr11
      have RR11:=Lib.hid (range_kd hr11)
      clear hb11 hr11 HDEL B9 R9 RR9 B10 R10
      go_upto_region 20 with (first
       | (refine wpList_load_mid (by rfl) 34 _ (by rfl) bG 0 (by rfl) kd.cells du RR11.out HDU.out HDR.out (by rw [HCL.out];exact SKd) ?_)
       | (go_at_call 25;refine (HHAS.out w11 B11.out).mono ?_;rintro _ w12 ⟨rfl,hb12⟩;have B12:=Lib.hid (B11.out.trans (hb12.mono B11.out.size));have R12:=Lib.hid ((hb12.block _ (Array.getElem?_eq_some_iff.1 R11.out).1).trans R11.out);clear hb12))
      have RR12:=Lib.hid (range_kd R12.out)
      clear HHAS B11 R11 RR11
      go_upto_if 102 with fail
      go_cut [20] from 102 to 102 (fun s20 wx=>s20= .int .i64 we∧wx=w12)
      case first=>
       cases bd with
       | false=>
        go_wp2_with fail
        go_meet
        exact ⟨by rw [HWB.out];rfl,rfl⟩
       | true=>
        go_wp2_with fail
        go_meet
        exact ⟨by rw [HWB.out];rfl,rfl⟩
      case rest=>
       obtain ⟨rfl,hww⟩:=hcut
       rw [hww]
       clear hww HWB
       go_upto_region 24 with (first
        | (refine wpList_load_mid (by rfl) 34 _ (by rfl) bG 0 (by rfl) kd.cells du RR12.out HDU.out HDR.out (by rw [HCL.out];exact SKd) ?_)
        | (go_at_call 23;refine (HROW.out w12 B12.out).mono ?_;rintro _ w13 ⟨rfl,hb13⟩;have B13:=Lib.hid (B12.out.trans (hb13.mono B12.out.size));have RR13:=Lib.hid (range_kd ((hb13.block _ (Array.getElem?_eq_some_iff.1 R12.out).1).trans R12.out));clear hb13))
       clear B12 R12 RR12 HROW
       go_upto_region 26 with (first
        | (refine wpList_load_mid (by rfl) 34 _ (by rfl) bG 0 (by rfl) kd.cells du RR13.out HDU.out HDR.out (by rw [HCL.out];exact SKd) ?_)
        | (go_at_call 24;refine (HHEI.out w13 B13.out).mono ?_;rintro _ w14 ⟨rfl,hb14⟩;have B14:=Lib.hid (B13.out.trans (hb14.mono B13.out.size));clear hb14))
       clear B13 RR13 HHEI
       have e0:=HOB.out
       by_cases h1:d<1
       ·rw [if_pos (Or.inl h1)] at e0
        subst e0
        go_wp2_with (go_at_call 33;refine (HLEN.out w14 B14.out).mono ?_;rintro _ w15 ⟨rfl,hb15⟩;have B15:=Lib.hid (B14.out.trans (hb15.mono B14.out.size));clear hb15)
        go_ret
        exact ⟨rfl,B6.out.trans (B15.out.mono B6.out.size)⟩
       ·by_cases h3:d>8
        ·rw [if_pos (Or.inr h3)] at e0
         subst e0
         go_wp2_with (go_at_call 33;refine (HLEN.out w14 B14.out).mono ?_;rintro _ w15 ⟨rfl,hb15⟩;have B15:=Lib.hid (B14.out.trans (hb15.mono B14.out.size));clear hb15)
         go_ret
         exact ⟨rfl,B6.out.trans (B15.out.mono B6.out.size)⟩
        ·rw [if_neg (by omega)] at e0
         subst e0
         go_wp2_with (go_at_call 33;refine (HLEN.out w14 B14.out).mono ?_;rintro _ w15 ⟨rfl,hb15⟩;have B15:=Lib.hid (B14.out.trans (hb15.mono B14.out.size));clear hb15)
         go_ret
         exact ⟨rfl,B6.out.trans (B15.out.mono B6.out.size)⟩
end Go.Proofs.YtinihaflmdihaaaGreat.Kt
namespace Go.Proofs.YtinihaflmdihaaaGreat
open Go.ChangeShapes Go.WideShapes Go.ChangeAt Go.RowKit Go.Deep
open List renaming setIfInBounds_toArray → sA, set_cons_zero → sZ, set_cons_succ → sS
theorem klwrong_lifted (os:Os) (started:os.Started) (H:Type) (enc:TypeId×Value→H):
  ReturnsInHanded {} Tryz.checked os 5 .any (Rows.kdtreeWrongSpec.pre6 enc Tryz.prog Tryz.f5 Rows.kdtreeWrongRow.domain false) (Rows.kdtreeWrongSpec.post enc Tryz.prog Tryz.f5 false true false false):=by
 refine returnsInHanded_of_change (C:=Tryz.checked) gen_own started (by kernel_rfl) Tryz.func5
  (ChangeSpec.witness6 (enc:=enc) (C:=Tryz.checked) false ⟨#[],#[.slice none 0 0,.int .i64 0,.slice none 0 0],[]⟩ 8 (by kernel_rfl) (by kernel_rfl) (by kernel_rfl) (by kernel_rfl)) ?_
 intro W base args ds gs before hval0 hW _ _
 have hval:∀(j:Nat) t v,Tryz.f5.params[j]? =some t→args[j]? =some v→Value.okWide Tryz.prog W .any base t v:=hval0
 have hW':=hW
 obtain ⟨p,q,hA0,hV,rfl,_,_⟩:=hW
 have hA:DataW.TrodAll enc Tryz.prog W 0 (fun _=>true) true Tryz.f5.params.toList args.toList ds p:=hA0
 rw [Tryz.params5] at hA hval
 obtain ⟨v0,vs0,d0,ds0,p0,q0,hargs,rfl,rfl,h0,r0⟩:=trodAll_cons hA
 obtain ⟨v1,vs1,d1,ds1,p1,q1,rfl,rfl,rfl,h1,r1⟩:=trodAll_cons r0
 obtain ⟨v2,vs2,d2,ds2,p2,q2,rfl,rfl,rfl,h2,r2⟩:=trodAll_cons r1
 obtain ⟨rfl,rfl,rfl⟩:=trodAll_nil r2
 obtain rfl:args= #[v0,v1,v2]:=by cases args;simp_all
 obtain ⟨rfl,rfl⟩:=trodVars_none hV
 obtain ⟨a0,len0,cap0,R0,rfl,hR0,hl0⟩:=open_row (hval 0 24 v0 rfl rfl) h0
 obtain ⟨n1,rfl,rfl,rfl,hn1⟩:=open_int Tryz.underlying3 (hval 1 3 v1 rfl rfl) h1
 obtain ⟨a2,len2,cap2,rfl⟩:=okWide_slice Tryz.underlying51 (hval 2 51 v2 rfl rfl)
 have k0:=h0
 have k1:=h1
 have k2:=h2
 have lt0:∀x∈p0,x.block<W.heap.size:=by obtain ⟨m,hm⟩:=k0;exact DataW.trod_lt m _ _ _ hm
 have lt2:∀x∈p2,x.block<W.heap.size:=by obtain ⟨m,hm⟩:=k2;exact DataW.trod_lt m _ _ _ hm
 have bn1:=bounds_i64 hn1
 obtain ⟨⟨L2,hL2,hN2⟩,hl2⟩:(∃L,RowsIn W a2 len2 cap2 L∧(a2=none→cap2=0))∧len2≤9223372036854775807:=by
  obtain ⟨fuel,hf⟩:=h2
  exact Kt.open_rowsK hf
 clear hA0 hval0
 refine (Kt.wrong_any a0 a2 len0 cap0 len2 cap2 R0 n1 L2 W hR0 hl0 bn1 hL2 hN2 hl2).mono fun e W' ⟨he,bel⟩=>?_
 subst he
 exact ⟨_,rfl,_,_,_,[],_,[],hW',trodAll_mk1 (shut_bool Tryz.underlying4 _),
  (trodAll_cons_mk (Below.trod gen_laidOut (by kernel_rfl) (of_decide_eq_true (by kernel_rfl)) k0 bel lt0) (trodAll_cons_mk (Below.trod gen_laidOut (by kernel_rfl) (of_decide_eq_true (by kernel_rfl)) k1 bel (fun x hx=>by cases hx)) (trodAll_cons_mk (Below.trod gen_laidOut (by kernel_rfl) (of_decide_eq_true (by kernel_rfl)) k2 bel lt2) trodAll_mk0))),rfl,bel.frame _,fun h=>by cases h⟩
theorem klwrong_holds:Rows.KdtreeWrongSaid:=
 OpenClaim.holds_of_wide 5 Tryz.f5 rfl rfl rfl rfl rfl rfl rfl ⟨rfl,rfl,rfl,rfl,rfl⟩ rfl rfl rfl rfl rfl (by kernel_rfl) Tryz.func5 (by kernel_rfl)
  (of_decide_eq_true (by kernel_rfl)) (by unfold Func.isWrapper;first | (rw [if_pos (by decide+kernel)];kernel_rfl) | (rw [if_neg (by decide+kernel)];exact ⟨rfl,rfl⟩))
  (fun os started H enc _=>klwrong_lifted os started H enc)
end Go.Proofs.YtinihaflmdihaaaGreat
