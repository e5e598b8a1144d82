/- KlWrongP, PgSmall. -/
import Derived.Laws.AppendOwnNone
import Derived.Test.YtinihaflmdihaaaGreatW1
import Derived.Test.YtinihaflmdihaaaGreatW2
import Derived.Test.YtinihaflmdihaaaGreatW16
import Derived.Test.YtinihaflmdihaaaGreatW34
import Derived.Test.YtinihaflmdihaaaGreatW41
import Derived.Test.YtinihaflmdihaaaGreatW42
set_option maxRecDepth 100000
set_option maxHeartbeats 8000000
set_option linter.unusedVariables false
set_option linter.unusedSimpArgs false
namespace Go.Proofs.YtinihaflmdihaaaGreat.Kt
open Go.RowKit Go.Proofs.YtinihaflmdihaaaGreat.Nd Go.Proofs.YtinihaflmdihaaaGreat.Dk Go.Proofs.YtinihaflmdihaaaGreat.Pg
open List renaming setIfInBounds_toArray → sA, set_cons_zero → sZ, set_cons_succ → sS
def goneK (p:Rw):Kd:=⟨zeros 32,p,p,1,1,⟨none,0,0,[]⟩⟩
theorem gone_ok {w:World} {p:Rw} (h:p.Ok w):(goneK p).Ok w:=⟨by simp [goneK,zeros],zeros_ok 32,h,h,rw0_ok w,⟨by show (-9223372036854775808:Int)≤1;omega,by show (1:Int)≤9223372036854775807;omega⟩,⟨by show (-9223372036854775808:Int)≤1;omega,by show (1:Int)≤9223372036854775807;omega⟩⟩
theorem gone_ne (p:Rw):(goneK p).pk≠PK.none:=fun e=>by
 have h:=congrArg PK.size e
 have h:(1:Int)=0:=h
 omega
def wantE (d:Int) (p:Rw):Int:=if takesB d [p] then 21 else 1
def otherE (d:Int):Int:=if takesB d [] then 21 else 1
theorem wantE_ne (d:Int) (p:Rw):wantE d p≠0:=by unfold wantE;split<;>decide
theorem gone_text (p:Rw):textAt (⟨[],none⟩:Pg.S).W (goneK p).sum=none:=rfl
theorem gone_way {g:Nat} {Q:Nat→Prop} (d:Int) (p:Rw) (w:World) (hp:p.Ok w) (h:PL w g Q ⟨[],none⟩):WaySays (some ⟨g,0,none⟩) d (goneK p) p (wantE d p) w:=fun w' hb=>by
 unfold wantE
 by_cases ht:takesB d [p]=true
 ·rw [if_pos ht]
  exact way_none d (goneK p) p w' (h.keep (fun _=>False) (Only.of_below _ hb) (fun _ _ e=>e)) (gone_ok (hp.later hb)) (hp.later hb) ht (gone_ne p) (gone_text p)
 ·rw [if_neg ht]
  exact way_bad (some ⟨g,0,none⟩) d (goneK p) p w' (hp.later hb) (Bool.not_eq_true _▸ht)
theorem gone_get {g:Nat} {Q:Nat→Prop} (d:Int) (p:Rw) (w:World) (hp:p.Ok w) (h:PL w g Q ⟨[],none⟩) (ga:Nat) (W:World) (hb:Below w.heap.size w W) (hr:W.rangeAt ga 0 (goneK p).cells):GetSays (some ⟨g,0,none⟩) d ga 0 21 W:=fun w' hb2=>by
 have hbb:=hb.trans (hb2.mono hb.size)
 exact kget_none d (goneK p) ga 0 w' (h.keep (fun _=>False) (Only.of_below _ hbb) (fun _ _ e=>e)) (gone_ok (hp.later hbb)) (range_later hr hb2) (gone_ne p) (gone_text p)
theorem gone_rows {g:Nat} {Q:Nat→Prop} (d:Int) (p:Rw) (w:World) (hp:p.Ok w) (h:PL w g Q ⟨[],none⟩):
  Calls Tryz.prog 23 #[.pointer (some ⟨g,0,none⟩),.agg (goneK p).cells.toArray,.int .i64 d] w fun e w'=>e= .returned (.tuple #[.slice none 0 0,.int .i64 (otherE d)])∧Below w.heap.size w w':=by
 unfold otherE
 by_cases ht:takesB d []=true
 ·rw [if_pos ht]
  refine Rows_err (some ⟨g,0,none⟩) d 21 (goneK p) w (gone_ok hp) ht (fun w' hb=>?_) (by decide)
  exact rows_zero (some ⟨g,0,none⟩) d 21 (goneK p) w' (fun W hb2 hr=>gone_get d p w' (hp.later hb) (h.keep (fun _=>False) (Only.of_below _ hb) (fun _ _ e=>e)) _ W hb2 hr)
 ·rw [if_neg ht]
  exact Rows_bad (some ⟨g,0,none⟩) d (goneK p) w (gone_ok hp) (Bool.not_eq_true _▸ht)
theorem gone_height {g:Nat} {Q:Nat→Prop} (d:Int) (p:Rw) (w:World) (hp:p.Ok w) (h:PL w g Q ⟨[],none⟩):
  Calls Tryz.prog 24 #[.pointer (some ⟨g,0,none⟩),.agg (goneK p).cells.toArray,.int .i64 d] w fun e w'=>e= .returned (.tuple #[.int .i64 0,.int .i64 (otherE d)])∧Below w.heap.size w w':=by
 unfold otherE
 by_cases ht:takesB d []=true
 ·rw [if_pos ht]
  exact Height_err (some ⟨g,0,none⟩) d 21 (goneK p) w (gone_ok hp) ht (fun W hb hr=>gone_get d p w hp h _ W hb hr) (by decide)
 ·rw [if_neg ht]
  exact Height_bad (some ⟨g,0,none⟩) d (goneK p) w (gone_ok hp) (Bool.not_eq_true _▸ht)
theorem wp_app_in {w:World} {o:Oper} {a:Act} {K:Act→World→Prop} {Q:Exit→Act→World→Prop} (s x:Operand)
  (ho:o.op= .call {callee:=.builtin .append,args:= #[s,x],argTypes:= #[51,51]})
  {r:Rw} {q:Option Addr} {n c:Nat} {L:List Rw} (hr:r.Ok w) (hs:a.eval s= .slice (some ⟨w.heap.size,0,none⟩) 1 1) (hx:a.eval x= .slice q n c) (hL:RowsIn w q n c L) (hq:q=none→c=0) (hbig:n≤100000)
  (h:∀q' c' w',RowsIn w' q' (1+n) c' (r::L)→Below w.heap.size w w'→K (a.put o.dst (.slice q' (1+n) c')) w'):o.wp Tryz.prog a (w.alloc (.cells #[r.val] 24)) K Q:=by
 obtain ⟨i23,hi,hi0,hi1,hi2⟩:=info_parts IRs
 have hown:=own_one w r.p r.n r.c r.R
 have hb:Below w.heap.size w (w.alloc (.cells #[r.val] 24)):=(Below.refl _ _).alloc (Nat.le_refl _) _
 have hs1:(w.alloc (.cells #[r.val] 24)).heap.size=w.heap.size+1:=by simp
 have fin:∀v' w',w'.ownsRow w.heap.size 24 1 v' (1+n) (hds (r::L))→Below w.heap.size (w.alloc (.cells #[r.val] 24)) w'→K (a.put o.dst v') w':=fun v' w' h1 h2=>by
  have hb2:=hb.trans h2
  have ho:Own w.heap.size w' v' (1+n) (r::L):=⟨h1,fun t ht=>by
   rcases List.mem_cons.1 ht with rfl | ht
   ·exact hr.later hb2
   ·exact (hL.each t ht).later hb2⟩
  obtain ⟨q',c',rfl,hR⟩:=ho.rows
  exact h q' c' w' hR hb2
 have hsz:=hL.size
 cases q with
 | none=>
  obtain rfl:=hq rfl
  have h0:n=0:=by have:=hL.le;omega
  subst h0
  obtain rfl:L=[]:=List.length_eq_zero_iff.1 hsz.symm
  have hrun:=run_append_owned_none (P:=Tryz.prog) (w:=w.alloc (.cells #[r.val] 24)) w.heap.size 51 o.type 24 i23 1 URSs hi (.slice (some ⟨w.heap.size,0,none⟩) 1 1) 1 _ hown
  have h3:=fin (.slice (some ⟨w.heap.size,0,none⟩) 1 1) _ hown (Below.refl _ _)
  unfold Oper.wp
  simp [execOp,ho,resolve,invoke,builtin,hs,hx,hrun,Result.andThen]
  exact h3
 | some ad=>
  refine wp_append_own _ s x 51 ho w.heap.size 24 i23 (.slice none 0 0) 1 24 URSs hi hi0 hi1 hi2 (by rfl) (by decide) (.slice (some ⟨w.heap.size,0,none⟩) 1 1) 1 _ hs hown ad n c (hds L) hx (by rw [hds_length,Nat.mul_one];exact hsz.symm) (fun j u hu=>?_) (hds_one _) (by unfold maxLen;omega) (by omega) (by omega) (fun v' w' k1 k2 _=>fin v' w' (by have e:hds [r]++hds L=hds (r::L):=rfl;rw [← e];exact k1) ((Below.refl w.heap.size _).grown k2 (by omega) (fun k hk=>(hown.lt k hk).1)))
  have hj:j<L.length:=by have:=(List.getElem?_eq_some_iff.1 hu).1;rw [hds_length] at this;exact this
  rcases hL.at' with h0 | ⟨g,o',hp,hc⟩
  ·rw [h0] at hj
   exact absurd hj (by simp)
  ·obtain rfl:ad=⟨g,o',none⟩:=Option.some.inj hp
   rw [Addr.add_mid,hb.cell (block_lt_of_cell (hc j hj)),hc j hj]
   simp only [hds,List.getElem?_map,List.getElem?_eq_getElem hj,Option.map_some,Option.some.injEq] at hu
   rw [← hu,List.getD_eq_getElem?_getD,List.getElem?_eq_getElem hj]
   rfl
end Go.Proofs.YtinihaflmdihaaaGreat.Kt
namespace Go.Proofs.YtinihaflmdihaaaGreat.Pg
open Go.RowKit
open List renaming setIfInBounds_toArray → sA, set_cons_zero → sZ, set_cons_succ → sS
theorem len_any {w:World} {g:Nat} {Q:Nat→Prop} {s:S} (h:PL w g Q s):
  Calls Tryz.prog 33 #[.pointer (some ⟨g,0,none⟩)] w fun e w'=>e= .returned (.int .i64 s.W.length)∧Below w.heap.size w w':=by
 obtain ⟨mp,cl,h⟩:=h
 have c0:=h.c0
 obtain ⟨n,hn,hl⟩:∃n:Nat,n=s.W.length∧∀ty w',w'.heap=w.heap→(Builtin.len_ #[86] ty #[.map mp]).run Tryz.prog w'= .ok (.int .i64 (n:Int)) w':=by
  rcases h.pages with ⟨rfl,hW⟩ | ⟨b,L,rfl,hW,hM⟩
  ·exact ⟨0,by rw [hW];rfl,fun ty w' _=>Go.Maps.len_nil UST ty⟩
  ·obtain ⟨D,hm,hr⟩:=hM.map
   refine ⟨L.length,by rw [← hW,pagesOf_length],fun ty w' hw=>?_⟩
   have:=(map_keep (w':=w') hm (by rw [hw])).len UST ty
   rwa [hr.size] at this
 rw [← hn]
 clear hn
 have HL:=hl 3 w rfl
 clear h hl
 go_enter Tryz.func33,Tryz.ntmps33
 go_wp2_with fail
 go_ret
 exact ⟨rfl,Below.refl _ _⟩
end Go.Proofs.YtinihaflmdihaaaGreat.Pg
