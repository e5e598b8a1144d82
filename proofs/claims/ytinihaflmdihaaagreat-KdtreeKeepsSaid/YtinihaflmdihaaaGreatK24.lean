/- KdCols, KdStep, KdMeetV. -/
import Derived.Maps.AppendAt
import Derived.Great.BuildSlice
import Derived.BigRegion
import Derived.Test.YtinihaflmdihaaaGreatK23
set_option maxRecDepth 100000
set_option maxHeartbeats 8000000
set_option linter.all false
namespace Go.Proofs.YtinihaflmdihaaaGreat.Kt
open Go.RowKit Go.Proofs.YtinihaflmdihaaaGreat.Nd Go.Proofs.YtinihaflmdihaaaGreat.Dk Go.Proofs.YtinihaflmdihaaaGreat.Pg
def liveE (L:List Ent):List (List Int):=(L.filter fun e=>e.2.1).map (·.1)
theorem liveE_append (L M:List Ent):liveE (L++M)=liveE L++liveE M:=by simp [liveE]
structure ColAt (B b:Nat) (X:Nat→Prop) (L:List Ent) (w:World) (v:Value) (O:List Rw):Prop where
 row:w.heap[b]? =some (.cells #[v] 51 (0,0))
 own:w.ownsRow 0 24 1 v O.length (hds O)
 ok:∀r∈O,r.Ok w∧∀x,r.p=some x→r.R≠[]→¬X x.block∧B≤x.block
 are:O.map Rw.R=liveE L
 mine:∀k,X k↔k=b∨v.ownBlock=some k
 ne:v.ownBlock≠some b
 few:O.length≤1000000
def ColI (B b:Nat) (X:Nat→Prop) (L:List Ent) (w:World):Prop:=∃v O,ColAt B b X L w v O
theorem own0_later {w w':World} {v:Value} {n:Nat} {xs:List Value} (h:w.ownsRow 0 24 1 v n xs) (hk:∀k,v.ownBlock=some k→w'.heap[k]? =w.heap[k]?):w'.ownsRow 0 24 1 v n xs:=by
 obtain ⟨h1,h2⟩:=h
 refine ⟨h1,h2.imp id ?_⟩
 rintro ⟨g,cap,cur,hv,hg,hh,r⟩
 exact ⟨g,cap,cur,hv,hg,(hk g (by rw [hv];rfl)).trans hh,r⟩
theorem ColAt.lt {B b:Nat} {X:Nat→Prop} {L:List Ent} {w:World} {v:Value} {O:List Rw} (h:ColAt B b X L w v O):∀k,X k→k<w.heap.size:=fun k hk=>by
 rcases (h.mine k).1 hk with rfl | e
 ·exact (yL h.row)
 ·exact (h.own.lt k e).2
theorem ColAt.later {B b:Nat} {X:Nat→Prop} {L:List Ent} {w w':World} {v:Value} {O:List Rw} (h:ColAt B b X L w v O) (hb:Below w.heap.size w w'):ColAt B b X L w' v O:=
 ⟨(hb.block _ (yL h.row)).trans h.row,own0_later h.own fun k e=>hb.block k (h.own.lt k e).2,fun r hr=>⟨(h.ok r hr).1.later hb,(h.ok r hr).2⟩,h.are,h.mine,h.ne,h.few⟩
theorem row_boxed {w:World} {b:Nat} {v v':Value} {t:TypeId} (h:w.heap[b]? =some (.cells #[v] t (0,0))):(w.setCell ⟨b,0,none⟩ v').heap[b]? =some (.cells #[v'] t (0,0)):=heap_setCell_same w b 0 _ _ v' h
theorem rowsDo {B b:Nat} (X:Nat→Prop) (L:List Ent) (w:World) (r:Rw) (lv:Bool) (t:Nat) (hi:ColI B b X L w) (hl:L.length≤100000) (hr:r.Ok w) (hx:∀x,r.p=some x→r.R≠[]→¬X x.block∧B≤x.block):
  Calls Tryz.prog 109 #[.agg #[r.val,.bool lv],.int .i64 t,.pointer (some ⟨b,0,none⟩)] w fun e w'=>e= .returned (.tuple #[])∧∃X',ColI B b X' (L++[(r.R,lv,t)]) w'∧(∀k,X' k→X k∨w.heap.size≤k)∧Only X w w':=by
 obtain ⟨v,O,hc⟩:=hi
 have hol:O.length≤L.length:=by
  have:=congrArg List.length hc.are
  rw [List.length_map] at this
  rw [this]
  unfold liveE
  rw [List.length_map]
  exact List.length_filter_le _ _
 obtain ⟨rp,rn,rc,rR⟩:=r
 unfold Rw.val
 simp only
 have b1:Below w.heap.size w (w.alloc (.cells #[.slice rp rn rc,.bool lv] 85)):=(Below.refl _ _).alloc (Nat.le_refl _) _
 have r1:=heap_alloc_new w (.cells #[.slice rp rn rc,.bool lv] 85)
 have s1:(w.alloc (.cells #[.slice rp rn rc,.bool lv] 85)).heap.size=w.heap.size+1:=by simp
 have HC:=yH (hc.later b1)
 have HXLT:=yH hc.lt
 have HR:=yH (hr.later b1)
 have HX:=yH hx
 have HL:=yH hl
 have HOL:=yH hol
 have B1:=yH b1
 obtain ⟨i23,hi0,hi1,hi2,hi3⟩:=info_parts IRs
 have HI:=yH hi0
 have HI0:=yH hi1
 have HI1:=yH hi2
 have HI2:=yH hi3
 clear hc hr hx hl hol hi0 hi1 hi2 hi3
 go_enter Tryz.func109,Tryz.ntmps109
 go_upto_region 1 with fail
 generalize w.alloc (.cells #[.slice rp rn rc,.bool lv] 85)=w1 at *
 have c0:=cell_of_row w1 w.heap.size 0 _ _ _ r1
 have c1:=cell_of_row w1 w.heap.size 1 _ _ _ r1
 have HS1:=yH s1
 clear r1 b1 s1
 cases lv with
 | false=>
  go_wp2_with fail
  go_end0
  exact ⟨rfl,X,⟨v,O,⟨HC.out.row,HC.out.own,HC.out.ok,by rw [liveE_append,HC.out.are];simp [liveE],HC.out.mine,HC.out.ne,HC.out.few⟩⟩,fun k h=>Or.inl h,Only.of_below _ B1.out⟩
 | true=>
  have cb:=cell_of_row w1 b 0 _ _ _ HC.out.row
  have HA:=yH (heap_alloc_new w1 (.cells #[.slice rp rn rc] 24))
  have bA:Below w1.heap.size w1 (w1.alloc (.cells #[.slice rp rn rc] 24)):=(Below.refl _ _).alloc (Nat.le_refl _) _
  have hOA:(w1.alloc (.cells #[.slice rp rn rc] 24)).ownsRow 0 24 1 v O.length (hds O):=own0_later HC.out.own fun k e=>bA.block k (HC.out.own.lt k e).2
  have HOA:=yH hOA
  have BA:=yH bA
  clear hOA bA
  go_upto_region 2 with fail
  go_wp2_with ((at_builtin;refine wpList_append_own_at _ (by rfl) (.tmp 7) (.tmp 10) 51 (by rfl) 0 24 i23 (.slice none 0 0) 1 24 URSs HI.out HI0.out HI1.out HI2.out (by rfl) (by decide) _ O.length _ (by rfl) HOA.out ⟨w1.heap.size,0,none⟩ 1 1 (hds [⟨rp,rn,rc,rR⟩]) (by rfl) (by rfl) (hd_new w1 rp rn rc rR) (hds_one _) (by have h1:=HL.out;have h2:=HOL.out;unfold maxLen;omega) (by have h1:=HL.out;have h2:=HOL.out;omega) (Nat.zero_le _) ?_);intro v7 w7 hown7 hgrow7 _ hat7;obtain ⟨q7,c7,rfl⟩:=lst_form hown7;have cb7:w7.cell? ⟨b,0,none⟩=some v:=(World.cell?_of_block ((hgrow7.block b (Nat.lt_of_lt_of_le (yL HC.out.row) BA.out.size) (fun e=>HC.out.ne e.symm)).trans (BA.out.block b (yL HC.out.row)))).trans cb;have HRB7:=yH (((hgrow7.block b (Nat.lt_of_lt_of_le (yL HC.out.row) BA.out.size) (fun e=>HC.out.ne e.symm)).trans (BA.out.block b (yL HC.out.row))).trans HC.out.row);have fb7:=frozen_of_row w7 b 0 _ _ HRB7.out;have O7:=yH hown7;have G7:=yH hgrow7;have AT7:=yH hat7;clear hown7 hgrow7 hat7)
  have hs7:w1.heap.size+1≤w7.heap.size:=by have:=G7.out.size;simpa using this
  have hrb:=row_boxed (v':=.slice q7 (O.length+1) c7) HRB7.out
  have ho8:Only (fun k=>k=b) w7 (w7.setCell ⟨b,0,none⟩ (.slice q7 (O.length+1) c7)):=Only.setCell (P:=fun j=>j=b) w7 (a:=⟨b,0,none⟩) rfl _
  generalize w7.setCell ⟨b,0,none⟩ (.slice q7 (O.length+1) c7)=w8 at *
  go_end0
  have hne:(Value.slice q7 (O.length+1) c7).ownBlock≠some b:=fun e=>by
   rcases AT7.out with h | h
   ·exact HC.out.ne (h.symm.trans e)
   ·rw [h] at e
    have e:=Option.some.inj e
    have h2:=(yL HC.out.row)
    have h3:=BA.out.size
    omega
  have hsA:=BA.out.size
  have hnew:∀k,(Value.slice q7 (O.length+1) c7).ownBlock=some k→v.ownBlock=some k∨w1.heap.size+1≤k:=fun k e=>by
   rcases AT7.out with h | h
   ·exact Or.inl (h.symm.trans e)
   ·rw [h] at e
    have e:=Option.some.inj e
    refine Or.inr ?_
    rw [← e]
    simp
  have hall:Only X w1 w8:=by
   have hg:=G7.out
   refine ⟨ho8.os.trans (hg.os.trans BA.out.os),ho8.tape.trans (hg.tape.trans BA.out.tape),ho8.output.trans (hg.output.trans BA.out.output),by have:=ho8.size;omega,fun k hk hn=>?_⟩
   have hkb:k≠b:=fun e=>hn ((HC.out.mine k).2 (Or.inl e))
   rw [ho8.block k (by omega) hkb,hg.block k (by omega) (fun e=>hn ((HC.out.mine k).2 (Or.inr e.symm)))]
   exact BA.out.block k hk
  have hrk:∀r:Rw,r.Ok w1→(∀x,r.p=some x→r.R≠[]→¬X x.block∧B≤x.block)→r.Ok w8:=fun r h1 h2=>Nd.rw_keep h1 fun y hy hR=>hall.block _ (rw_lt h1 y hy hR) (h2 y hy hR).1
  have how:=O7.out
  refine ⟨rfl,fun k=>k=b∨(Value.slice q7 (O.length+1) c7).ownBlock=some k,⟨.slice q7 (O.length+1) c7,O++[⟨rp,rn,rc,rR⟩],⟨hrb,?_,fun r hr=>?_,?_,fun k=>Iff.rfl,hne,?_⟩⟩,fun k hk=>?_,?_⟩
  ·rw [List.length_append,hds_append]
   exact own0_later how fun k e=>ho8.block k ((how.lt k e).2) (fun e2=>hne (by rw [e,e2]))
  ·have key:∀r:Rw,r.Ok w1→(∀x,r.p=some x→r.R≠[]→¬X x.block∧B≤x.block)→∀x,r.p=some x→r.R≠[]→¬(x.block=b∨(Value.slice q7 (O.length+1) c7).ownBlock=some x.block)∧B≤x.block:=fun r h1 h2 x hx hR=>⟨fun h=>by
    rcases h with h | h
    ·exact (h2 x hx hR).1 ((HC.out.mine _).2 (Or.inl h))
    ·rcases hnew _ h with h | h
     ·exact (h2 x hx hR).1 ((HC.out.mine _).2 (Or.inr h))
     ·have:=rw_lt h1 x hx hR
      omega,(h2 x hx hR).2⟩
   rcases List.mem_append.1 hr with hr | hr
   ·exact ⟨hrk r (HC.out.ok r hr).1 (HC.out.ok r hr).2,key r (HC.out.ok r hr).1 (HC.out.ok r hr).2⟩
   ·rw [List.mem_singleton.1 hr]
    exact ⟨hrk _ HR.out HX.out,key _ HR.out HX.out⟩
  ·rw [List.map_append,HC.out.are,liveE_append]
   rfl
  ·rw [List.length_append]
   have h1:=HL.out
   have h2:=HOL.out
   simp only [List.length_cons,List.length_nil]
   omega
  ·rcases hk with rfl | hk
   ·exact Or.inl ((HC.out.mine _).2 (Or.inl rfl))
   ·rcases hnew k hk with h | h
    ·exact Or.inl ((HC.out.mine _).2 (Or.inr h))
    ·have:=HS1.out
     exact Or.inr (by omega)
  ·exact (Only.of_below X B1.out).trans hall
theorem rows_do {B b:Nat}:DoOk B 109 #[.pointer (some ⟨b,0,none⟩)] (ColI B b) where
 lt:=fun X L w ⟨v,O,h⟩=>h.lt
 later:=fun X L w w' ⟨v,O,h⟩ hb=>⟨v,O,h.later hb⟩
 run:=fun X L w r v t hi hr hx ht hl=>by
  have h:=rowsDo X L w r v t hi hl hr hx
  exact h
theorem rows_enter:∀args w,(callFunc 109 args).run Tryz.prog w= .ok (.enter 109 args) w:=enters_of Tryz.func109 (by kernel_rfl) rfl
def deepE (L:List Ent):Nat:=L.foldl (fun m e=>max m e.2.2) 0
theorem deepE_snoc (L:List Ent) (e:Ent):deepE (L++[e])=max (deepE L) e.2.2:=by simp [deepE]
def TopI (b:Nat) (X:Nat→Prop) (L:List Ent) (w:World):Prop:=w.heap[b]? =some (.cells #[.int .i64 (deepE L)] 3 (0,0))∧(∀k,X k↔k=b)
theorem topDo {b:Nat} (X:Nat→Prop) (L:List Ent) (w:World) (r:Rw) (lv:Bool) (t:Nat) (hi:TopI b X L w) (ht:t≤1000000000):
  Calls Tryz.prog 75 #[.agg #[r.val,.bool lv],.int .i64 t,.pointer (some ⟨b,0,none⟩)] w fun e w'=>e= .returned (.tuple #[])∧∃X',TopI b X' (L++[(r.R,lv,t)]) w'∧(∀k,X' k→X k∨w.heap.size≤k)∧Only X w w':=by
 obtain ⟨hc,hm⟩:=hi
 obtain ⟨rp,rn,rc,rR⟩:=r
 unfold Rw.val
 simp only
 have b1:Below w.heap.size w (w.alloc (.cells #[.slice rp rn rc,.bool lv] 85)):=(Below.refl _ _).alloc (Nat.le_refl _) _
 have RB:=yH ((b1.block _ (yL hc)).trans hc)
 have HM:=yH hm
 have B1:=yH b1
 have HD:=yH (deepE_snoc L (rR,lv,t))
 clear hc hm b1
 generalize deepE L=D at *
 go_enter Tryz.func75,Tryz.ntmps75
 go_upto_region 1 with fail
 generalize w.alloc (.cells #[.slice rp rn rc,.bool lv] 85)=w1 at *
 have cb:=cell_of_row w1 b 0 _ _ _ RB.out
 have fb:=frozen_of_row w1 b 0 _ _ RB.out
 go_wp2_with fail
 have hrb:=row_boxed (v':=.int .i64 (max (D:Int) t)) RB.out
 have ho8:Only (fun k=>k=b) w1 (w1.setCell ⟨b,0,none⟩ (.int .i64 (max (D:Int) t))):=Only.setCell (P:=fun j=>j=b) w1 (a:=⟨b,0,none⟩) rfl _
 go_end0
 refine ⟨rfl,X,⟨?_,HM.out⟩,fun k h=>Or.inl h,(Only.of_below X B1.out).trans (ho8.mono fun k e=>(HM.out k).2 e)⟩
 rw [HD.out]
 have e:((max D t:Nat):Int)=max (D:Int) t:=by omega
 rw [e]
 exact hrb
theorem top_do {B b:Nat}:DoOk B 75 #[.pointer (some ⟨b,0,none⟩)] (TopI b) where
 lt:=fun X L w ⟨h,hm⟩ k hk=>by
  rw [(hm k).1 hk]
  exact (yL h)
 later:=fun X L w w' ⟨h,hm⟩ hb=>⟨(hb.block _ (yL h)).trans h,hm⟩
 run:=fun X L w r v t hi hr hx ht hl=>by
  have h:=topDo X L w r v t hi ht
  exact h
theorem top_enter:∀args w,(callFunc 75 args).run Tryz.prog w= .ok (.enter 75 args) w:=enters_of Tryz.func75 (by kernel_rfl) rfl
theorem UWy:Tryz.prog.underlying 93=some (.slice 101):=by kernel_rfl
def sp0:List Value:=kd0.cells++[.int .u8 0,.slice none 0 0,.slice none 0 0,.int .i64 0]
theorem ISp:(Tryz.prog.info? 101).map (fun i=>(i.zero,i.size,i.bytes))=some (some (.agg sp0.toArray),41,184):=by kernel_rfl
theorem USp0:(Tryz.prog.underlying 101).map (·.isRow)=some true:=by kernel_rfl
theorem USp:∃d,Tryz.prog.underlying 101=some d∧d.isRow=true:=by
 have h:=USp0
 revert h
 cases Tryz.prog.underlying 101 with
 | none=>intro h;cases h
 | some d=>intro h;exact ⟨d,rfl,by simpa using h⟩
theorem SSp:(Tryz.prog.info? 101).map (·.size)=some 41:=by kernel_rfl
theorem sp_built0 (ge gk:Nat) (ce ck:Nat):Tryz.prog.built 101 [(1,.agg #[.int .u8 1,.slice (some ⟨ge,0,none⟩) 1 ce,.slice (some ⟨gk,0,none⟩) 2 ck])]=some (kd0.cells++[Value.int .u8 1,.slice (some ⟨ge,0,none⟩) 1 ce,.slice (some ⟨gk,0,none⟩) 2 ck,.int .i64 0]).toArray:=by kernel_rfl
theorem sp_built1 (q1 q2 q3:Option Addr) (m1 c1 m2 c2 m3 c3:Nat) (x y:Int) (ge gk ce ck:Nat):∀(D:List Nat),D.length=32→Tryz.prog.built 101 [(0,.agg (vals D++[Value.slice q1 m1 c1,.slice q2 m2 c2,.int .i64 x,.int .i64 y,.slice q3 m3 c3]).toArray),(1,.agg #[.int .u8 1,.slice (some ⟨ge,0,none⟩) 1 ce,.slice (some ⟨gk,0,none⟩) 2 ck])]=some ((vals D++[Value.slice q1 m1 c1,.slice q2 m2 c2,.int .i64 x,.int .i64 y,.slice q3 m3 c3])++[Value.int .u8 1,.slice (some ⟨ge,0,none⟩) 1 ce,.slice (some ⟨gk,0,none⟩) 2 ck,.int .i64 0]).toArray
 |[a0,a1,a2,a3,a4,a5,a6,a7,a8,a9,a10,a11,a12,a13,a14,a15,a16,a17,a18,a19,a20,a21,a22,a23,a24,a25,a26,a27,a28,a29,a30,a31],_=>by kernel_rfl
theorem sp_fill (q1 q2 q3:Option Addr) (m1 c1 m2 c2 m3 c3:Nat) (x y z:Int) (ge gk ce ck:Nat):∀(D:List Nat),D.length=32→Instr.fill (fun i=>some (i*41,41)) ((Array.range (1*41)).map ((Value.agg sp0.toArray).cells[·%(Value.agg sp0.toArray).cells.size]!)) [(0,.agg ((vals D++[Value.slice q1 m1 c1,.slice q2 m2 c2,.int .i64 x,.int .i64 y,.slice q3 m3 c3])++[Value.int .u8 1,.slice (some ⟨ge,0,none⟩) 1 ce,.slice (some ⟨gk,0,none⟩) 2 ck,.int .i64 z]).toArray)]=some ((vals D++[Value.slice q1 m1 c1,.slice q2 m2 c2,.int .i64 x,.int .i64 y,.slice q3 m3 c3])++[Value.int .u8 1,.slice (some ⟨ge,0,none⟩) 1 ce,.slice (some ⟨gk,0,none⟩) 2 ck,.int .i64 z]).toArray
 |[a0,a1,a2,a3,a4,a5,a6,a7,a8,a9,a10,a11,a12,a13,a14,a15,a16,a17,a18,a19,a20,a21,a22,a23,a24,a25,a26,a27,a28,a29,a30,a31],_=>by kernel_rfl
theorem wp_step_one {w:World} {o:Oper} {a:Act} {K:Act→World→Prop} {Q:Exit→Act→World→Prop} (x:Operand) (ho:o.op= .buildSlice 93 1 #[(0,x)]) {m:MSt} (hm:m.kid.sum.length=32) (hx:a.eval x= .agg m.cells.toArray)
  (h:K (a.put o.dst (.slice (some ⟨w.heap.size,0,none⟩) 1 1)) (w.alloc (.cells m.cells.toArray 101))):o.wp Tryz.prog a w K Q:=by
 obtain ⟨i,hi,hi0,hi1,hi2⟩:=info_parts ISp
 refine wp_buildSlice 93 101 1 #[(0,x)] ho m.cells.toArray i _ UWy hi hi0 (by rw [hi1];omega) (by rw [hi1];omega) ?_ h
 rw [hi1]
 simp only [List.map_toArray,List.map_cons,List.map_nil,hx]
 exact sp_fill _ _ _ _ _ _ _ _ _ _ _ _ _ _ _ _ m.kid.sum hm
theorem MSt.one {m:MSt}:∀u∈m.cells,u.oneCell'=true:=by
 intro u hu
 unfold MSt.cells at hu
 rcases List.mem_append.1 hu with hu | hu
 ·exact Kd.one u hu
 ·simp only [List.mem_cons,List.not_mem_nil,or_false] at hu
  rcases hu with rfl | rfl | rfl | rfl<;>rfl
theorem step_news (w:World) (m:MSt):∀j u,m.cells[j]? =some u→(w.alloc (.cells m.cells.toArray 101)).cell? ((⟨w.heap.size,0,none⟩:Addr).add j)=some u:=fun j u hu=>by
 rw [Addr.add_mid,Nat.zero_add,cell_of_row _ w.heap.size j _ _ _ (heap_alloc_new w _)]
 simpa using hu
theorem wp_app_step {B bw:Nat} {w:World} {v:Value} {A:List MSt} {m:MSt} (h:WaySt B bw w v A) (hm:m.kid.sum.length=32) {o:Oper} {a:Act} {K:Act→World→Prop} {Q:Exit→Act→World→Prop} (s x:Operand)
  (ho:o.op= .call {callee:=.builtin .append,args:= #[s,x],argTypes:= #[93,93]}) (hs:a.eval s=v) (hx:a.eval x= .slice (some ⟨w.heap.size,0,none⟩) 1 1) (hlen:A.length≤100000)
  (hK:∀q c w',w'.ownsRow B 101 41 (.slice q (A.length+1) c) (A.length+1) ((A++[m]).flatMap MSt.cells)→(w.alloc (.cells m.cells.toArray 101)).grownBy w' v.ownBlock→((Value.slice q (A.length+1) c).ownBlock=v.ownBlock∨(Value.slice q (A.length+1) c).ownBlock=some (w.heap.size+1))→K (a.put o.dst (.slice q (A.length+1) c)) w'):o.wp Tryz.prog a (w.alloc (.cells m.cells.toArray 101)) K Q:=by
 obtain ⟨i,hi,hi0,hi1,hi2⟩:=info_parts ISp
 have hb:Below w.heap.size w (w.alloc (.cells m.cells.toArray 101)):=(Below.refl _ _).alloc (Nat.le_refl _) _
 have ho2:=(h.later hb).own
 refine wp_append_at s x 93 ho B 101 i _ 41 184 UWy hi hi0 hi1 hi2 (by rfl) (by decide) v A.length _ hs ho2 ⟨w.heap.size,0,none⟩ 1 1 m.cells hx (by rw [MSt.cells_length hm]) (step_news w m) MSt.one (by unfold maxLen;omega) (by omega) (by have:=h.low;have:=(yL h.box);simp;omega) fun v' w' h1 h2 h3=>?_
 obtain ⟨q,c,rfl⟩:=lst_form h1
 refine hK q c w' (by rw [List.flatMap_append];simpa using h1) h2 ?_
 simpa using h3
theorem way_put {B bw:Nat} {w w':World} {v:Value} {A:List MSt} {m:MSt} {q:Option Addr} {c:Nat} (h:WaySt B bw w v A) (hm:m.Ok w) (hlt:B≤w.heap.size) (ho:w'.ownsRow B 101 41 (.slice q (A.length+1) c) (A.length+1) ((A++[m]).flatMap MSt.cells)) (hg:(w.alloc (.cells m.cells.toArray 101)).grownBy w' v.ownBlock) (hat:(Value.slice q (A.length+1) c).ownBlock=v.ownBlock∨(Value.slice q (A.length+1) c).ownBlock=some (w.heap.size+1))
  (hnew:WayM B w (A++[m])) (hx:∀k,m.reads k→k≠bw∧v.ownBlock≠some k):
  WaySt B bw (w'.setCell ⟨bw,0,none⟩ (.slice q (A.length+1) c)) (.slice q (A.length+1) c) (A++[m])∧Only (fun k=>k=bw∨v.ownBlock=some k) w (w'.setCell ⟨bw,0,none⟩ (.slice q (A.length+1) c))∧w'.heap[bw]? =some (.cells #[v] 93 (0,0)):=by
 have hb:Below w.heap.size w (w.alloc (.cells m.cells.toArray 101)):=(Below.refl _ _).alloc (Nat.le_refl _) _
 have hbwl:=(yL h.box)
 have hbox:w'.heap[bw]? =some (.cells #[v] 93 (0,0)):=(hg.block bw (Nat.lt_of_lt_of_le hbwl hb.size) (fun e=>h.ne e.symm)).trans ((hb.block bw hbwl).trans h.box)
 have hne:(Value.slice q (A.length+1) c).ownBlock≠some bw:=fun e=>by
  rcases hat with h1 | h1
  ·exact h.ne (h1.symm.trans e)
  ·rw [h1] at e
   have:=Option.some.inj e
   omega
 have ho8:Only (fun k=>k=bw) w' (w'.setCell ⟨bw,0,none⟩ (.slice q (A.length+1) c)):=Only.setCell (P:=fun j=>j=bw) w' (a:=⟨bw,0,none⟩) rfl _
 have hall:Only (fun k=>k=bw∨v.ownBlock=some k) w (w'.setCell ⟨bw,0,none⟩ (.slice q (A.length+1) c)):=
  ⟨ho8.os.trans (hg.os.trans hb.os),ho8.tape.trans (hg.tape.trans hb.tape),ho8.output.trans (hg.output.trans hb.output),Nat.le_trans hb.size (Nat.le_trans hg.size ho8.size),fun k hk hn=>
   (ho8.block k (Nat.lt_of_lt_of_le hk (Nat.le_trans hb.size hg.size)) (fun e=>hn (Or.inl e))).trans ((hg.block k (Nat.lt_of_lt_of_le hk hb.size) (fun e=>hn (Or.inr e.symm))).trans (hb.block k hk))⟩
 have hasd:∀x∈A++[m],∀k,x.reads k→k≠bw∧v.ownBlock≠some k:=fun x hx' k hk=>by
  rcases List.mem_append.1 hx' with h1 | h1
  ·exact h.aside x h1 k hk
  ·rw [List.mem_singleton.1 h1] at hk
   exact hx k hk
 refine ⟨⟨row_boxed hbox,?_,hne,hnew.keep fun x hx' k hk=>hall.block k ((hnew.each x hx').lt k hk) (fun e=>e.elim (hasd x hx' k hk).1 (hasd x hx' k hk).2),fun x hx' k hk=>⟨(hasd x hx' k hk).1,fun e=>?_⟩,h.low⟩,hall,hbox⟩
 ·obtain ⟨h1,h2⟩:=ho
  rw [List.length_append]
  refine ⟨h1,h2.imp id ?_⟩
  rintro ⟨g,cap,cur,hv,hg',hh,r⟩
  refine ⟨g,cap,cur,hv,hg',(ho8.block g (yL hh) (fun e=>hne (by rw [hv,← e];rfl))).trans hh,r⟩
 ·rcases hat with h1 | h1
  ·exact (hasd x hx' k hk).2 (h1.symm.trans e)
  ·rw [h1] at e
   have:=Option.some.inj e
   have:=(hnew.each x hx').lt k hk
   omega
end Go.Proofs.YtinihaflmdihaaaGreat.Kt
namespace Go.Proofs.YtinihaflmdihaaaGreat.Kt
open Go.RowKit Go.Proofs.YtinihaflmdihaaaGreat.Nd Go.Proofs.YtinihaflmdihaaaGreat.Dk Go.Proofs.YtinihaflmdihaaaGreat.Pg
open List renaming setIfInBounds_toArray → yA, set_cons_zero → yB, set_cons_succ → yC
def AsideR (bw:Nat) (v:Value) (A:List MSt) (r:Rw):Prop:=∀x,r.p=some x→r.R≠[]→x.block≠bw∧v.ownBlock≠some x.block∧∀a∈A,x.block≠a.ge∧x.block≠a.gk
def FarK (X:List Rw) (w:World) (m:MSt):Prop:=∀j,m.reads j→w.heap.size≤j∨∃r∈X,∃x,r.p=some x∧r.R≠[]∧j=x.block
def Met (B bw:Nat) (w:World) (v:Value) (A:List MSt) (s:St) (X:List Rw) (w':World) (m:MSt):Prop:=∃v',WaySt B bw w' v' (A++[m])∧Link m s∧Only (fun k=>k=bw∨v.ownBlock=some k) w w'∧(v'.ownBlock=v.ownBlock∨∃k,v'.ownBlock=some k∧w.heap.size≤k)∧w.heap.size≤m.ge∧w.heap.size≤m.gk∧FarK X w m
theorem spz:(Tryz.prog.info? 101).map (fun i=>(i.zero,i.size))=some (some (.agg sp0.toArray),41):=by kernel_rfl
theorem sp0_size:sp0.length=41:=rfl
theorem ent_built0 (p:Option Addr) (n c:Nat):Tryz.prog.built 85 [(0,.slice p n c)]=some #[.slice p n c,.bool false]:=by kernel_rfl
theorem kd0_rows {r:Rw} (h:r∈kd0.rows):r.p=none:=by
 simp only [Kd.rows,kd0,List.mem_cons,List.not_mem_nil,or_false] at h
 rcases h with rfl | rfl | rfl<;>rfl
theorem mst_fork {w:World} {ge gk:Nat} {r:Rw} (he:w.heap[ge]? =some (.cells #[r.val,.bool false] 85 (0,0))) (hk:w.heap[gk]? =some (.cells (kd0.cells++kd0.cells).toArray 34 (0,0))) (hn:ge≠gk) (hr:r.Ok w) (ha:∀x,r.p=some x→r.R≠[]→x.block≠ge∧x.block≠gk):(MSt.mk kd0 ge 1 gk 2 r false kd0 kd0 false).Ok w:=by
 have hT:∀ {g n:Nat} {cs:Array Value} {t:TypeId},w.heap[g]? =some (.cells cs t (0,0))→n≤cs.size→w.there g 0 n:=fun {g n cs t} hh hle j hj=>by
  refine ⟨?_,frozen_of_row w g _ _ _ hh⟩
  rw [cell_of_row w g _ _ _ _ hh,Nat.zero_add,Array.getElem?_eq_getElem (Nat.lt_of_lt_of_le hj hle)]
  rfl
 refine ⟨kd0_ok w,range_tr he,hT he (by simp),fun j u hu=>?_,fun j u hu=>?_,hT hk (by rw [List.size_toArray,List.length_append,kd0_size];exact Nat.le_refl _),hr,kd0_ok w,kd0_ok w,⟨Nat.le_refl _,Nat.le_refl _⟩,hn,fun x hx y hy hR=>?_⟩
 ·have hu:kd0.cells[j]? =some u:=hu
  rw [Nat.zero_add,cell_of_row w gk j _ _ _ hk]
  simp only [List.getElem?_toArray]
  rw [List.getElem?_append_left (List.getElem?_eq_some_iff.1 hu).1]
  exact hu
 ·have hu:kd0.cells[j]? =some u:=hu
  rw [cell_of_row w gk _ _ _ _ hk]
  simp only [List.getElem?_toArray]
  rw [List.getElem?_append_right (by rw [kd0_size];omega),kd0_size,Nat.add_sub_cancel_left]
  exact hu
 ·simp only [MSt.rows,List.mem_append,List.mem_cons] at hx
  rcases hx with h1 | rfl | h1 | h1
  ·rw [kd0_rows h1] at hy;cases hy
  ·exact ha y hy hR
  ·rw [kd0_rows h1] at hy;cases hy
  ·rw [kd0_rows h1] at hy;cases hy
theorem mst_nil_reads {ge ce gk ck:Nat} {r:Rw} {v:Bool} {k a b:Nat} (h:(MSt.mk kd0 ge ce gk ck r v kd0 kd0 false).reads k) (h1:(k=ge∨k=gk)→k≠a∧k≠b) (h2:∀y,r.p=some y→r.R≠[]→y.block≠a∧y.block≠b):k≠a∧k≠b:=by
 rcases h with h | h | ⟨x,hx,y,hy,hR,rfl⟩
 ·exact h1 (Or.inl h)
 ·exact h1 (Or.inr h)
 ·simp only [MSt.rows,List.mem_append,List.mem_cons] at hx
  rcases hx with h3 | rfl | h3 | h3
  ·rw [kd0_rows h3] at hy;cases hy
  ·exact h2 y hy hR
  ·rw [kd0_rows h3] at hy;cases hy
  ·rw [kd0_rows h3] at hy;cases hy
theorem far_nil {ge ce gk ck:Nat} {r:Rw} {v:Bool} {w:World} (h:w.heap.size≤ge∧w.heap.size≤gk):FarK [r] w (MSt.mk kd0 ge ce gk ck r v kd0 kd0 false):=fun j hj=>by
 rcases hj with rfl | rfl | ⟨x,hx,y,hy,hR,rfl⟩
 ·exact Or.inl h.1
 ·exact Or.inl h.2
 ·simp only [MSt.rows,List.mem_append,List.mem_cons] at hx
  rcases hx with h3 | rfl | h3 | h3
  ·rw [kd0_rows h3] at hy;cases hy
  ·exact Or.inr ⟨x,by simp,y,hy,hR,rfl⟩
  ·rw [kd0_rows h3] at hy;cases hy
  ·rw [kd0_rows h3] at hy;cases hy
theorem mst_nil_reads2 {ge ce gk ck:Nat} {r:Rw} {v:Bool} {k bw:Nat} {u:Value} (h:(MSt.mk kd0 ge ce gk ck r v kd0 kd0 false).reads k) (h1:(k=ge∨k=gk)→k≠bw∧u.ownBlock≠some k) (h2:∀y,r.p=some y→r.R≠[]→y.block≠bw∧u.ownBlock≠some y.block):k≠bw∧u.ownBlock≠some k:=by
 rcases h with h | h | ⟨x,hx,y,hy,hR,rfl⟩
 ·exact h1 (Or.inl h)
 ·exact h1 (Or.inr h)
 ·simp only [MSt.rows,List.mem_append,List.mem_cons] at hx
  rcases hx with h3 | rfl | h3 | h3
  ·rw [kd0_rows h3] at hy;cases hy
  ·exact h2 y hy hR
  ·rw [kd0_rows h3] at hy;cases hy
  ·rw [kd0_rows h3] at hy;cases hy
theorem meet_bad {g:Nat} (d:Int) (ga oa:Nat) (wp p:Option Addr) (n c:Nat) (w:World) (hg:GetSays (some ⟨g,0,none⟩) d ga oa 21 w):
  Calls Tryz.prog 152 #[.agg #[.pointer (some ⟨g,0,none⟩),.int .i64 d],.pointer wp,.pointer (some ⟨ga,oa,none⟩),.slice p n c] w fun e w'=>e= .returned (.tuple #[.pointer none,.int .i64 21])∧Below w.heap.size w w':=by
 have b1:Below w.heap.size w (w.alloc (.cells #[.pointer (some ⟨g,0,none⟩),.int .i64 d] 91)):=(Below.refl _ _).alloc (Nat.le_refl _) _
 have r1:=heap_alloc_new w (.cells #[.pointer (some ⟨g,0,none⟩),.int .i64 d] 91)
 have HG:=yH (hg _ b1)
 have R1:=yH (range_tr r1)
 have B1:=yH b1
 obtain ⟨du,hdu,hdr⟩:=UTr
 have HDU:=yH hdu
 have HDR:=yH hdr
 clear hg b1 r1 hdu hdr
 go_enter Tryz.func152,Tryz.ntmps152
 go_upto_region 1 with fail
 generalize w.alloc (.cells #[.pointer (some ⟨g,0,none⟩),.int .i64 d] 91)=w1 at *
 go_upto_region 2 with (first
  | (refine wpList_load_mid (by rfl) 91 _ (by rfl) w.heap.size 0 (by rfl) [.pointer (some ⟨g,0,none⟩),.int .i64 d] du R1.out HDU.out HDR.out STr ?_)
  | (go_at_call 120;refine HG.out.mono ?_;rintro _ w3 ⟨rfl,b3⟩;have B3:=yH (B1.out.trans (b3.mono B1.out.size));clear b3)
  | (refine wpList_store_row (by rfl) 81 (.tmp 10) _ (by rfl) w3.heap.size #[.int .u8 0,.slice none 0 0,.slice none 0 0] (by rfl) (by rfl) _ _ (heap_alloc_new w3 _) SNo rfl nd0_one ?_))
 have hb4:Below w3.heap.size w3 ((w3.alloc (.cells #[.int .u8 0,.slice none 0 0,.slice none 0 0] 81)).setRow w3.heap.size #[.int .u8 0,.slice none 0 0,.slice none 0 0]):=Below.setRow ((Below.refl _ _).alloc (Nat.le_refl _) _) (Nat.le_refl _) _
 generalize (w3.alloc (.cells #[.int .u8 0,.slice none 0 0,.slice none 0 0] 81)).setRow w3.heap.size #[.int .u8 0,.slice none 0 0,.slice none 0 0]=w4 at *
 have B4:=yH (B3.out.trans (hb4.mono B3.out.size))
 clear hb4
 go_wp2_with fail
 go_ret2
 exact ⟨rfl,B4.out⟩
theorem meet_nil {g B bw:Nat} {v:Value} {A:List MSt} (d:Int) (ga oa:Nat) (r:Rw) (w:World) (hg:GetSays (some ⟨g,0,none⟩) d ga oa 0 w) (hw:WaySt B bw w v A) (hB:B≤w.heap.size) (hr:r.Ok w) (ha:AsideR bw v A r) (hA:A.length≤100000):
  Calls Tryz.prog 152 #[.agg #[.pointer (some ⟨g,0,none⟩),.int .i64 d],.pointer (some ⟨bw,0,none⟩),.pointer (some ⟨ga,oa,none⟩),r.val] w fun e w'=>e= .returned (.tuple #[.pointer none,.int .i64 0])∧∃m,Met B bw w v A ⟨r.R,false,.nil,.nil,false,.nil⟩ [r] w' m:=by
 have b1:Below w.heap.size w (w.alloc (.cells #[.pointer (some ⟨g,0,none⟩),.int .i64 d] 91)):=(Below.refl _ _).alloc (Nat.le_refl _) _
 have r1:=heap_alloc_new w (.cells #[.pointer (some ⟨g,0,none⟩),.int .i64 d] 91)
 have HG:=yH (hg _ b1)
 have R1:=yH (range_tr r1)
 have B1:=yH b1
 have HW:=yH hw
 have HBB:=yH hB
 have HR:=yH hr
 have HAS:=yH ha
 have HA:=yH hA
 obtain ⟨rp,rn,rc,rR⟩:=r
 unfold Rw.val
 simp only
 obtain ⟨du,hdu,hdr⟩:=UTr
 have HDU:=yH hdu
 have HDR:=yH hdr
 clear hg hw hB hr ha hA b1 r1 hdu hdr
 go_enter Tryz.func152,Tryz.ntmps152
 go_upto_region 1 with fail
 generalize w.alloc (.cells #[.pointer (some ⟨g,0,none⟩),.int .i64 d] 91)=w1 at *
 go_upto_region 2 with (first
  | (refine wpList_load_mid (by rfl) 91 _ (by rfl) w.heap.size 0 (by rfl) [.pointer (some ⟨g,0,none⟩),.int .i64 d] du R1.out HDU.out HDR.out STr ?_)
  | (go_at_call 120;refine HG.out.mono ?_;rintro _ w3 ⟨rfl,b3⟩;have B3:=yH (B1.out.trans (b3.mono B1.out.size));clear b3)
  | (refine wpList_store_row (by rfl) 81 (.tmp 10) _ (by rfl) w3.heap.size #[.int .u8 0,.slice none 0 0,.slice none 0 0] (by rfl) (by rfl) _ _ (heap_alloc_new w3 _) SNo rfl nd0_one ?_;rw [setRow_alloc]))
 have hb4:Below w3.heap.size w3 (w3.alloc (.cells #[.int .u8 0,.slice none 0 0,.slice none 0 0] 81)):=(Below.refl _ _).alloc (Nat.le_refl _) _
 have hr4:=heap_alloc_new w3 (.cells #[.int .u8 0,.slice none 0 0,.slice none 0 0] 81)
 generalize w3.alloc (.cells #[.int .u8 0,.slice none 0 0,.slice none 0 0] 81)=w4 at *
 have B4:=yH (B3.out.trans (hb4.mono B3.out.size))
 have c0:=cell_of_row w4 w3.heap.size 0 _ _ _ hr4
 clear hb4 hr4
 go_upto_region 5 with fail
 clear c0
 have HW4:=yH (HW.out.later B4.out)
 have HR4:=yH (HR.out.later B4.out)
 refine wp_region_held_drew (S:=fun _=>True) (by kernel_rfl) (trivial) (fun hHeld=>?_)
 have HX0:=yH (HW4.out.later (Below.refl _ _).drew)
 have HB0:=yH (B4.out.trans ((Below.refl _ _).drew.mono B4.out.size))
 have HRX0:=yH (HR4.out.later (Below.refl _ _).drew)
 generalize w4.drew=x0 at *
 refine tK 0 ?_
 refine tK 1 ?_
 refine tK 2 ?_
 refine tK 4 ?_
 refine tQ 5 ?_ ?_ ?_
 rotate_left
 ·intro w' hSw
  refine Eq.trans (b:=Result.ok (Next.value (.agg #[.slice rp rn rc,.bool false])) w') ?_ ?_
  ·apply op_buildN (t:=85) (parts:= #[(0,.tmp 30)])
   ·rfl
   ·simp only [List.map_toArray,List.map_cons,List.map_nil]
    exact ent_built0 _ _ _
  ·with_reducible rfl
 refine tQ 6 ?_ ?_ ?_
 rotate_left
 ·intro w' hSw
  refine Eq.trans (b:=Result.ok (Next.value (.agg kd0.cells.toArray)) w') ?_ ?_
  ·apply op_buildN (t:=34) (parts:= #[])
   ·rfl
   ·simp only [List.map_toArray,List.map_nil]
    exact kd0_built
  ·with_reducible rfl
 refine tQ 7 ?_ ?_ ?_
 rotate_left
 ·intro w' hSw
  refine Eq.trans (b:=Result.ok (Next.value (.agg kd0.cells.toArray)) w') ?_ ?_
  ·apply op_buildN (t:=34) (parts:= #[])
   ·rfl
   ·simp only [List.map_toArray,List.map_nil]
    exact kd0_built
  ·with_reducible rfl
 refine rY [3,8] ?_
 refine rC (fun K hK=>?_) (rC (fun K hK=>?_) AllReadyH.nil)
 ·
  have cbw:x0.cell? ⟨bw,0,none⟩=some v:=cell_of_row x0 bw 0 _ _ _ HX0.out.box
  go_simp
  refine hK.out _ _ trivial (fun hHeld=>?_)
  clear hK K
  try simp only [Act.put,yA,yB,yC]
  refine rY [8] ?_
  refine rC (fun K hK=>?_) AllReadyH.nil
  go_simp
  refine (fork_any ⟨rp,rn,rc,rR⟩ false kd0 kd0 x0 HRX0.out (kd0_ok _) (kd0_ok _)).mono ?_
  rintro _ x1 ⟨ge,gk,rfl,hE,hK,hb,he,hk,hge,hgk⟩
  have HX1:=yH (HX0.out.later hb)
  have HB1:=yH (HB0.out.trans (hb.mono HB0.out.size))
  have HRX1:=yH (HRX0.out.later hb)
  have HM:=yH (show (MSt.mk kd0 ge 1 gk 2 ⟨rp,rn,rc,rR⟩ false kd0 kd0 false).Ok x1 from mst_fork he hk (by omega) HRX1.out (fun z hz hR=>by have:=rw_lt HRX0.out z hz hR;omega))
  have HGE:=yH (show x0.heap.size≤ge∧ge<gk from ⟨hge,hgk⟩)
  have HGEW:=yH (show w.heap.size≤ge∧w.heap.size≤gk by have:=HB0.out.size;omega)
  clear hE hK hb he hk hge hgk
  try go_wp2_with fail
  refine hK.out _ _ trivial (fun hHeld=>?_)
  clear hK K
  try simp only [Act.put,yA,yB,yC]
  refine tQ 9 ?_ ?_ ?_
  rotate_left
  ·intro w' hSw
   refine Eq.trans (b:=Result.ok (Next.value (.agg (MSt.mk kd0 ge 1 gk 2 ⟨rp,rn,rc,rR⟩ false kd0 kd0 false).cells.toArray)) w') ?_ ?_
   ·apply op_buildN (t:=101) (parts:= #[(1,.tmp 34)])
    ·rfl
    ·simp only [List.map_toArray,List.map_cons,List.map_nil]
     exact sp_built0 _ _ _ _
   ·with_reducible rfl
  refine rY [10] ?_
  refine rC (fun K hK=>?_) AllReadyH.nil
  refine wp_step_one (.tmp 35) (by rfl) (m:=MSt.mk kd0 ge 1 gk 2 ⟨rp,rn,rc,rR⟩ false kd0 kd0 false) (by simp [kd0,zeros]) (by rfl) ?_
  refine hK.out _ _ trivial (fun hHeld=>?_)
  clear hK K
  try simp only [Act.put,yA,yB,yC]
  refine rY [11] ?_
  refine rC (fun K hK=>?_) AllReadyH.nil
  refine wp_app_step HX1.out (m:=MSt.mk kd0 ge 1 gk 2 ⟨rp,rn,rc,rR⟩ false kd0 kd0 false) (by simp [kd0,zeros]) (.tmp 29) (.tmp 36) (by rfl) (by rfl) (by rfl) HA.out ?_
  intro q7 c7 w7 hown7 hg7 hat7
  refine hK.out _ _ trivial (fun hHeld=>?_)
  clear hK K
  try simp only [Act.put,yA,yB,yC]
  have HFK:=HB0.out.size
  obtain ⟨hws,honly,hbox⟩:=way_put HX1.out HM.out (by have:=HBB.out;have:=HB1.out.size;omega) hown7 hg7 hat7 (HX1.out.way.snoc HM.out (N:=x0.heap.size) (by have:=HBB.out;omega) (fun a ha k hk=>by have:=(HX0.out.way.each a ha).lt k hk;omega) (by have:=HGE.out;exact ⟨this.1,Nat.le_trans this.1 (Nat.le_of_lt this.2)⟩) (fun a ha k hk=>mst_nil_reads hk (fun e=>by have:=(HX0.out.way.each a ha).lt _ (Or.inl rfl);have:=(HX0.out.way.each a ha).lt _ (Or.inr (Or.inl rfl));have:=HGE.out;omega) (fun y hy hR=>(HAS.out y hy hR).2.2 a ha))) (fun k hk=>mst_nil_reads2 hk (fun e=>⟨fun e2=>by have:=(yL HX0.out.box);have:=HGE.out;omega,fun e2=>by have:=(HX0.out.own.lt _ e2).2;have:=HGE.out;omega⟩) (fun y hy hR=>⟨(HAS.out y hy hR).1,(HAS.out y hy hR).2.1⟩))
  have HWS:=yH hws
  have HON:=yH honly
  have HBX:=yH hbox
  have HAT:=yH hat7
  clear hws honly hbox hown7 hg7 hat7 HFK
  refine tK 12 ?_
  refine rY [13] ?_
  refine rC (fun K hK=>?_) AllReadyH.nil
  have cbw:w7.cell? ⟨bw,0,none⟩=some v:=cell_of_row w7 bw 0 _ _ _ HBX.out
  have fbw:=frozen_of_row w7 bw 0 _ _ HBX.out
  go_simp
  refine hK.out _ _ trivial (fun hHeld=>?_)
  clear hK K
  try simp only [Act.put,yA,yB,yC]
  refine wpAnyH_done (by kernel_rfl) ?_ _
  generalize w7.setCell ⟨bw,0,none⟩ (.slice q7 (A.length+1) c7)=w8 at *
  go_wp2_with fail
  go_ret2
  refine ⟨rfl,_,_,HWS.out,⟨rfl,rfl,rfl,rfl,rfl,rfl⟩,(Only.of_below _ HB1.out).trans HON.out,?_,HGEW.out.1,HGEW.out.2,far_nil HGEW.out⟩
  rcases HAT.out with h | h
  ·exact Or.inl h
  ·exact Or.inr ⟨_,h,by have:=HB1.out.size;omega⟩
 ·
  go_simp
  refine (fork_any ⟨rp,rn,rc,rR⟩ false kd0 kd0 x0 HRX0.out (kd0_ok _) (kd0_ok _)).mono ?_
  rintro _ x1 ⟨ge,gk,rfl,hE,hK,hb,he,hk,hge,hgk⟩
  have HX1:=yH (HX0.out.later hb)
  have HB1:=yH (HB0.out.trans (hb.mono HB0.out.size))
  have HRX1:=yH (HRX0.out.later hb)
  have HM:=yH (show (MSt.mk kd0 ge 1 gk 2 ⟨rp,rn,rc,rR⟩ false kd0 kd0 false).Ok x1 from mst_fork he hk (by omega) HRX1.out (fun z hz hR=>by have:=rw_lt HRX0.out z hz hR;omega))
  have HGE:=yH (show x0.heap.size≤ge∧ge<gk from ⟨hge,hgk⟩)
  have HGEW:=yH (show w.heap.size≤ge∧w.heap.size≤gk by have:=HB0.out.size;omega)
  clear hE hK hb he hk hge hgk
  try go_wp2_with fail
  refine hK.out _ _ trivial (fun hHeld=>?_)
  clear hK K
  try simp only [Act.put,yA,yB,yC]
  refine tQ 9 ?_ ?_ ?_
  rotate_left
  ·intro w' hSw
   refine Eq.trans (b:=Result.ok (Next.value (.agg (MSt.mk kd0 ge 1 gk 2 ⟨rp,rn,rc,rR⟩ false kd0 kd0 false).cells.toArray)) w') ?_ ?_
   ·apply op_buildN (t:=101) (parts:= #[(1,.tmp 34)])
    ·rfl
    ·simp only [List.map_toArray,List.map_cons,List.map_nil]
     exact sp_built0 _ _ _ _
   ·with_reducible rfl
  refine rY [3,10] ?_
  refine rC (fun K hK=>?_) (rC (fun K hK=>?_) AllReadyH.nil)
  ·
   have cbw:x1.cell? ⟨bw,0,none⟩=some v:=cell_of_row x1 bw 0 _ _ _ HX1.out.box
   go_simp
   refine hK.out _ _ trivial (fun hHeld=>?_)
   clear hK K
   try simp only [Act.put,yA,yB,yC]
   refine rY [10] ?_
   refine rC (fun K hK=>?_) AllReadyH.nil
   refine wp_step_one (.tmp 35) (by rfl) (m:=MSt.mk kd0 ge 1 gk 2 ⟨rp,rn,rc,rR⟩ false kd0 kd0 false) (by simp [kd0,zeros]) (by rfl) ?_
   refine hK.out _ _ trivial (fun hHeld=>?_)
   clear hK K
   try simp only [Act.put,yA,yB,yC]
   refine rY [11] ?_
   refine rC (fun K hK=>?_) AllReadyH.nil
   refine wp_app_step HX1.out (m:=MSt.mk kd0 ge 1 gk 2 ⟨rp,rn,rc,rR⟩ false kd0 kd0 false) (by simp [kd0,zeros]) (.tmp 29) (.tmp 36) (by rfl) (by rfl) (by rfl) HA.out ?_
   intro q7 c7 w7 hown7 hg7 hat7
   refine hK.out _ _ trivial (fun hHeld=>?_)
   clear hK K
   try simp only [Act.put,yA,yB,yC]
   have HFK:=HB0.out.size
   obtain ⟨hws,honly,hbox⟩:=way_put HX1.out HM.out (by have:=HBB.out;have:=HB1.out.size;omega) hown7 hg7 hat7 (HX1.out.way.snoc HM.out (N:=x0.heap.size) (by have:=HBB.out;omega) (fun a ha k hk=>by have:=(HX0.out.way.each a ha).lt k hk;omega) (by have:=HGE.out;exact ⟨this.1,Nat.le_trans this.1 (Nat.le_of_lt this.2)⟩) (fun a ha k hk=>mst_nil_reads hk (fun e=>by have:=(HX0.out.way.each a ha).lt _ (Or.inl rfl);have:=(HX0.out.way.each a ha).lt _ (Or.inr (Or.inl rfl));have:=HGE.out;omega) (fun y hy hR=>(HAS.out y hy hR).2.2 a ha))) (fun k hk=>mst_nil_reads2 hk (fun e=>⟨fun e2=>by have:=(yL HX0.out.box);have:=HGE.out;omega,fun e2=>by have:=(HX0.out.own.lt _ e2).2;have:=HGE.out;omega⟩) (fun y hy hR=>⟨(HAS.out y hy hR).1,(HAS.out y hy hR).2.1⟩))
   have HWS:=yH hws
   have HON:=yH honly
   have HBX:=yH hbox
   have HAT:=yH hat7
   clear hws honly hbox hown7 hg7 hat7 HFK
   refine tK 12 ?_
   refine rY [13] ?_
   refine rC (fun K hK=>?_) AllReadyH.nil
   have cbw:w7.cell? ⟨bw,0,none⟩=some v:=cell_of_row w7 bw 0 _ _ _ HBX.out
   have fbw:=frozen_of_row w7 bw 0 _ _ HBX.out
   go_simp
   refine hK.out _ _ trivial (fun hHeld=>?_)
   clear hK K
   try simp only [Act.put,yA,yB,yC]
   refine wpAnyH_done (by kernel_rfl) ?_ _
   generalize w7.setCell ⟨bw,0,none⟩ (.slice q7 (A.length+1) c7)=w8 at *
   go_wp2_with fail
   go_ret2
   refine ⟨rfl,_,_,HWS.out,⟨rfl,rfl,rfl,rfl,rfl,rfl⟩,(Only.of_below _ HB1.out).trans HON.out,?_,HGEW.out.1,HGEW.out.2,far_nil HGEW.out⟩
   rcases HAT.out with h | h
   ·exact Or.inl h
   ·exact Or.inr ⟨_,h,by have:=HB1.out.size;omega⟩
  ·
   refine wp_step_one (.tmp 35) (by rfl) (m:=MSt.mk kd0 ge 1 gk 2 ⟨rp,rn,rc,rR⟩ false kd0 kd0 false) (by simp [kd0,zeros]) (by rfl) ?_
   refine hK.out _ _ trivial (fun hHeld=>?_)
   clear hK K
   try simp only [Act.put,yA,yB,yC]
   refine rY [3] ?_
   refine rC (fun K hK=>?_) AllReadyH.nil
   have cbw:(x1.alloc (.cells (MSt.mk kd0 ge 1 gk 2 ⟨rp,rn,rc,rR⟩ false kd0 kd0 false).cells.toArray 101)).cell? ⟨bw,0,none⟩=some v:=cell_of_row _ bw 0 _ _ _ (HX1.out.later ((Below.refl _ _).alloc (Nat.le_refl _) _)).box
   go_simp
   refine hK.out _ _ trivial (fun hHeld=>?_)
   clear hK K
   try simp only [Act.put,yA,yB,yC]
   refine rY [11] ?_
   refine rC (fun K hK=>?_) AllReadyH.nil
   refine wp_app_step HX1.out (m:=MSt.mk kd0 ge 1 gk 2 ⟨rp,rn,rc,rR⟩ false kd0 kd0 false) (by simp [kd0,zeros]) (.tmp 29) (.tmp 36) (by rfl) (by rfl) (by rfl) HA.out ?_
   intro q7 c7 w7 hown7 hg7 hat7
   refine hK.out _ _ trivial (fun hHeld=>?_)
   clear hK K
   try simp only [Act.put,yA,yB,yC]
   have HFK:=HB0.out.size
   obtain ⟨hws,honly,hbox⟩:=way_put HX1.out HM.out (by have:=HBB.out;have:=HB1.out.size;omega) hown7 hg7 hat7 (HX1.out.way.snoc HM.out (N:=x0.heap.size) (by have:=HBB.out;omega) (fun a ha k hk=>by have:=(HX0.out.way.each a ha).lt k hk;omega) (by have:=HGE.out;exact ⟨this.1,Nat.le_trans this.1 (Nat.le_of_lt this.2)⟩) (fun a ha k hk=>mst_nil_reads hk (fun e=>by have:=(HX0.out.way.each a ha).lt _ (Or.inl rfl);have:=(HX0.out.way.each a ha).lt _ (Or.inr (Or.inl rfl));have:=HGE.out;omega) (fun y hy hR=>(HAS.out y hy hR).2.2 a ha))) (fun k hk=>mst_nil_reads2 hk (fun e=>⟨fun e2=>by have:=(yL HX0.out.box);have:=HGE.out;omega,fun e2=>by have:=(HX0.out.own.lt _ e2).2;have:=HGE.out;omega⟩) (fun y hy hR=>⟨(HAS.out y hy hR).1,(HAS.out y hy hR).2.1⟩))
   have HWS:=yH hws
   have HON:=yH honly
   have HBX:=yH hbox
   have HAT:=yH hat7
   clear hws honly hbox hown7 hg7 hat7 HFK
   refine tK 12 ?_
   refine rY [13] ?_
   refine rC (fun K hK=>?_) AllReadyH.nil
   have cbw:w7.cell? ⟨bw,0,none⟩=some v:=cell_of_row w7 bw 0 _ _ _ HBX.out
   have fbw:=frozen_of_row w7 bw 0 _ _ HBX.out
   go_simp
   refine hK.out _ _ trivial (fun hHeld=>?_)
   clear hK K
   try simp only [Act.put,yA,yB,yC]
   refine wpAnyH_done (by kernel_rfl) ?_ _
   generalize w7.setCell ⟨bw,0,none⟩ (.slice q7 (A.length+1) c7)=w8 at *
   go_wp2_with fail
   go_ret2
   refine ⟨rfl,_,_,HWS.out,⟨rfl,rfl,rfl,rfl,rfl,rfl⟩,(Only.of_below _ HB1.out).trans HON.out,?_,HGEW.out.1,HGEW.out.2,far_nil HGEW.out⟩
   rcases HAT.out with h | h
   ·exact Or.inl h
   ·exact Or.inr ⟨_,h,by have:=HB1.out.size;omega⟩
end Go.Proofs.YtinihaflmdihaaaGreat.Kt
