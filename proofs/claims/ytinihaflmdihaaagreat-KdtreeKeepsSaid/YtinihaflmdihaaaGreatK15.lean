/- ShaMore, ShaWrite, ShaWriteA, ShaWriteC. -/
import Derived.Deep.RegionLaw
import Derived.Test.YtinihaflmdihaaaGreatK14
set_option maxRecDepth 100000
set_option maxHeartbeats 8000000
set_option linter.all false
namespace Go.Proofs.YtinihaflmdihaaaGreat.Sm
theorem word_congr {X Y:List Nat} (h:∀i,i<64→X.getD i 0=Y.getD i 0) (i:Nat) (hi:i<16):word X i=word Y i:=by
 unfold word
 rw [h _ (by omega),h _ (by omega),h _ (by omega),h _ (by omega)]
theorem words_congr {X Y:List Nat} (h:∀i,i<64→X.getD i 0=Y.getD i 0) (n:Nat) (hn:n≤16):words X n=words Y n:=by
 induction n with
 | zero=>rfl
 | succ n ih=>rw [words,words,ih (by omega),word_congr h n (by omega)]
theorem sched_congr {X Y:List Nat} (h:∀i,i<64→X.getD i 0=Y.getD i 0):sched X=sched Y:=by
 unfold sched
 rw [words_congr h 16 (by omega)]
theorem blocks_congr {X Y:List Nat} (v:V8) (n:Nat) (h:∀i,i<64*n→X.getD i 0=Y.getD i 0):blocks X v n=blocks Y v n:=by
 induction n with
 | zero=>rfl
 | succ n ih=>
  rw [blocks,blocks,ih (fun i hi=>h i (by omega))]
  rw [sched_congr (X:=X.drop (64*n)) (Y:=Y.drop (64*n)) (fun i hi=>by rw [getD_drop,getD_drop];exact h _ (by omega))]
theorem blocks_take (B:List Nat) (v:V8) (n F:Nat) (h:64*n≤F):blocks (B.take F) v n=blocks B v n:=
 blocks_congr v n fun i hi=>getD_take B F i (by omega)
theorem blocks_app (T B:List Nat) (v:V8) (n:Nat) (h:64*n≤T.length):blocks (T++B) v n=blocks T v n:=
 blocks_congr v n fun i hi=>getD_app_left T B i (by omega)
theorem blocks_add (T B:List Nat) (v:V8) (q n:Nat) (h:T.length=64*q):blocks (T++B) v (q+n)=blocks B (blocks T v q) n:=by
 induction n with
 | zero=>exact blocks_app T B v q (by omega)
 | succ n ih=>
  rw [show q+(n+1)=(q+n)+1 from rfl,blocks,ih,blocks]
  rw [show (T++B).drop (64*(q+n))=B.drop (64*n) from by
   rw [show 64*(q+n)=T.length+64*n from by omega,List.drop_append,List.drop_eq_nil_of_le (by omega)]
   simp]
end Go.Proofs.YtinihaflmdihaaaGreat.Sm
namespace Go.Proofs.YtinihaflmdihaaaGreat
open Go.RowKit
theorem A36:(Tryz.prog.info? 303).map (·.size)=some 73:=by kernel_rfl
theorem u32_of_w32 (l:List Nat):∀v∈w32 l,v.oneCell'=true:=by
 intro u hu
 simp only [w32,List.mem_map] at hu
 obtain ⟨x,_,rfl⟩:=hu
 rfl
theorem stL_length (v:Sm.V8) (bl:List Nat) (L:Nat) (h:bl.length=64):(stL v bl L).length=73:=by simp [stL,w32,vals,Sm.V8.list,h]
theorem st_words {w:World} {g:Nat} {v:Sm.V8} {bl:List Nat} {L:Nat} (hg:w.heap[g]? =some (.cells (stL v bl L).toArray 303 (0,0))):w.rangeAt g 0 (w32 v.list):=
 rangeAt_row [] (w32 v.list) (vals bl++[.int .u64 (L:Nat)]) (by simpa [stL] using hg)
theorem st_there {w:World} {g:Nat} {v:Sm.V8} {bl:List Nat} {L:Nat} (hg:w.heap[g]? =some (.cells (stL v bl L).toArray 303 (0,0))) (_h:bl.length=64):w.there g 0 8:=
 there_row hg 0 8 (by simp [stL,w32,vals,Sm.V8.list])
theorem st_len {w:World} {g:Nat} {v:Sm.V8} {bl:List Nat} {L:Nat} (hg:w.heap[g]? =some (.cells (stL v bl L).toArray 303 (0,0))) (h:bl.length=64):w.cell? ⟨g,72,none⟩=some (.int .u64 (L:Nat)):=by
 have:=rangeAt_row (w32 v.list++vals bl) [.int .u64 (L:Nat)] [] (by simpa [stL] using hg) 0 _ rfl
 have e:(w32 v.list++vals bl).length=72:=by simp [w32,vals,Sm.V8.list,h]
 rw [e] at this
 exact this
theorem st_set_len {w:World} {g:Nat} {v:Sm.V8} {bl:List Nat} {L:Nat} (hg:w.heap[g]? =some (.cells (stL v bl L).toArray 303 (0,0))) (h:bl.length=64) (L':Nat):
  (w.setCell ⟨g,72,none⟩ (.int .u64 (L':Nat))).heap[g]? =some (.cells (stL v bl L').toArray 303 (0,0)):=by
 have e:(w32 v.list++vals bl).length=72:=by simp [w32,vals,Sm.V8.list,h]
 have:=heap_setCells_same g 303 [.int .u64 (L':Nat)] (w32 v.list++vals bl) [.int .u64 (L:Nat)] [] w (by simpa [stL] using hg) rfl
 rw [e] at this
 simpa [World.setCells,stL] using this
theorem st_set_words {w:World} {g:Nat} {v:Sm.V8} {bl:List Nat} {L:Nat} (hg:w.heap[g]? =some (.cells (stL v bl L).toArray 303 (0,0))) (u:Sm.V8):
  (w.setCells g 0 (w32 u.list)).heap[g]? =some (.cells (stL u bl L).toArray 303 (0,0)):=by
 have:=heap_setCells_same g 303 (w32 u.list) [] (w32 v.list) (vals bl++[.int .u64 (L:Nat)]) w (by simpa [stL] using hg) rfl
 simpa [stL] using this
structure Mid (w W:World) (g:Nat) (v:Sm.V8) (bl:List Nat) (L:Nat) (p:Option Addr) (len cap:Nat) (B:List Nat):Prop where
 row:W.heap[g]? =some (.cells (stL v bl L).toArray 303 (0,0))
 size:bl.length=64
 bytes:Bytes W p len cap B
 ne:B≠[]→∀a,p=some a→a.block≠g
 grown:w.grownBy W (some g)
theorem st_cell {w:World} {g:Nat} {v:Sm.V8} {bl:List Nat} {L:Nat} (hg:w.heap[g]? =some (.cells (stL v bl L).toArray 303 (0,0))) (i:Nat) (hi:i<8):w.cell? ⟨g,i,none⟩=some (.int .u32 (v.list.getD i 0:Nat)):=by
 have:=st_words hg i (.int .u32 (v.list.getD i 0:Nat)) (by
  have h:=u32s_get v.list i (by simpa [Sm.V8.list] using hi)
  rw [← w32_toArray] at h
  simpa using h)
 simpa using this
theorem Mid.later {w W W':World} {g:Nat} {v:Sm.V8} {bl:List Nat} {L:Nat} {p:Option Addr} {len cap:Nat} {B:List Nat} (h:Mid w W g v bl L p len cap B) (hb:Below W.heap.size W W'):Mid w W' g v bl L p len cap B:=
 ⟨(hb.block _ (yL h.row)).trans h.row,h.size,h.bytes.later hb h.bytes.lt,h.ne,grown_later h.grown hb⟩
theorem Mid.words {w W:World} {g:Nat} {v:Sm.V8} {bl:List Nat} {L:Nat} {p:Option Addr} {len cap:Nat} {B:List Nat} (h:Mid w W g v bl L p len cap B) (u:Sm.V8):Mid w (W.setCells g 0 (w32 u.list)) g u bl L p len cap B:=
 ⟨st_set_words h.row u,h.size,h.bytes.grown ⟨(size_setCells g _ 0 W).2.1,(size_setCells g _ 0 W).2.2.1,(size_setCells g _ 0 W).2.2.2,by rw [(size_setCells g _ 0 W).1];exact Nat.le_refl _,fun k _ hne=>heap_setCells_other g _ 0 W k (by intro e;exact hne (by rw [e]))⟩ h.ne,h.ne,grown_setCells h.grown 0 _⟩
theorem st_store {W:World} {g:Nat} {v:Sm.V8} {bl:List Nat} {L:Nat} (hg:W.heap[g]? =some (.cells (stL v bl L).toArray 303 (0,0))) (h:bl.length=64) (u:Sm.V8):
  (storeCells ⟨g,0,none⟩ (u32s u.list).toList).run Tryz.prog W= .ok () (W.setCells g 0 (w32 u.list)):=by
 have ht:=st_there hg h
 have:=run_storeCells_cells (P:=Tryz.prog) g 0 (w32 u.list) 0 W (fun j hj=>by simpa using (ht j (by simpa [w32,Sm.V8.list] using hj)).1) (fun j hj=>by simpa using (ht j (by simpa [w32,Sm.V8.list] using hj)).2) (u32_of_w32 u.list)
 exact this
theorem st_copy {w W:World} {g:Nat} {v:Sm.V8} {bl:List Nat} {L gb ob len cap:Nat} {B:List Nat} (h:Mid w W g v bl L (some ⟨gb,ob,none⟩) len cap B) (F:Nat) (hF:len - F≤64) (_hc:F<cap):
  (Builtin.copy_ #[45,45] 3 #[.slice (some ⟨g,8,none⟩) 64 64,.slice (some ⟨gb,ob+F,none⟩) (len - F) (cap - F)]).run Tryz.prog W.drew= .ok (goInt (len - F:Nat)) (W.drew.setCells g 8 (vals (B.drop F))):=by
 have hs:=h.bytes.size
 have ht:=there_row h.row 8 64 (by simp [stL,w32,vals,Sm.V8.list,h.size])
 have hl:(vals (B.drop F)).length=len - F:=by simp [vals];omega
 have hsrc:∀j u,(vals (B.drop F))[j]? =some u→W.drew.cell? ((⟨gb,ob+F,none⟩:Addr).add j)=some u:=fun j u hu=>by
  have hj:j<(B.drop F).length:=by have:=(List.getElem?_eq_some_iff.1 hu).1;simpa [vals] using this
  obtain ⟨g',o',hp,hx⟩:=h.bytes.ne (by intro e;rw [e] at hj;simp at hj)
  obtain ⟨rfl,rfl⟩:gb=g'∧ob=o':=by simpa using hp
  rw [vals_get _ _ hj] at hu
  rw [Addr.add_mid,World.cell?_drew,hx.drop F j hj,hu]
 have:=run_copy_cells (P:=Tryz.prog) W.drew 45 45 3 5 g 8 64 64 ⟨gb,ob+F,none⟩ (len - F) (cap - F) (vals (B.drop F)) A22 E5 (by rw [hl];exact (Nat.min_eq_left hF).symm) hsrc
  (fun j hj=>by have:=(ht j (by omega)).1;simpa using this) (fun j hj=>by have:=(ht j (by omega)).2;simpa using this) (vals_one _)
 rw [hl] at this
 exact this
def Start (T:List Nat) (v:Sm.V8):Prop:=v.ok∧T.length%64=0∧v=Sm.blocks T Sm.first (T.length/64)
theorem Held.next {T B bl:List Nat} {v U:Sm.V8} {len F:Nat} (hs:Start T v) (hT:Sm.allB T) (hB:Sm.allB B) (hl:(T++B).length<1152921504606846976) (hlen:len=B.length) (hF:F=len - len%64)
  (hU:U=Sm.blocks (B.take F) v ((B.take F).length/64)) (hb:bl.length=64) (hbo:Sm.allB bl):Held (T++B) U (B.drop F++bl.drop (len - F)):=by
 obtain ⟨hv,hm,hw⟩:=hs
 have e1:(B.take F).length/64=len/64:=by simp;omega
 have hU2:U=Sm.blocks B v (len/64):=by rw [hU,e1];exact Sm.blocks_take B v _ F (by omega)
 have hq:T.length=64*(T.length/64):=by omega
 have hL:(T++B).length/64=T.length/64+len/64:=by simp;omega
 refine ⟨?_,?_,hl,fun _=>?_,by simp [hb];omega,?_,?_⟩
 ·intro x hx
  rcases List.mem_append.1 hx with h | h
  ·exact hT x h
  ·exact hB x h
 ·rw [hU];exact Sm.blocks_ok hv _
 ·rw [hL,Sm.blocks_add T B Sm.first _ _ hq,← hw,hU2]
 ·intro x hx
  rcases List.mem_append.1 hx with h | h
  ·exact hB x (List.mem_of_mem_drop h)
  ·exact hbo x (List.mem_of_mem_drop h)
 ·have h1:(T++B).length%64=(B.drop F).length:=by simp;omega
  rw [h1,List.take_left,hL]
  rw [show 64*(T.length/64+len/64)=T.length+F from by omega,← List.drop_drop,List.drop_left]
theorem st_set_block {W:World} {g:Nat} {v:Sm.V8} {bl:List Nat} {L:Nat} (hg:W.heap[g]? =some (.cells (stL v bl L).toArray 303 (0,0))) (h:bl.length=64) (o:Nat) (X:List Nat) (hX:o+X.length≤64):
  (W.setCells g (8+o) (vals X)).heap[g]? =some (.cells (stL v (bl.take o++X++bl.drop (o+X.length)) L).toArray 303 (0,0)):=by
 have e:bl=bl.take o++((bl.drop o).take X.length++bl.drop (o+X.length)):=by
  rw [← List.drop_drop,List.take_append_drop,List.take_append_drop]
 have hg2:W.heap[g]? =some (.cells ((w32 v.list++vals (bl.take o))++vals ((bl.drop o).take X.length)++(vals (bl.drop (o+X.length))++[Value.int .u64 (L:Nat)])).toArray 303 (0,0)):=by
  rw [hg]
  congr 3
  conv=>lhs;rw [stL,e]
  simp [vals]
 have hl:(w32 v.list++vals (bl.take o)).length=8+o:=by simp [w32,vals,Sm.V8.list,h];omega
 have:=heap_setCells_same g 303 (vals X) _ _ _ W hg2 (by simp [vals,h];omega)
 rw [hl] at this
 rw [this]
 simp [stL,vals]
theorem A33:Tryz.prog.underlying 301=some (.array 64 5):=by kernel_rfl
theorem block_slice (g r:Nat) (h:r<64) (w:World):(Instr.sliceAt 301 (.pointer (some ⟨g,8,none⟩)) (some (.int .i64 (r:Int))) none none).run Tryz.prog w= .ok (.slice (some ⟨g,8+r,none⟩) (64 - r) (64 - r)) w:=by
 have hl:Tryz.prog.arrayLen 301=64:=by simp [Program.arrayLen]
 have he:Tryz.prog.elem 301=5:=by simp [Program.elem]
 have h1:=run_sliceAt_array_l (P:=Tryz.prog) w 301 ⟨g,8,none⟩ (by rw [hl,he];exact A33) .i64 r (by omega) (by rw [hl];omega)
 obtain ⟨i5,hi,_,hi1,_⟩:=info_parts I5
 have hs:(sizeOf 5).run Tryz.prog w= .ok 1 w:=by simp [sizeOf,typeInfo,hi,hi1]
 rw [h1,hl,he,hs]
 have hne:¬(64=r):=by omega
 simp [slicedAt,hne,Addr.add_mid]
theorem st_copy_in {W:World} {g:Nat} {v:Sm.V8} {bl:List Nat} {L gb ob len cap:Nat} {B:List Nat} (hg:W.heap[g]? =some (.cells (stL v bl L).toArray 303 (0,0))) (hb:bl.length=64)
  (h:Bytes W (some ⟨gb,ob,none⟩) len cap B) (r n:Nat) (hr:r<64) (hn:n=Nat.min len (64 - r)):
  (Builtin.copy_ #[45,45] 3 #[.slice (some ⟨g,8+r,none⟩) (64 - r) (64 - r),.slice (some ⟨gb,ob,none⟩) len cap]).run Tryz.prog W= .ok (goInt (n:Nat)) (W.setCells g (8+r) (vals (B.take n))):=by
 have hs:=h.size
 have hn1:n≤len:=by rw [hn];exact Nat.min_le_left _ _
 have hn2:n≤64 - r:=by rw [hn];exact Nat.min_le_right _ _
 have ht:=there_row hg 8 64 (by simp [stL,w32,vals,Sm.V8.list,hb])
 have hl:(vals (B.take n)).length=n:=by simp [vals];omega
 have hsrc:∀j u,(vals (B.take n))[j]? =some u→W.cell? ((⟨gb,ob,none⟩:Addr).add j)=some u:=fun j u hu=>by
  have hj:j<(B.take n).length:=by have:=(List.getElem?_eq_some_iff.1 hu).1;simpa [vals] using this
  obtain ⟨g',o',hp,hx⟩:=h.ne (by intro e;rw [e] at hj;simp at hj)
  obtain ⟨rfl,rfl⟩:gb=g'∧ob=o':=by simpa using hp
  rw [vals_get _ _ hj] at hu
  rw [Addr.add_mid,hx.take n j hj,hu]
 have:=run_copy_cells (P:=Tryz.prog) W 45 45 3 5 g (8+r) (64 - r) (64 - r) ⟨gb,ob,none⟩ len cap (vals (B.take n)) A22 E5 (by rw [hl];exact hn) hsrc
  (fun j hj=>by have:=(ht (r+j) (by omega)).1;rw [Nat.add_assoc];exact this) (fun j hj=>by have:=(ht (r+j) (by omega)).2;rw [Nat.add_assoc];exact this) (vals_one _)
 rw [hl] at this
 exact this
theorem Held.small {T B bl:List Nat} {v:Sm.V8} {r:Nat} (h:Held T v bl) (hr:T.length%64=r) (hr0:0<r) (hs:r+B.length<64) (hB:Sm.allB B) (hl:(T++B).length<1152921504606846976):
  Held (T++B) v (bl.take r++B++bl.drop (r+B.length)):=by
 have hb:=h.size
 have hT:T≠[]:=by rintro rfl;simp at hr;omega
 have hL:(T++B).length/64=T.length/64:=by simp;omega
 refine ⟨?_,h.vok,hl,fun _=>?_,by simp [hb];omega,?_,?_⟩
 ·intro x hx
  rcases List.mem_append.1 hx with hx | hx
  ·exact h.ok x hx
  ·exact hB x hx
 ·rw [hL,Sm.blocks_app T B _ _ (by omega)];exact h.words hT
 ·intro x hx
  rcases List.mem_append.1 hx with hx | hx
  ·rcases List.mem_append.1 hx with hx | hx
   ·exact h.bok x (List.mem_of_mem_take hx)
   ·exact hB x hx
  ·exact h.bok x (List.mem_of_mem_drop hx)
 ·have h1:(T++B).length%64=(bl.take r++B).length:=by simp [hb];omega
  rw [h1,List.take_left,hL,List.drop_append_of_le_length (by omega),← h.block,hr]
theorem Start.block {T B bl:List Nat} {v:Sm.V8} {r m:Nat} (h:Held T v bl) (hr:T.length%64=r) (hr0:0<r) (hm:r+m=64) (hmB:m≤B.length):
  Start (T++B.take m) (Sm.blocks (bl.take r++B.take m) v 1):=by
 have hT:T≠[]:=by rintro rfl;simp at hr;omega
 have hlen:(T++B.take m).length=64*(T.length/64+1):=by simp;omega
 refine ⟨Sm.blocks_ok h.vok _,by omega,?_⟩
 have hq:(T++B.take m).length/64=T.length/64+1:=by omega
 have e1:Sm.blocks (T++B.take m) Sm.first (T.length/64+1)=Sm.turn Sm.ks (Sm.sched ((T++B.take m).drop (64*(T.length/64)))) (Sm.blocks (T++B.take m) Sm.first (T.length/64)):=rfl
 have e2:Sm.blocks (bl.take r++B.take m) v 1=Sm.turn Sm.ks (Sm.sched (bl.take r++B.take m)) v:=rfl
 rw [hq,e1,e2,Sm.blocks_app T _ _ _ (by omega),← h.words hT,List.drop_append_of_le_length (by omega),← h.block,hr]
theorem Bytes.block {W:World} {g:Nat} {v:Sm.V8} {bl:List Nat} {L:Nat} (hg:W.heap[g]? =some (.cells (stL v bl L).toArray 303 (0,0))) (hb:bl.length=64) (hbo:Sm.allB bl):Bytes W (some ⟨g,8,none⟩) 64 64 bl:=by
 refine ⟨hb.symm,Nat.le_refl _,hbo,Or.inr ⟨g,8,rfl,fun i hi=>?_⟩⟩
 have h1:=rangeAt_row (w32 v.list) (vals bl) [.int .u64 (L:Nat)] (by simpa [stL] using hg) i _ (vals_get bl i hi)
 have e:(w32 v.list).length=8:=rfl
 rw [e] at h1
 exact h1
theorem write_b (T B:List Nat) (g:Nat) (p:Option Addr) (len cap:Nat) (w:World) (hT:T≠[]) (hm:T.length%64=0) (v:Sm.V8) (bl:List Nat) (hh:Held T v bl)
  (hg:w.heap[g]? =some (.cells (stL v bl T.length).toArray 303 (0,0)))
  (hB:Bytes w p len cap B) (hn:B≠[]→∀a,p=some a→a.block≠g) (hl:(T++B).length<1152921504606846976):
  Calls Tryz.prog 246 #[.pointer (some ⟨g,0,none⟩),.slice p len cap] w fun e w'=>e= .returned (.tuple #[])∧StateAt w' g (T++B)∧w.grownBy w' (some g):=by
 have hL0:((T.length:Int)==0)=false:=by
  have:=List.length_pos_iff.2 hT
  simp;omega
 have hL1:(T.length:Int)%64=0:=by omega
 have hcl:w.cell? ⟨g,72,none⟩=some (.int .u64 (T.length:Nat)):=st_len hg hh.size
 have hfl:w.frozen? ⟨g,72,none⟩=false:=frozen_of_row w g _ _ _ hg
 obtain ⟨N,hN⟩:∃N,N=T.length:=⟨_,rfl⟩
 rw [← hN] at hcl hL0 hL1
 have hlen:=hB.size
 have hb1:N+len<1152921504606846976:=by simp at hl;omega
 have HLT:=yH (show (T++B).length=N+len from by simp;omega)
 have HG:=yH hg
 have HTO:=yH hh.ok
 have HBO:=yH hh.bok
 have HSZ:=yH hh.size
 have HVV:=yH hh.vok
 have HS:=yH (show Start T v from ⟨hh.vok,hm,hh.words hT⟩)
 have HB:=yH hB
 have HN:=yH hN
 clear hg hh hB hN hlen
 go_enter Tryz.func246,Tryz.ntmps246
 go_wp2_with fail
 rw [show (N:Int)+(len:Int)=((N+len:Nat):Int) from by omega]
 generalize hW1:w.setCell ⟨g,72,none⟩ (.int .u64 ((N+len:Nat):Int))=W1
 have hM:Mid w W1 g v bl (N+len) p len cap B:=by
  subst hW1
  have hg:=HG.out
  rw [← HN.out] at hg
  exact ⟨st_set_len hg HSZ.out _,HSZ.out,HB.out.grown (grown_setCell _ _ _ _) hn,hn,grown_setCell _ _ _ _⟩
 have HM:=yH hM
 clear hW1 hM HG HB hcl hfl hL0 hL1
 obtain ⟨F,hF⟩:∃F,F=len - len%64:=⟨_,rfl⟩
 rw [show (len:Int) - (len:Int)%64=(F:Int) from by omega]
 have hFl:F≤len:=by omega
 have hF64:F%64=0:=by omega
 have HF:=yH hF
 have HF64:=yH hF64
 clear hF hF64
 rcases HM.out.bytes.at' with hc | ⟨gb,ob,hp,hx⟩
 ·subst hc
  cases p with
  | none=>
   obtain rfl:len=0:=by have:=HM.out.bytes.le;omega
   obtain rfl:F=0:=by omega
   obtain ⟨U,hU⟩:∃U,U=Sm.blocks (B.take 0) v ((B.take 0).length/64):=⟨_,rfl⟩
   have HA:=all_any v HVV.out (B.take 0) none 0 0 W1.drew ((HM.out.bytes.take 0 hFl).heap rfl) (by simp)
   rw [show ((0:Nat):Int)=0 from rfl]
   rw [← hU] at HA
   have HAA:=yH HA
   have HU:=yH hU
   clear HA hU
   obtain ⟨a,b,c,d,e,f,h,k⟩:=v
   have c0:W1.cell? ⟨g,0,none⟩=some (.int .u32 a):=st_cell HM.out.row 0 (by omega)
   have c1:W1.cell? ⟨g,1,none⟩=some (.int .u32 b):=st_cell HM.out.row 1 (by omega)
   have c2:W1.cell? ⟨g,2,none⟩=some (.int .u32 c):=st_cell HM.out.row 2 (by omega)
   have c3:W1.cell? ⟨g,3,none⟩=some (.int .u32 d):=st_cell HM.out.row 3 (by omega)
   have c4:W1.cell? ⟨g,4,none⟩=some (.int .u32 e):=st_cell HM.out.row 4 (by omega)
   have c5:W1.cell? ⟨g,5,none⟩=some (.int .u32 f):=st_cell HM.out.row 5 (by omega)
   have c6:W1.cell? ⟨g,6,none⟩=some (.int .u32 h):=st_cell HM.out.row 6 (by omega)
   have c7:W1.cell? ⟨g,7,none⟩=some (.int .u32 k):=st_cell HM.out.row 7 (by omega)
   go_region_law ((go_simp;go_at_call 277;refine HAA.out.mono ?_;rintro _ w4 ⟨rfl,hb4⟩;have m4:=yH (HM.out.later (below_of hb4 rfl rfl rfl rfl));clear hb4;have hst4:=st_store m4.out.row m4.out.size U;have hu8:=size8 U))
   generalize hW5:w4.setCells g 0 (w32 U.list)=W5
   have m5:=m4.out.words U
   rw [hW5] at m5
   have M5:=yH m5
   clear hW5 m5 hst4 hu8 m4 c0 c1 c2 c3 c4 c5 c6 c7
   go_wp2_with fail
   have hcp:=run_copy_none (P:=Tryz.prog) W5.drew 45 45 3 5 (some ⟨g,8,none⟩) none 64 64 0 0 A22 E5 (by rfl)
   go_still_tail 7,(by kernel_rfl)
   go_wp2_with fail
   go_end0
   have hfin:=Held.next HS.out HTO.out M5.out.bytes.ok hl M5.out.bytes.size (show 0=0 - 0%64 from rfl) HU.out M5.out.size HBO.out
   have e1:B.drop 0=[]:=List.drop_eq_nil_of_le (by have:=M5.out.bytes.size;omega)
   rw [e1,Nat.sub_self,List.drop_zero,List.nil_append] at hfin
   refine ⟨rfl,⟨U,bl,hfin,?_⟩,?_⟩
   ·have h0:=HLT.out;(try simp only [List.nil_append] at h0);rw [h0];exact M5.out.row
   ·exact ⟨M5.out.grown.os,M5.out.grown.tape,M5.out.grown.output,M5.out.grown.size,M5.out.grown.block⟩
  | some x=>
   obtain rfl:len=0:=by have:=HM.out.bytes.le;omega
   obtain rfl:F=0:=by omega
   obtain ⟨U,hU⟩:∃U,U=Sm.blocks (B.take 0) v ((B.take 0).length/64):=⟨_,rfl⟩
   have HA:=all_any v HVV.out (B.take 0) (some x) 0 0 W1.drew ((HM.out.bytes.take 0 hFl).heap rfl) (by simp)
   rw [show ((0:Nat):Int)=0 from rfl]
   rw [← hU] at HA
   have HAA:=yH HA
   have HU:=yH hU
   clear HA hU
   obtain ⟨a,b,c,d,e,f,h,k⟩:=v
   have c0:W1.cell? ⟨g,0,none⟩=some (.int .u32 a):=st_cell HM.out.row 0 (by omega)
   have c1:W1.cell? ⟨g,1,none⟩=some (.int .u32 b):=st_cell HM.out.row 1 (by omega)
   have c2:W1.cell? ⟨g,2,none⟩=some (.int .u32 c):=st_cell HM.out.row 2 (by omega)
   have c3:W1.cell? ⟨g,3,none⟩=some (.int .u32 d):=st_cell HM.out.row 3 (by omega)
   have c4:W1.cell? ⟨g,4,none⟩=some (.int .u32 e):=st_cell HM.out.row 4 (by omega)
   have c5:W1.cell? ⟨g,5,none⟩=some (.int .u32 f):=st_cell HM.out.row 5 (by omega)
   have c6:W1.cell? ⟨g,6,none⟩=some (.int .u32 h):=st_cell HM.out.row 6 (by omega)
   have c7:W1.cell? ⟨g,7,none⟩=some (.int .u32 k):=st_cell HM.out.row 7 (by omega)
   go_region_law ((go_simp;go_at_call 277;refine HAA.out.mono ?_;rintro _ w4 ⟨rfl,hb4⟩;have m4:=yH (HM.out.later (below_of hb4 rfl rfl rfl rfl));clear hb4;have hst4:=st_store m4.out.row m4.out.size U;have hu8:=size8 U))
   generalize hW5:w4.setCells g 0 (w32 U.list)=W5
   have m5:=m4.out.words U
   rw [hW5] at m5
   have M5:=yH m5
   clear hW5 m5 hst4 hu8 m4 c0 c1 c2 c3 c4 c5 c6 c7
   go_wp2_with fail
   have hcp:=run_copy_none (P:=Tryz.prog) W5.drew 45 45 3 5 (some ⟨g,8,none⟩) (some x) 64 64 0 0 A22 E5 (by rfl)
   go_still_tail 7,(by kernel_rfl)
   go_wp2_with fail
   go_end0
   have hfin:=Held.next HS.out HTO.out M5.out.bytes.ok hl M5.out.bytes.size (show 0=0 - 0%64 from rfl) HU.out M5.out.size HBO.out
   have e1:B.drop 0=[]:=List.drop_eq_nil_of_le (by have:=M5.out.bytes.size;omega)
   rw [e1,Nat.sub_self,List.drop_zero,List.nil_append] at hfin
   refine ⟨rfl,⟨U,bl,hfin,?_⟩,?_⟩
   ·have h0:=HLT.out;(try simp only [List.nil_append] at h0);rw [h0];exact M5.out.row
   ·exact ⟨M5.out.grown.os,M5.out.grown.tape,M5.out.grown.output,M5.out.grown.size,M5.out.grown.block⟩
 ·subst hp
  clear hx
  have hcap:=HM.out.bytes.le
  have a1:(0:Int)≤F∧(F:Int)≤cap:=by omega
  obtain ⟨U,hU⟩:∃U,U=Sm.blocks (B.take F) v ((B.take F).length/64):=⟨_,rfl⟩
  have HA:=all_any v HVV.out (B.take F) (some ⟨gb,ob,none⟩) F cap W1.drew ((HM.out.bytes.take F hFl).heap rfl) (by have:=HF64.out;have:=HM.out.bytes.size;simp;omega)
  rw [← hU] at HA
  have HAA:=yH HA
  have HU:=yH hU
  clear HA hU
  obtain ⟨a,b,c,d,e,f,h,k⟩:=v
  have c0:W1.cell? ⟨g,0,none⟩=some (.int .u32 a):=st_cell HM.out.row 0 (by omega)
  have c1:W1.cell? ⟨g,1,none⟩=some (.int .u32 b):=st_cell HM.out.row 1 (by omega)
  have c2:W1.cell? ⟨g,2,none⟩=some (.int .u32 c):=st_cell HM.out.row 2 (by omega)
  have c3:W1.cell? ⟨g,3,none⟩=some (.int .u32 d):=st_cell HM.out.row 3 (by omega)
  have c4:W1.cell? ⟨g,4,none⟩=some (.int .u32 e):=st_cell HM.out.row 4 (by omega)
  have c5:W1.cell? ⟨g,5,none⟩=some (.int .u32 f):=st_cell HM.out.row 5 (by omega)
  have c6:W1.cell? ⟨g,6,none⟩=some (.int .u32 h):=st_cell HM.out.row 6 (by omega)
  have c7:W1.cell? ⟨g,7,none⟩=some (.int .u32 k):=st_cell HM.out.row 7 (by omega)
  go_region_law ((go_simp;go_at_call 277;refine HAA.out.mono ?_;rintro _ w4 ⟨rfl,hb4⟩;have m4:=yH (HM.out.later (below_of hb4 rfl rfl rfl rfl));clear hb4;have hst4:=st_store m4.out.row m4.out.size U;have hu8:=size8 U))
  generalize hW5:w4.setCells g 0 (w32 U.list)=W5
  have m5:=m4.out.words U
  rw [hW5] at m5
  have M5:=yH m5
  clear hW5 m5 hst4 hu8 m4 c0 c1 c2 c3 c4 c5 c6 c7
  go_wp2_with fail
  rcases Nat.lt_or_eq_of_le (Nat.le_trans hFl hcap) with hcc | hcc
  ·have hcp:=st_copy M5.out F (by have:=HF.out;omega) hcc
   go_still_tail 7,(by kernel_rfl)
   go_wp2_with fail
   go_end0
   have hlF:(B.drop F).length=len - F:=by have:=M5.out.bytes.size;simp;omega
   have hrow:=st_set_block (W:=W5.drew) M5.out.row M5.out.size 0 (B.drop F) (by have:=HF.out;omega)
   have hfin:=Held.next HS.out HTO.out M5.out.bytes.ok hl M5.out.bytes.size HF.out HU.out M5.out.size HBO.out
   refine ⟨rfl,⟨U,_,hfin,?_⟩,?_⟩
   ·rw [hlF] at hrow
    have h0:=HLT.out
    (try simp only [List.nil_append] at h0)
    rw [h0]
    simpa using hrow
   ·exact grown_setCells (w1:=W5.drew) ⟨M5.out.grown.os,M5.out.grown.tape,M5.out.grown.output,M5.out.grown.size,M5.out.grown.block⟩ 8 _
  ·subst hcc
   obtain rfl:len=F:=by omega
   have hcp:=run_copy_none (P:=Tryz.prog) W5.drew 45 45 3 5 (some ⟨g,8,none⟩) (some ⟨gb,ob,none⟩) 64 64 0 0 A22 E5 (by rfl)
   go_still_tail 7,(by kernel_rfl)
   go_wp2_with fail
   go_end0
   have hfin:=Held.next HS.out HTO.out M5.out.bytes.ok hl M5.out.bytes.size HF.out HU.out M5.out.size HBO.out
   have e1:B.drop len=[]:=List.drop_eq_nil_of_le (by have:=M5.out.bytes.size;omega)
   rw [e1,Nat.sub_self,List.drop_zero,List.nil_append] at hfin
   refine ⟨rfl,⟨U,bl,hfin,?_⟩,?_⟩
   ·have h0:=HLT.out;(try simp only [List.nil_append] at h0);rw [h0];exact M5.out.row
   ·exact ⟨M5.out.grown.os,M5.out.grown.tape,M5.out.grown.output,M5.out.grown.size,M5.out.grown.block⟩
theorem write_a (T B:List Nat) (g:Nat) (p:Option Addr) (len cap:Nat) (w:World) (hT:T=[]) (v:Sm.V8) (bl:List Nat) (hh:Held T v bl)
  (hg:w.heap[g]? =some (.cells (stL v bl T.length).toArray 303 (0,0)))
  (hB:Bytes w p len cap B) (hn:B≠[]→∀a,p=some a→a.block≠g) (hl:(T++B).length<1152921504606846976):
  Calls Tryz.prog 246 #[.pointer (some ⟨g,0,none⟩),.slice p len cap] w fun e w'=>e= .returned (.tuple #[])∧StateAt w' g (T++B)∧w.grownBy w' (some g):=by
 subst hT
 have hcl:w.cell? ⟨g,72,none⟩=some (.int .u64 0):=st_len hg hh.size
 have hfl:w.frozen? ⟨g,72,none⟩=false:=frozen_of_row w g _ _ _ hg
 have hlen:=hB.size
 have hb1:len<1152921504606846976:=by simp at hl;omega
 have HLT:=yH (show (([]:List Nat)++B).length=len from by simp;omega)
 have HG:=yH hg
 have HTO:=yH hh.ok
 have HBO:=yH hh.bok
 have HSZ:=yH hh.size
 have HB:=yH hB
 clear hg hh hB hlen
 go_enter Tryz.func246,Tryz.ntmps246
 go_wp2_with fail
 refine (firstWords_any w).mono ?_
 rintro _ w2 ⟨rfl,hb2⟩
 have hg2:w2.heap[g]? =_:=(hb2.block g (yL HG.out)).trans HG.out
 have hst:=st_store hg2 HSZ.out Sm.first
 have hg3:=st_set_words hg2 Sm.first
 have hcl2:(w2.setCells g 0 (w32 Sm.first.list)).cell? ⟨g,72,none⟩=some (.int .u64 0):=st_len hg3 HSZ.out
 have hfl2:(w2.setCells g 0 (w32 Sm.first.list)).frozen? ⟨g,72,none⟩=false:=frozen_of_row _ g _ _ _ hg3
 have hu8:=size8 Sm.first
 have HB2:=yH hb2
 have HG3:=yH hg3
 clear hb2 hg2 hg3 hcl hfl
 go_wp2_with fail
 obtain ⟨v,hv⟩:∃v,v=Sm.first:=⟨_,rfl⟩
 have HS:=yH (show Start [] v from ⟨by rw [hv];exact Sm.first_ok,rfl,hv⟩)
 have HVV:=yH HS.out.1
 rw [← hv] at HG3 ⊢
 generalize hW1:(w2.setCells g 0 (w32 v.list)).setCell ⟨g,72,none⟩ (.int .u64 (len:Int))=W1
 have hM:Mid w W1 g v bl len p len cap B:=by
  subst hW1
  have h1:w.grownBy (w2.setCells g 0 (w32 v.list)) (some g):=grown_setCells ⟨HB2.out.os,HB2.out.tape,HB2.out.output,HB2.out.size,fun k hk _=>HB2.out.block k hk⟩ 0 _
  have h2:w.grownBy ((w2.setCells g 0 (w32 v.list)).setCell ⟨g,72,none⟩ (.int .u64 (len:Int))) (some g):=grown_setCells h1 72 [.int .u64 (len:Int)]
  exact ⟨st_set_len HG3.out HSZ.out _,HSZ.out,HB.out.grown h2 hn,hn,h2⟩
 have HM:=yH hM
 clear hW1 hM HG HB hst hcl2 hfl2 hu8 HG3 HB2 hv
 obtain ⟨F,hF⟩:∃F,F=len - len%64:=⟨_,rfl⟩
 rw [show (len:Int) - (len:Int)%64=(F:Int) from by omega]
 have hFl:F≤len:=by omega
 have hF64:F%64=0:=by omega
 have HF:=yH hF
 have HF64:=yH hF64
 clear hF hF64
 rcases HM.out.bytes.at' with hc | ⟨gb,ob,hp,hx⟩
 ·subst hc
  cases p with
  | none=>
   obtain rfl:len=0:=by have:=HM.out.bytes.le;omega
   obtain rfl:F=0:=by omega
   obtain ⟨U,hU⟩:∃U,U=Sm.blocks (B.take 0) v ((B.take 0).length/64):=⟨_,rfl⟩
   have HA:=all_any v HVV.out (B.take 0) none 0 0 W1.drew ((HM.out.bytes.take 0 hFl).heap rfl) (by simp)
   rw [show ((0:Nat):Int)=0 from rfl]
   rw [← hU] at HA
   have HAA:=yH HA
   have HU:=yH hU
   clear HA hU
   obtain ⟨a,b,c,d,e,f,h,k⟩:=v
   have c0:W1.cell? ⟨g,0,none⟩=some (.int .u32 a):=st_cell HM.out.row 0 (by omega)
   have c1:W1.cell? ⟨g,1,none⟩=some (.int .u32 b):=st_cell HM.out.row 1 (by omega)
   have c2:W1.cell? ⟨g,2,none⟩=some (.int .u32 c):=st_cell HM.out.row 2 (by omega)
   have c3:W1.cell? ⟨g,3,none⟩=some (.int .u32 d):=st_cell HM.out.row 3 (by omega)
   have c4:W1.cell? ⟨g,4,none⟩=some (.int .u32 e):=st_cell HM.out.row 4 (by omega)
   have c5:W1.cell? ⟨g,5,none⟩=some (.int .u32 f):=st_cell HM.out.row 5 (by omega)
   have c6:W1.cell? ⟨g,6,none⟩=some (.int .u32 h):=st_cell HM.out.row 6 (by omega)
   have c7:W1.cell? ⟨g,7,none⟩=some (.int .u32 k):=st_cell HM.out.row 7 (by omega)
   go_region_law ((go_simp;go_at_call 277;refine HAA.out.mono ?_;rintro _ w4 ⟨rfl,hb4⟩;have m4:=yH (HM.out.later (below_of hb4 rfl rfl rfl rfl));clear hb4;have hst4:=st_store m4.out.row m4.out.size U;have hu8:=size8 U))
   generalize hW5:w4.setCells g 0 (w32 U.list)=W5
   have m5:=m4.out.words U
   rw [hW5] at m5
   have M5:=yH m5
   clear hW5 m5 hst4 hu8 m4 c0 c1 c2 c3 c4 c5 c6 c7
   go_wp2_with fail
   have hcp:=run_copy_none (P:=Tryz.prog) W5.drew 45 45 3 5 (some ⟨g,8,none⟩) none 64 64 0 0 A22 E5 (by rfl)
   go_still_tail 7,(by kernel_rfl)
   go_wp2_with fail
   go_end0
   have hfin:=Held.next HS.out HTO.out M5.out.bytes.ok hl M5.out.bytes.size (show 0=0 - 0%64 from rfl) HU.out M5.out.size HBO.out
   have e1:B.drop 0=[]:=List.drop_eq_nil_of_le (by have:=M5.out.bytes.size;omega)
   rw [e1,Nat.sub_self,List.drop_zero,List.nil_append] at hfin
   refine ⟨rfl,⟨U,bl,hfin,?_⟩,?_⟩
   ·have h0:=HLT.out;(try simp only [List.nil_append] at h0);rw [h0];exact M5.out.row
   ·exact ⟨M5.out.grown.os,M5.out.grown.tape,M5.out.grown.output,M5.out.grown.size,M5.out.grown.block⟩
  | some x=>
   obtain rfl:len=0:=by have:=HM.out.bytes.le;omega
   obtain rfl:F=0:=by omega
   obtain ⟨U,hU⟩:∃U,U=Sm.blocks (B.take 0) v ((B.take 0).length/64):=⟨_,rfl⟩
   have HA:=all_any v HVV.out (B.take 0) (some x) 0 0 W1.drew ((HM.out.bytes.take 0 hFl).heap rfl) (by simp)
   rw [show ((0:Nat):Int)=0 from rfl]
   rw [← hU] at HA
   have HAA:=yH HA
   have HU:=yH hU
   clear HA hU
   obtain ⟨a,b,c,d,e,f,h,k⟩:=v
   have c0:W1.cell? ⟨g,0,none⟩=some (.int .u32 a):=st_cell HM.out.row 0 (by omega)
   have c1:W1.cell? ⟨g,1,none⟩=some (.int .u32 b):=st_cell HM.out.row 1 (by omega)
   have c2:W1.cell? ⟨g,2,none⟩=some (.int .u32 c):=st_cell HM.out.row 2 (by omega)
   have c3:W1.cell? ⟨g,3,none⟩=some (.int .u32 d):=st_cell HM.out.row 3 (by omega)
   have c4:W1.cell? ⟨g,4,none⟩=some (.int .u32 e):=st_cell HM.out.row 4 (by omega)
   have c5:W1.cell? ⟨g,5,none⟩=some (.int .u32 f):=st_cell HM.out.row 5 (by omega)
   have c6:W1.cell? ⟨g,6,none⟩=some (.int .u32 h):=st_cell HM.out.row 6 (by omega)
   have c7:W1.cell? ⟨g,7,none⟩=some (.int .u32 k):=st_cell HM.out.row 7 (by omega)
   go_region_law ((go_simp;go_at_call 277;refine HAA.out.mono ?_;rintro _ w4 ⟨rfl,hb4⟩;have m4:=yH (HM.out.later (below_of hb4 rfl rfl rfl rfl));clear hb4;have hst4:=st_store m4.out.row m4.out.size U;have hu8:=size8 U))
   generalize hW5:w4.setCells g 0 (w32 U.list)=W5
   have m5:=m4.out.words U
   rw [hW5] at m5
   have M5:=yH m5
   clear hW5 m5 hst4 hu8 m4 c0 c1 c2 c3 c4 c5 c6 c7
   go_wp2_with fail
   have hcp:=run_copy_none (P:=Tryz.prog) W5.drew 45 45 3 5 (some ⟨g,8,none⟩) (some x) 64 64 0 0 A22 E5 (by rfl)
   go_still_tail 7,(by kernel_rfl)
   go_wp2_with fail
   go_end0
   have hfin:=Held.next HS.out HTO.out M5.out.bytes.ok hl M5.out.bytes.size (show 0=0 - 0%64 from rfl) HU.out M5.out.size HBO.out
   have e1:B.drop 0=[]:=List.drop_eq_nil_of_le (by have:=M5.out.bytes.size;omega)
   rw [e1,Nat.sub_self,List.drop_zero,List.nil_append] at hfin
   refine ⟨rfl,⟨U,bl,hfin,?_⟩,?_⟩
   ·have h0:=HLT.out;(try simp only [List.nil_append] at h0);rw [h0];exact M5.out.row
   ·exact ⟨M5.out.grown.os,M5.out.grown.tape,M5.out.grown.output,M5.out.grown.size,M5.out.grown.block⟩
 ·subst hp
  clear hx
  have hcap:=HM.out.bytes.le
  have a1:(0:Int)≤F∧(F:Int)≤cap:=by omega
  obtain ⟨U,hU⟩:∃U,U=Sm.blocks (B.take F) v ((B.take F).length/64):=⟨_,rfl⟩
  have HA:=all_any v HVV.out (B.take F) (some ⟨gb,ob,none⟩) F cap W1.drew ((HM.out.bytes.take F hFl).heap rfl) (by have:=HF64.out;have:=HM.out.bytes.size;simp;omega)
  rw [← hU] at HA
  have HAA:=yH HA
  have HU:=yH hU
  clear HA hU
  obtain ⟨a,b,c,d,e,f,h,k⟩:=v
  have c0:W1.cell? ⟨g,0,none⟩=some (.int .u32 a):=st_cell HM.out.row 0 (by omega)
  have c1:W1.cell? ⟨g,1,none⟩=some (.int .u32 b):=st_cell HM.out.row 1 (by omega)
  have c2:W1.cell? ⟨g,2,none⟩=some (.int .u32 c):=st_cell HM.out.row 2 (by omega)
  have c3:W1.cell? ⟨g,3,none⟩=some (.int .u32 d):=st_cell HM.out.row 3 (by omega)
  have c4:W1.cell? ⟨g,4,none⟩=some (.int .u32 e):=st_cell HM.out.row 4 (by omega)
  have c5:W1.cell? ⟨g,5,none⟩=some (.int .u32 f):=st_cell HM.out.row 5 (by omega)
  have c6:W1.cell? ⟨g,6,none⟩=some (.int .u32 h):=st_cell HM.out.row 6 (by omega)
  have c7:W1.cell? ⟨g,7,none⟩=some (.int .u32 k):=st_cell HM.out.row 7 (by omega)
  go_region_law ((go_simp;go_at_call 277;refine HAA.out.mono ?_;rintro _ w4 ⟨rfl,hb4⟩;have m4:=yH (HM.out.later (below_of hb4 rfl rfl rfl rfl));clear hb4;have hst4:=st_store m4.out.row m4.out.size U;have hu8:=size8 U))
  generalize hW5:w4.setCells g 0 (w32 U.list)=W5
  have m5:=m4.out.words U
  rw [hW5] at m5
  have M5:=yH m5
  clear hW5 m5 hst4 hu8 m4 c0 c1 c2 c3 c4 c5 c6 c7
  go_wp2_with fail
  rcases Nat.lt_or_eq_of_le (Nat.le_trans hFl hcap) with hcc | hcc
  ·have hcp:=st_copy M5.out F (by have:=HF.out;omega) hcc
   go_still_tail 7,(by kernel_rfl)
   go_wp2_with fail
   go_end0
   have hlF:(B.drop F).length=len - F:=by have:=M5.out.bytes.size;simp;omega
   have hrow:=st_set_block (W:=W5.drew) M5.out.row M5.out.size 0 (B.drop F) (by have:=HF.out;omega)
   have hfin:=Held.next HS.out HTO.out M5.out.bytes.ok hl M5.out.bytes.size HF.out HU.out M5.out.size HBO.out
   refine ⟨rfl,⟨U,_,hfin,?_⟩,?_⟩
   ·rw [hlF] at hrow
    have h0:=HLT.out
    (try simp only [List.nil_append] at h0)
    rw [h0]
    simpa using hrow
   ·exact grown_setCells (w1:=W5.drew) ⟨M5.out.grown.os,M5.out.grown.tape,M5.out.grown.output,M5.out.grown.size,M5.out.grown.block⟩ 8 _
  ·subst hcc
   obtain rfl:len=F:=by omega
   have hcp:=run_copy_none (P:=Tryz.prog) W5.drew 45 45 3 5 (some ⟨g,8,none⟩) (some ⟨gb,ob,none⟩) 64 64 0 0 A22 E5 (by rfl)
   go_still_tail 7,(by kernel_rfl)
   go_wp2_with fail
   go_end0
   have hfin:=Held.next HS.out HTO.out M5.out.bytes.ok hl M5.out.bytes.size HF.out HU.out M5.out.size HBO.out
   have e1:B.drop len=[]:=List.drop_eq_nil_of_le (by have:=M5.out.bytes.size;omega)
   rw [e1,Nat.sub_self,List.drop_zero,List.nil_append] at hfin
   refine ⟨rfl,⟨U,bl,hfin,?_⟩,?_⟩
   ·have h0:=HLT.out;(try simp only [List.nil_append] at h0);rw [h0];exact M5.out.row
   ·exact ⟨M5.out.grown.os,M5.out.grown.tape,M5.out.grown.output,M5.out.grown.size,M5.out.grown.block⟩
theorem write_c (T B:List Nat) (g:Nat) (p:Option Addr) (len cap:Nat) (w:World) (r:Nat) (hr:T.length%64=r) (hr0:0<r) (hs:r+len<64) (v:Sm.V8) (bl:List Nat) (hh:Held T v bl)
  (hg:w.heap[g]? =some (.cells (stL v bl T.length).toArray 303 (0,0)))
  (hB:Bytes w p len cap B) (hn:B≠[]→∀a,p=some a→a.block≠g) (hl:(T++B).length<1152921504606846976):
  Calls Tryz.prog 246 #[.pointer (some ⟨g,0,none⟩),.slice p len cap] w fun e w'=>e= .returned (.tuple #[])∧StateAt w' g (T++B)∧w.grownBy w' (some g):=by
 have hL0:((T.length:Int)==0)=false:=by
  have:T≠[]:=by rintro rfl;simp at hr;omega
  have:=List.length_pos_iff.2 this
  simp;omega
 have hT:T≠[]:=by rintro rfl;simp at hr;omega
 have hL1:(T.length:Int)%64=(r:Int):=by omega
 have hcl:w.cell? ⟨g,72,none⟩=some (.int .u64 (T.length:Nat)):=st_len hg hh.size
 have hfl:w.frozen? ⟨g,72,none⟩=false:=frozen_of_row w g _ _ _ hg
 have hsl:=st_set_len hg hh.size (T.length+len)
 obtain ⟨N,hN⟩:∃N,N=T.length:=⟨_,rfl⟩
 rw [← hN] at hcl hL0 hL1 hsl
 have hlen:=hB.size
 have hb1:N+len<1152921504606846976:=by simp at hl;omega
 have HLT0:=yH (show (T++B).length=N+len from by simp;omega)
 have h0:(0:Int)<r∧(r:Int)<64:=by omega
 have HBB:=yH (hB.grown (grown_setCell w g 72 (.int .u64 ((N+len:Nat):Int))) hn)
 have HH:=yH hh
 have HSL:=yH hsl
 have HR:=yH hr
 have HT:=yH hT
 have HN:=yH hN
 have HLen:=yH hlen
 clear hg hh hB hN hlen hsl hr hT
 have hlt:(r:Int)+len<64:=by omega
 have hbs:=block_slice g r (by omega)
 rcases HBB.out.at' with hc | ⟨gb,ob,hp,hx⟩
 ·subst hc
  cases p with
  | none=>
   obtain rfl:len=0:=by have:=HBB.out.le;omega
   have hB0:B=[]:=List.length_eq_zero_iff.1 HLen.out.symm
   have hcp:=run_copy_none (P:=Tryz.prog) (w.setCell ⟨g,72,none⟩ (.int .u64 (N:Int))) 45 45 3 5 (some ⟨g,8+r,none⟩) none (64 - r) (64 - r) 0 0 A22 E5 (Nat.zero_min _)
   have HB0:=yH hB0
   clear hB0
   go_enter Tryz.func246,Tryz.ntmps246
   go_wp2_with fail
   (try simp only [Exit.inBlock,Exit.then])
   refine bodyPost_ret (results_none rfl _ _ _) rfl ?_
   have hT2:T++B=T:=by rw [HB0.out,List.append_nil]
   refine ⟨rfl,?_,grown_setCell _ _ _ _⟩
   rw [hT2]
   refine ⟨v,bl,HH.out,?_⟩
   rw [← HN.out]
   exact HSL.out
  | some x=>
   obtain rfl:len=0:=by have:=HBB.out.le;omega
   have hB0:B=[]:=List.length_eq_zero_iff.1 HLen.out.symm
   have hcp:=run_copy_none (P:=Tryz.prog) (w.setCell ⟨g,72,none⟩ (.int .u64 (N:Int))) 45 45 3 5 (some ⟨g,8+r,none⟩) (some x) (64 - r) (64 - r) 0 0 A22 E5 (Nat.zero_min _)
   have HB0:=yH hB0
   clear hB0
   go_enter Tryz.func246,Tryz.ntmps246
   go_wp2_with fail
   (try simp only [Exit.inBlock,Exit.then])
   refine bodyPost_ret (results_none rfl _ _ _) rfl ?_
   have hT2:T++B=T:=by rw [HB0.out,List.append_nil]
   refine ⟨rfl,?_,grown_setCell _ _ _ _⟩
   rw [hT2]
   refine ⟨v,bl,HH.out,?_⟩
   rw [← HN.out]
   exact HSL.out
 ·subst hp
  clear hx
  have hcp:=st_copy_in HSL.out HH.out.size HBB.out r len (by omega) (Nat.min_eq_left (by omega)).symm
  rw [show B.take len=B from List.take_of_length_le (by have:=HLen.out;omega)] at hcp
  rw [show ((N+len:Nat):Int)=(N:Int)+(len:Int) from by omega] at hcp
  go_enter Tryz.func246,Tryz.ntmps246
  go_wp2_with fail
  (try simp only [Exit.inBlock,Exit.then])
  refine bodyPost_ret (results_none rfl _ _ _) rfl ?_
  rw [show (N:Int)+(len:Int)=((N+len:Nat):Int) from by omega]
  have hrow:=st_set_block HSL.out HH.out.size r B (by have:=HLen.out;omega)
  refine ⟨rfl,⟨v,_,HH.out.small HR.out hr0 (by have:=HLen.out;omega) HBB.out.ok hl,?_⟩,grown_setCells (grown_setCell _ _ _ _) _ _⟩
  rw [HLT0.out]
  exact hrow
end Go.Proofs.YtinihaflmdihaaaGreat
