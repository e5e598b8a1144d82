/- Proved: whatever number, list of steps and row it is handed, the Go function indenturelaw11.KdtreePlays returns true (after each step of any run the tree is the reference's: the same rows, the same answer to Has, a height within Bound, or the store has clashed), and each argument reads afterwards as it read before. Conditions: none beyond the given row's own. -/
import Derived.Test.YtenenciaggbjnaaGreatP36
set_option maxRecDepth 100000
set_option maxHeartbeats 8000000
set_option linter.all false
namespace Go.Proofs.YtenenciaggbjnaaGreat
section
open Go.ChangeShapes Go.WideShapes Go.ChangeAt Go.RowKit Go.Deep
theorem klplays_lifted (os:Os) (started:os.Started) (H:Type) (enc:TypeId×Value->H):
  ReturnsInHanded {} Tryz.checked os 3 .any (Rows.kdtreePlaysSpec.pre6 enc Tryz.prog Tryz.f3 Rows.kdtreePlaysRow.domain false) (Rows.kdtreePlaysSpec.post enc Tryz.prog Tryz.f3 false true false false):=by
 refine returnsInHanded_of_change (C:=Tryz.checked) y5i started (by kernel_rfl) Tryz.func3
  (ChangeSpec.witness6 (enc:=enc) (C:=Tryz.checked) false ⟨#[],#[.int .u8 0,.slice none 0 0,.slice none 0 0],[]⟩ 8 (by kernel_rfl) (by kernel_rfl) (by kernel_rfl) (by kernel_rfl)) ?_
 intro W base args ds gs before hval0 hW _ _;have A:∀(j:Nat) t v,Tryz.f3.params[j]? =some t->args[j]? =some v->Value.okWide Tryz.prog W .any base t v:=hval0;have O:=hW;obtain ⟨p,q,I,hV,rfl,_,_⟩:=hW;have k:DataW.TrodAll enc Tryz.prog W 0 (fun _=>true) true Tryz.f3.params.toList args.toList ds p:=I;rw [Tryz.params3] at k A;obtain ⟨c,A6,d0,AC,p0,q0,X,rfl,rfl,f,w⟩:=trodAll_cons k;obtain ⟨g,AD,d1,A8,p1,q1,rfl,rfl,rfl,a,r1⟩:=trodAll_cons w;obtain ⟨n,u,d2,A1,p2,q2,rfl,rfl,rfl,o,s⟩:=trodAll_cons r1;obtain ⟨rfl,rfl,rfl⟩:=trodAll_nil s;obtain rfl:args= #[c,g,n]:=by cases args;simp_all
 obtain ⟨rfl,rfl⟩:=trodVars_none hV;obtain ⟨b,rfl,rfl,rfl,U⟩:=open_int Tryz.underlying5 (A 0 5 c rfl rfl) f;obtain ⟨d,B,E,rfl⟩:=okWide_slice Tryz.underlying22 (A 1 22 g rfl rfl);obtain ⟨a2,J,G,y,rfl,M,Q⟩:=y3t (A 2 24 n rfl rfl) o;have r:=f;have l:=a;have i:=o;have Y:∀x∈p1,x.block<W.heap.size:=by obtain ⟨m,N⟩:=l;exact DataW.trod_lt m _ _ _ N
 have R:∀x∈p2,x.block<W.heap.size:=by obtain ⟨m,N⟩:=i;exact DataW.trod_lt m _ _ _ N
 have A5:=bounds_u8 U;obtain ⟨z,rfl⟩:∃m:Nat,b=m:=⟨b.toNat,by omega⟩
 obtain ⟨⟨L1,P⟩,K⟩:(∃L,Kt.Ops W d B E L)/\B<=9223372036854775807:=by
  obtain ⟨Z,hf⟩:=a;exact Kt.open_ops hf
 clear I hval0;refine (Kt.plays_any z (by omega) d a2 B E J G L1 y W P M K Q).mono fun e W' ⟨he,bel⟩=>?_;subst he;exact ⟨_,rfl,_,_,_,[],_,[],O,trodAll_mk1 (shut_bool Tryz.underlying4 _),
  (trodAll_cons_mk (Below.trod x3d (by kernel_rfl) (of_decide_eq_true (by kernel_rfl)) r bel (fun x hx=>by cases hx)) (trodAll_cons_mk (Below.trod x3d (by kernel_rfl) (of_decide_eq_true (by kernel_rfl)) l bel Y) (trodAll_cons_mk (Below.trod x3d (by kernel_rfl) (of_decide_eq_true (by kernel_rfl)) i bel R) trodAll_mk0))),rfl,bel.frame _,fun h=>by cases h⟩
theorem klplays_holds:Rows.KdtreePlaysSaid:=by
 refine OpenClaim.holds_of_wide 3 Tryz.f3 rfl rfl rfl rfl rfl rfl rfl ⟨rfl,rfl,rfl,rfl,rfl⟩ rfl rfl rfl rfl rfl (by as_aux_lemma => kernel_rfl) Tryz.func3 ?_
  (of_decide_eq_true (by as_aux_lemma => kernel_rfl)) (by as_aux_lemma => unfold Func.isWrapper;first | (rw [if_pos (by decide+kernel)];kernel_rfl) | (rw [if_neg (by decide+kernel)];exact ⟨rfl,rfl⟩))
  (fun os started H enc _=>klplays_lifted os started H enc)
 unfold joinedFacts
 repeat' with_reducible refine (Bool.and_eq_true_iff).2 ⟨?_,?_⟩
 all_goals as_aux_lemma => kernel_rfl
end
end Go.Proofs.YtenenciaggbjnaaGreat
