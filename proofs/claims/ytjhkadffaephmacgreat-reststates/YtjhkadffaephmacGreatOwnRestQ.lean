/- RestStates is proved as it is stated: for every net, state, engine, event and plan, what Round, Settle, Step, Build and Table answer, though all of it is written over, changes nothing that was handed in, nor what comes when they are called again; no condition beyond the row's own. -/
import Derived.Test.YtjhkadffaephmacGreatCutRestStatesEA
import Derived.Test.YtjhkadffaephmacGreatCutRestStatesEB
namespace Go.Proofs.YtjhkadffaephmacGreat
set_option maxHeartbeats 16000000
set_option maxRecDepth 100000
open Go.RowKit Go.ChangeShapes Go.WideShapes Go.ChangeAt
theorem sH (os:Os)(started:os.Started)(H:Type)(enc:TypeId×Value->H):
 ReturnsInHanded {} Tryz.checked os 3 .any (Rows.restStatesSpec.pre6 enc Tryz.prog Tryz.f3 Rows.restStatesRow.domain false) (Rows.restStatesSpec.post enc Tryz.prog Tryz.f3 false true false false):=by
 refine returnsInHanded_of_change_sized (C:=Tryz.checked) Tryz.own started (by kernel_rfl) Tryz.func3
  (ChangeSpec.witness6 (enc:=enc) (C:=Tryz.checked) false ⟨#[],#[.agg #[.int .i64 0,.slice none 0 0,.slice none 0 0,.int .i64 0,.slice none 0 0],.slice none 0 0,.agg #[.slice none 0 0,.slice none 0 0],.agg #[.int .i64 0,.int .i64 0,.int .i64 0,.int .i64 0,.slice none 0 0],.agg #[.int .i64 0,.int .i64 0,.slice none 0 0,.slice none 0 0]],[]⟩ 8 (by kernel_rfl) (by kernel_rfl) (by kernel_rfl) (by kernel_rfl)) ?_
 intro W base m0 ds gs u0 g0 hW D0 j0 _;have f0:∀ (j:Nat) t v,Tryz.f3.params[j]? = some t->m0[j]? = some v->Value.okWide Tryz.prog W .any base t v:=g0;have x0:=hW;obtain⟨p,q,w0,hV,rfl,E0,F0⟩:=hW;have hA:DataW.TrodAll enc Tryz.prog W 0 (fun _=>true) true Tryz.f3.params.toList m0.toList ds p:=w0;rw[Tryz.params3]at hA f0;obtain⟨v0,v1,v2,v3,v4,d0,d1,d2,d3,d4,p0,p1,p2,p3,p4,rfl,rfl,rfl,h0,h1,h2,h3,h4⟩:=KL hA;obtain⟨rfl,rfl⟩:=trodVars_none hV;have k0:=h0;have k1:=h1;have k2:=h2;have k3:=h3;have k4:=h4;have y0:∀x∈p0,x.block<W.heap.size:=by obtain⟨m,hm⟩:=k0;exact DataW.trod_lt m _ _ _ hm
 have z0:∀x∈p1,x.block<W.heap.size:=by obtain⟨m,hm⟩:=k1;exact DataW.trod_lt m _ _ _ hm
 have A0:∀x∈p2,x.block<W.heap.size:=by obtain⟨m,hm⟩:=k2;exact DataW.trod_lt m _ _ _ hm
 have B0:∀x∈p3,x.block<W.heap.size:=by obtain⟨m,hm⟩:=k3;exact DataW.trod_lt m _ _ _ hm
 have C0:∀x∈p4,x.block<W.heap.size:=by obtain⟨m,hm⟩:=k4;exact DataW.trod_lt m _ _ _ hm
 have o0:(d0.weights Tryz.prog 27).all (·<=reachBytes)=true:=by
  rw[List.all_eq_true]at j0 |-;intro k hk;exact j0 k (DataW.weights_mem_each (j:=0) (t:=27) (d:=d0) (by rfl) rfl k hk)
 have q0:(d1.weights Tryz.prog 22).all (·<=reachBytes)=true:=by
  rw[List.all_eq_true]at j0 |-;intro k hk;exact j0 k (DataW.weights_mem_each (j:=1) (t:=22) (d:=d1) (by rfl) rfl k hk)
 have s0:(d4.weights Tryz.prog 37).all (·<=reachBytes)=true:=by
  rw[List.all_eq_true]at j0 |-;intro k hk;exact j0 k (DataW.weights_mem_each (j:=4) (t:=37) (d:=d4) (by rfl) rfl k hk)
 obtain⟨a0,e0,i0⟩:=yS (f0 0 27 v0 rfl rfl) h0;obtain⟨sB,sE⟩:=MQ h0 o0 e0 i0;obtain⟨a1,e1,i1⟩:=iP (f0 1 22 v1 rfl rfl) h1;have s1:=OM h1 q0 e1 i1;subst e0 e1;obtain⟨a2,rfl,i2,c2⟩:=tN (f0 2 31 v2 rfl rfl) h2;obtain⟨a3,rfl,i3⟩:=kP (f0 3 34 v3 rfl rfl) h3;obtain⟨a4,rfl,i4⟩:=GQ (f0 4 37 v4 rfl rfl) h4 s0;clear w0 g0;refine(CJ a0 a1 a2 a3 a4 W i0 sB sE i1 s1 i2 c2 i3 i4).mono fun e W' ⟨he,bel⟩=>?_;subst he;exact⟨_,rfl,_,_,_,[],_,[],x0,trodAll_mk1 (shut_bool Tryz.underlying4 _),EM (Below.trod Tryz.laidOut (by kernel_rfl) (of_decide_eq_true (by kernel_rfl)) k0 bel y0) (Below.trod Tryz.laidOut (by kernel_rfl) (of_decide_eq_true (by kernel_rfl)) k1 bel z0) (Below.trod Tryz.laidOut (by kernel_rfl) (of_decide_eq_true (by kernel_rfl)) k2 bel A0) (Below.trod Tryz.laidOut (by kernel_rfl) (of_decide_eq_true (by kernel_rfl)) k3 bel B0) (Below.trod Tryz.laidOut (by kernel_rfl) (of_decide_eq_true (by kernel_rfl)) k4 bel C0),rfl,bel.frame _,fun h=>by cases h⟩
theorem restStates_holds:Rows.RestStatesSaid :=
 OpenClaim.holds_of_wide 3 Tryz.f3 rfl rfl rfl rfl rfl rfl rfl ⟨rfl,rfl,rfl,rfl,rfl⟩ rfl rfl rfl rfl rfl (by kernel_rfl) Tryz.func3 (by kernel_rfl)
  (of_decide_eq_true (by kernel_rfl)) (by unfold Func.isWrapper;first | (rw[if_pos (by decide +kernel)];kernel_rfl) | (rw[if_neg (by decide +kernel)];exact⟨rfl,rfl⟩))
  (fun os started H enc _=>sH os started H enc)
end Go.Proofs.YtjhkadffaephmacGreat
