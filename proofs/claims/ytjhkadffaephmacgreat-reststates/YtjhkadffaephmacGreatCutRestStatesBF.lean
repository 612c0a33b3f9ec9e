import Derived.Test.YtjhkadffaephmacGreatCutRestStatesBE
namespace Go.Proofs.YtjhkadffaephmacGreat
set_option maxHeartbeats 16000000
set_option maxRecDepth 100000
open Go.RowKit
theorem QL (n:dA)(base P N i:Nat)(ra:Option Addr)(rl rc:Nat)(e:Eng)(Bv:Value)(y:Lay)(w:World)(hN:n.nodes=N)(hL:Live base P N e Bv y w)(hl:rl≠N)(_hN6:N<=6)(_hrl:rl<=maxLen):
 Calls Tryz.prog 112 #[n.val,.pointer (some ⟨P,0,none⟩),.int .i64 i,.slice ra rl rc] w fun r w'=>r=.returned (.int .i64 1)/\Live base P N e Bv y w'/\Below base w w':=by
 have g0:base<=w.heap.size:=Nat.le_of_lt (Nat.lt_of_le_of_lt hL.lp hL.head.lt);have f0:Below w.heap.size w (w.alloc (.cells n.cells 27)):=(Below.refl _ w).alloc lR _;have d0:n.cells=#[.int .i64 n.a.size,.slice n.a.B.ga n.a.B.t.len n.a.B.cap,.slice n.a.E.ga n.a.E.t.len n.a.E.cap,.int .i64 N,.slice n.la n.ln n.lc]:=by simp only[dA.cells,Mat.val,hN]
 have HF:=hide (And.intro (hL.below f0) (f0.mono g0));rw[d0]at HF;rw[dA.val,d0];unfold maxLen at _hrl;have:((rl:Int) == (N:Int))=false:=by simp;omega
 clear hL g0 f0 d0 hN;go_enter Tryz.func112,Tryz.ntmps112;go_wp2;go_ret;exact⟨rfl,HF.out⟩
theorem PL (n:dA)(base P N i:Nat)(ra:Option Addr)(rc rb ro:Nat)(f:Nat->Int)(e:Eng)(Bv:Value)(y:Lay)(w:World)(hN:n.nodes=N)(_hN6:N<=6)(hL:Live base P N e Bv y w)(hr:Ints ra N rb ro f w)(hrb:0<N->rb<w.heap.size)(hbad:jB N f n.a.size=false):
 Calls Tryz.prog 112 #[n.val,.pointer (some ⟨P,0,none⟩),.int .i64 i,.slice ra N rc] w fun r w'=>r=.returned (.int .i64 5)/\Live base P N e Bv y w'/\Below base w w':=by
 have g0:base<=w.heap.size:=Nat.le_of_lt (Nat.lt_of_le_of_lt hL.lp hL.head.lt);have f0:Below w.heap.size w (w.alloc (.cells n.cells 27)):=(Below.refl _ w).alloc lR _;have d0:n.cells=#[.int .i64 n.a.size,.slice n.a.B.ga n.a.B.t.len n.a.B.cap,.slice n.a.E.ga n.a.E.t.len n.a.E.cap,.int .i64 N,.slice n.la n.ln n.lc]:=by simp only[dA.cells,Mat.val,hN]
 have HS:=hide (eD ra N rc rb ro f n.a.size _ (hr.below f0 hrb) (fun h0=>Nat.lt_of_lt_of_le (hrb h0) f0.size));rw[hbad]at HS;have HX:Hid (∀W,Below (w.alloc (.cells n.cells 27)).heap.size (w.alloc (.cells n.cells 27)) W->Live base P N e Bv y W/\Below base w W):=hide (fun W hb=>⟨(hL.below f0).below hb,(f0.mono g0).trans (hb.mono (Nat.le_trans g0 f0.size))⟩);rw[d0]at HS HX;rw[dA.val,d0];clear hL g0 f0 d0 hN hr hrb hbad;go_enter Tryz.func112,Tryz.ntmps112;go_wp2_with fail;go_at_call 73;refine HS.out.mono ?_;rintro r w2 ⟨rfl,i0⟩;have HF:=hide (HX.out w2 i0);clear i0 HX HS;go_wp2;go_ret;exact⟨rfl,HF.out⟩
structure qO (base P N:Nat) (n:dA) (b3:Nat) (e:Eng) (Bv:Value) (y:Lay) (w1 W:World):Prop where
 live:Live base P N e Bv y W
 net:Blk W b3 n.cells 27
 below:Below w1.heap.size w1 W
theorem qO.keep {base P N:Nat}{n:dA}{b3:Nat}{e:Eng}{Bv:Value}{y:Lay}{w1 W W':World}(h:qO base P N n b3 e Bv y w1 W)(hb:Below W.heap.size W W'):qO base P N n b3 e Bv y w1 W':=⟨h.live.below hb,h.net.below hb h.net.lt,h.below.trans (hb.mono h.below.size)⟩
def yG (N:Nat) (f:Nat->Int) (w1 W:World) (b:Nat):Prop:=w1.heap.size<=b/\yB W b/\∀j,j<N->W.cell? ⟨b,j,none⟩=some (.int .i64 (f j))
theorem yG.keep {N:Nat}{f:Nat->Int}{w1 W W':World}{b:Nat}(h:yG N f w1 W b)(hb:Below W.heap.size W W'):yG N f w1 W' b:=⟨h.1,h.2.1.grown hb,fun j hj=>by rw[hb.cell (p:=⟨b,j,none⟩) h.2.1.lt];exact h.2.2 j hj⟩
def uL (vs:List Value) (N:Nat) (f:Nat->Int) (w1:World) (k:Nat) (v:Value) (W:World):Prop :=
 if k=7 then ∃b c:Nat,v=.slice (some ⟨b,0,none⟩) N c/\yG N f w1 W b
 else if k=8 then ∃b c T:Nat,v=.agg #[.slice (some ⟨b,0,none⟩) N c,.slice (some ⟨T,0,none⟩) N N]/\yG N f w1 W b/\b<T/\Blk W T (madeCells #[.slice none 0 0] N) 32
 else vs[k]? = some v
theorem DJ {vs:List Value}{N:Nat}{f:Nat->Int}{w1:World}{k:Nat}{v:Value}{W W':World}(hb:Below W.heap.size W W')(h:uL vs N f w1 k v W):uL vs N f w1 k v W':=by
 unfold uL at h |-;split
 ·next e =>
  rw[if_pos e]at h;obtain⟨b,c,h1,h2⟩:=h;exact⟨b,c,h1,h2.keep hb⟩
 ·next e =>
  rw[if_neg e]at h;split
  ·next e2 =>
   rw[if_pos e2]at h;obtain⟨b,c,T,h1,h2,h3,h4⟩:=h;exact⟨b,c,T,h1,h2.keep hb,h3,h4.below hb h4.lt⟩
  ·next e2 =>
   rw[if_neg e2]at h;exact h
theorem uD {vs:List Value}{N:Nat}{f:Nat->Int}{w1:World}{k:Nat}{v u:Value}{W:World}(h:uL vs N f w1 k v W)(hk:k≠7/\k≠8)(hu:vs[k]? = some u):v=u:=by
 unfold uL at h;rw[if_neg hk.1,if_neg hk.2,hu]at h;exact(Option.some.inj h).symm
theorem PO (n:dA)(base P N i:Nat)(ra:Option Addr)(rc rb ro:Nat)(f:Nat->Int)(e:Eng)(Bv:Value)(y:Lay)(w:World)(hN:n.nodes=N)(hN6:N<=6)(hN0:0<N)(hL:Live base P N e Bv y w)(hr:Ints ra N rb ro f w)(hrb:rb<w.heap.size)(hok:jB N f n.a.size=true)(hi:i<N):
 Calls Tryz.prog 112 #[n.val,.pointer (some ⟨P,0,none⟩),.int .i64 i,.slice ra N rc] w fun r w'=>r=.returned (.int .i64 0)/\(∃y',Live base P N (e.restart i f) Bv y' w')/\Below base w w':=by
 have j0:base<=w.heap.size:=Nat.le_of_lt (Nat.lt_of_le_of_lt hL.lp hL.head.lt);obtain⟨W1,k0⟩:∃W1,W1=w.alloc (.cells n.cells 27):=⟨_,rfl⟩;have m0:Below w.heap.size w W1:=by rw[k0];exact(Below.refl _ w).alloc lR _
 have b3:Blk W1 w.heap.size n.cells 27:=by rw[k0];exact Blk.new w _ _
 have d0:n.cells=#[.int .i64 n.a.size,.slice n.a.B.ga n.a.B.t.len n.a.B.cap,.slice n.a.E.ga n.a.E.t.len n.a.E.cap,.int .i64 N,.slice n.la n.ln n.lc]:=by simp only[dA.cells,Mat.val,hN]
 have s0:=hr.below m0 (fun _=>hrb);have h0:rb<W1.heap.size:=Nat.lt_of_lt_of_le hrb m0.size;have HS:=hide (eD ra N rc rb ro f n.a.size W1 s0 (fun _=>h0));rw[hok]at HS;have w0:=hide (hL.below m0);have:=hide hL;have u0:=hide m0;have y0:=hide b3;have A0:=hide s0;have f0:=hide d0;have v0:=hide j0;have p0:=hide (fun (q:Nat) (c:Nat) W=>nJ n (some ⟨q,0,none⟩) N c N W hN hN6);rw[d0]at k0;have B0:=hide k0;rw[k0]at HS;rw[dA.val,d0];have:(i:Int)<(N:Int):=by omega
 clear hL j0 m0 d0 hN hr hrb hok b3 k0 s0;go_enter Tryz.func112,Tryz.ntmps112;go_wp2_with fail;go_at_call 73;refine HS.out.mono ?_;rw[<-B0.out];rintro r w2 ⟨rfl,q0⟩;have C0:Hid (qO base P N n w.heap.size e Bv y W1 w2):=hide ⟨w0.out.below q0,y0.out.below q0 y0.out.lt,q0⟩;have D0:=hide (fun W (hb:Below W1.heap.size W1 W)=>MG ra N rc rb ro f W (A0.out.below hb (fun _=>h0)) hN0 (by omega) (Nat.lt_of_lt_of_le h0 hb.size));clear q0 HS;go_wp2;refine KA 10 _ (qO base P N n w.heap.size e Bv y W1) (uL [.pointer (some ⟨P,0,none⟩),.pointer (some ⟨P,0,none⟩),.pointer (some ⟨P,0,none⟩),.slice (some ⟨y.G,0,none⟩) N y.gc,.int .i64 (i:Int),n.val,.slice ra N rc,undef,undef,.pointer (some ⟨y.G,i*2,none⟩)] N f W1) (fun _ W=>(∃y',Live base P N (e.restart i f) Bv y' W)/\Below base w W) (fun _ _ _=>True) (by kernel_rfl) (by kernel_rfl) (by kernel_rfl) (by kernel_rfl) (by kernel_rfl) rfl (C0.out.keep ⟨rfl,rfl,rfl,lR,fun _ _=>rfl⟩) ⟨?_,?_,?_,?_,?_,?_,?_,?_,?_,?_,trivial⟩ ?_ trivial ?_;rotate_right
 ·intro t W hG _;have HG:=hide hG;clear hG;simp only[fill,Act.put,sX,sY,sU];go_wp2;go_ret;exact⟨rfl,HG.out.1,HG.out.2⟩
 rotate_right
 ·intro t W hG hE _ K hK;have e9:=uD (hE 9 (by omega)) (by decide) rfl;have h8:∃b c T:Nat,t 8=.agg #[.slice (some ⟨b,0,none⟩) N c,.slice (some ⟨T,0,none⟩) N N]/\yG N f W1 W b/\b<T/\Blk W T (madeCells #[.slice none 0 0] N) 32:=hE 8 (by omega);simp only[fill,Act.put,sX,sY,sU,e9]at hK |-;rw[if_pos (by rfl)];obtain⟨b,c,T,e8,hb,F0,hT⟩:=h8;have g0:=w0.out;have i0:∀q,W1.heap.size<=q->q<W.heap.size->y.Off P N Bv W q:=fun q h1 h2=>⟨by have:=g0.head.lt;omega,by have:=g0.rtrs.lt;omega,fun k hk=>by have:=(g0.tolds k hk).lt;omega,fun hv=>by have:=(g0.bag.lt _ hv).2;omega,h2,by have:=g0.ylo;have:=g0.head.lt;omega⟩;have o0:=hG.live.setRouter (c:=c) (tc:=N) hi f (i0 b hb.1 hb.2.1.lt) hb.2.1 hb.2.2 hT (fun k hk=>KJ hk) (i0 T (by have:=hb.1;omega) hT.lt) (by omega) (by have:=hb.1;have:=u0.out.size;have:=v0.out;omega) (fun r hr=>by have:=(g0.routes r hr).1.lt;have:=hb.1;omega) (fun r k hr hk ht=>by have:=(g0.rows r hr k hk ht).2.1.lt;have:=hb.1;omega);have c1:=hG.live.rtrs.cell (i*2);rw[hG.live.r0 i hi]at c1;have:=hG.live.rtrs.frozen (i*2);have c2:=hG.live.rtrs.cell (i*2+1);rw[hG.live.r1 i hi]at c2;have:=hG.live.rtrs.frozen (i*2+1);have z0:Below base w ((W.setCell ⟨y.G,i*2,none⟩ (.slice (some ⟨b,0,none⟩) N c)).setCell ⟨y.G,i*2+1,none⟩ (.slice (some ⟨T,0,none⟩) N N)):=(((u0.out.mono v0.out).trans (hG.below.mono (Nat.le_trans v0.out u0.out.size))).setCell (p:=⟨y.G,i*2,none⟩) hG.live.lg _).setCell (p:=⟨y.G,i*2+1,none⟩) hG.live.lg _;have E0:=hide (And.intro o0 z0);simp only[e8]at hK |-;clear o0 z0 i0 hT hb F0 e8 e9 hE;go_simp;exact hK undef _ E0.out
 all_goals intro t W hG hp ht K hK
 all_goals clear ht
 all_goals simp only[fill,Act.put,sX,sY,sU]at hK |-
 ·rw[if_pos (by rfl)];go_simp;exact hK _ _ hG rfl (fun _ _ _ h=>h)
 ·have e0:=uD (hp 0 (by decide)) (by decide) rfl;simp only[e0]at hK |-;rw[if_pos (by rfl)];go_simp;exact hK _ _ hG rfl (fun _ _ _ h=>h)
 ·have e1:=uD (hp 1 (by decide)) (by decide) rfl;simp only[e1]at hK |-;rw[if_pos (by rfl)];go_simp;exact hK _ _ hG rfl (fun _ _ _ h=>h)
 ·have e2:=uD (hp 2 (by decide)) (by decide) rfl;have c0:=hG.live.head.cell 0;simp at c0;simp only[e2]at hK |-;rw[if_pos (by rfl)];go_simp;exact hK _ _ hG rfl (fun _ _ _ h=>h)
 ·rw[if_pos (by rfl)];go_simp;exact hK _ _ hG rfl (fun _ _ _ h=>h)
 ·have x0:=hG.net.cell 0;have x1:=hG.net.cell 1;have x2:=hG.net.cell 2;have x3:=hG.net.cell 3;have x4:=hG.net.cell 4;simp[f0.out]at x0 x1 x2 x3 x4;rw[if_pos (by rfl)];go_simp;exact hK _ _ hG (by show some n.val=_;rw[dA.val,f0.out]) (fun _ _ _ h=>h)
 ·rw[if_pos (by rfl)];go_simp;exact hK _ _ hG rfl (fun _ _ _ h=>h)
 ·have e6:=uD (hp 6 (by decide)) (by decide) rfl;simp only[e6]at hK |-;rw[if_pos (by rfl)];go_simp;go_at_call 77;refine(D0.out W hG.below).mono ?_;rintro r W' ⟨q,c,rfl,hb,h1,h2,h3⟩;go_simp;exact hK _ W' (hG.keep hb) ⟨q,c,rfl,by have:=hG.below.size;omega,h2,h3⟩ (fun _ _ _ h=>DJ hb h)
 ·have e5:=uD (hp 5 (by decide)) (by decide) rfl;have h7:∃b c:Nat,t 7=.slice (some ⟨b,0,none⟩) N c/\yG N f W1 W b:=hp 7 (by decide);obtain⟨b,c,e7,hb⟩:=h7;rw[dA.val,f0.out]at e5;simp only[e7]at hK |-;simp only[e5]at hK |-;rw[if_pos (by rfl)];go_simp;go_at_call 63;have p0:=hide (p0.out b c W);rw[dA.val,f0.out]at p0;refine p0.out.mono ?_;rintro r W' ⟨⟨T,rfl,h1,h2⟩,j0⟩;go_simp;exact hK _ W' (hG.keep j0) ⟨b,c,T,rfl,hb.keep j0,by have:=hb.2.1.lt;omega,h2⟩ (fun _ _ _ h=>DJ j0 h)
 ·have e3:=uD (hp 3 (by decide)) (by decide) rfl;have e4:=uD (hp 4 (by decide)) (by decide) rfl;simp only[e3,e4]at hK |-;rw[if_pos (by rfl)];go_simp;exact hK _ _ hG rfl (fun _ _ _ h=>h)
structure Lay.Far (y:Lay) (mid k:Nat) (W:World) (b:Nat):Prop where
 lo:mid<=b
 lt:b<W.heap.size
 t:∀q,q<k->b≠y.Tb q
structure Parts (mid N:Nat) (e:Eng) (y:Lay) (k:Nat) (W:World):Prop where
 rtrs:Blk W y.G y.vs 57
 size:y.vs.size=N*2
 g:y.G<mid
 r0:∀i,i<k->y.vs[i*2]? = some (.slice (some ⟨y.rb i,0,none⟩) N (y.rc i))
 r1:∀i,i<k->y.vs[i*2+1]? = some (.slice (some ⟨y.Tb i,0,none⟩) N (y.Tc i))
 tolds:∀i,i<k->Blk W (y.Tb i) (y.vt i) 32
 t0:∀i,i<k->∀q,q<N->(y.vt i)[q]? = some (.slice (y.ta i q) (if e.told i q=true then N else 0) (y.tc i q))
 routes:∀i,i<k->y.Far mid k W (y.rb i)/\∀j,j<N->W.cell? ⟨y.rb i,j,none⟩=some (.int .i64 (e.R i j))
 rows:∀i,i<k->∀q,q<N->e.told i q=true->y.ta i q=some ⟨y.db i q,y.dn i q,none⟩/\y.Far mid k W (y.db i q)/\∀j,j<N->W.cell? ⟨y.db i q,y.dn i q+j,none⟩=some (.int .i64 (e.D i q j))
 lt:∀i,i<k->mid<=y.Tb i
 tt:∀i q,i<k->q<k->i≠q->y.Tb i≠y.Tb q
 ylo:y.lo=y.G
 sr:∀i,i<k->yB W (y.rb i)
 sd:∀i,i<k->∀q,q<N->e.told i q=true->yB W (y.db i q)
theorem Lay.Far.keep {y:Lay}{mid k:Nat}{W W':World}{b:Nat}(h:y.Far mid k W b)(hs:W.heap.size<=W'.heap.size):y.Far mid k W' b:=⟨h.lo,Nat.lt_of_lt_of_le h.lt hs,h.t⟩
theorem Parts.below {mid N:Nat}{e:Eng}{y:Lay}{k:Nat}{W W':World}(h:Parts mid N e y k W)(hb:Below W.heap.size W W'):Parts mid N e y k W' where
 rtrs:=h.rtrs.below hb h.rtrs.lt
 size:=h.size
 g:=h.g
 r0:=h.r0
 r1:=h.r1
 tolds:=fun i hi=>(h.tolds i hi).below hb (h.tolds i hi).lt
 t0:=h.t0
 routes:=fun i hi=>⟨(h.routes i hi).1.keep hb.size,fun j hj=>by rw[hb.cell (p:=⟨y.rb i,j,none⟩) (h.routes i hi).1.lt];exact(h.routes i hi).2 j hj⟩
 rows:=fun i hi q hq ht=>⟨(h.rows i hi q hq ht).1,(h.rows i hi q hq ht).2.1.keep hb.size,fun j hj=>by rw[hb.cell (p:=⟨y.db i q,y.dn i q+j,none⟩) (h.rows i hi q hq ht).2.1.lt];exact(h.rows i hi q hq ht).2.2 j hj⟩
 lt:=h.lt
 tt:=h.tt
 ylo:=h.ylo
 sr:=fun i hi=>(h.sr i hi).grown hb
 sd:=fun i hi q hq ht=>(h.sd i hi q hq ht).grown hb
theorem NF.funs {lo T N:Nat}{x:Mat}{vt:Array Value}{W:World}(h:NF lo T N x vt N W):∃F:Nat->Option Addr×Nat×Nat,∀r,r<N->vt[r]? = some (.slice (F r).1 (x.t.L r) (F r).2.1)/\Ints (F r).1 (x.t.L r) (F r).2.2 0 (x.t.Z r) W/\(0<x.t.L r->lo<=(F r).2.2/\yB W (F r).2.2/\(F r).2.2≠T):=by
 have h2:∀r,∃t:Option Addr×Nat×Nat,r<N->vt[r]? = some (.slice t.1 (x.t.L r) t.2.1)/\Ints t.1 (x.t.L r) t.2.2 0 (x.t.Z r) W/\(0<x.t.L r->lo<=t.2.2/\yB W t.2.2/\t.2.2≠T):=fun r=>by
  by_cases hr:r<N
  ·obtain⟨a,c,b,h1⟩:=h.row r hr;exact⟨(a,c,b),fun _=>h1⟩
  ·exact⟨(none,0,0),fun h0=>absurd h0 hr⟩
 obtain⟨F,hF⟩:=Classical.axiomOfChoice h2;exact⟨F,fun r hr=>hF r hr⟩
theorem Parts.put {mid N:Nat}{e:Eng}{y:Lay}{k:Nat}{W:World}(h:Parts mid N e y k W)(hk:k<N){x:Mat}{vt:Array Value}{lo b c T tc:Nat}(hlo:mid<=lo)(hnew:∀i,i<k->y.Tb i<lo)(hnew2:∀i,i<k->y.rb i<lo)(hnew3:∀i,i<k->∀q,q<N->e.told i q=true->y.db i q<lo)
 (hb:lo<=b) (hb2:yB W b) (hbc:∀j,j<N->W.cell? ⟨b,j,none⟩=some (.int .i64 (e.R k j))) (hbT:b≠T) (hT:lo<=T) (hc:NF lo T N x vt N W)
 (hw:∀q,q<N->x.t.L q=if e.told k q=true then N else 0) (hz:∀q,q<N->x.t.Z q=e.D k q) (hN:0<N) :
 ∃y',Parts mid N e y' (k+1) ((W.setCell ⟨y.G,k*2,none⟩ (.slice (some ⟨b,0,none⟩) N c)).setCell ⟨y.G,k*2+1,none⟩ (.slice (some ⟨T,0,none⟩) N tc))/\y'.G=y.G/\y'.gc=y.gc:=by
 obtain⟨F,hF⟩:=hc.funs;obtain⟨W2,i0⟩:∃W2,W2=(W.setCell ⟨y.G,k*2,none⟩ (.slice (some ⟨b,0,none⟩) N c)).setCell ⟨y.G,k*2+1,none⟩ (.slice (some ⟨T,0,none⟩) N tc):=⟨_,rfl⟩;have hG:=h.g;have o0:W2.heap.size=W.heap.size:=by rw[i0];simp
 have f0:∀q j,mid<=q->W2.cell? ⟨q,j,none⟩=W.cell? ⟨q,j,none⟩:=fun q j hq=>by rw[i0,qA (show q≠y.G by omega),qA (show q≠y.G by omega)]
 have j0:∀q cs t,mid<=q->Blk W q cs t->Blk W2 q cs t:=fun q cs t hq hb=>by rw[i0];exact(hb.other (show q≠y.G by omega) _ _).other (show q≠y.G by omega) _ _
 obtain⟨y',d0⟩:∃y':Lay,y'={ y with vs:=(y.vs.setIfInBounds (k*2) (.slice (some ⟨b,0,none⟩) N c)).setIfInBounds (k*2+1) (.slice (some ⟨T,0,none⟩) N tc),rb:=fun r=>if r=k then b else y.rb r,rc:=fun r=>if r=k then c else y.rc r,Tb:=fun r=>if r=k then T else y.Tb r,Tc:=fun r=>if r=k then tc else y.Tc r,vt:=fun r=>if r=k then vt else y.vt r,ta:=fun r q=>if r=k then (F q).1 else y.ta r q,tc:=fun r q=>if r=k then (F q).2.1 else y.tc r q,db:=fun r q=>if r=k then (F q).2.2 else y.db r q,dn:=fun r q=>if r=k then 0 else y.dn r q }:=⟨_,rfl⟩;have k0:∀r,y'.Tb r=if r=k then T else y.Tb r:=fun r=>by rw[d0]
 have m0:∀q,y.Far mid k W q->q<lo->y'.Far mid (k+1) W2 q:=fun q hq hql=>⟨hq.lo,by rw[o0];exact hq.lt,fun r hr=>by
  rw[k0];split
  ·omega
  ·exact hq.t r (by omega)⟩
 have g0:∀q,lo<=q->q<W.heap.size->q≠T->y'.Far mid (k+1) W2 q:=fun q h1 h2 h3=>⟨by omega,by rw[o0];exact h2,fun r hr=>by
  rw[k0];split
  ·exact h3
  ·have:=hnew r (by omega);omega⟩
 rw[<-i0];refine⟨y',⟨?_,?_,?_,fun r hr=>?_,fun r hr=>?_,fun r hr=>?_,fun r hr q hq=>?_,fun r hr=>?_,fun r hr q hq ht=>?_,fun r hr=>?_,fun r q hr hq hne=>?_,by rw[d0];exact h.ylo,fun r hr=>?_,fun r hr q hq ht=>?_⟩,by rw[d0],by rw[d0]⟩;rotate_right;rotate_right
 ·have e3:y'.rb r=if r=k then b else y.rb r:=by rw[d0]
  rw[e3,i0];by_cases e1:r=k
  ·rw[if_pos e1];exact(hb2.set _ _).set _ _
  ·rw[if_neg e1];exact((h.sr r (by omega)).set _ _).set _ _
 ·have e3:y'.db r q=if r=k then (F q).2.2 else y.db r q:=by rw[d0]
  rw[e3,i0];by_cases e1:r=k
  ·subst e1;rw[if_pos rfl];have hL:=hw q hq;rw[if_pos ht]at hL;exact(((hF q hq).2.2 (by omega)).2.1.set _ _).set _ _
  ·rw[if_neg e1];exact((h.sd r (by omega) q hq ht).set _ _).set _ _
 ·have:=(h.rtrs.set (k*2) (.slice (some ⟨b,0,none⟩) N c)).set (k*2+1) (.slice (some ⟨T,0,none⟩) N tc);rw[d0,i0];exact this
 ·rw[d0];simpa using h.size
 ·rw[d0];exact h.g
 ·rw[d0];show ((y.vs.setIfInBounds (k*2) _).setIfInBounds (k*2+1) _)[r*2]? = some (.slice (some ⟨if r=k then b else y.rb r,0,none⟩) N (if r=k then c else y.rc r));rw[Array.getElem?_setIfInBounds_ne (by omega)];by_cases e1:r=k
  ·subst e1;have:=h.size;rw[if_pos rfl,if_pos rfl,Array.getElem?_setIfInBounds_self_of_lt (by omega)]
  ·rw[if_neg e1,if_neg e1,Array.getElem?_setIfInBounds_ne (by omega)];exact h.r0 r (by omega)
 ·rw[d0];show ((y.vs.setIfInBounds (k*2) _).setIfInBounds (k*2+1) _)[r*2+1]? = some (.slice (some ⟨if r=k then T else y.Tb r,0,none⟩) N (if r=k then tc else y.Tc r));by_cases e1:r=k
  ·subst e1;have:=h.size;rw[if_pos rfl,if_pos rfl,Array.getElem?_setIfInBounds_self_of_lt (by simp;omega)]
  ·rw[if_neg e1,if_neg e1,Array.getElem?_setIfInBounds_ne (by omega),Array.getElem?_setIfInBounds_ne (by omega)];exact h.r1 r (by omega)
 ·rw[d0];show Blk W2 (if r=k then T else y.Tb r) (if r=k then vt else y.vt r) _;by_cases e1:r=k
  ·rw[if_pos e1,if_pos e1];exact j0 T _ _ (by omega) hc.blk
  ·rw[if_neg e1,if_neg e1];exact j0 _ _ _ (h.lt r (by omega)) (h.tolds r (by omega))
 ·rw[d0];show (if r=k then vt else y.vt r)[q]? = some (.slice (if r=k then (F q).1 else y.ta r q) (if e.told r q=true then N else 0) (if r=k then (F q).2.1 else y.tc r q));by_cases e1:r=k
  ·subst e1;rw[if_pos rfl,if_pos rfl,if_pos rfl,<-hw q hq];exact(hF q hq).1
  ·rw[if_neg e1,if_neg e1,if_neg e1];exact h.t0 r (by omega) q hq
 ·have p0:y'.rb r=if r=k then b else y.rb r:=by rw[d0]
  rw[p0];by_cases e1:r=k
  ·subst e1;rw[if_pos rfl];exact⟨g0 b hb hb2.lt hbT,fun j hj=>by rw[f0 _ _ (by omega)];exact hbc j hj⟩
  ·rw[if_neg e1];obtain⟨h1,h2⟩:=h.routes r (by omega);exact⟨m0 _ h1 (hnew2 r (by omega)),fun j hj=>by rw[f0 _ _ h1.lo];exact h2 j hj⟩
 ·have e2:y'.ta r q=if r=k then (F q).1 else y.ta r q:=by rw[d0]
  have e3:y'.db r q=if r=k then (F q).2.2 else y.db r q:=by rw[d0]
  have e4:y'.dn r q=if r=k then 0 else y.dn r q:=by rw[d0]
  rw[e2,e3,e4];by_cases e1:r=k
  ·subst e1;rw[if_pos rfl,if_pos rfl,if_pos rfl];obtain⟨h1,h2,h3⟩:=hF q hq;have hL:=hw q hq;rw[if_pos ht]at hL;have h0:0<x.t.L q:=by omega
   refine⟨h2.addr h0,g0 _ (h3 h0).1 (h3 h0).2.1.lt (h3 h0).2.2,fun j hj=>?_⟩;rw[f0 _ _ (by have:=(h3 h0).1;omega),h2.cell j (by omega),hz q hq]
  ·simp only[if_neg e1];obtain⟨h1,h2,h3⟩:=h.rows r (by omega) q hq ht;exact⟨h1,m0 _ h2 (hnew3 r (by omega) q hq ht),fun j hj=>by rw[f0 _ _ h2.lo];exact h3 j hj⟩
 ·rw[k0];split
  ·omega
  ·exact h.lt r (by omega)
 ·rw[k0,k0];by_cases e1:r=k
  ·rw[if_pos e1,if_neg (by omega)];have:=hnew q (by omega);omega
  ·rw[if_neg e1];by_cases e2:q=k
   ·rw[if_pos e2];have:=hnew r (by omega);omega
   ·rw[if_neg e2];exact h.tt r q (by omega) (by omega) hne
theorem Parts.live {base mid N:Nat}{e:Eng}{y:Lay}{Bv:Value}{W:World}(h:Parts mid N e y N W)(hbag:W.ownsRow base 59 3 Bv e.bag.length (uA e.bag))(hbm:∀g,Bv.ownBlock=some g->g<mid/\g≠y.G)(hbw:base<=W.heap.size)(hg:base<=y.G):
 Live base W.heap.size N e Bv y (W.alloc (.cells #[.slice (some ⟨y.G,0,none⟩) N y.gc,Bv] 31)):=by
 obtain⟨W2,h0⟩:∃W2,W2=W.alloc (.cells #[.slice (some ⟨y.G,0,none⟩) N y.gc,Bv] 31):=⟨_,rfl⟩;have hb:Below W.heap.size W W2:=by rw[h0];exact(Below.refl _ W).alloc lR _
 have h2:=h.below hb;have:=h.g;have:=h.rtrs.lt;have d0:∀q,y.Far mid N W q->y.Off W.heap.size N Bv W2 q:=fun q hq=>⟨by have:=hq.lt;omega,by have:=hq.lo;omega,hq.t,fun hv=>by have:=hbm q hv;have:=hq.lo;omega,Nat.lt_of_lt_of_le hq.lt hb.size,by have:=h.ylo;have:=hq.lo;omega⟩;have g0:W2.ownsRow base 59 3 Bv e.bag.length (uA e.bag):=ZA hbag hb;have f0:Blk W2 W.heap.size #[.slice (some ⟨y.G,0,none⟩) N y.gc,Bv] 31:=by rw[h0];exact Blk.new W _ _
 rw[<-h0];exact⟨f0,h2.rtrs,h2.r0,h2.r1,h2.tolds,h2.t0,fun i hi=>⟨d0 _ (h.routes i hi).1,(h2.routes i hi).2⟩,fun i hi q hq ht=>⟨(h.rows i hi q hq ht).1,d0 _ (h.rows i hi q hq ht).2.1,(h2.rows i hi q hq ht).2.2⟩,g0,hbw,hg,fun i hi=>by have:=h.lt i hi;omega,by omega,fun i hi=>by have:=(h.tolds i hi).lt;omega,fun i hi=>by have:=h.lt i hi;omega,h.tt,fun g hg'=>⟨by have:=(hbag.lt g hg').2;omega,(hbm g hg').2,fun i hi=>by have:=hbm g hg';have:=h.lt i hi;omega⟩,by have:=h.ylo;omega,h2.sr,h2.sd⟩
structure iA.Right (x:iA) (n:Net) (N:Nat):Prop where
 check:n.check=0
 gn:x.rs.gn=N
 rl:∀i,i<N->(x.rs.r i).rl=N
 tl:∀i,i<N->(x.rs.r i).T.t.len=N
 ll:∀i,i<N->∀q,q<N->(x.rs.r i).T.t.L q=if x.eng.told i q=true then N else 0
 bn:x.bag.bn<=120
 fit:x.eng.Fit n
theorem iA.right {x:iA}{n:Net}{N:Nat}(h:x.err n=0)(hN:n.nodes=(N:Int)):x.Right n N:=by
 unfold iA.err at h;split at h
 ·next h1=>exact absurd h h1
 next hck0 =>
 have j0:n.check=0:=by omega
 split at h
 ·next h1=>exact absurd h h1
 next hrs0 =>
 have h0:x.rs.err n=0:=by omega
 have g:=Net.good_of_check j0;have k0:n.N=N:=by unfold Net.N;omega
 have s0:=g.lo;unfold kC.err at h0;split at h0
 ·exact absurd h0 (by decide)
 next hsh =>
 split at h0
 ·exact absurd h0 (by decide)
 next hso =>
 have q0:x.rs.gn=N:=by
  have:(x.rs.gn:Int)=n.nodes:=by
   rcases Decidable.em ((x.rs.gn:Int)=n.nodes) with h1 | h1
   ·exact h1
   ·exact absurd (Or.inl h1) hsh
  omega
 have f0:∀i,i<N->(x.rs.r i).shaped n.nodes=true:=fun i hi=>by
  cases hs:(x.rs.r i).shaped n.nodes with
  | true=>rfl
  | false=>exact absurd (Or.inr (List.any_eq_true.2 ⟨i,by simpa using (by omega:i<x.rs.gn),by rw[hs];rfl⟩)) hsh
 have g0:∀i,i<N->(x.rs.r i).sound n.a.size=true:=fun i hi=>by
  cases hs:(x.rs.r i).sound n.a.size with
  | true=>rfl
  | false=>exact absurd (List.any_eq_true.2 ⟨i,by simpa using (by omega:i<x.rs.gn),by rw[hs];rfl⟩) hso
 have d0:∀i,i<N->(x.rs.r i).rl=N/\(x.rs.r i).T.t.len=N/\∀q,q<N->(x.rs.r i).T.t.L q=0\/(x.rs.r i).T.t.L q=N:=fun i hi=>by
  have:=f0 i hi;unfold BB.shaped at this;simp only[Bool.and_eq_true,beq_iff_eq,List.all_eq_true,List.mem_range,Bool.not_eq_true',Bool.and_eq_false_iff,bne_eq_false_iff_eq]at this;obtain⟨⟨h1,h2⟩,h3⟩:=this;refine⟨by omega,by omega,fun q hq=>?_⟩;rcases h3 q (by omega) with h4 | h4
  ·left;omega
  ·right;omega
 have m0:∀i,i<N->∀q,q<N->(x.rs.r i).T.t.L q=if x.eng.told i q=true then N else 0:=fun i hi q hq=>by
  show _=if decide ((x.rs.r i).T.t.L q≠0)=true then N else 0;rcases (d0 i hi).2.2 q hq with h1 | h1
  ·rw[h1];simp
  ·rw[h1,if_pos (by simp;omega)]
 have i0:∀i,i<N->(∀j,j<N->0<=(x.rs.r i).R j/\(x.rs.r i).R j<n.a.size)/\∀q,q<N->∀j,j<(x.rs.r i).T.t.L q->0<=(x.rs.r i).T.t.Z q j/\(x.rs.r i).T.t.Z q j<n.a.size:=fun i hi=>by
  have:=g0 i hi;unfold BB.sound at this;simp only[Bool.and_eq_true,List.all_eq_true,List.mem_range,sD]at this;obtain⟨h1,h2⟩:=this;obtain⟨h3,h4,_⟩:=d0 i hi;exact⟨fun j hj=>h1 j (by omega),fun q hq=>h2 q (by omega)⟩
 unfold TC.err at h;split at h
 ·exact absurd h (by decide)
 next hb1 =>
 split at h
 ·exact absurd h (by decide)
 next hb2 =>
 split at h
 ·exact absurd h (by decide)
 next hb3 =>
 have o0:x.bag.bn<=120:=by omega
 refine⟨j0,q0,fun i hi=>(d0 i hi).1,fun i hi=>(d0 i hi).2.1,m0,o0,⟨fun i j hi hj=>?_,fun i k j hi hk hj ht=>?_,?_,fun m hm=>?_⟩⟩
 ·rw[k0]at hi hj;exact(i0 i hi).1 j hj
 ·rw[k0]at hi hk hj;refine(i0 i hi).2 k hk j ?_;rw[m0 i hi k hk,if_pos ht];exact hj
 ·show ((List.range x.bag.bn).map x.bag.M).length<=120;simpa using o0
 ·have p0:m∈(List.range x.bag.bn).map x.bag.M:=hm;simp only[List.mem_map,List.mem_range]at p0;obtain⟨i,hi,rfl⟩:=p0;have h2:¬ ((List.range x.bag.bn).any fun i=>!(decide (0<=(x.bag.M i).F) && decide ((x.bag.M i).F<n.nodes)) || !(decide (0<=(x.bag.M i).T) && decide ((x.bag.M i).T<n.nodes)))=true:=hb2;have h3:¬ ((List.range x.bag.bn).any fun i=>decide (60<(x.bag.M i).b.length))=true:=hb3;have k2:(!(decide (0<=(x.bag.M i).F) && decide ((x.bag.M i).F<n.nodes)) || !(decide (0<=(x.bag.M i).T) && decide ((x.bag.M i).T<n.nodes)))=false:=by
   cases hc:(!(decide (0<=(x.bag.M i).F) && decide ((x.bag.M i).F<n.nodes)) || !(decide (0<=(x.bag.M i).T) && decide ((x.bag.M i).T<n.nodes))) with
   | false=>rfl
   | true=>exact absurd (List.any_eq_true.2 ⟨i,by simpa using hi,hc⟩) h2
  have k3:decide (60<(x.bag.M i).b.length)=false:=by
   cases hc:decide (60<(x.bag.M i).b.length) with
   | false=>rfl
   | true=>exact absurd (List.any_eq_true.2 ⟨i,by simpa using hi,hc⟩) h3
  simp at k2 k3;exact⟨k2.1,k2.2,by omega⟩
theorem iA.of_right {x:iA}{n:Net}{N:Nat}(h:x.Right n N)(hN:n.nodes=(N:Int)):x.err n=0:=by
 have g:=Net.good_of_check h.check;have f0:n.N=N:=by unfold Net.N;omega
 have h1:x.rs.err n=0:=by
  unfold kC.err;rw[if_neg,if_neg]
  ·intro hh;obtain⟨i,hi,hf⟩:=List.any_eq_true.1 hh;have d0:i<N:=by have:=List.mem_range.1 hi;rw[h.gn]at this;exact this
   have:(x.rs.r i).sound n.a.size=true:=by
    unfold BB.sound;simp only[Bool.and_eq_true,List.all_eq_true,List.mem_range,sD];rw[h.rl i d0,h.tl i d0];refine⟨fun j hj=>h.fit.R i j (by omega) (by omega),fun q hq j hj=>?_⟩;rw[h.ll i d0 q hq]at hj;split at hj
    ·next ht=>exact h.fit.D i q j (by omega) (by omega) (by omega) ht
    ·exact absurd hj nZ
   rw[this]at hf;cases hf
  ·intro hh;rcases hh with hh | hh
   ·rw[h.gn]at hh;omega
   ·obtain⟨i,hi,hf⟩:=List.any_eq_true.1 hh;have d0:i<N:=by have:=List.mem_range.1 hi;rw[h.gn]at this;exact this
    have:(x.rs.r i).shaped n.nodes=true:=by
     unfold BB.shaped;simp only[Bool.and_eq_true,beq_iff_eq,List.all_eq_true,List.mem_range,Bool.not_eq_true',Bool.and_eq_false_iff,bne_eq_false_iff_eq];rw[h.rl i d0,h.tl i d0];refine⟨⟨by omega,by omega⟩,fun q hq=>?_⟩;rw[h.ll i d0 q hq];split
     ·right;omega
     ·left;rfl
    rw[this]at hf;cases hf
 have h2:x.bag.err n=0:=by
  have hm:∀i,i<x.bag.bn->(0<=(x.bag.M i).F/\(x.bag.M i).F<n.nodes)/\(0<=(x.bag.M i).T/\(x.bag.M i).T<n.nodes)/\(x.bag.M i).b.length<=60:=fun i hi=>h.fit.mail _ (List.mem_map.2 ⟨i,List.mem_range.2 hi,rfl⟩);unfold TC.err;rw[if_neg (by have:=h.bn;omega),if_neg,if_neg]
  ·intro hh;obtain⟨i,hi,hf⟩:=List.any_eq_true.1 hh;have:=hm i (List.mem_range.1 hi);simp at hf;omega
  ·intro hh;obtain⟨i,hi,hf⟩:=List.any_eq_true.1 hh;have:=hm i (List.mem_range.1 hi);simp at hf;omega
 unfold iA.err;rw[if_neg (by have:=h.check;omega),if_neg (by omega),h2]
end Go.Proofs.YtjhkadffaephmacGreat

namespace Go.Proofs.YtjhkadffaephmacGreat
set_option maxHeartbeats 16000000
set_option maxRecDepth 100000
open Go
section
variable {P:Program} {ops:Array Oper} {Q:Exit->Act->World->Prop} {md:Region.Mode}
structure aV (md:Region.Mode) (ops:Array Oper) (a0:Act) (L:Nat) (G:World->Prop) (E:Nat->Value->World->Prop) (G':(Nat->Value)->World->Prop) (d:Nat->Bool) (t:Nat->Value) (w:World):Prop where
 shut:Shut md ops d
 ahead:d L=false->G w/\(∀k,k<L->d k=true->E k (t k) w)/\∀k,L<=k->t k=first ops.toList a0 k
 behind:d L=true->∃t0,(∀k,k<L->t k=t0 k)/\G' t0 w
theorem II {L:Nat}{G:World->Prop}{E:Nat->Value->World->Prop}{G':(Nat->Value)->World->Prop}{a0:Act}
 (hb:WB md ops.toList 0=true) (hc:sF md ops L=true) (hz:ops.size=L+1) {oL:Oper} (hoL:ops[L]? = some oL)
 (hs:LC P md ops Q L G E a0 (ops.toList.take L) 0)
 (hL:∀ (t:Nat->Value) (w:World),G w->(∀k,k<L->E k (t k) w)->(∀k,L<=k->t k=first ops.toList a0 k)->∀K:Act->World->Prop,(∀v w',G' t w'->K ((fill ops.toList 0 t a0).put oL.dst v) w') ->
  if Region.wanted oL (yielded ops (fill ops.toList 0 t a0).tmps)=true then Oper.wp P oL (fill ops.toList 0 t a0) w K Q else K ((fill ops.toList 0 t a0).put oL.dst undef) w) :
 ∀ (os:List Oper) (i:Nat),(∀j o,os[j]? = some o->ops[i+j]? = some o)->UF P md ops Q (aV md ops a0 L G E G') a0 os i
 | [],_,_=>trivial
 | o :: os,i,hos=>by
  refine⟨?_,II hb hc hz hoL hs hL os (i+1) (fun j o' hj=>by rw[show i+1+j=i+(j+1) by omega];exact hos (j+1) o' (by simpa using hj))⟩;have ho:ops[i]? = some o:=by simpa using hos 0 o rfl
  have k0:i<L+1:=by rw[<-hz];exact(Array.getElem?_eq_some_iff.1 ho).1
  intro d t w hI hd hp K hK;have f0:=hI.shut.upd ho hp;rcases Nat.lt_or_ge i L with hlt | hge
  ·have g0:d L=false:=by
    cases e:d L with
    | false=>rfl
    | true =>
     have:=ND hc hI.shut hoL (hI.shut L oL hoL e) i hlt;rw[hd]at this;cases this
   obtain⟨hG,hE,hT⟩:=hI.ahead g0;have h0:=LC.at (ops.toList.take L) 0 i o hs (by rw[List.getElem?_take,if_pos hlt];simpa using ho) t w hG (fun j hj=>by
    have i0:=hp j hj;refine hE j ?_ i0;have m0:j<i:=by
     simp only[waits,List.mem_map,List.mem_filter]at hj;obtain⟨e,⟨he,j0⟩,rfl⟩:=hj;have:=BD md ops.toList 0 i o hb (by simpa using ho) e (by simpa using he) j0;omega
    omega) hT K
   refine h0 (fun v w' hG' hEi hkeep=>hK v w' ⟨f0,fun _=>⟨hG',fun k hk hdk=>?_,fun k hk=>by rw[MB t v (by omega)];exact hT k hk⟩,fun e=>?_⟩)
   ·rw[Nat.zero_add]at hEi hkeep;by_cases e:k=i
    ·subst e;rw[upd_same];exact hEi
    ·rw[MB t v e];have:d k=true:=by simpa [NA,e] using hdk
     exact hkeep k (t k) e (hE k hk this)
   ·have:d L=true:=by simpa [NA,Nat.ne_of_gt hlt] using e
    rw[g0]at this;cases this
  ·obtain rfl:i=L:=by omega
   rw[hoL]at ho;cases ho;obtain⟨hG,hE,hT⟩:=hI.ahead hd;have d0:=ND hc hI.shut hoL hp;refine hL t w hG (fun k hk=>hE k hk (d0 k hk)) hT K (fun v w' hG'=>hK v w' ⟨f0,fun e=>?_,fun _=>⟨t,fun k hk=>MB t v (by omega),hG'⟩⟩);simp[NA]at e
theorem tK {id:Nat}{a:Act}{w:World}(L:Nat)(oL:Oper)(G:World->Prop)(E:Nat->Value->World->Prop)(G':(Nat->Value)->World->Prop)(hm:P.follows .mixedOrders=true)
 (hap:uC ops.toList=true) (hb:WB .any ops.toList 0=true) (hc:sF .any ops L=true) (hz:ops.size=L+1) (hoL:ops[L]? = some oL) (hG:G w.drew)
 (hs:LC P .any ops Q L G E a (ops.toList.take L) 0)
 (hL:∀ (t:Nat->Value) (w:World),G w->(∀k,k<L->E k (t k) w)->(∀k,L<=k->t k=first ops.toList a k)->∀K:Act->World->Prop,(∀v w',G' t w'->K ((fill ops.toList 0 t a).put oL.dst v) w') ->
  if Region.wanted oL (yielded ops (fill ops.toList 0 t a).tmps)=true then Oper.wp P oL (fill ops.toList 0 t a) w K Q else K ((fill ops.toList 0 t a).put oL.dst undef) w)
 (hend:∀ (t t0:Nat->Value) (w:World),(∀k,k<L->t k=t0 k)->G' t0 w->Q .normal (fill ops.toList 0 t a) w) :
 (Code.region id ops true).wp P Q a w:=by
 have d0:L<ops.size:=(Array.getElem?_eq_some_iff.1 hoL).1;refine wp_region_any hm ?_;have f0:(fun i=>(Array.replicate ops.size false).getD i false)=fun _=>false:=by
  funext i;by_cases hi:i<ops.size
  ·simp[hi]
  ·simp[hi]
 have:=uE (md:=.any) (I:=aV .any ops a L G E G') hap hb (II hb hc hz hoL hs hL ops.toList 0 (fun j o hj=>by simpa using hj)) (fun d t w hI hall=>by
  obtain⟨t0,h1,h2⟩:=hI.behind (hall L d0);exact hend t t0 w h1 h2) ops.size (Array.replicate ops.size false) (first ops.toList a) w.drew (by simp) (by simp)
  (by rw[f0];exact⟨fun i o _ h=>by simp at h,fun _=>⟨hG,fun k _ h=>by simp at h,fun _ _=>rfl⟩,fun h=>by simp at h⟩)
 rw[lD]at this;exact this
end
end Go.Proofs.YtjhkadffaephmacGreat
