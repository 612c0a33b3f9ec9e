import Derived.Test.YtjhkadffaephmacGreatCutRestStatesCC
namespace Go.Proofs.YtjhkadffaephmacGreat
set_option maxHeartbeats 16000000
set_option maxRecDepth 100000
open Go.RowKit
structure dL (W2:World) (N:Nat) (m:Mat) (ob G:Nat) (vs:Array Value) (Tb:Nat->Nat) (k:Nat) (W:World):Prop where
 below:Below W2.heap.size W2 W
 out:Blk W ob #[.slice (some ⟨G,0,none⟩) N N,.slice none 0 0] 31
 rtrs:Blk W G vs 57
 size:vs.size=N*2
 r0:∀i,i<k->vs[i*2]? = some (.slice (m.A i) N (m.C i))
 r1:∀i,i<k->vs[i*2+1]? = some (.slice (some ⟨Tb i,0,none⟩) N N)
 tb:∀i,i<k->Blk W (Tb i) (madeCells #[.slice none 0 0] N) 32/\Tb i≠G
 lo:W2.heap.size<=G/\W2.heap.size<=ob/\G≠ob
theorem dL.keep {W2:World}{N:Nat}{m:Mat}{ob G:Nat}{vs:Array Value}{Tb:Nat->Nat}{k:Nat}{W W':World}(h:dL W2 N m ob G vs Tb k W)(hb:Below W.heap.size W W'):dL W2 N m ob G vs Tb k W' :=
 ⟨h.below.trans (hb.mono h.below.size),h.out.below hb h.out.lt,h.rtrs.below hb h.rtrs.lt,h.size,h.r0,h.r1,fun i hi=>⟨(h.tb i hi).1.below hb (h.tb i hi).1.lt,(h.tb i hi).2⟩,h.lo⟩
theorem dL.put {W2:World}{N:Nat}{m:Mat}{ob G:Nat}{vs:Array Value}{Tb:Nat->Nat}{k:Nat}{W:World}(h:dL W2 N m ob G vs Tb k W)(hk:k<N){T:Nat}(hT:Blk W T (madeCells #[.slice none 0 0] N) 32)(hTG:T≠G):
 ∃vs' Tb',dL W2 N m ob G vs' Tb' (k+1) ((W.setCell ⟨G,k*2,none⟩ (.slice (m.A k) N (m.C k))).setCell ⟨G,k*2+1,none⟩ (.slice (some ⟨T,0,none⟩) N N)):=by
 have d0:=h.size;refine⟨_,fun r=>if r=k then T else Tb r,(h.below.setCell (p:=⟨G,k*2,none⟩) h.lo.1 _).setCell (p:=⟨G,k*2+1,none⟩) h.lo.1 _,(h.out.other (Ne.symm h.lo.2.2) _ _).other (Ne.symm h.lo.2.2) _ _,(h.rtrs.set _ _).set _ _,by simpa using d0,fun i hi=>?_,fun i hi=>?_,fun i hi=>?_,h.lo⟩
 ·rw[Array.getElem?_setIfInBounds_ne (by omega)];by_cases e:i=k
  ·subst e;rw[Array.getElem?_setIfInBounds_self_of_lt (by omega)]
  ·rw[Array.getElem?_setIfInBounds_ne (by omega)];exact h.r0 i (by omega)
 ·by_cases e:i=k
  ·subst e;simp only[if_true];rw[Array.getElem?_setIfInBounds_self_of_lt (by simp;omega)]
  ·simp only[if_neg e];rw[Array.getElem?_setIfInBounds_ne (by omega),Array.getElem?_setIfInBounds_ne (by omega)];exact h.r1 i (by omega)
 ·by_cases e:i=k
  ·subst e;simp only[if_true];exact⟨(hT.other hTG _ _).other hTG _ _,hTG⟩
  ·simp only[if_neg e];obtain⟨h1,h2⟩:=h.tb i (by omega);exact⟨(h1.other h2 _ _).other h2 _ _,h2⟩
theorem WT {N:Nat}{n:Net}{m:Mat}{G:Nat}{vs:Array Value}{Tb:Nat->Nat}{W:World}(hrt:Blk W G vs 57)(hr0:∀i,i<N->vs[i*2]? = some (.slice (m.A i) N (m.C i)))(hr1:∀i,i<N->vs[i*2+1]? = some (.slice (some ⟨Tb i,0,none⟩) N N))(htb:∀i,i<N->Blk W (Tb i) (madeCells #[.slice none 0 0] N) 32)(hmi:m.In W.heap.size W)(ht:m.t=⟨N,fun _=>N,n.begin⟩)(hck:n.check=0)(hN:n.nodes=(N:Int))(hN6:N<=6):
 ∃x:iA,x.cells=#[.slice (some ⟨G,0,none⟩) N N,.slice none 0 0]/\x.In W.heap.size W/\x.err n=0/\x.eng=⟨n.begin,fun _ _=>false,fun _ _ _=>0,[]⟩:=by
 have:=Net.good_of_check hck;have:n.N=N:=by unfold Net.N;omega
 have:m.t.len=N:=by rw[ht]
 have hL:∀r,m.t.L r=N:=fun r=>by rw[ht]
 have hZ:m.t.Z=n.begin:=by rw[ht]
 obtain⟨x,hx⟩:∃x:iA,x=⟨⟨some ⟨G,0,none⟩,N,N,G,0,fun i=>⟨m.A i,N,m.C i,m.RB i,m.RO i,n.begin i,⟨some ⟨Tb i,0,none⟩,Tb i,0,N,fun _=>none,fun _=>0,fun _=>0,fun _=>0,⟨N,fun _=>0,fun _ _=>0⟩⟩⟩⟩,⟨none,0,0,0,0,fun _=>zA⟩⟩:=⟨_,rfl⟩;have d0:x.eng=⟨n.begin,fun _ _=>false,fun _ _ _=>0,[]⟩:=by rw[hx];rfl
 have i0:x.In W.heap.size W:=by
  rw[hx];refine⟨⟨fun _=>rfl,fun _=>hrt.lt,fun i hi=>?_,fun i hi=>?_,fun i hi=>?_,by show N<=_;unfold maxLen;omega⟩,⟨fun h0=>absurd h0 (Nat.lt_irrefl _),fun h0=>absurd h0 (Nat.lt_irrefl _),fun i hi=>absurd hi nZ,fun i hi=>absurd hi nZ,fun i hi=>absurd hi nZ,zL,fun i hi=>absurd hi nZ⟩⟩
  ·show W.cell? ⟨G,0+i*2,none⟩=_;rw[Nat.zero_add,hrt.cell];exact hr0 i hi
  ·show W.cell? ⟨G,0+i*2+1,none⟩=_;rw[Nat.zero_add,hrt.cell];exact hr1 i hi
  ·have f0:i<N:=hi;have g0:=hmi.ints (r:=i) (by omega);rw[hL i,hZ]at g0;refine⟨g0,fun h0=>(hmi.addr i (by omega) (by rw[hL i];exact h0)).2,⟨fun _=>rfl,fun _=>(htb i f0).lt,fun r hr=>?_,fun r hr h0=>absurd h0 (Nat.lt_irrefl _),fun r hr c hc=>absurd hc nZ,by show N<=_;unfold maxLen;omega,fun r hr=>zL⟩⟩;show W.cell? ⟨Tb i,0+r,none⟩=_;rw[Nat.zero_add,(htb i f0).cell];exact KJ hr
 refine⟨x,by rw[hx];rfl,i0,iA.of_right (N:=N) ⟨hck,by rw[hx],fun i hi=>by rw[hx],fun i hi=>by rw[hx],fun i hi q hq=>by rw[d0,hx];rfl,by rw[hx];exact zL,?_⟩ hN,d0⟩;rw[d0];have hb:n.State n.begin:=n.begin_state hck;exact⟨hb,fun i k j _ _ _ ht=>(absurd (show false=true from ht) (by decide)),zL,fun m hm=>absurd hm List.not_mem_nil⟩
def YP (n:Net) (w:World) (r:Ending) (w':World):Prop :=
 Below w.heap.size w w' /\
 ((n.check≠0/\r=.returned (.tuple #[YI,.int .i64 n.check])) \/
  (n.check=0/\∃m:iA,r=.returned (.tuple #[m.val,.int .i64 0])/\m.In w'.heap.size w'/\m.err n=0/\m.eng=⟨n.begin,fun _ _=>false,fun _ _ _=>0,[]⟩))
structure DT (W2:World) (N:Nat) (n:dA) (m:Mat) (b1 ob G:Nat) (vs:Array Value) (Tb:Nat->Nat) (k:Nat) (w4 W:World):Prop where
 inv:dL W2 N m ob G vs Tb k W
 net:Blk W b1 n.cells 27
 below:Below w4.heap.size w4 W
theorem DT.keep {W2:World}{N:Nat}{n:dA}{m:Mat}{b1 ob G:Nat}{vs:Array Value}{Tb:Nat->Nat}{k:Nat}{w4 W W':World}(h:DT W2 N n m b1 ob G vs Tb k w4 W)(hb:Below W.heap.size W W'):DT W2 N n m b1 ob G vs Tb k w4 W':=⟨h.inv.keep hb,h.net.below hb h.net.lt,h.below.trans (hb.mono h.below.size)⟩
def LQ (vs:List Value) (N:Nat) (a:Option Addr) (c:Nat) (w4:World) (k:Nat) (v:Value) (W:World):Prop :=
 if k=5 then ∃T:Nat,v=.agg #[.slice a N c,.slice (some ⟨T,0,none⟩) N N]/\w4.heap.size<=T/\Blk W T (madeCells #[.slice none 0 0] N) 32
 else vs[k]? = some v
theorem KQ {vs:List Value}{N:Nat}{a:Option Addr}{c:Nat}{w4:World}{k:Nat}{v:Value}{W W':World}(hb:Below W.heap.size W W')(h:LQ vs N a c w4 k v W):LQ vs N a c w4 k v W':=by
 unfold LQ at h |-;by_cases h5:k=5
 ·rw[if_pos h5]at h |-;obtain⟨T,h1,h2,h3⟩:=h;exact⟨T,h1,h2,h3.below hb h3.lt⟩
 rw[if_neg h5]at h |-;exact h
theorem qF {vs:List Value}{N:Nat}{a:Option Addr}{c:Nat}{w4:World}{k:Nat}{v u:Value}{W:World}(h:LQ vs N a c w4 k v W)(hk:k≠5)(hu:vs[k]? = some u):v=u:=by
 unfold LQ at h;rw[if_neg hk,hu]at h;exact(Option.some.inj h).symm
theorem XT (n:dA)(w:World)(h:n.In w.heap.size w):
 Calls Tryz.prog 25 #[n.val] w fun r w'=>YP n.net w r w':=by
 obtain⟨W1,i0⟩:∃W1,W1=(w.alloc (.cells n.cells 27)).alloc (.cells #[.slice none 0 0,.slice none 0 0] 31):=⟨_,rfl⟩;have y0:Below w.heap.size w W1:=by rw[i0];exact((Below.refl _ w).alloc lR _).alloc (by simp) _
 have b1:Blk W1 w.heap.size n.cells 27:=by rw[i0];exact(Blk.new w _ _).alloc _
 have b2:Blk W1 (w.heap.size+1) #[.slice none 0 0,.slice none 0 0] 31:=by rw[i0];exact Blk.new' (by simp)
 have j0:=hide (fM n W1 (h.grown y0));have F0:=hide y0;have G0:=hide b1;have v0:=hide b2;simp only[dA.val,dA.cells,Mat.val]at i0 j0 |-;rw[i0]at j0;have k1:=hide i0;clear h y0 b1 b2 i0;go_enter Tryz.func25,Tryz.ntmps25;go_wp2_with fail;go_at_call 22;refine j0.out.mono ?_;rw[<-k1.out];rintro r W2 ⟨⟨m,rfl,hm⟩,q0⟩;have c2:=v0.out.below q0 v0.out.lt;have c1:=G0.out.below q0 G0.out.lt;have z0:=hide (F0.out.trans (q0.mono F0.out.size));by_cases d0:n.net.check=0;rotate_left
 ·have s0:=c2.cell 0;have s1:=c2.cell 1;have f0:=c2.frozen 0;have f1:=c2.frozen 1;have c7:=(c2.set 0 (.slice none 0 0)).set 1 (.slice none 0 0);have e0:=c7.cell 0;have e1:=c7.cell 1;simp at s0 s1 e0 e1;have:(n.net.check == 0)=false:=by simpa using d0
  have HF:Hid (YP n.net w (.returned (.tuple #[.agg #[.slice none 0 0,.slice none 0 0],.int .i64 n.net.check])) ((W2.setCell ⟨w.heap.size+1,0,none⟩ (.slice none 0 0)).setCell ⟨w.heap.size+1,1,none⟩ (.slice none 0 0))):=hide ⟨(z0.out.setCell (p:=⟨w.heap.size+1,0,none⟩) (by show w.heap.size<=w.heap.size+1;omega) _).setCell (p:=⟨w.heap.size+1,1,none⟩) (by show w.heap.size<=w.heap.size+1;omega) _,Or.inl ⟨d0,rfl⟩⟩;generalize n.net.check=er at *;clear c2 c1 c7 q0 j0 d0 hm;go_wp2;exact bodyPost_ret (v:=.tuple #[.agg #[.slice none 0 0,.slice none 0 0],.int .i64 er]) (by simp[results,Tryz.results25,go_sem,e0,e1]) rfl HF.out
 obtain⟨N,hN⟩:∃N:Nat,n.nodes=N:=⟨n.nodes.toNat,by have:=(Net.good_of_check d0).lo;have:n.net.nodes=n.nodes:=rfl;omega⟩;obtain⟨y1,T0,U0,V0⟩:=SA d0 hN;have ht:=hm.ok d0;rw[U0]at ht;have h0:=hm.mem;have H0:=hide hm.own;obtain⟨i1,W0,X0,Y0,Z0⟩:=info_parts Tryz.infoRouter;have A0:∀u:World,(Instr.makeSlice 28 (.int .i64 (N:Int)) (.int .i64 (N:Int))).run Tryz.prog u=.ok (.slice (some ⟨u.heap.size,0,none⟩) N N) (u.alloc (.cells (madeCells #[.slice none 0 0,.slice none 0 0] (N*2)) 57)):=fun u=>by
  have h:=run_make (P:=Tryz.prog) u 28 57 i1 (.agg #[.slice none 0 0,.slice none 0 0]) Tryz.underlying28 W0 X0 .i64 .i64 (N:Int) (N:Int) (by omega) (Int.le_refl _) (by rw[Z0];omega) (by omega);simpa [Y0,Value.cells] using h
 obtain⟨mc,E0⟩:∃mc,mc=madeCells #[.slice none 0 0,.slice none 0 0] (N*2):=⟨_,rfl⟩;rw[<-E0]at A0;have k0:mc.size=N*2:=by rw[E0];exact size_madeCells _ _
 obtain⟨W3,u0⟩:∃W3,W3=(W2.alloc (.cells mc 57)).alloc (.cells #[.slice (some ⟨W2.heap.size,0,none⟩) N N,.slice none 0 0] 31):=⟨_,rfl⟩;have I0:∃vs Tb,dL W2 N m (W2.heap.size+1) W2.heap.size vs Tb 0 W3:=⟨mc,fun _=>0,by rw[u0];exact((Below.refl _ W2).alloc lR _).alloc (by simp) _,by rw[u0];exact Blk.new' (by simp),by rw[u0];exact(Blk.new W2 _ _).alloc _,k0,fun i hi=>absurd hi nZ,fun i hi=>absurd hi nZ,fun i hi=>absurd hi nZ,lR,by omega,by omega⟩;have J0:=h0.ga (by rw[ht];exact y1);have m0:m.t.len=N:=by rw[ht]
 have y3:=c1.cell 3;simp[dA.cells,hN]at y3;have K0:=hide I0;have L0:=hide c1;have B0:=hide c2;have p0:=hide h0;have Ht:=hide ht;have p1:=hide u0;have HN:=hide hN;have M0:=hide d0;have q1:=hide V0;have N0:=hide (fun (a:Option Addr) (c:Nat) W=>nJ n a N c N W hN T0);simp only[d0,J0,m0];clear c1 c2 q0 j0 hm ht h0 I0 u0 J0 m0 hN d0 V0 U0 E0 k0 W0 X0 Y0 Z0;go_wp2_with fail;rw[<-p1.out]
 go_loopw [7,8,24] (fun _ _ q wr=>∃k:Nat,k<=N/\q=.int .i64 k/\Hid (∃vs Tb,dL W2 N m (W2.heap.size+1) W2.heap.size vs Tb k wr)) (fun _ _ q _=>N-(intOf q).toNat)
 case atStart=>exact⟨0,zL,rfl,K0⟩
 case round =>
  obtain⟨k,hk,rfl,HI⟩:=hrel;obtain⟨vs,Tb,hC⟩:=HI.out;clear HI K0;by_cases j1:k<N
  ·have:(k:Int)<(N:Int):=by omega
   have hI:=p0.out.below hC.below lR;have C0:=hI.row k (by rw[Ht.out];exact j1);have O0:m.t.L k=N:=by rw[Ht.out]
   rw[O0]at C0;have P0:Hid (DT W2 N n m w.heap.size (W2.heap.size+1) W2.heap.size vs Tb k wr wr):=hide ⟨hC,L0.out.below hC.below L0.out.lt,Below.refl _ _⟩;have Q0:=hide (N0.out (m.A k) (m.C k));simp only[dA.val,dA.cells,Mat.val,HN.out]at Q0;clear hI hC O0 N0;go_wp2_with fail;refine KA 7 _ (DT W2 N n m w.heap.size (W2.heap.size+1) W2.heap.size vs Tb k wr) (LQ [.pointer (some ⟨W2.heap.size+1,0,none⟩),.slice (some ⟨W2.heap.size,0,none⟩) N N,.int .i64 (k:Int),n.val,.slice (m.A k) N (m.C k),undef,.pointer (some ⟨W2.heap.size,k*2,none⟩)] N (m.A k) (m.C k) wr) (fun _ W=>∃vs Tb,dL W2 N m (W2.heap.size+1) W2.heap.size vs Tb (k+1) W) (fun _ _ _=>True) (by kernel_rfl) (by kernel_rfl) (by kernel_rfl) (by kernel_rfl) (by kernel_rfl) rfl (P0.out.keep ⟨rfl,rfl,rfl,lR,fun _ _=>rfl⟩) ⟨?_,?_,?_,?_,?_,?_,?_,trivial⟩ ?_ trivial ?_;rotate_right
   ·intro t W hG _;have w0:=hide hG;clear hG;simp only[fill,Act.put,sX,sY,sU];go_wp2;go_roundw
    case rel =>
     first
     | exact⟨k+1,by omega,by go_num,w0⟩
     | ((repeat apply Exists.intro);refine⟨?_,rfl⟩;exact⟨k+1,by omega,by go_num,w0⟩)
    case measure=>simp[intOf];omega
   rotate_right
   ·intro t W hG hE _ K hK;have e6:=qF (hE 6 (by omega)) (by decide) rfl;have h5:∃T:Nat,t 5=.agg #[.slice (m.A k) N (m.C k),.slice (some ⟨T,0,none⟩) N N]/\wr.heap.size<=T/\Blk W T (madeCells #[.slice none 0 0] N) 32:=hE 5 (by omega);simp only[fill,Act.put,sX,sY,sU,e6]at hK |-;rw[if_pos (by rfl)];obtain⟨T,e5,hT,d1⟩:=h5;have:=P0.out.inv.rtrs.lt;have w0:=hide (hG.inv.put j1 d1 (by omega));have:=hG.inv.size;have g0:=hG.inv.rtrs.cell (k*2);have g1:=hG.inv.rtrs.cell (k*2+1);rw[Array.getElem?_eq_getElem (by omega)]at g0 g1;have:=hG.inv.rtrs.frozen (k*2);have:=hG.inv.rtrs.frozen (k*2+1);simp only[e5]at hK |-;clear d1 e5 e6 hE;go_simp;exact hK undef _ w0.out
   all_goals intro t W hG hp ht K hK
   all_goals clear ht
   all_goals simp only[fill,Act.put,sX,sY,sU]at hK |-
   ·rw[if_pos (by rfl)];go_simp;exact hK _ _ hG rfl (fun _ _ _ h=>h)
   ·have e0:=qF (hp 0 (by decide)) (by decide) rfl;have o0:=hG.inv.out.cell 0;simp at o0;simp only[e0]at hK |-;rw[if_pos (by rfl)];go_simp;exact hK _ _ hG rfl (fun _ _ _ h=>h)
   ·rw[if_pos (by rfl)];go_simp;exact hK _ _ hG rfl (fun _ _ _ h=>h)
   ·have x0:=hG.net.cell 0;have x1:=hG.net.cell 1;have x2:=hG.net.cell 2;have x3:=hG.net.cell 3;have x4:=hG.net.cell 4;simp[dA.cells,Mat.val]at x0 x1 x2 x3 x4;rw[if_pos (by rfl)];go_simp;exact hK _ _ hG rfl (fun _ _ _ h=>h)
   ·rw[if_pos (by rfl)];go_simp;exact hK _ _ hG rfl (fun _ _ _ h=>h)
   ·have e3:=qF (hp 3 (by decide)) (by decide) rfl;have e4:=qF (hp 4 (by decide)) (by decide) rfl;simp only[dA.val,dA.cells,Mat.val,HN.out]at e3;simp only[e3,e4]at hK |-;rw[if_pos (by rfl)];go_simp;go_at_call 63;refine(Q0.out W).mono ?_;rintro r W' ⟨⟨T,rfl,h1,h2⟩,hb⟩;go_simp;exact hK _ W' (hG.keep hb) ⟨T,rfl,by have:=hG.below.size;omega,h2⟩ (fun _ _ _ h=>KQ hb h)
   ·have e1:=qF (hp 1 (by decide)) (by decide) rfl;have e2:=qF (hp 2 (by decide)) (by decide) rfl;simp only[e1,e2]at hK |-;rw[if_pos (by rfl)];go_simp;exact hK _ _ hG rfl (fun _ _ _ h=>h)
  ·have t1:k=N:=by omega
   subst t1;have c2:=B0.out.below hC.below B0.out.lt;have o0:=hC.out.cell 0;have o1:=hC.out.cell 1;have s0:=c2.cell 0;have s1:=c2.cell 1;have f0:=c2.frozen 0;have f1:=c2.frozen 1;have c7:=(c2.set 0 (.slice (some ⟨W2.heap.size,0,none⟩) k k)).set 1 (.slice none 0 0);have e0:=c7.cell 0;have e1:=c7.cell 1;simp at o0 o1 s0 s1 e0 e1;have D0:=B0.out.lt;have u1:Hid (YP n.net w (.returned (.tuple #[.agg #[.slice (some ⟨W2.heap.size,0,none⟩) k k,.slice none 0 0],.int .i64 0])) ((wr.setCell ⟨w.heap.size+1,0,none⟩ (.slice (some ⟨W2.heap.size,0,none⟩) k k)).setCell ⟨w.heap.size+1,1,none⟩ (.slice none 0 0))):=hide (by
    have v1:=((z0.out.trans (hC.below.mono z0.out.size)).setCell (p:=⟨w.heap.size+1,0,none⟩) (by show w.heap.size<=w.heap.size+1;omega) (.slice (some ⟨W2.heap.size,0,none⟩) k k)).setCell (p:=⟨w.heap.size+1,1,none⟩) (by show w.heap.size<=w.heap.size+1;omega) (.slice none 0 0);have R0:W2.heap.size≠w.heap.size+1:=by omega
    have S0:∀i,i<k->Tb i≠w.heap.size+1:=fun i hi=>eB (hC.tb i hi).1 c2 (by decide);have w1:=(((p0.out.below hC.below lR).mono hC.below.size).other (i:=0) H0.out v0.out.lt (.slice (some ⟨W2.heap.size,0,none⟩) k k)).other (i:=1) H0.out v0.out.lt (.slice none 0 0);obtain⟨x,z1,A1,B1,C1⟩:=WT ((hC.rtrs.other R0 0 (.slice (some ⟨W2.heap.size,0,none⟩) k k)).other R0 1 (.slice none 0 0)) hC.r0 hC.r1 (fun i hi=>((hC.tb i hi).1.other (S0 i hi) _ _).other (S0 i hi) _ _) (by simpa using w1) Ht.out M0.out q1.out T0;exact⟨v1,Or.inr ⟨M0.out,x,by rw[iA.val,z1],A1,B1,C1⟩⟩)
   clear hC c2 c7 D0;go_wp2;exact bodyPost_ret (v:=.tuple #[.agg #[.slice (some ⟨W2.heap.size,0,none⟩) k k,.slice none 0 0],.int .i64 0]) (by simp[results,Tryz.results25,go_sem,e0,e1]) rfl u1.out
end Go.Proofs.YtjhkadffaephmacGreat

namespace Go.Proofs.YtjhkadffaephmacGreat
set_option maxHeartbeats 16000000
set_option maxRecDepth 100000
def iF (n:Net):Eng:=⟨n.begin,fun _ _=>false,fun _ _ _=>0,[]⟩
def SG:Ev:=⟨1,1,0,0,0,fun _=>0⟩
def KF:Ev:=⟨2,0,0,0,0,fun _=>0⟩
theorem uU:(iF AA).stepErr AA SG=0:=by kernel_rfl
theorem rU:((iF AA).step AA SG).stepErr AA KF=0:=by kernel_rfl
theorem vU:(((iF AA).step AA SG).step AA KF).bag=[]:=by kernel_rfl
theorem OU:(((iF AA).step AA SG).step AA KF).R 0 0=0:=by kernel_rfl
theorem NU:(((iF AA).step AA SG).step AA KF).R 0 1=1:=by kernel_rfl
end Go.Proofs.YtjhkadffaephmacGreat

namespace Go.Proofs.YtjhkadffaephmacGreat
set_option maxHeartbeats 16000000
set_option maxRecDepth 100000
open Go.RowKit
structure RH (m:iA) (e:Eng) (q:Nat) (W:World):Prop where
 mem:m.In W.heap.size W
 ok:m.err AA=0
 eng:m.eng=e
 off:m.Clear q
theorem RH.keep {m:iA}{e:Eng}{q:Nat}{W W':World}(h:RH m e q W)(hb:Below W.heap.size W W'):RH m e q W':=⟨h.mem.grown hb,h.ok,h.eng,h.off⟩
theorem RH.store {m:iA}{e:Eng}{q:Nat}{W:World}(h:RH m e q W)(u v:Value):RH m e q ((W.setCell ⟨q,0,none⟩ u).setCell ⟨q,1,none⟩ v):=by
 have:=(h.mem.set h.off 0 u).set h.off 1 v;exact⟨by simpa using this,h.ok,h.eng,h.off⟩
structure xM (w:World) (q:Nat) (e:Eng) (W:World):Prop where
 below:Below w.heap.size w W
 lo:w.heap.size<=q
 box:∃m:iA,Blk W q m.cells 31/\RH m e q W
theorem xM.keep {w:World}{q:Nat}{e:Eng}{W W':World}(h:xM w q e W)(hb:Below W.heap.size W W'):xM w q e W':=by
 obtain⟨m,h1,h2⟩:=h.box;exact⟨h.below.trans (hb.mono h.below.size),h.lo,m,h1.below hb h1.lt,h2.keep hb⟩
def JR (e0 e1:Eng) (q:Nat) (ev:Value) (b:Bool) (k:Nat) (v:Value) (W:World):Prop :=
 match k with
 | 0=>b=false->∃n:dA,v=n.val/\n.net=AA/\n.In W.heap.size W
 | 1=>b=false->∃m:iA,v=m.val/\RH m e0 q W
 | 2=>v=ev
 | 3=>(∃u,v=.tuple #[u,.int .i64 0])/\(b=false->∃m:iA,v=.tuple #[m.val,.int .i64 0]/\RH m e1 q W)
 | 4=>(∃u,v=.tuple #[u,.int .i64 0])/\(b=false->∃m:iA,v=.tuple #[m.val,.int .i64 0]/\RH m e1 q W)
 | 5=>b=false->∃m:iA,v=m.val/\RH m e1 q W
 | 6=>v=.int .i64 0
 | 7=>True
 | _=>v=.int .i64 0
theorem OG {e0 e1:Eng}{q:Nat}{ev:Value}{b:Bool}{k:Nat}{v:Value}{W W':World}(hb:Below W.heap.size W W')(h:JR e0 e1 q ev b k v W):JR e0 e1 q ev b k v W':=by
 match k,h with
 | 0,h=>exact fun h0=>by obtain⟨n,h1,h2,h3⟩:=h h0;exact⟨n,h1,h2,h3.grown hb⟩
 | 1,h=>exact fun h0=>by obtain⟨m,h1,h2⟩:=h h0;exact⟨m,h1,h2.keep hb⟩
 | 2,h=>exact h
 | 3,h=>exact⟨h.1,fun h0=>by obtain⟨m,h1,h2⟩:=h.2 h0;exact⟨m,h1,h2.keep hb⟩⟩
 | 4,h=>exact⟨h.1,fun h0=>by obtain⟨m,h1,h2⟩:=h.2 h0;exact⟨m,h1,h2.keep hb⟩⟩
 | 5,h=>exact fun h0=>by obtain⟨m,h1,h2⟩:=h h0;exact⟨m,h1,h2.keep hb⟩
 | 6,h=>exact h
 | 7,h=>exact trivial
 | _+8,h=>exact h
theorem fK {e0 e1:Eng}{q:Nat}{ev:Value}{k:Nat}{v:Value}{W:World}(W':World)(h:JR e0 e1 q ev false k v W):JR e0 e1 q ev true k v W':=by
 match k,h with
 | 0,h=>exact fun h0=>by cases h0
 | 1,h=>exact fun h0=>by cases h0
 | 2,h=>exact h
 | 3,h=>exact⟨h.1,fun h0=>by cases h0⟩
 | 4,h=>exact⟨h.1,fun h0=>by cases h0⟩
 | 5,h=>exact fun h0=>by cases h0
 | 6,h=>exact h
 | 7,h=>exact trivial
 | _+8,h=>exact h
def ZF:EvM:=⟨1,1,0,0,none,0,0,0,0,fun _=>0⟩
def mI:EvM:=⟨2,0,0,0,none,0,0,0,0,fun _=>0⟩
theorem DL {a b c d:Int}{N:Nat}{w:World}:(EvM.mk a b c d none 0 0 0 0 (fun _=>0)).In N w :=
 ⟨⟨fun h=>absurd h (Nat.lt_irrefl _),fun _ h=>absurd h nZ,zL⟩,fun h=>absurd h (Nat.lt_irrefl _),zL⟩
def PS (a b:Int):Nat->Int:=fun i=>if i=0 then a else b
def IR (vs:List Value) (k:Nat) (v:Value) (W:World):Prop :=
 if k=11 then ∃n:dA,v=n.val/\n.net=AA/\n.In W.heap.size W
 else if k=34 then ∃g,v=.slice (some ⟨g,0,none⟩) 2 2/\Blk W g #[.int .i64 0,.int .i64 1] 3
 else vs[k]? = some v
theorem NG {vs:List Value}{k:Nat}{v:Value}{W W':World}(hb:Below W.heap.size W W')(h:IR vs k v W):IR vs k v W':=by
 unfold IR at h |-;by_cases e1:k=11
 ·rw[if_pos e1]at h |-;obtain⟨n,h1,h2,h3⟩:=h;exact⟨n,h1,h2,h3.grown hb⟩
 rw[if_neg e1]at h |-;by_cases e2:k=34
 ·rw[if_pos e2]at h |-;obtain⟨g,h1,h2⟩:=h;exact⟨g,h1,h2.below hb h2.lt⟩
 rw[if_neg e2]at h |-;exact h
theorem rA {vs:List Value}{k:Nat}{v u:Value}{W:World}(h:IR vs k v W)(h1:k≠11)(h2:k≠34)(hu:vs[k]? = some u):v=u:=by
 unfold IR at h;rw[if_neg h1,if_neg h2,hu]at h;exact(Option.some.inj h).symm
structure QR (w:World) (q:Nat) (m:iA) (e:Eng) (W:World):Prop where
 below:Below w.heap.size w W
 blk:Blk W q m.cells 31
 mem:RH m e q W
theorem QR.keep {w:World}{q:Nat}{m:iA}{e:Eng}{W W':World}(h:QR w q m e W)(hb:Below W.heap.size W W'):QR w q m e W':=⟨h.below.trans (hb.mono h.below.size),h.blk.below hb h.blk.lt,h.mem.keep hb⟩
theorem mO {e0:Eng}{v:EvM}(he:e0.stepErr AA v.ev=0)(n:dA)(hn:n.net=AA)(x:iA)(q:Nat)(w:World)(h:n.In w.heap.size w)(hx:RH x e0 q w)(hv:v.In w.heap.size w)(hq:q<w.heap.size):
 Calls Tryz.prog 13 #[n.val,x.val,v.val] w fun r w'=>(∃m:iA,r=.returned (.tuple #[m.val,.int .i64 0])/\RH m (e0.step AA v.ev) q w')/\Below w.heap.size w w':=by
 refine(JM n x v w h hx.mem hv).mono ?_;rw[hn];rintro r w' ⟨hb,h1 | h1 | h1⟩
 ·exact absurd hx.ok h1.1
 ·exact absurd (by rw[hx.eng];exact he) h1.2.1
 ·obtain⟨_,_,m,h2,h3,h4,h5,h6,_⟩:=h1;exact⟨⟨m,h2,h3,h5,by rw[h4,hx.eng],h6.clear hq⟩,hb⟩
theorem VI (w:World):
 Calls Tryz.prog 5 #[] w fun e w'=>e=.returned (.bool true)/\Below w.heap.size w w':=by
 go_enter Tryz.func5,Tryz.ntmps5;go_wp2_with fail;go_at_call 23;refine(vF _).mono ?_;rintro e w1 ⟨⟨n1,rfl,t1,I0⟩,h0⟩;have HN:=hide (XT n1 w1 I0);rw[t1]at HN;clear I0;simp only[dA.val,dA.cells,Mat.val]at HN |-;go_wp2_with fail;go_at_call 25;refine HN.out.mono ?_;rintro e w2 ⟨J0,hA | hA⟩
 ·exact absurd kF hA.1
 obtain⟨_,m,rfl,hm,K0,L0⟩:=hA;have v0:=h0.trans (J0.mono h0.size);obtain⟨w3,u0⟩:∃w3,w3=w2.alloc (.cells m.cells 31):=⟨_,rfl⟩;have y0:Below w2.heap.size w2 w3:=by rw[u0];exact(Below.refl _ w2).alloc lR _
 obtain⟨q,hq⟩:∃q,q=w2.heap.size:=⟨_,rfl⟩;have A0:Hid (xM w q (iF AA) w3):=hide ⟨v0.trans (y0.mono v0.size),by rw[hq];exact v0.size,m,by rw[u0,hq];exact Blk.new w2 _ _,hm.grown y0,K0,L0,hm.clear (by omega)⟩;have HT:=hide uU;have HD:=hide rU;clear HN h0 J0 y0 v0 hm K0 L0;simp only[iA.val,iA.cells]at u0 |-;go_wp2_with fail;rw[<-u0,<-hq];clear u0 hq;refine WF 7 9 (fun b W=>xM w q (if b=true then (iF AA).step AA ZF.ev else (iF AA)) W) (JR (iF AA) ((iF AA).step AA ZF.ev) q (.agg #[.int .i64 1,.int .i64 1,.int .i64 0,.int .i64 0,.slice none 0 0])) (by kernel_rfl) (by kernel_rfl) (by kernel_rfl) (by decide) (A0.out.keep ⟨rfl,rfl,rfl,lR,fun _ _=>rfl⟩) ⟨?_,?_,?_,?_,?_,?_,?_,?_,?_,trivial⟩ ?_;rotate_right
 ·intro t W hG hE;have e8:t 8=.int .i64 0:=hE 8 (by decide);have B0:=hide hG;clear hE hG A0;simp only[fill,Act.put,sX,sY,sU,e8];clear e8;go_wp2_with fail;refine WF 7 9 (fun b W=>xM w q (if b=true then ((iF AA).step AA ZF.ev).step AA mI.ev else ((iF AA).step AA ZF.ev)) W) (JR ((iF AA).step AA ZF.ev) (((iF AA).step AA ZF.ev).step AA mI.ev) q (.agg #[.int .i64 2,.int .i64 0,.int .i64 0,.int .i64 0,.slice none 0 0])) (by kernel_rfl) (by kernel_rfl) (by kernel_rfl) (by decide) (B0.out.keep ⟨rfl,rfl,rfl,lR,fun _ _=>rfl⟩) ⟨?_,?_,?_,?_,?_,?_,?_,?_,?_,trivial⟩ ?_;rotate_right
  ·intro t' W' hG hE;have e8:t' 8=.int .i64 0:=hE 8 (by decide);have hG:xM w q (((iF AA).step AA SG).step AA KF) W':=hG;obtain⟨g0,_,m3,d0,s0⟩:=hG;have HL:Hid (QR w q m3 (((iF AA).step AA SG).step AA KF) W'):=hide ⟨g0,d0,s0⟩;have hR:=iA.right (N:=2) s0.ok rfl;have C0:=hR.gn;have w0:=hR.rl 0 (by decide);have D0:m3.bag.bn=0:=by
    have:=congrArg Eng.bag s0.eng;have h2:=congrArg List.length this;rw[show List.length (Eng.bag _)=0 from congrArg List.length vU]at h2;simpa [iA.eng] using h2
   have x0:Hid (XA 2 2 (m3.rs.r 0).R (PS 0 1)=true):=hide (by
    have h2:(m3.rs.r 0).R=(((iF AA).step AA SG).step AA KF).R 0:=by
     have:=congrArg Eng.R s0.eng;exact congrFun this 0
    rw[h2];refine WC.2 ⟨rfl,fun i hi=>?_⟩
    match i,hi with
    | 0,_=>exact OU
    | 1,_=>exact NU)
   have E0:=hide (fun (n:dA) (hn:n.net=AA) (W:World) (hI:n.In W.heap.size W) (hL:QR w q m3 (((iF AA).step AA SG).step AA KF) W)=>(hn ▸ TF n m3 W hI hL.mem.mem:Calls Tryz.prog 26 #[n.val,m3.val] W fun e w'=>e=.returned (.int .i64 (m3.err AA))/\Below W.heap.size W w'));rw[s0.ok]at E0;obtain⟨⟨ga,gn,gc,gb,go,rr⟩,⟨ba,bn,bc,bb,bo,M⟩⟩:=m3;simp only at C0 w0 D0 x0;subst C0 D0;obtain⟨r0,z0⟩:∃r0,r0=rr 0:=⟨_,rfl⟩;have Hr:=hide z0;rw[<-z0]at w0 x0;obtain⟨ra,rl,rc,rb,ro,R,T⟩:=r0;simp only at w0 x0;subst w0;have F0:Hid (ga=some ⟨gb,go,none⟩):=hide (s0.mem.rs.ga (show 0<2 by decide));clear hE s0 d0 g0 hR z0 B0 HT HD;simp only[fill,Act.put,sX,sY,sU,e8];clear e8;go_wp2_with fail;refine EA (fun W=>QR w q ⟨⟨ga,2,gc,gb,go,rr⟩,⟨ba,0,bc,bb,bo,M⟩⟩ (((iF AA).step AA SG).step AA KF) W) (IR [.int .i64 0,.bool true,.bool true,.int .i64 0,.bool true,.bool true,.bool true,.int .i64 0,.bool true,.bool true,.bool true,undef,.agg #[.slice ga 2 gc,.slice ba 0 bc],.int .i64 0,.bool true,.bool true,.bool true,.pointer (some ⟨q,1,none⟩),.slice ba 0 bc,.int .i64 0,.bool true,.bool true,.bool true,.pointer (some ⟨q,0,none⟩),.slice (some ⟨gb,go,none⟩) 2 gc,.int .i64 2,.bool true,.bool true,.bool true,.pointer (some ⟨q,0,none⟩),.slice (some ⟨gb,go,none⟩) 2 gc,.pointer (some ⟨gb,go,none⟩),.pointer (some ⟨gb,go,none⟩),.slice ra 2 rc,undef,.bool true,.bool true,.bool true]) (by kernel_rfl) (by kernel_rfl) (by kernel_rfl) (HL.out.keep ⟨rfl,rfl,rfl,lR,fun _ _=>rfl⟩) ⟨?_,?_,?_,?_,?_,?_,?_,?_,?_,?_,?_,?_,?_,?_,?_,?_,?_,?_,?_,?_,?_,?_,?_,?_,?_,?_,?_,?_,?_,?_,?_,?_,?_,?_,?_,?_,?_,?_,trivial⟩ ?_;rotate_right
   ·intro t W hG hE;have G0:=rA (hE 37 (by decide)) (by decide) (by decide) rfl;have N0:=hide hG;clear hE hG;simp only[fill,Act.put,sX,sY,sU,G0];clear G0;go_wp2;go_ret;exact⟨rfl,N0.out.below⟩
   all_goals intro t W hG hp K hK
   all_goals simp only[fill,Act.put,sX,sY,sU]at hK |-
   ·rw[if_pos (by rfl)];go_simp;exact hK _ _ hG rfl (fun _ _ _ h=>h)
   ·have e0:=rA (hp 0 (by decide)) (by decide) (by decide) rfl;simp only[e0]at hK |-;rw[if_pos (by rfl)];go_simp;exact hK _ _ hG rfl (fun _ _ _ h=>h)
   ·have e1:=rA (hp 1 (by decide)) (by decide) (by decide) rfl;simp only[e1]at hK |-;rw[if_pos (by rfl)];go_simp;exact hK _ _ hG rfl (fun _ _ _ h=>h)
   ·have e2:=rA (hp 2 (by decide)) (by decide) (by decide) rfl;simp only[e2]at hK |-;rw[if_pos (by rfl)];go_simp;exact hK _ _ hG rfl (fun _ _ _ h=>h)
   ·have e2:=rA (hp 2 (by decide)) (by decide) (by decide) rfl;have e3:=rA (hp 3 (by decide)) (by decide) (by decide) rfl;simp only[e2,e3]at hK |-;rw[if_pos (by rfl)];go_simp;exact hK _ _ hG rfl (fun _ _ _ h=>h)
   ·have e2:=rA (hp 2 (by decide)) (by decide) (by decide) rfl;have e4:=rA (hp 4 (by decide)) (by decide) (by decide) rfl;simp only[e2,e4]at hK |-;rw[if_pos (by rfl)];go_simp;exact hK _ _ hG rfl (fun _ _ _ h=>h)
   ·have e5:=rA (hp 5 (by decide)) (by decide) (by decide) rfl;simp only[e5]at hK |-;rw[if_pos (by rfl)];go_simp;exact hK _ _ hG rfl (fun _ _ _ h=>h)
   ·have e6:=rA (hp 6 (by decide)) (by decide) (by decide) rfl;simp only[e6]at hK |-;rw[if_pos (by rfl)];go_simp;exact hK _ _ hG rfl (fun _ _ _ h=>h)
   ·have e6:=rA (hp 6 (by decide)) (by decide) (by decide) rfl;have e7:=rA (hp 7 (by decide)) (by decide) (by decide) rfl;simp only[e6,e7]at hK |-;rw[if_pos (by rfl)];go_simp;exact hK _ _ hG rfl (fun _ _ _ h=>h)
   ·have e6:=rA (hp 6 (by decide)) (by decide) (by decide) rfl;have e8:=rA (hp 8 (by decide)) (by decide) (by decide) rfl;simp only[e6,e8]at hK |-;rw[if_pos (by rfl)];go_simp;exact hK _ _ hG rfl (fun _ _ _ h=>h)
   ·have e9:=rA (hp 9 (by decide)) (by decide) (by decide) rfl;simp only[e9]at hK |-;rw[if_pos (by rfl)];go_simp;exact hK _ _ hG rfl (fun _ _ _ h=>h)
   ·have m0:=rA (hp 10 (by decide)) (by decide) (by decide) rfl;simp only[m0]at hK |-;rw[if_pos (by rfl)];go_simp;go_at_call 23;refine(vF _).mono ?_;rintro e W1 ⟨⟨n,rfl,hn,hI⟩,h0⟩;simp only[dA.val,dA.cells,Mat.val];go_simp;exact hK _ _ (hG.keep h0) ⟨n,rfl,hn,hI⟩ (fun j u _ h=>NG h0 h)
   ·have m0:=rA (hp 10 (by decide)) (by decide) (by decide) rfl;have cq:=hG.blk.cell 0;have cr:=hG.blk.cell 1;simp[iA.cells]at cq cr;simp only[m0]at hK |-;rw[if_pos (by rfl)];go_simp;exact hK _ _ hG rfl (fun _ _ _ h=>h)
   ·have m0:=rA (hp 10 (by decide)) (by decide) (by decide) rfl;have O0:=rA (hp 12 (by decide)) (by decide) (by decide) rfl;obtain⟨n,M0,hn,hI⟩:=(show ∃n:dA,t 11=n.val/\n.net=AA/\n.In W.heap.size W from hp 11 (by decide));have HC:=hide (E0.out n hn W hI hG);simp only[dA.val,dA.cells,Mat.val,iA.val,iA.cells]at HC M0;simp only[M0]at hK |-;simp only[m0,O0]at hK |-;rw[if_pos (by rfl)];go_simp;go_at_call 26;refine HC.out.mono ?_;rintro r W1 ⟨rfl,h0⟩;go_simp;exact hK _ _ (hG.keep h0) rfl (fun j u _ h=>NG h0 h)
   ·have m0:=rA (hp 10 (by decide)) (by decide) (by decide) rfl;have P0:=rA (hp 13 (by decide)) (by decide) (by decide) rfl;simp only[m0,P0]at hK |-;rw[if_pos (by rfl)];go_simp;exact hK _ _ hG rfl (fun _ _ _ h=>h)
   ·have m0:=rA (hp 10 (by decide)) (by decide) (by decide) rfl;have Q0:=rA (hp 14 (by decide)) (by decide) (by decide) rfl;simp only[m0,Q0]at hK |-;rw[if_pos (by rfl)];go_simp;exact hK _ _ hG rfl (fun _ _ _ h=>h)
   ·have R0:=rA (hp 15 (by decide)) (by decide) (by decide) rfl;simp only[R0]at hK |-;rw[if_pos (by rfl)];go_simp;exact hK _ _ hG rfl (fun _ _ _ h=>h)
   ·have o0:=rA (hp 16 (by decide)) (by decide) (by decide) rfl;simp only[o0]at hK |-;rw[if_pos (by rfl)];go_simp;exact hK _ _ hG rfl (fun _ _ _ h=>h)
   ·have o0:=rA (hp 16 (by decide)) (by decide) (by decide) rfl;have S0:=rA (hp 17 (by decide)) (by decide) (by decide) rfl;have cq:=hG.blk.cell 1;simp[iA.cells]at cq;simp only[o0,S0]at hK |-;rw[if_pos (by rfl)];go_simp;exact hK _ _ hG rfl (fun _ _ _ h=>h)
   ·have o0:=rA (hp 16 (by decide)) (by decide) (by decide) rfl;have T0:=rA (hp 18 (by decide)) (by decide) (by decide) rfl;simp only[o0,T0]at hK |-;rw[if_pos (by rfl)];go_simp;exact hK _ _ hG rfl (fun _ _ _ h=>h)
   ·have o0:=rA (hp 16 (by decide)) (by decide) (by decide) rfl;have U0:=rA (hp 19 (by decide)) (by decide) (by decide) rfl;simp only[o0,U0]at hK |-;rw[if_pos (by rfl)];go_simp;exact hK _ _ hG rfl (fun _ _ _ h=>h)
   ·have o0:=rA (hp 16 (by decide)) (by decide) (by decide) rfl;have V0:=rA (hp 20 (by decide)) (by decide) (by decide) rfl;simp only[o0,V0]at hK |-;rw[if_pos (by rfl)];go_simp;exact hK _ _ hG rfl (fun _ _ _ h=>h)
   ·have W0:=rA (hp 21 (by decide)) (by decide) (by decide) rfl;simp only[W0]at hK |-;rw[if_pos (by rfl)];go_simp;exact hK _ _ hG rfl (fun _ _ _ h=>h)
   ·have p0:=rA (hp 22 (by decide)) (by decide) (by decide) rfl;simp only[p0]at hK |-;rw[if_pos (by rfl)];go_simp;exact hK _ _ hG rfl (fun _ _ _ h=>h)
   ·have p0:=rA (hp 22 (by decide)) (by decide) (by decide) rfl;have X0:=rA (hp 23 (by decide)) (by decide) (by decide) rfl;have cq:=hG.blk.cell 0;simp[iA.cells]at cq;rw[F0.out]at cq;simp only[p0,X0]at hK |-;rw[if_pos (by rfl)];go_simp;exact hK _ _ hG rfl (fun _ _ _ h=>h)
   ·have p0:=rA (hp 22 (by decide)) (by decide) (by decide) rfl;have Y0:=rA (hp 24 (by decide)) (by decide) (by decide) rfl;simp only[p0,Y0]at hK |-;rw[if_pos (by rfl)];go_simp;exact hK _ _ hG rfl (fun _ _ _ h=>h)
   ·have p0:=rA (hp 22 (by decide)) (by decide) (by decide) rfl;have Z0:=rA (hp 25 (by decide)) (by decide) (by decide) rfl;simp only[p0,Z0]at hK |-;rw[if_pos (by rfl)];go_simp;exact hK _ _ hG rfl (fun _ _ _ h=>h)
   ·have p0:=rA (hp 22 (by decide)) (by decide) (by decide) rfl;have d1:=rA (hp 26 (by decide)) (by decide) (by decide) rfl;simp only[p0,d1]at hK |-;rw[if_pos (by rfl)];go_simp;exact hK _ _ hG rfl (fun _ _ _ h=>h)
   ·have g1:=rA (hp 27 (by decide)) (by decide) (by decide) rfl;simp only[g1]at hK |-;rw[if_pos (by rfl)];go_simp;exact hK _ _ hG rfl (fun _ _ _ h=>h)
   ·have i0:=rA (hp 28 (by decide)) (by decide) (by decide) rfl;simp only[i0]at hK |-;rw[if_pos (by rfl)];go_simp;exact hK _ _ hG rfl (fun _ _ _ h=>h)
   ·have i0:=rA (hp 28 (by decide)) (by decide) (by decide) rfl;have i1:=rA (hp 29 (by decide)) (by decide) (by decide) rfl;have cq:=hG.blk.cell 0;simp[iA.cells]at cq;rw[F0.out]at cq;simp only[i0,i1]at hK |-;rw[if_pos (by rfl)];go_simp;exact hK _ _ hG rfl (fun _ _ _ h=>h)
   ·have i0:=rA (hp 28 (by decide)) (by decide) (by decide) rfl;have j1:=rA (hp 30 (by decide)) (by decide) (by decide) rfl;simp only[i0,j1]at hK |-;rw[if_pos (by rfl)];go_simp;exact hK _ _ hG rfl (fun _ _ _ h=>h)
   ·have i0:=rA (hp 28 (by decide)) (by decide) (by decide) rfl;have k1:=rA (hp 31 (by decide)) (by decide) (by decide) rfl;simp only[i0,k1]at hK |-;rw[if_pos (by rfl)];go_simp;exact hK _ _ hG rfl (fun _ _ _ h=>h)
   ·have i0:=rA (hp 28 (by decide)) (by decide) (by decide) rfl;have o1:=rA (hp 32 (by decide)) (by decide) (by decide) rfl;have cz:=hG.mem.mem.rs.c0 0 (show 0<2 by decide);simp only[<-Hr.out,Nat.zero_mul,Nat.add_zero]at cz;simp only[i0,o1]at hK |-;rw[if_pos (by rfl)];go_simp;exact hK _ _ hG rfl (fun _ _ _ h=>h)
   ·have i0:=rA (hp 28 (by decide)) (by decide) (by decide) rfl;simp only[i0]at hK |-;rw[if_pos (by rfl)];go_simp;refine hK _ _ (hG.keep ((Below.refl _ W).alloc lR _)) ⟨W.heap.size,rfl,Blk.new W _ _⟩ (fun j u _ h=>NG ((Below.refl _ W).alloc lR _) h)
   ·have i0:=rA (hp 28 (by decide)) (by decide) (by decide) rfl;have p1:=rA (hp 33 (by decide)) (by decide) (by decide) rfl;obtain⟨g,u1,hg⟩:=(show ∃g,t 34=.slice (some ⟨g,0,none⟩) 2 2/\Blk W g #[.int .i64 0,.int .i64 1] 3 from hp 34 (by decide));have H0:=(hG.mem.mem.rs.r 0 (show 0<2 by decide)).ints;simp only[<-Hr.out]at H0;have HC:=hide (yF ra (some ⟨g,0,none⟩) 2 2 rc 2 rb ro g 0 R (PS 0 1) W H0 ⟨fun _=>rfl,fun i hi=>by match i,hi with | 0,_=>exact hg.cell 0 | 1,_=>exact hg.cell 1,by unfold maxLen;omega⟩);rw[x0.out]at HC;simp only[u1]at hK |-;simp only[i0,p1]at hK |-;rw[if_pos (by rfl)];go_simp;go_at_call 27;refine HC.out.mono ?_;rintro r W1 ⟨rfl,z,rfl⟩;go_simp;exact hK _ _ (hG.keep (below_drewN (Below.refl _ _) z)) rfl (fun j u _ h=>NG (below_drewN (Below.refl _ _) z) h)
   ·have i0:=rA (hp 28 (by decide)) (by decide) (by decide) rfl;have q1:=rA (hp 35 (by decide)) (by decide) (by decide) rfl;simp only[i0,q1]at hK |-;rw[if_pos (by rfl)];go_simp;exact hK _ _ hG rfl (fun _ _ _ h=>h)
   ·have s1:=rA (hp 36 (by decide)) (by decide) (by decide) rfl;simp only[s1]at hK |-;rw[if_pos (by rfl)];go_simp;exact hK _ _ hG rfl (fun _ _ _ h=>h)
  all_goals first | (rw[if_neg (by decide)];intro b t W hb hG hp K hK) | (rw[if_pos rfl];intro t W hG hp K hK)
  all_goals simp only[fill,Act.put,sX,sY,sU]at hK |-
  ·rw[if_pos (by rfl)];go_simp;go_at_call 23;refine(vF _).mono ?_;rintro e W1 ⟨⟨n,rfl,hn,hI⟩,h0⟩;simp only[dA.val,dA.cells,Mat.val];go_simp;refine hK _ _ (hG.keep h0) (fun _=>⟨n,rfl,hn,hI⟩) (fun j _ h=>OG h0 h)
  ·have j0:=hb (by kernel_rfl);subst j0;obtain⟨g0,k0,m,d0,hm⟩:=hG;have c0:=d0.cell 0;have c1:=d0.cell 1;simp[iA.cells]at c0 c1;rw[if_pos (by rfl)];go_simp;exact hK m.val _ ⟨g0,k0,m,d0,hm⟩ (fun _=>⟨m,rfl,hm⟩) (fun j _ h=>h)
  ·rw[if_pos (by rfl)];go_simp;exact hK _ _ hG rfl (fun j _ h=>h)
  ·have j0:=hb (by kernel_rfl);subst j0;obtain⟨n,e0,hn,hI⟩:=hp 0 (by decide) rfl;obtain⟨m,e1,hm⟩:=hp 1 (by decide) rfl;have e2:t 2=mI.val:=hp 2 (by decide);have HC:=hide (mO (v:=mI) HD.out n hn m q W hI hm DL (by obtain⟨_,_,_,d0,_⟩:=hG;exact d0.lt));simp only[dA.val,dA.cells,Mat.val,iA.val,iA.cells,EvM.val,EvM.cells]at HC e0 e1 e2;simp only[mI]at e2 HC;simp only[e0,e1,e2]at hK |-;rw[if_pos (by rfl)];go_simp;go_at_call 13;refine HC.out.mono ?_;rintro r W1 ⟨⟨m1,rfl,q0⟩,h0⟩;go_simp;refine hK _ _ (hG.keep h0) ⟨⟨_,rfl⟩,fun _=>⟨m1,rfl,q0⟩⟩ (fun j _ h=>OG h0 h)
  ·have j0:=hb (by kernel_rfl);subst j0;obtain⟨h1,h2⟩:=hp 3 (by decide);rw[if_pos (by rfl)];go_simp;exact hK _ _ hG ⟨h1,h2⟩ (fun j _ h=>h)
  ·have j0:=hb (by kernel_rfl);subst j0;obtain⟨_,h2⟩:=hp 4 (by decide);obtain⟨m,e4,hm⟩:=h2 rfl;simp only[e4]at hK |-;rw[if_pos (by rfl)];go_simp;exact hK _ _ hG (fun _=>⟨m,rfl,hm⟩) (fun j _ h=>h)
  ·obtain⟨⟨u4,e4⟩,_⟩:=hp 4 (by decide);simp only[e4]at hK |-;rw[if_pos (by rfl)];go_simp;exact hK _ _ hG rfl (fun j _ h=>h)
  ·obtain⟨m1,e5,q0⟩:=hp 5 (by decide) rfl;obtain⟨g0,k0,m,d0,hm⟩:=hG;have c0:=d0.cell 0;have c1:=d0.cell 1;have f0:=d0.frozen 0;have f1:=d0.frozen 1;simp[iA.cells]at c0 c1;have hN:xM w q (((iF AA).step AA ZF.ev).step AA mI.ev) ((W.setCell ⟨q,0,none⟩ (.slice m1.rs.ga m1.rs.gn m1.rs.gc)).setCell ⟨q,1,none⟩ (.slice m1.bag.ba m1.bag.bn m1.bag.bc)):=⟨(g0.setCell (p:=⟨q,0,none⟩) k0 _).setCell (p:=⟨q,1,none⟩) k0 _,k0,m1,(show Blk W q #[.slice m.rs.ga m.rs.gn m.rs.gc,.slice m.bag.ba m.bag.bn m.bag.bc] 31 from d0).set2 _ _,q0.store _ _⟩;have HN:=hide hN;clear hN hm d0 g0 q0;simp only[iA.val,iA.cells]at e5;simp only[e5]at hK |-;rw[if_pos (by rfl)];go_simp;exact hK undef _ HN.out trivial (fun j _ h=>fK _ h)
  ·have e6:t 6=.int .i64 0:=hp 6 (by decide);simp only[e6]at hK |-;rw[if_pos (by rfl)];go_simp;exact hK _ _ hG rfl (fun j _ h=>h)
 all_goals first | (rw[if_neg (by decide)];intro b t W hb hG hp K hK) | (rw[if_pos rfl];intro t W hG hp K hK)
 all_goals simp only[fill,Act.put,sX,sY,sU]at hK |-
 ·rw[if_pos (by rfl)];go_simp;go_at_call 23;refine(vF _).mono ?_;rintro e W1 ⟨⟨n,rfl,hn,hI⟩,h0⟩;simp only[dA.val,dA.cells,Mat.val];go_simp;refine hK _ _ (hG.keep h0) (fun _=>⟨n,rfl,hn,hI⟩) (fun j _ h=>OG h0 h)
 ·have j0:=hb (by kernel_rfl);subst j0;obtain⟨g0,k0,m,d0,hm⟩:=hG;have c0:=d0.cell 0;have c1:=d0.cell 1;simp[iA.cells]at c0 c1;rw[if_pos (by rfl)];go_simp;exact hK m.val _ ⟨g0,k0,m,d0,hm⟩ (fun _=>⟨m,rfl,hm⟩) (fun j _ h=>h)
 ·rw[if_pos (by rfl)];go_simp;exact hK _ _ hG rfl (fun j _ h=>h)
 ·have j0:=hb (by kernel_rfl);subst j0;obtain⟨n,e0,hn,hI⟩:=hp 0 (by decide) rfl;obtain⟨m,e1,hm⟩:=hp 1 (by decide) rfl;have e2:t 2=ZF.val:=hp 2 (by decide);have HC:=hide (mO (v:=ZF) HT.out n hn m q W hI hm DL (by obtain⟨_,_,_,d0,_⟩:=hG;exact d0.lt));simp only[dA.val,dA.cells,Mat.val,iA.val,iA.cells,EvM.val,EvM.cells]at HC e0 e1 e2;simp only[ZF]at e2 HC;simp only[e0,e1,e2]at hK |-;rw[if_pos (by rfl)];go_simp;go_at_call 13;refine HC.out.mono ?_;rintro r W1 ⟨⟨m1,rfl,q0⟩,h0⟩;go_simp;refine hK _ _ (hG.keep h0) ⟨⟨_,rfl⟩,fun _=>⟨m1,rfl,q0⟩⟩ (fun j _ h=>OG h0 h)
 ·have j0:=hb (by kernel_rfl);subst j0;obtain⟨h1,h2⟩:=hp 3 (by decide);rw[if_pos (by rfl)];go_simp;exact hK _ _ hG ⟨h1,h2⟩ (fun j _ h=>h)
 ·have j0:=hb (by kernel_rfl);subst j0;obtain⟨_,h2⟩:=hp 4 (by decide);obtain⟨m,e4,hm⟩:=h2 rfl;simp only[e4]at hK |-;rw[if_pos (by rfl)];go_simp;exact hK _ _ hG (fun _=>⟨m,rfl,hm⟩) (fun j _ h=>h)
 ·obtain⟨⟨u4,e4⟩,_⟩:=hp 4 (by decide);simp only[e4]at hK |-;rw[if_pos (by rfl)];go_simp;exact hK _ _ hG rfl (fun j _ h=>h)
 ·obtain⟨m1,e5,q0⟩:=hp 5 (by decide) rfl;obtain⟨g0,k0,m,d0,hm⟩:=hG;have c0:=d0.cell 0;have c1:=d0.cell 1;have f0:=d0.frozen 0;have f1:=d0.frozen 1;simp[iA.cells]at c0 c1;have hN:xM w q ((iF AA).step AA ZF.ev) ((W.setCell ⟨q,0,none⟩ (.slice m1.rs.ga m1.rs.gn m1.rs.gc)).setCell ⟨q,1,none⟩ (.slice m1.bag.ba m1.bag.bn m1.bag.bc)):=⟨(g0.setCell (p:=⟨q,0,none⟩) k0 _).setCell (p:=⟨q,1,none⟩) k0 _,k0,m1,(show Blk W q #[.slice m.rs.ga m.rs.gn m.rs.gc,.slice m.bag.ba m.bag.bn m.bag.bc] 31 from d0).set2 _ _,q0.store _ _⟩;have HN:=hide hN;clear hN hm d0 g0 q0;simp only[iA.val,iA.cells]at e5;simp only[e5]at hK |-;rw[if_pos (by rfl)];go_simp;exact hK undef _ HN.out trivial (fun j _ h=>fK _ h)
 ·have e6:t 6=.int .i64 0:=hp 6 (by decide);simp only[e6]at hK |-;rw[if_pos (by rfl)];go_simp;exact hK _ _ hG rfl (fun j _ h=>h)
end Go.Proofs.YtjhkadffaephmacGreat
