import Derived.Test.YtjhkadffaephmacGreatCutRestStatesBF
namespace Go.Proofs.YtjhkadffaephmacGreat
set_option maxHeartbeats 16000000
set_option maxRecDepth 100000
open Go.RowKit
theorem NF.mono {lo lo' T N:Nat}{x:Mat}{vt:Array Value}{k:Nat}{W:World}(h:NF lo T N x vt k W)(hl:lo'<=lo):NF lo' T N x vt k W :=
 ⟨h.blk,h.size,fun r hr=>by
  obtain⟨a,c,b,h1,h2,h3⟩:=h.row r hr;exact⟨a,c,b,h1,h2,fun h0=>⟨Nat.le_trans hl (h3 h0).1,(h3 h0).2⟩⟩⟩
theorem Parts.setLow {mid N:Nat}{e:Eng}{y:Lay}{k:Nat}{W:World}(h:Parts mid N e y k W){q j:Nat}(v:Value)(hq:q<mid)(hg:q≠y.G):Parts mid N e y k (W.setCell ⟨q,j,none⟩ v) where
 rtrs:=h.rtrs.other (Ne.symm hg) _ _
 size:=h.size
 g:=h.g
 r0:=h.r0
 r1:=h.r1
 tolds:=fun i hi=>(h.tolds i hi).other (by have:=h.lt i hi;omega) _ _
 t0:=h.t0
 routes:=fun i hi=>⟨(h.routes i hi).1.keep (by simp),fun j' hj=>by rw[qA (by have:=(h.routes i hi).1.lo;omega)];exact(h.routes i hi).2 j' hj⟩
 rows:=fun i hi s hs ht=>⟨(h.rows i hi s hs ht).1,(h.rows i hi s hs ht).2.1.keep (by simp),fun j' hj=>by rw[qA (by have:=(h.rows i hi s hs ht).2.1.lo;omega)];exact(h.rows i hi s hs ht).2.2 j' hj⟩
 lt:=h.lt
 tt:=h.tt
 ylo:=h.ylo
 sr:=fun i hi=>(h.sr i hi).set _ _
 sd:=fun i hi q hq ht=>(h.sd i hi q hq ht).set _ _
def KT (w:World) (N:Nat) (x:iA) (r:Ending) (w':World):Prop :=
 ∃mid Bv y,r=.returned (.agg #[.slice (some ⟨y.G,0,none⟩) N y.gc,Bv])/\Parts mid N x.eng y N w'/\w'.ownsRow w.heap.size 59 3 Bv x.eng.bag.length (uA x.eng.bag)/\(∀g,Bv.ownBlock=some g->g<mid/\g≠y.G)/\w.heap.size<=y.G/\Below w.heap.size w w'
structure uI (w:World) (mid N:Nat) (x:iA) (ob:Nat) (Bv:Value) (y:Lay) (k:Nat) (W:World):Prop where
 below:Below w.heap.size w W
 box:Blk W w.heap.size x.cells 31
 res:Blk W (w.heap.size+1) #[.slice none 0 0,.slice none 0 0] 31
 out:Blk W ob #[.slice (some ⟨y.G,0,none⟩) N y.gc,Bv] 31
 bag:W.ownsRow w.heap.size 59 3 Bv x.eng.bag.length (uA x.eng.bag)
 parts:Parts mid N x.eng y k W
 lo:w.heap.size+1<y.G
 om:ob<mid/\w.heap.size+1<ob/\ob≠y.G
 bm:∀g,Bv.ownBlock=some g->g<mid/\g≠y.G/\w.heap.size+1<g/\g≠ob
 md:mid<=W.heap.size
theorem uI.keep {w:World}{mid N:Nat}{x:iA}{ob:Nat}{Bv:Value}{y:Lay}{k:Nat}{W W':World}(h:uI w mid N x ob Bv y k W)(hb:Below W.heap.size W W'):uI w mid N x ob Bv y k W' :=
 ⟨h.below.trans (hb.mono h.below.size),h.box.below hb h.box.lt,h.res.below hb h.res.lt,h.out.below hb h.out.lt,ZA h.bag hb,h.parts.below hb,h.lo,h.om,h.bm,Nat.le_trans h.md hb.size⟩
theorem uI.put {w:World}{mid N:Nat}{x:iA}{ob:Nat}{Bv:Value}{y y':Lay}{k:Nat}{W:World}(h:uI w mid N x ob Bv y k W){u v:Value}{i j:Nat}(hp:Parts mid N x.eng y' (k+1) ((W.setCell ⟨y.G,i,none⟩ u).setCell ⟨y.G,j,none⟩ v))(hG:y'.G=y.G)(hgc:y'.gc=y.gc):
 uI w mid N x ob Bv y' (k+1) ((W.setCell ⟨y.G,i,none⟩ u).setCell ⟨y.G,j,none⟩ v):=by
 have d0:Bv.ownBlock≠some y.G:=fun e1=>(h.bm _ e1).2.1 rfl;have:=h.lo;exact⟨(h.below.setCell (p:=⟨y.G,i,none⟩) (by show w.heap.size<=y.G;omega) _).setCell (p:=⟨y.G,j,none⟩) (by show w.heap.size<=y.G;omega) _,(h.box.other (by omega) _ _).other (by omega) _ _,(h.res.other (by omega) _ _).other (by omega) _ _,by rw[hG,hgc];exact(h.out.other h.om.2.2 _ _).other h.om.2.2 _ _,ownsRow_setCell_other (ownsRow_setCell_other h.bag d0 _) d0 _,hp,by rw[hG];exact h.lo,by rw[hG];exact h.om,fun g hg=>by rw[hG];exact h.bm g hg,by simpa using h.md⟩
theorem eB {W:World}{a b:Nat}{u v:Array Value}{s t:TypeId}(ha:Blk W a u s)(hb:Blk W b v t)(hst:s≠t):a≠b:=fun e=>by
 subst e;unfold Blk at ha hb;rw[ha]at hb;cases hb;exact hst rfl
theorem own_ne {W:World}{lo:Nat}{V:Value}{n:Nat}{xs:List Value}{b g:Nat}{u:Array Value}{s t:TypeId}{z:Nat}(ho:W.ownsRow lo t z V n xs)(hb:Blk W b u s)(hst:t≠s)(hg:V.ownBlock=some g):g≠b:=by
 obtain⟨_,h2⟩:=ho;rcases h2 with ⟨e0,_⟩ | ⟨g',cap,cur,e1,_,hk,_⟩
 ·rw[e0]at hg;cases hg
 ·rw[e1]at hg;have:g'=g:=by simpa [Value.ownBlock] using hg
  subst this;exact eB hk hb hst
theorem QA {W:World}{lo:Nat}{V:Value}{n:Nat}{xs:List Value}{t:TypeId}{z:Nat}(ho:W.ownsRow lo t z V n xs):∃a c,V=.slice a n c:=by
 rcases Go.Joins.ownsRow_forms ho with ⟨e0,e1⟩ | ⟨g,cap,e1⟩
 ·exact⟨none,0,by rw[e0,e1]⟩
 ·exact⟨_,_,e1⟩
def pR (vs:List Value) (N:Nat) (x:iA) (w1:World) (k:Nat) (v:Value) (W:World):Prop :=
 if k=3 then ∃g:Nat,v=.slice (some ⟨g,0,none⟩) N N/\w1.heap.size<=g/\∃vs,vs.size=N*2/\Blk W g vs 57
 else if k=6 then W.ownsRow w1.heap.size 59 3 v x.eng.bag.length (uA x.eng.bag)
 else if k=7 then ∃ (g:Nat) (Bv:Value),v=.agg #[.slice (some ⟨g,0,none⟩) N N,Bv]/\w1.heap.size<=g/\(∃vs,vs.size=N*2/\Blk W g vs 57)/\W.ownsRow w1.heap.size 59 3 Bv x.eng.bag.length (uA x.eng.bag)
 else if k=8 then ∃ob:Nat,v=.pointer (some ⟨ob,0,none⟩)/\w1.heap.size<=ob/\Blk W ob #[.slice none 0 0,.slice none 0 0] 31
 else vs[k]? = some v
theorem oI {vs:List Value}{N:Nat}{x:iA}{w1:World}{k:Nat}{v:Value}{W W':World}(hb:Below W.heap.size W W')(h:pR vs N x w1 k v W):pR vs N x w1 k v W':=by
 unfold pR at h |-;by_cases h3:k=3
 ·rw[if_pos h3]at h |-;obtain⟨g,h1,h2,u,h4,h5⟩:=h;exact⟨g,h1,h2,u,h4,h5.below hb h5.lt⟩
 rw[if_neg h3]at h |-;by_cases h6:k=6
 ·rw[if_pos h6]at h |-;exact ZA h hb
 rw[if_neg h6]at h |-;by_cases h7:k=7
 ·rw[if_pos h7]at h |-;obtain⟨g,B,h1,h2,⟨u,h4,h5⟩,h8⟩:=h;exact⟨g,B,h1,h2,⟨u,h4,h5.below hb h5.lt⟩,ZA h8 hb⟩
 rw[if_neg h7]at h |-;by_cases h8:k=8
 ·rw[if_pos h8]at h |-;obtain⟨o,h1,h2,h4⟩:=h;exact⟨o,h1,h2,h4.below hb h4.lt⟩
 rw[if_neg h8]at h |-;exact h
theorem qG {vs:List Value}{N:Nat}{x:iA}{w1:World}{k:Nat}{v u:Value}{W:World}(h:pR vs N x w1 k v W)(hk:k≠3/\k≠6/\k≠7/\k≠8)(hu:vs[k]? = some u):v=u:=by
 unfold pR at h;rw[if_neg hk.1,if_neg hk.2.1,if_neg hk.2.2.1,if_neg hk.2.2.2,hu]at h;exact(Option.some.inj h).symm
structure CG (w:World) (mid N:Nat) (x:iA) (ob:Nat) (Bv:Value) (y:Lay) (k b5:Nat) (rcs:Array Value) (w4 W:World):Prop where
 inv:uI w mid N x ob Bv y k W
 rt:Blk W b5 rcs 57
 below:Below w4.heap.size w4 W
theorem CG.keep {w:World}{mid N:Nat}{x:iA}{ob:Nat}{Bv:Value}{y:Lay}{k b5:Nat}{rcs:Array Value}{w4 W W':World}(h:CG w mid N x ob Bv y k b5 rcs w4 W)(hb:Below W.heap.size W W'):CG w mid N x ob Bv y k b5 rcs w4 W':=⟨h.inv.keep hb,h.rt.below hb h.rt.lt,h.below.trans (hb.mono h.below.size)⟩
def nR (vs:List Value) (N:Nat) (f:Nat->Int) (x:Mat) (w4:World) (k:Nat) (v:Value) (W:World):Prop :=
 if k=5 then ∃b c:Nat,v=.slice (some ⟨b,0,none⟩) N c/\yG N f w4 W b
 else if k=8 then ∃ (T:Nat) (vt:Array Value),v=.slice (some ⟨T,0,none⟩) N N/\w4.heap.size<=T/\NF w4.heap.size T N x vt N W
 else if k=9 then ∃ (b c T:Nat) (vt:Array Value),v=.agg #[.slice (some ⟨b,0,none⟩) N c,.slice (some ⟨T,0,none⟩) N N]/\yG N f w4 W b/\w4.heap.size<=T/\NF w4.heap.size T N x vt N W
 else vs[k]? = some v
theorem AL {vs:List Value}{N:Nat}{f:Nat->Int}{x:Mat}{w4:World}{k:Nat}{v:Value}{W W':World}(hb:Below W.heap.size W W')(h:nR vs N f x w4 k v W):nR vs N f x w4 k v W':=by
 unfold nR at h |-;by_cases h5:k=5
 ·rw[if_pos h5]at h |-;obtain⟨b,c,h1,h2⟩:=h;exact⟨b,c,h1,h2.keep hb⟩
 rw[if_neg h5]at h |-;by_cases h8:k=8
 ·rw[if_pos h8]at h |-;obtain⟨T,vt,h1,h2,h3⟩:=h;exact⟨T,vt,h1,h2,h3.below hb⟩
 rw[if_neg h8]at h |-;by_cases h9:k=9
 ·rw[if_pos h9]at h |-;obtain⟨b,c,T,vt,h1,h2,h3,h4⟩:=h;exact⟨b,c,T,vt,h1,h2.keep hb,h3,h4.below hb⟩
 rw[if_neg h9]at h |-;exact h
theorem XD {vs:List Value}{N:Nat}{f:Nat->Int}{x:Mat}{w4:World}{k:Nat}{v u:Value}{W:World}(h:nR vs N f x w4 k v W)(hk:k≠5/\k≠8/\k≠9)(hu:vs[k]? = some u):v=u:=by
 unfold nR at h;rw[if_neg hk.1,if_neg hk.2.1,if_neg hk.2.2,hu]at h;exact(Option.some.inj h).symm
theorem Tryz.infoRouter:(Tryz.prog.info? 57).map (fun i=>(i.zero,i.size,i.bytes))=some (some (.agg #[.slice none 0 0,.slice none 0 0]),2,48):=by kernel_rfl
theorem zP (x:iA)(N:Nat)(w:World)(h:x.In w.heap.size w)(hgn:x.rs.gn=N)(hN0:0<N)(hN6:N<=6)(hbn:x.bag.bn<=120)(hrl:∀i,i<N->(x.rs.r i).rl=N)(hTl:∀i,i<N->(x.rs.r i).T.t.len=N)(hLL:∀i,i<N->∀q,q<N->(x.rs.r i).T.t.L q=if x.eng.told i q=true then N else 0):
 Calls Tryz.prog 43 #[x.val] w fun r w'=>KT w N x r w':=by
 obtain⟨i1,E1,F1,G1,H1⟩:=info_parts Tryz.infoRouter;have H0:∀u:World,(Instr.makeSlice 28 (.int .i64 (N:Int)) (.int .i64 (N:Int))).run Tryz.prog u=.ok (.slice (some ⟨u.heap.size,0,none⟩) N N) (u.alloc (.cells (madeCells #[.slice none 0 0,.slice none 0 0] (N*2)) 57)):=fun u=>by
  have h:=run_make (P:=Tryz.prog) u 28 57 i1 (.agg #[.slice none 0 0,.slice none 0 0]) Tryz.underlying28 E1 F1 .i64 .i64 (N:Int) (N:Int) (by omega) (Int.le_refl _) (by rw[H1];omega) (by omega);simpa [G1,Value.cells] using h
 have d0:x.cells=#[.slice x.rs.ga N x.rs.gc,.slice x.bag.ba x.bag.bn x.bag.bc]:=by simp only[iA.cells,hgn]
 obtain⟨W1,F0⟩:∃W1,W1=(w.alloc (.cells x.cells 31)).alloc (.cells #[.slice none 0 0,.slice none 0 0] 31):=⟨_,rfl⟩;have I0:Below w.heap.size w W1:=by rw[F0];exact((Below.refl _ w).alloc lR _).alloc (by simp) _
 have b1:Blk W1 w.heap.size x.cells 31:=by rw[F0];exact(Blk.new w _ _).alloc _
 have b2:Blk W1 (w.heap.size+1) #[.slice none 0 0,.slice none 0 0] 31:=by rw[F0];exact Blk.new' (by simp)
 have W0:W1.heap.size=w.heap.size+1+1:=by rw[F0];simp
 have X0:=h.below I0 lR;have Y0:=hide (fun W (hb:Below W1.heap.size W1 W)=>NK x.bag W ((X0.bag.below (hb.mono I0.size) lR).mono (Nat.le_trans I0.size hb.size)) hbn);have Z0:=hide H0;have H:=hide h;have S0:=hide I0;have C0:=hide b1;have T0:=hide b2;have d1:=hide W0;have j0:=hide d0;have j1:=hide hrl;have U0:=hide hTl;have k1:=hide hLL;have p1:=hide hgn;rw[d0]at F0;rw[iA.val,d0];have t1:=hide F0;clear h X0 I0 b1 b2 W0 d0 hrl hTl hLL hgn F0 H0 E1 F1 G1 H1;go_enter Tryz.func43,Tryz.ntmps43;go_wp2_with fail;rw[<-t1.out];refine tK 9 _ (fun W=>Below W1.heap.size W1 W) (pR [.pointer (some ⟨w.heap.size,0,none⟩),.slice x.rs.ga N x.rs.gc,.int .i64 (N:Int),undef,.pointer (some ⟨w.heap.size,1,none⟩),.slice x.bag.ba x.bag.bn x.bag.bc] N x W1) (fun t W=>∃ (ob:Nat) (Bv:Value) (y:Lay),t 8=.pointer (some ⟨ob,0,none⟩)/\uI w W.heap.size N x ob Bv y 0 W/\y.gc=N) (by kernel_rfl) (by kernel_rfl) (by kernel_rfl) (by kernel_rfl) (by kernel_rfl) rfl ⟨rfl,rfl,rfl,lR,fun _ _=>rfl⟩ ⟨?_,?_,?_,?_,?_,?_,?_,?_,?_,trivial⟩ ?_ ?_;rotate_right
 ·intro t t0 W ht hG;have h8:=ht 8 (by omega);clear ht;simp only[fill,Act.put,sX,sY,sU,Nat.zero_add,Nat.reduceAdd];obtain⟨ob,Bv,y0,e8,hC,G0⟩:=hG;rw[e8]at h8;simp only[h8];clear h8 e8;have V0:=H.out.rs.ga (by rw[p1.out];exact hN0);obtain⟨mid,L0⟩:∃mid,mid=W.heap.size:=⟨_,rfl⟩;rw[<-L0]at hC;have u1:=hide (show ∃y,uI w mid N x ob Bv y 0 W/\y.gc=N from ⟨y0,hC,G0⟩);have c0:=hC.box.cell 0;simp[j0.out]at c0;rw[V0]at c0;simp only[V0];clear hC G0 L0 Y0 Z0 V0 C0 T0 S0 t1 d1;go_wp2_with fail
  go_loopw [4,5,17] (fun _ _ q wr=>∃k:Nat,k<=N/\q=.int .i64 k/\Hid (∃y,uI w mid N x ob Bv y k wr/\y.gc=N)) (fun _ _ q _=>N-(intOf q).toNat)
  case atStart=>exact⟨0,zL,rfl,u1⟩
  case round =>
   obtain⟨k,hk,rfl,HI⟩:=hrel;obtain⟨y,hC,G0⟩:=HI.out;clear HI u1;by_cases z0:k<N
   ·have T1:(k:Int)<(N:Int):=by omega
    have hI:=H.out.below hC.below lR;have O0:k<x.rs.gn:=by rw[p1.out];exact z0
    have r0:=hI.rs.c0 k O0;have r1:=hI.rs.c1 k O0;rw[j1.out k z0]at r0;rw[U0.out k z0]at r1;have P0:=hI.rs.r k O0;have k0:=P0.ints;have m0:=P0.lt;rw[j1.out k z0]at k0 m0;obtain⟨W4,R0⟩:∃W4,W4=wr.alloc (.cells #[.slice (x.rs.r k).ra N (x.rs.r k).rc,.slice (x.rs.r k).T.ga N (x.rs.r k).T.cap] 57):=⟨_,rfl⟩;have A0:Below wr.heap.size wr W4:=by rw[R0];exact(Below.refl _ wr).alloc lR _
    have b5:Blk W4 wr.heap.size #[.slice (x.rs.r k).ra N (x.rs.r k).rc,.slice (x.rs.r k).T.ga N (x.rs.r k).T.cap] 57:=by rw[R0];exact Blk.new wr _ _
    have v1:=hC.keep A0;have w1:Hid (CG w mid N x ob Bv y k wr.heap.size #[.slice (x.rs.r k).ra N (x.rs.r k).rc,.slice (x.rs.r k).T.ga N (x.rs.r k).T.cap] W4 W4):=hide ⟨v1,b5,Below.refl _ _⟩;have J1:=hide (fun Wz (hb:Below W4.heap.size W4 Wz)=>MG (x.rs.r k).ra N (x.rs.r k).rc (x.rs.r k).rb (x.rs.r k).ro (x.rs.r k).R Wz ((k0.below A0 (fun h0=>Nat.lt_of_lt_of_le (m0 h0) hC.below.size)).below hb (fun h0=>Nat.lt_of_lt_of_le (m0 h0) (Nat.le_trans hC.below.size A0.size))) hN0 (by omega) (Nat.lt_of_lt_of_le (m0 hN0) (Nat.le_trans hC.below.size (Nat.le_trans A0.size hb.size))));have y1:=hide (fun Wz (hb:Below W4.heap.size W4 Wz)=>kR (x.rs.r k).T N Wz (((P0.T.below (A0.mono hC.below.size) lR).below (hb.mono (Nat.le_trans hC.below.size A0.size)) lR).mono (Nat.le_trans hC.below.size (Nat.le_trans A0.size hb.size))) (U0.out k z0) (fun q hq=>by rw[k1.out k z0 q hq];split <;> omega) (by omega));simp only[Mat.val,U0.out k z0]at y1;have z1:=hide G0;have K1:=hide R0;clear hI P0 k0 m0 hC v1 A0 b5 G0 R0 O0;go_wp2_with fail;rw[<-K1.out];refine KA 11 _ (CG w mid N x ob Bv y k wr.heap.size #[.slice (x.rs.r k).ra N (x.rs.r k).rc,.slice (x.rs.r k).T.ga N (x.rs.r k).T.cap] W4) (nR [.pointer (some ⟨ob,0,none⟩),.slice (some ⟨y.G,0,none⟩) N N,.int .i64 (k:Int),.pointer (some ⟨wr.heap.size,0,none⟩),.slice (x.rs.r k).ra N (x.rs.r k).rc,undef,.pointer (some ⟨wr.heap.size,1,none⟩),.slice (x.rs.r k).T.ga N (x.rs.r k).T.cap,undef,undef,.pointer (some ⟨y.G,k*2,none⟩)] N (x.rs.r k).R (x.rs.r k).T W4) (fun _ W=>∃y,uI w mid N x ob Bv y (k+1) W/\y.gc=N) (fun _ _ _=>True) (by kernel_rfl) (by kernel_rfl) (by kernel_rfl) (by kernel_rfl) (by kernel_rfl) rfl (w1.out.keep ⟨rfl,rfl,rfl,lR,fun _ _=>rfl⟩) ⟨?_,?_,?_,?_,?_,?_,?_,?_,?_,?_,?_,trivial⟩ ?_ trivial ?_;rotate_right
    ·intro t W hG _;have HN:=hide hG;clear hG;simp only[fill,Act.put,sX,sY,sU];go_wp2;go_roundw
     case rel =>
      first
      | exact⟨k+1,by omega,by go_num,HN⟩
      | ((repeat apply Exists.intro);refine⟨?_,rfl⟩;exact⟨k+1,by omega,by go_num,HN⟩)
     case measure=>simp[intOf];omega
    rotate_right
    ·intro t W hG hE _ K hK;have A1:=XD (hE 10 (by omega)) (by decide) rfl;have h9:∃ (b c T:Nat) (vt:Array Value),t 9=.agg #[.slice (some ⟨b,0,none⟩) N c,.slice (some ⟨T,0,none⟩) N N]/\yG N (x.rs.r k).R W4 W b/\W4.heap.size<=T/\NF W4.heap.size T N (x.rs.r k).T vt N W:=hE 9 (by omega);simp only[fill,Act.put,sX,sY,sU,A1]at hK |-;rw[if_pos (by rfl)];obtain⟨b,c,T,vt,e9,hb,hT,hc⟩:=h9;have h4:=w1.out.inv;have L1:b≠T:=fun e1=>by
      have h1:=hb.2.2 0 hN0;obtain⟨a9,c9,b9,h2,_⟩:=hc.row 0 hN0;have h3:=hc.blk.cell 0;rw[h2,<-e1,h1]at h3;cases h3
     obtain⟨y',hp,R1,M0⟩:=hG.inv.parts.put (tc:=N) (c:=c) z0 h4.md (fun i hi=>(h4.parts.tolds i hi).lt) (fun i hi=>(h4.parts.routes i hi).1.lt) (fun i hi q hq ht=>(h4.parts.rows i hi q hq ht).2.1.lt) hb.1 hb.2.1 hb.2.2 L1 hT hc (k1.out k z0) (fun q hq=>rfl) hN0;have B1:=hG.inv.put hp R1 M0;have HN:=hide (show ∃y,uI w mid N x ob Bv y (k+1) _/\y.gc=N from ⟨y',B1,by rw[M0];exact z1.out⟩);have U1:=hG.inv.parts.size;have g0:=hG.inv.parts.rtrs.cell (k*2);have g1:=hG.inv.parts.rtrs.cell (k*2+1);rw[Array.getElem?_eq_getElem (by omega)]at g0 g1;have V1:=hG.inv.parts.rtrs.frozen (k*2);have X1:=hG.inv.parts.rtrs.frozen (k*2+1);simp only[e9]at hK |-;clear B1 hp hc hb e9 A1 hE h4;go_simp;exact hK undef _ HN.out
    all_goals intro t W hG hp ht K hK
    all_goals clear ht
    all_goals simp only[fill,Act.put,sX,sY,sU]at hK |-
    ·rw[if_pos (by rfl)];go_simp;exact hK _ _ hG rfl (fun _ _ _ h=>h)
    ·have e0:=XD (hp 0 (by decide)) (by decide) rfl;have o0:=hG.inv.out.cell 0;simp at o0;rw[z1.out]at o0;simp only[e0]at hK |-;rw[if_pos (by rfl)];go_simp;exact hK _ _ hG rfl (fun _ _ _ h=>h)
    ·rw[if_pos (by rfl)];go_simp;exact hK _ _ hG rfl (fun _ _ _ h=>h)
    ·rw[if_pos (by rfl)];go_simp;exact hK _ _ hG rfl (fun _ _ _ h=>h)
    ·have e3:=XD (hp 3 (by decide)) (by decide) rfl;have q0:=hG.rt.cell 0;simp at q0;simp only[e3]at hK |-;rw[if_pos (by rfl)];go_simp;exact hK _ _ hG rfl (fun _ _ _ h=>h)
    ·have e4:=XD (hp 4 (by decide)) (by decide) rfl;simp only[e4]at hK |-;rw[if_pos (by rfl)];go_simp;go_at_call 77;refine(J1.out W hG.below).mono ?_;rintro r W' ⟨q,c,rfl,hb,h1,h2,h3⟩;go_simp;exact hK _ W' (hG.keep hb) ⟨q,c,rfl,by have:=hG.below.size;omega,h2,h3⟩ (fun _ _ _ h=>AL hb h)
    ·rw[if_pos (by rfl)];go_simp;exact hK _ _ hG rfl (fun _ _ _ h=>h)
    ·have e6:=XD (hp 6 (by decide)) (by decide) rfl;have q1:=hG.rt.cell 1;simp at q1;simp only[e6]at hK |-;rw[if_pos (by rfl)];go_simp;exact hK _ _ hG rfl (fun _ _ _ h=>h)
    ·have e7:=XD (hp 7 (by decide)) (by decide) rfl;simp only[e7]at hK |-;rw[if_pos (by rfl)];go_simp;go_at_call 40;refine(y1.out W hG.below).mono ?_;rintro r W' ⟨⟨T,vt,rfl,h1,h2⟩,hb⟩;go_simp;exact hK _ W' (hG.keep hb) ⟨T,vt,rfl,by have:=hG.below.size;omega,h2.mono hG.below.size⟩ (fun _ _ _ h=>AL hb h)
    ·have h5:∃b c:Nat,t 5=.slice (some ⟨b,0,none⟩) N c/\yG N (x.rs.r k).R W4 W b:=hp 5 (by decide);have h8:∃ (T:Nat) (vt:Array Value),t 8=.slice (some ⟨T,0,none⟩) N N/\W4.heap.size<=T/\NF W4.heap.size T N (x.rs.r k).T vt N W:=hp 8 (by decide);obtain⟨b,c,e5,hb⟩:=h5;obtain⟨T,vt,e8,hT,hc⟩:=h8;simp only[e5,e8]at hK |-;rw[if_pos (by rfl)];go_simp;exact hK _ W hG ⟨b,c,T,vt,rfl,hb,hT,hc⟩ (fun _ _ _ h=>h)
    ·have e1:=XD (hp 1 (by decide)) (by decide) rfl;have e2:=XD (hp 2 (by decide)) (by decide) rfl;simp only[e1,e2]at hK |-;rw[if_pos (by rfl)];go_simp;exact hK _ _ hG rfl (fun _ _ _ h=>h)
   ·have M1:k=N:=by omega
    subst M1;obtain⟨u0,v0,I1⟩:=QA hC.bag;have o0:=hC.out.cell 0;have o1:=hC.out.cell 1;have s0:=hC.res.cell 0;have s1:=hC.res.cell 1;have Y1:=hC.res.frozen 0;have Z1:=hC.res.frozen 1;have p0:=(hC.res.set 0 (.slice (some ⟨y.G,0,none⟩) k y.gc)).set 1 Bv;have e0:=p0.cell 0;have e1:=p0.cell 1;simp at o0 o1 s0 s1 e0 e1;have N1:=hC.lo;have O1:=hC.om;have D0:Bv.ownBlock≠some (w.heap.size+1):=fun e2=>by have:=(hC.bm _ e2).2.2.1;omega
    have HF:Hid (KT w k x (.returned (.agg #[.slice (some ⟨y.G,0,none⟩) k y.gc,Bv])) ((wr.setCell ⟨w.heap.size+1,0,none⟩ (.slice (some ⟨y.G,0,none⟩) k y.gc)).setCell ⟨w.heap.size+1,1,none⟩ Bv)):=hide ⟨mid,Bv,y,rfl,(hC.parts.setLow _ (by omega) (by omega)).setLow _ (by omega) (by omega),ownsRow_setCell_other (ownsRow_setCell_other hC.bag D0 _) D0 _,fun g hg=>⟨(hC.bm g hg).1,(hC.bm g hg).2.1⟩,by omega,(hC.below.setCell (p:=⟨w.heap.size+1,0,none⟩) (by show w.heap.size<=w.heap.size+1;omega) _).setCell (p:=⟨w.heap.size+1,1,none⟩) (by show w.heap.size<=w.heap.size+1;omega) _⟩;rw[I1]at o1 e0 e1 HF;clear hC p0 D0 I1 N1 O1 G0;go_wp2;exact bodyPost_ret (v:=.agg #[.slice (some ⟨y.G,0,none⟩) k y.gc,.slice u0 x.eng.bag.length v0]) (by simp[results,Tryz.results43,go_sem,e0,e1]) rfl HF.out
 rotate_right
 ·intro t W hG hE _ K hK;have h7:∃ (g:Nat) (Bv:Value),t 7=.agg #[.slice (some ⟨g,0,none⟩) N N,Bv]/\W1.heap.size<=g/\(∃vs,vs.size=N*2/\Blk W g vs 57)/\W.ownsRow W1.heap.size 59 3 Bv x.eng.bag.length (uA x.eng.bag):=hE 7 (by omega);have h8:∃ob:Nat,t 8=.pointer (some ⟨ob,0,none⟩)/\W1.heap.size<=ob/\Blk W ob #[.slice none 0 0,.slice none 0 0] 31:=hE 8 (by omega);simp only[fill,Act.put,sX,sY,sU,Nat.zero_add,Nat.reduceAdd]at hK |-;rw[if_pos (by rfl)];obtain⟨g,Bv,e7,hg,⟨vs,S1,N0⟩,i0⟩:=h7;obtain⟨ob,e8,a2,w0⟩:=h8;obtain⟨u0,v0,rfl⟩:=QA i0;have Q0:g≠ob:=eB N0 w0 (by decide);have hs:=d1.out;have J0:=(w0.set 0 (.slice (some ⟨g,0,none⟩) N N)).set 1 (.slice u0 x.eng.bag.length v0);have E0:∀q,(Value.slice u0 x.eng.bag.length v0).ownBlock=some q->q<W.heap.size/\q≠g/\w.heap.size+1<q/\q≠ob:=fun q hq=>⟨(i0.lt q hq).2,own_ne i0 N0 (by decide) hq,by have:=(i0.lt q hq).1;omega,own_ne i0 w0 (by decide) hq⟩;have D0:(Value.slice u0 x.eng.bag.length v0).ownBlock≠some ob:=fun e1=>(E0 _ e1).2.2.2 rfl;have B0:World.ownsRow ((W.setCell ⟨ob,0,none⟩ (.slice (some ⟨g,0,none⟩) N N)).setCell ⟨ob,1,none⟩ (.slice u0 x.eng.bag.length v0)) w.heap.size 59 3 (.slice u0 x.eng.bag.length v0) x.eng.bag.length (uA x.eng.bag):=by
   refine ownsRow_setCell_other (ownsRow_setCell_other ?_ D0 _) D0 _;refine⟨i0.1,?_⟩;rcases i0.2 with h | ⟨g9,cap,cur,h1,h2,h3⟩
   ·exact Or.inl h
   ·exact Or.inr ⟨g9,cap,cur,h1,by omega,h3⟩
  have C1:∃ (ob':Nat) (B2:Value) (y:Lay),t 8=.pointer (some ⟨ob',0,none⟩)/\uI w ((W.setCell ⟨ob,0,none⟩ (.slice (some ⟨g,0,none⟩) N N)).setCell ⟨ob,1,none⟩ (.slice u0 x.eng.bag.length v0)).heap.size N x ob' B2 y 0 ((W.setCell ⟨ob,0,none⟩ (.slice (some ⟨g,0,none⟩) N N)).setCell ⟨ob,1,none⟩ (.slice u0 x.eng.bag.length v0))/\y.gc=N:=by
   have P1:=C0.out.below hG C0.out.lt;have Q1:=T0.out.below hG T0.out.lt;refine⟨ob,.slice u0 x.eng.bag.length v0,⟨g,N,vs,fun _=>0,fun _=>0,fun _=>0,fun _=>0,fun _=>#[],fun _ _=>none,fun _ _=>0,fun _ _=>0,fun _ _=>0,g⟩,e8,⟨?_,(P1.other (by omega) _ _).other (by omega) _ _,(Q1.other (by omega) _ _).other (by omega) _ _,?_,B0,⟨(N0.other Q0 _ _).other Q0 _ _,S1,?_,fun i hi=>absurd hi nZ,fun i hi=>absurd hi nZ,fun i hi=>absurd hi nZ,fun i hi=>absurd hi nZ,fun i hi=>absurd hi nZ,fun i hi=>absurd hi nZ,fun i hi=>absurd hi nZ,fun i q hi=>absurd hi nZ,rfl,fun i hi=>absurd hi nZ,fun i hi=>absurd hi nZ⟩,?_,⟨?_,?_,Ne.symm Q0⟩,fun q hq=>?_,lR⟩,rfl⟩
   ·exact(((S0.out.trans (hG.mono S0.out.size)).setCell (p:=⟨ob,0,none⟩) (by show w.heap.size<=ob;omega) _).setCell (p:=⟨ob,1,none⟩) (by show w.heap.size<=ob;omega) _)
   ·simpa using J0
   ·show g<(World.heap _).size;have:=N0.lt;simpa using this
   ·show w.heap.size+1<g;omega
   ·have:=w0.lt;simpa using this
   ·omega
   ·obtain⟨q1,q2,q3,q4⟩:=E0 q hq;exact⟨by simpa using q1,q2,q3,q4⟩
  have c0:=w0.cell 0;have c1:=w0.cell 1;have f0:=w0.frozen 0;have f1:=w0.frozen 1;simp at c0 c1;have D1:=hide C1;simp only[e7,e8]at hK |-;simp only[e8]at D1;clear C1 B0 D0 E0 J0 Q0 w0 N0 i0 hE e7 e8;go_simp;exact hK undef _ D1.out
 all_goals intro t W hG hp ht K hK
 all_goals clear ht
 all_goals simp only[fill,Act.put,sX,sY,sU]at hK |-
 ·rw[if_pos (by rfl)];go_simp;exact hK _ _ hG rfl (fun _ _ _ h=>h)
 ·have e0:=qG (hp 0 (by decide)) (by decide) rfl;have x0:=(C0.out.below hG C0.out.lt).cell 0;simp[j0.out]at x0;simp only[e0]at hK |-;rw[if_pos (by rfl)];go_simp;exact hK _ _ hG rfl (fun _ _ _ h=>h)
 ·have e1:=qG (hp 1 (by decide)) (by decide) rfl;simp only[e1]at hK |-;rw[if_pos (by rfl)];go_simp;exact hK _ _ hG rfl (fun _ _ _ h=>h)
 ·have e2:=qG (hp 2 (by decide)) (by decide) rfl;have hm:=Z0.out W;simp only[e2]at hK |-;rw[if_pos (by rfl)];go_simp;have K0:Below W.heap.size W (W.alloc (.cells (madeCells #[.slice none 0 0,.slice none 0 0] (N*2)) 57)):=(Below.refl _ W).alloc lR _;exact hK _ _ (hG.trans (K0.mono hG.size)) ⟨W.heap.size,rfl,hG.size,_,size_madeCells _ _,Blk.new W _ _⟩ (fun _ _ _ h=>oI K0 h)
 ·rw[if_pos (by rfl)];go_simp;exact hK _ _ hG rfl (fun _ _ _ h=>h)
 ·have e4:=qG (hp 4 (by decide)) (by decide) rfl;have x1:=(C0.out.below hG C0.out.lt).cell 1;simp[j0.out]at x1;simp only[e4]at hK |-;rw[if_pos (by rfl)];go_simp;exact hK _ _ hG rfl (fun _ _ _ h=>h)
 ·have e5:=qG (hp 5 (by decide)) (by decide) rfl;simp only[e5]at hK |-;rw[if_pos (by rfl)];go_simp;go_at_call 81;refine(Y0.out W hG).mono ?_;rintro r W' ⟨⟨v,rfl,ho⟩,hb⟩;go_simp;exact hK _ W' (hG.trans (hb.mono hG.size)) (by show World.ownsRow W' W1.heap.size 59 3 v _ _;refine⟨ho.1,?_⟩;rcases ho.2 with h | ⟨g9,cap,cur,h1,h2,h3⟩;exact Or.inl h;exact Or.inr ⟨g9,cap,cur,h1,Nat.le_trans hG.size h2,h3⟩) (fun _ _ _ h=>oI hb h)
 ·have h3:∃g:Nat,t 3=.slice (some ⟨g,0,none⟩) N N/\W1.heap.size<=g/\∃vs,vs.size=N*2/\Blk W g vs 57:=hp 3 (by decide);have h6:W.ownsRow W1.heap.size 59 3 (t 6) x.eng.bag.length (uA x.eng.bag):=hp 6 (by decide);obtain⟨g,e3,hg,hb⟩:=h3;obtain⟨u0,v0,e6⟩:=QA h6;rw[e6]at h6;simp only[e3,e6]at hK |-;rw[if_pos (by rfl)];go_simp;exact hK _ W hG ⟨g,_,rfl,hg,hb,h6⟩ (fun _ _ _ h=>h)
 ·rw[if_pos (by rfl)];go_simp;have K0:Below W.heap.size W (W.alloc (.cells #[.slice none 0 0,.slice none 0 0] 31)):=(Below.refl _ W).alloc lR _;exact hK _ _ (hG.trans (K0.mono hG.size)) ⟨W.heap.size,rfl,hG.size,Blk.new W _ _⟩ (fun _ _ _ h=>oI K0 h)
theorem eP (l:List xB):(List.range l.length).map (fun i=>l.getD i zA)=l:=by
 apply List.ext_getElem?;intro i;by_cases h:i<l.length
 ·simp[List.getElem?_map,List.getElem?_range h,List.getD_eq_getElem?_getD,List.getElem?_eq_getElem h]
 ·rw[List.getElem?_eq_none (by simp;omega),List.getElem?_eq_none (by omega)]
structure iA.From (x:iA) (lo:Nat):Prop where
 g:0<x.rs.gn->lo<=x.rs.gb
 r:∀i,i<x.rs.gn->(0<(x.rs.r i).rl->lo<=(x.rs.r i).rb)/\(x.rs.r i).T.From lo
 b:0<x.bag.bn->lo<=x.bag.bb
 cap:x.bag.bn<=x.bag.bc
theorem iA.From.mono {x:iA}{lo lo':Nat}(h:x.From lo)(hl:lo'<=lo):x.From lo' :=
 ⟨fun h0=>Nat.le_trans hl (h.g h0),fun i hi=>⟨fun h0=>Nat.le_trans hl ((h.r i hi).1 h0),(h.r i hi).2.mono hl⟩,fun h0=>Nat.le_trans hl (h.b h0),h.cap⟩
theorem dQ {W:World}{lo:Nat}{a:Option Addr}{k c n:Nat}{xs:List Value}{t:TypeId}{z:Nat}(ho:W.ownsRow lo t z (.slice a k c) n xs)(hk:k=n):k<=c:=by
 obtain⟨_,h2⟩:=ho;rcases h2 with ⟨e0,e1⟩ | ⟨g,cap,cur,e1,_,_,hn,_⟩
 ·have:k=0:=by simpa using congrArg (fun v=>match v with | Value.slice _ l _=>l | _=>0) e0
  omega
 ·have h1:c=cap:=by simpa using congrArg (fun v=>match v with | Value.slice _ _ d=>d | _=>0) e1
  omega
structure Mat.Clear (m:Mat) (q:Nat):Prop where
 gb:0<m.t.len->m.gb≠q
 rows:∀r,r<m.t.len->0<m.t.L r->m.RB r≠q
structure iA.Clear (x:iA) (q:Nat):Prop where
 g:0<x.rs.gn->x.rs.gb≠q
 r:∀i,i<x.rs.gn->(0<(x.rs.r i).rl->(x.rs.r i).rb≠q)/\(x.rs.r i).T.Clear q
 b:0<x.bag.bn->x.bag.bb≠q
def iA.Apart (x:iA) (W:World):Prop:=∀q a l c a' l' c',Blk W q #[.slice a l c,.slice a' l' c'] 31->x.Clear q
structure iA.Soft (x:iA) (W:World):Prop where
 r:∀i,i<x.rs.gn->(0<(x.rs.r i).rl->yB W (x.rs.r i).rb)/\(x.rs.r i).T.Soft W
 b:0<x.bag.bn->∃cs,Blk W x.bag.bb cs 59
theorem Live.outF {base P N:Nat}{e:Eng}{Bv:Value}{y:Lay}{W:World}(h:Live base P N e Bv y W)(hN0:0<N)(hN6:N<=6)(hb:e.bag.length<=120)(hl:∀m∈e.bag,m.b.length<=60):
 ∃m:iA,m.cells=#[.slice (some ⟨y.G,0,none⟩) N y.gc,Bv]/\m.In W.heap.size W/\m.eng=e/\m.rs.gn=N/\(∀i,i<N->(m.rs.r i).rl=N)/\(∀i,i<N->(m.rs.r i).T.t.len=N)/\(∀i,i<N->∀q,q<N->(m.rs.r i).T.t.L q=if e.told i q=true then N else 0)/\m.bag.bn=e.bag.length/\m.From base/\m.Apart W/\m.Soft W:=by
 obtain⟨rs,d0⟩:∃rs:kC,rs=⟨some ⟨y.G,0,none⟩,N,y.gc,y.G,0,fun i=>⟨some ⟨y.rb i,0,none⟩,N,y.rc i,y.rb i,0,e.R i,⟨some ⟨y.Tb i,0,none⟩,y.Tb i,0,y.Tc i,fun q=>y.ta i q,fun q=>y.tc i q,fun q=>y.db i q,fun q=>y.dn i q,⟨N,fun q=>if e.told i q=true then N else 0,e.D i⟩⟩⟩⟩:=⟨_,rfl⟩;have p0:rs.In W.heap.size W:=by
  subst d0;refine⟨fun _=>rfl,fun _=>h.rtrs.lt,fun i hi=>?_,fun i hi=>?_,fun i hi=>?_,by show N<=_;unfold maxLen;omega⟩
  ·show W.cell? ⟨y.G,0+i*2,none⟩=_;rw[Nat.zero_add,h.rtrs.cell];exact h.r0 i hi
  ·show W.cell? ⟨y.G,0+i*2+1,none⟩=_;rw[Nat.zero_add,h.rtrs.cell];exact h.r1 i hi
  ·have i0:i<N:=hi;obtain⟨h1,h2⟩:=h.routes i i0;refine⟨⟨fun _=>rfl,fun j hj=>by show W.cell? ⟨y.rb i,0+j,none⟩=_;rw[Nat.zero_add];exact h2 j hj,by show N<=_;unfold maxLen;omega⟩,fun _=>h1.lt,?_⟩;refine⟨fun _=>rfl,fun _=>(h.tolds i i0).lt,fun r hr=>?_,fun r hr h0=>?_,fun r hr c hc=>?_,by show N<=_;unfold maxLen;omega,fun r hr=>?_⟩
   ·show W.cell? ⟨y.Tb i,0+r,none⟩=_;rw[Nat.zero_add,(h.tolds i i0).cell];exact h.t0 i i0 r hr
   ·have f0:0<(if e.told i r=true then N else 0):=h0;split at f0
    ·next ht=>exact⟨(h.rows i i0 r hr ht).1,(h.rows i i0 r hr ht).2.1.lt⟩
    ·exact absurd f0 (Nat.lt_irrefl _)
   ·have s0:c<(if e.told i r=true then N else 0):=hc;split at s0
    ·next ht=>exact(h.rows i i0 r hr ht).2.2 c s0
    ·exact absurd s0 nZ
   ·show (if e.told i r=true then N else 0)<=_;unfold maxLen;split <;> omega
 obtain⟨bag,y0,g0,w0,hM⟩:∃bag:TC,Bv=.slice bag.ba bag.bn bag.bc/\(bag.In W.heap.size W/\(0<bag.bn->base<=bag.bb)/\(0<bag.bn->Bv.ownBlock=some bag.bb))/\bag.bn=e.bag.length/\bag.M=fun i=>e.bag.getD i zA:=by
  by_cases h0:0<e.bag.length
  ·obtain⟨g,cap,j0,_⟩:=h.mail h0;have z0:=(h.bag.lt g (by rw[j0];rfl)).2;have u0:∀i,i<e.bag.length->W.cell? ⟨g,i*3,none⟩=some (.int .i64 (e.bag.getD i zA).F)/\W.cell? ⟨g,i*3+1,none⟩=some (.int .i64 (e.bag.getD i zA).T)/\W.cell? ⟨g,i*3+2,none⟩=some (.string ⟨(e.bag.getD i zA).b.toArray⟩):=fun i hi=>by
    obtain⟨g',m0,o0,q0,q1,q2⟩:=h.mail hi;rw[j0]at o0;obtain⟨rfl,rfl⟩:g=g'/\cap=m0:=by simpa using o0
    exact⟨q0,q1,q2⟩
   refine⟨⟨some ⟨g,0,none⟩,e.bag.length,cap,g,0,fun i=>e.bag.getD i zA⟩,j0,⟨⟨fun _=>rfl,fun _=>z0,fun i hi=>?_,fun i hi=>?_,fun i hi=>?_,by show e.bag.length<=_;unfold maxLen;omega,fun i hi=>?_⟩,fun _=>(h.bag.lt g (by rw[j0];rfl)).1,fun _=>by rw[j0];rfl⟩,rfl,rfl⟩
   ·show W.cell? ⟨g,0+i*3,none⟩=_;rw[Nat.zero_add];exact(u0 i hi).1
   ·show W.cell? ⟨g,0+i*3+1,none⟩=_;rw[Nat.zero_add];exact(u0 i hi).2.1
   ·show W.cell? ⟨g,0+i*3+2,none⟩=_;rw[Nat.zero_add];exact(u0 i hi).2.2
   ·have:=hl _ (UD (d:=zA) (show i<e.bag.length from hi));show (e.bag.getD i zA).b.length<=_;unfold maxLen;omega
  ·have:e.bag.length=0:=by omega
   obtain⟨a,c,j0⟩:∃a c,Bv=.slice a e.bag.length c:=by
    rcases Go.Joins.ownsRow_forms h.bag with ⟨e0,e1⟩ | ⟨g,cap,e1⟩
    ·exact⟨none,0,by rw[e0,e1]⟩
    ·exact⟨_,_,e1⟩
   exact⟨⟨a,e.bag.length,c,0,0,fun i=>e.bag.getD i zA⟩,j0,⟨⟨fun h1=>absurd h1 h0,fun h1=>absurd h1 h0,fun i hi=>absurd (Nat.lt_of_le_of_lt zL hi) h0,fun i hi=>absurd (Nat.lt_of_le_of_lt zL hi) h0,fun i hi=>absurd (Nat.lt_of_le_of_lt zL hi) h0,by show e.bag.length<=_;unfold maxLen;omega,fun i hi=>absurd (Nat.lt_of_le_of_lt zL hi) h0⟩,fun h1=>absurd h1 h0,fun h1=>absurd h1 h0⟩,rfl,rfl⟩
 refine⟨⟨rs,bag⟩,?_,⟨p0,g0.1⟩,?_,by rw[d0],fun i hi=>by rw[d0],fun i hi=>by rw[d0],fun i hi q hq=>by rw[d0],w0,⟨fun _=>by rw[d0];exact h.lg,fun i hi=>?_,g0.2.1,dQ (show W.ownsRow base 59 3 (.slice bag.ba bag.bn bag.bc) e.bag.length (uA e.bag) from y0 ▸ h.bag) w0⟩,fun q a l c a' l' c' hq=>⟨fun _=>?_,fun i hi=>?_,fun h0=>?_⟩,fun i hi=>?_,fun h0=>?_⟩;rotate_right;rotate_right
 ·rw[d0]at hi |-;refine⟨fun _=>h.sr i hi,fun q hq h0=>?_⟩;have f0:0<(if e.told i q=true then N else 0):=h0;split at f0
  ·next ht=>exact h.sd i hi q hq ht
  ·exact absurd f0 (Nat.lt_irrefl _)
 ·have h1:=g0.2.2 h0;obtain⟨_,h2⟩:=h.bag;rcases h2 with ⟨e0,_⟩ | ⟨g',m0,cur,e1,_,hgb,_⟩
  ·rw[e0]at h1;cases h1
  ·rw[e1]at h1;have h3:g'=bag.bb:=by simpa [Value.ownBlock] using h1
   rw[h3]at hgb;exact⟨cur,hgb⟩
 ·show #[Value.slice rs.ga rs.gn rs.gc,Value.slice bag.ba bag.bn bag.bc]=_;rw[<-y0,d0]
 ·have v0:(List.range bag.bn).map bag.M=e.bag:=by rw[w0,hM];exact eP e.bag
  have k0:(fun i k=>decide ((rs.r i).T.t.L k≠0))=e.told:=by
   funext i k;rw[d0];show decide ((if e.told i k=true then N else 0)≠0)=e.told i k;cases ht:e.told i k with
   | true=>simp;omega
   | false=>simp
  show (⟨fun i=>(rs.r i).R,fun i k=>decide ((rs.r i).T.t.L k≠0),fun i k=>(rs.r i).T.t.Z k,(List.range bag.bn).map bag.M⟩:Eng)=e;rw[v0,k0,d0]
 ·rw[d0]at hi |-;have hy:=h.ylo.1;refine⟨fun _=>Nat.le_trans hy (h.routes i hi).1.lo,⟨fun _=>h.lt i hi,fun q hq h0=>?_⟩⟩;have f0:0<(if e.told i q=true then N else 0):=h0;split at f0
  ·next ht=>exact Nat.le_trans hy (h.rows i hi q hq ht).2.1.lo
  ·exact absurd f0 (Nat.lt_irrefl _)
 ·rw[d0];exact eB h.rtrs hq (by decide)
 ·rw[d0]at hi |-;have x0:∀b o z,W.cell? ⟨b,o,none⟩=some (.int .i64 z)->b≠q:=fun b o z hc e1=>by
   subst e1;rw[hq.cell o]at hc;rcases o with _ | _ | o
   ·simp at hc
   ·simp at hc
   ·simp at hc
  refine⟨fun _=>x0 _ _ _ ((h.routes i hi).2 0 hN0),⟨fun _=>eB (h.tolds i hi) hq (by decide),fun r hr h0=>?_⟩⟩;have f0:0<(if e.told i r=true then N else 0):=h0;split at f0
  ·next ht=>exact x0 _ _ _ ((h.rows i hi r hr ht).2.2 0 hN0)
  ·exact absurd f0 (Nat.lt_irrefl _)
 ·exact own_ne h.bag hq (by decide) (g0.2.2 h0)
theorem Net.fit_of_is {n:Net}{t:Tab}(hc:n.check=0)(h:n.Is t):n.fit t=0:=by
 have g:=Net.good_of_check hc;have lo:=g.lo;unfold Net.fit;rw[if_pos hc];unfold Net.rows;have hl:=h.len;have hN:(n.N:Int)=n.nodes:=by unfold Net.N;omega
 have hw:t.wide n.nodes=true:=(t.wide_iff n.nodes).2 (fun r hr=>by rw[h.wide r (by omega),hN]);have hr:t.routes n.a.size=true:=(t.routes_iff n.a.size).2 (fun r hr c hcc=>h.state r c (by omega) (by rw[h.wide r (by omega)]at hcc;exact hcc));rw[if_neg (by simp[hw,hl,hN]),if_neg (by simp[hr])]
theorem Net.begin_state {n:Net}(hc:n.check=0):n.State n.begin:=fun i j _ _=>by
 have lo:=(Net.good_of_check hc).law.good.lo;unfold Net.begin;split <;> omega
def AA:Net:=⟨⟨3,JN,GN⟩,2,2,fun i=>i,fun i=>1-i,fun _=>0⟩
def LU (b l:Nat):dA:=⟨rF b,2,some ⟨l,0,none⟩,2,2,l,0,fun i=>i,fun i=>1-i,fun _=>0⟩
theorem kF:AA.check=0:=by decide +kernel
theorem mQ:(AA.settle 10 AA.begin).2=1:=by decide +kernel
def jM (a b c d:Int):Tab:=⟨2,fun _=>2,fun r s=>if r=0 then (if s=0 then a else b) else (if s=0 then c else d)⟩
theorem WR:Tab.same ⟨2,fun _=>2,(AA.settle 10 AA.begin).1⟩ (jM 0 1 1 0)=true:=by decide +kernel
theorem zU:AA.N=2:=by rfl
theorem vF (w:World):
 Calls Tryz.prog 23 #[] w fun e w'=>(∃n:dA,e=.returned n.val/\n.net=AA/\n.In w'.heap.size w')/\Below w.heap.size w w':=by
 have o0:Below w.heap.size w (w.alloc (.cells #[.int .i64 0,.slice none 0 0,.slice none 0 0,.int .i64 0,.slice none 0 0] 27)):=(Below.refl _ w).alloc lR _;have b0:=Blk.new w #[.int .i64 0,.slice none 0 0,.slice none 0 0,.int .i64 0,.slice none 0 0] 27;go_enter Tryz.func23,Tryz.ntmps23;go_wp2_with fail;go_at_call 28;refine(FN _).mono ?_;rintro e w1 ⟨rfl,hI,j0⟩;have p0:(w.alloc (.cells #[.int .i64 0,.slice none 0 0,.slice none 0 0,.int .i64 0,.slice none 0 0] 27)).heap.size=w.heap.size+1:=by simp
 rw[p0]at hI j0 |-;have k0:=o0.trans (j0.mono (by omega));have b1:=b0.below j0 (by omega);have:=j0.size;have bL:=Blk.new w1 #[.int .i64 0,.int .i64 1,.int .i64 0,.int .i64 1,.int .i64 0,.int .i64 0] 81;have q0:=k0.alloc k0.size (.cells #[.int .i64 0,.int .i64 1,.int .i64 0,.int .i64 1,.int .i64 0,.int .i64 0] 81);have b2:=b1.alloc (.cells #[.int .i64 0,.int .i64 1,.int .i64 0,.int .i64 1,.int .i64 0,.int .i64 0] 81);have d0:=b2.cell 0;have d1:=b2.cell 1;have d2:=b2.cell 2;have d3:=b2.cell 3;have d4:=b2.cell 4;have:=b2.frozen;simp at d0 d1 d2 d3 d4;have m0:=(hI.below ((Below.refl _ w1).alloc lR (.cells #[.int .i64 0,.int .i64 1,.int .i64 0,.int .i64 1,.int .i64 0,.int .i64 0] 81)) lR);simp only[rF,xA.val,Mat.val,kI,jI,JN,GN];go_wp2;have b5:=b2.set5 (.int .i64 3) (.slice (some ⟨w.heap.size+1+4,0,none⟩) 3 3) (.slice (some ⟨w.heap.size+1+6,0,none⟩) 1 1) (.int .i64 2) (.slice (some ⟨w1.heap.size,0,none⟩) 2 2);have e0:=b5.cell 0;have e1:=b5.cell 1;have e2:=b5.cell 2;have e3:=b5.cell 3;have e4:=b5.cell 4;unfold YtjhkadffaephmacGreat.set5 at e0 e1 e2 e3 e4;simp at e0 e1 e2 e3 e4;have g0:(kI (w.heap.size+1)).From (w.heap.size+1):=⟨fun _=>by show w.heap.size+1<=w.heap.size+1+4;omega,fun r _ _=>by show w.heap.size+1<=w.heap.size+1+1+r;omega⟩;have h0:(jI (w.heap.size+1)).From (w.heap.size+1):=⟨fun _=>by show w.heap.size+1<=w.heap.size+1+6;omega,fun r _ _=>by show w.heap.size+1<=w.heap.size+1+5;omega⟩;have:w.heap.size<w1.heap.size:=by omega
 have f0:=((((bL.other (show w1.heap.size≠w.heap.size by omega) 0 (.int .i64 3)).other (show w1.heap.size≠w.heap.size by omega) 1 (.slice (some ⟨w.heap.size+1+4,0,none⟩) 3 3)).other (show w1.heap.size≠w.heap.size by omega) 2 (.slice (some ⟨w.heap.size+1+6,0,none⟩) 1 1)).other (show w1.heap.size≠w.heap.size by omega) 3 (.int .i64 2)).other (show w1.heap.size≠w.heap.size by omega) 4 (.slice (some ⟨w1.heap.size,0,none⟩) 2 2);refine bodyPost_ret (v:=(LU (w.heap.size+1) w1.heap.size).val) (by simp[results,Tryz.results23,go_sem,e0,e1,e2,e3,e4,LU,dA.val,dA.cells,rF,Mat.val,kI,jI,JN,GN]) rfl ⟨⟨LU (w.heap.size+1) w1.heap.size,rfl,rfl,?_⟩,LF q0 lR _ _ _ _ _⟩;refine⟨⟨?_,?_⟩,fun _=>rfl,fun _=>by show w1.heap.size<_;simp,?_,?_,?_,by show 2<=maxLen;unfold maxLen;omega⟩
 ·refine Mat.In.mono (k:=_) (n:=w1.heap.size) ?_ (by simp);exact((((m0.B.other g0 (by omega) _).other g0 (by omega) _).other g0 (by omega) _).other g0 (by omega) _).other g0 (by omega) _
 ·refine Mat.In.mono (k:=_) (n:=w1.heap.size) ?_ (by simp);exact((((m0.E.other h0 (by omega) _).other h0 (by omega) _).other h0 (by omega) _).other h0 (by omega) _).other h0 (by omega) _
 ·intro i hi;have i0:i<2:=hi
  match i,i0 with
  | 0,_=>exact f0.cell 0
  | 1,_=>exact f0.cell 3
 ·intro i hi;have i0:i<2:=hi
  match i,i0 with
  | 0,_=>exact f0.cell 1
  | 1,_=>exact f0.cell 4
 ·intro i hi;have i0:i<2:=hi
  match i,i0 with
  | 0,_=>exact f0.cell 2
  | 1,_=>exact f0.cell 5
def QS (b:Nat) (x y z u:Int):Mat:=⟨some ⟨b+2,0,none⟩,b+2,0,2,fun r=>some ⟨b+r,0,none⟩,fun _=>2,fun r=>b+r,fun _=>0,jM x y z u⟩
theorem ZT {b k:Nat}{x y z u:Int}{w:World}(b1:Blk w b #[.int .i64 x,.int .i64 y] 3)(b2:Blk w (b+1) #[.int .i64 z,.int .i64 u] 3)
 (b3:Blk w (b+2) #[.slice (some ⟨b,0,none⟩) 2 2,.slice (some ⟨b+1,0,none⟩) 2 2] 32) (hk:b+2<k):(QS b x y z u).In k w where
 ga:=fun _=>rfl
 gb:=fun _=>hk
 row:=fun r hr=>by
  have hr':r<2:=hr
  match r,hr' with
  | 0,_=>exact b3.cell 0
  | 1,_=>exact b3.cell 1
 addr:=fun r hr _=>⟨rfl,by have hr':r<2:=hr;show b+r<k;omega⟩
 cell:=fun r hr c hc=>by
  have hr':r<2:=hr;have hc':c<2:=hc
  match r,hr',c,hc' with
  | 0,_,0,_=>exact b1.cell 0
  | 0,_,1,_=>exact b1.cell 1
  | 1,_,0,_=>exact b2.cell 0
  | 1,_,1,_=>exact b2.cell 1
 len:=by show 2<=maxLen;unfold maxLen;omega
 lens:=fun _ _=>by show 2<=maxLen;unfold maxLen;omega
theorem aM (w:World):
 Calls Tryz.prog 4 #[] w fun e w'=>e=.returned (.bool true)/\Below w.heap.size w w':=by
 go_enter Tryz.func4,Tryz.ntmps4;go_wp2_with fail;go_at_call 23;refine(vF _).mono ?_;rintro e w1 ⟨⟨n1,rfl,x0,y0⟩,p0⟩;have HB:=hide (BI n1 w1 y0 (by rw[x0];exact kF));rw[x0]at HB;have F0:=p0.size;clear y0;simp only[dA.val,dA.cells,Mat.val]at HB |-;go_wp2_with fail;go_at_call 22;refine HB.out.mono ?_;rintro e w2 ⟨⟨m,rfl,hm⟩,z0⟩;have h0:=p0.trans (z0.mono F0);clear HB p0 z0;go_wp2_with fail;go_at_call 23;refine(vF _).mono ?_;rintro e w3 ⟨⟨n3,rfl,A0,B0⟩,q0⟩;have i0:=h0.trans (q0.mono h0.size);have v0:=hm.grown q0;have G0:m.t.Z=AA.begin:=by rw[hm.1]
 have HS:=hide (vH n3 m 10 w3 B0 v0.2.1 (by rw[A0,hm.1];exact Net.fit_of_is kF (Net.Is.mk' (Net.begin_state kF))) (by omega));rw[A0,G0,mQ]at HS;clear q0 h0 hm B0 v0;simp only[dA.val,dA.cells,Mat.val]at HS |-;go_wp2_with fail;go_at_call 12;refine HS.out.mono ?_;rintro e w4 ⟨⟨m4,rfl,C0⟩,D0⟩;have j0:=i0.trans (D0.mono i0.size);clear HS D0 i0;go_wp2_with fail;go_at_call 23;refine(vF _).mono ?_;rintro e w5 ⟨⟨n5,rfl,I0,E0⟩,s0⟩;have k0:=j0.trans (s0.mono j0.size);have w0:=C0.grown s0;have HC:=hide (zD n5 w5 E0);rw[I0,kF]at HC;clear s0 j0 C0 E0;simp only[dA.val,dA.cells,Mat.val]at HC |-;go_wp2_with fail;go_at_call 24;refine HC.out.mono ?_;rintro e w6 ⟨rfl,u0⟩;have m0:=k0.trans (u0.mono k0.size);have f0:=w0.grown u0;have o0:Below w6.heap.size w6 (((w6.alloc (.cells #[.int .i64 0,.int .i64 1] 3)).alloc (.cells #[.int .i64 1,.int .i64 0] 3)).alloc (.cells #[.slice (some ⟨w6.heap.size,0,none⟩) 2 2,.slice (some ⟨w6.heap.size+1,0,none⟩) 2 2] 32)) :=
  (((Below.refl _ w6).alloc lR _).alloc (by simp) _).alloc (by simp;omega) _
 have d0:(QS w6.heap.size 0 1 1 0).In _ (((w6.alloc (.cells #[.int .i64 0,.int .i64 1] 3)).alloc (.cells #[.int .i64 1,.int .i64 0] 3)).alloc (.cells #[.slice (some ⟨w6.heap.size,0,none⟩) 2 2,.slice (some ⟨w6.heap.size+1,0,none⟩) 2 2] 32)) :=
  ZT (((Blk.new w6 _ _).alloc _).alloc _) ((Blk.new' (by simp)).alloc _) (Blk.new' (by simp)) (Nat.lt_succ_self _)
 have H0:=hide (m0.trans (o0.mono m0.size));have g0:=hide (dD m4 (QS w6.heap.size 0 1 1 0) _ _ (f0.grown o0).2.1 (d0.mono (by simp)));rw[f0.1,zU,show (QS w6.heap.size 0 1 1 0).t=jM 0 1 1 0 from rfl,WR]at g0;simp only[Mat.val,QS,jM]at g0;rw[f0.1,zU]at g0 |-;clear HC u0 k0 w0 m0 f0 o0 d0;go_wp2_with fail;go_at_call 16;refine g0.out.mono ?_;rintro e w7 ⟨rfl,q,rfl⟩;go_wp2;go_ret;exact⟨rfl,below_drewN H0.out q⟩
end Go.Proofs.YtjhkadffaephmacGreat
