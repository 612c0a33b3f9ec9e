import Derived.Test.YtjhkadffaephmacGreatCutRestStatesCB
namespace Go.Proofs.YtjhkadffaephmacGreat
set_option maxHeartbeats 16000000
set_option maxRecDepth 100000
open Go.RowKit
structure RIn (w:World) (x:iA) (N i:Nat) (y:Lay) (V:Value) (H0 b r5:Nat) (W:World):Prop where
 below:Below w.heap.size w W
 bx:Blk W w.heap.size x.cells 31
 res:Blk W (w.heap.size+1) #[.slice none 0 0,.slice none 0 0] 31
 out:Blk W (w.heap.size+2) #[V,.slice none 0 0] 31
 cop:rE w.heap.size H0 N x.eng y V i W
 row:∃cs,Blk W b cs 3
 cells:∀j,j<N->W.cell? ⟨b,j,none⟩=some (.int .i64 (x.eng.R i j))
 lo:H0<=b/\b<r5/\w.heap.size<=H0
theorem RIn.keep {w:World}{x:iA}{N i:Nat}{y:Lay}{V:Value}{H0 b r5:Nat}{W W':World}(h:RIn w x N i y V H0 b r5 W)(hb:Below W.heap.size W W'):RIn w x N i y V H0 b r5 W':=by
 obtain⟨cs,hr⟩:=h.row;exact⟨h.below.trans (hb.mono h.below.size),h.bx.below hb h.bx.lt,h.res.below hb h.res.lt,h.out.below hb h.out.lt,h.cop.below hb,⟨cs,hr.below hb hr.lt⟩,fun j hj=>by rw[hb.cell (p:=⟨b,j,none⟩) hr.lt];exact h.cells j hj,h.lo⟩
theorem RIn.grown {w:World}{x:iA}{N i:Nat}{y:Lay}{V:Value}{H0 b r5:Nat}{W W':World}(h:RIn w x N i y V H0 b r5 W){S:Value}{q:Nat}{xs:List Value}(ho:W.ownsRow r5 32 1 S q xs)(hg:W.grownBy W' S.ownBlock):RIn w x N i y V H0 b r5 W':=by
 have d0:∀g,S.ownBlock=some g->r5<=g:=fun g hg'=>(ho.lt g hg').1;have ne:∀b' cs t,Blk W b' cs t->t≠32->some b'≠S.ownBlock:=fun b' cs t hb' ht hv=>own_ne ho hb' (Ne.symm ht) hv.symm rfl;have f0:=h.lo;obtain⟨cs,hr⟩:=h.row;refine⟨?_,h.bx.kept hg (ne _ _ _ h.bx (by decide)),h.res.kept hg (ne _ _ _ h.res (by decide)),h.out.kept hg (ne _ _ _ h.out (by decide)),h.cop.kept hg (fun b' cs' t hlt hb' _ hv=>by have:=d0 b' hv.symm;omega) ?_,⟨cs,hr.kept hg (ne _ _ _ hr (by decide))⟩,fun j hj=>by rw[KC hr hg (ne _ _ _ hr (by decide))];exact h.cells j hj,h.lo⟩
 ·exact h.below.trans (nA hg (fun g hg'=>by have:=d0 g hg';omega) h.below.size)
 ·refine h.cop.rtrs.kept hg ?_;cases hv:V.ownBlock with
  | none=>exact Or.inl rfl
  | some k =>
   refine Or.inr (fun e=>?_);obtain⟨_,h2⟩:=h.cop.rtrs;rcases h2 with ⟨e0,_⟩ | ⟨g',cap,cur,e1,_,hk,_⟩
   ·rw[e0]at hv;cases hv
   ·rw[e1]at hv;have:g'=k:=by simpa [Value.ownBlock] using hv
    subst this;exact ne g' cur _ hk (by decide) e
theorem RIn.set {w:World}{x:iA}{N i:Nat}{y:Lay}{V:Value}{H0 b r5:Nat}{W:World}(h:RIn w x N i y V H0 b r5 W){cs:Array Value}(hp:Blk W r5 cs 57)(hV:V.ownBlock≠some r5)(j:Nat)(v:Value):RIn w x N i y V H0 b r5 (W.setCell ⟨r5,j,none⟩ v):=by
 obtain⟨d0,hr⟩:=h.row;have:=h.lo;exact⟨h.below.setCell (p:=⟨r5,j,none⟩) (by show w.heap.size<=r5;omega) _,h.bx.other (eB h.bx hp (by decide)) _ _,h.res.other (eB h.res hp (by decide)) _ _,h.out.other (eB h.out hp (by decide)) _ _,h.cop.set hp (by decide) (by decide) hV v,⟨d0,hr.other (eB hr hp (by decide)) _ _⟩,fun j' hj=>by rw[qA (eB hr hp (by decide))];exact h.cells j' hj,h.lo⟩
structure aQ (w:World) (x:iA) (N i:Nat) (y:Lay) (V:Value) (H0 b c r5:Nat) (sz:Nat) (s:Value) (q:Nat) (b14 b16:Bool) (W:World):Prop where
 inn:RIn w x N i y V H0 b r5 W
 sz:sz<=W.heap.size
 told:b14=false->DD r5 N (x.eng.told i) (x.eng.D i) s q W
 old:b16=false->Blk W r5 #[.slice (some ⟨b,0,none⟩) N c,s] 57
 new:b16=true->∃g cap,Blk W r5 #[.slice (some ⟨b,0,none⟩) N c,.slice (some ⟨g,0,none⟩) (q+1) cap] 57/\DD r5 N (x.eng.told i) (x.eng.D i) (.slice (some ⟨g,0,none⟩) (q+1) cap) (q+1) W
theorem aQ.keep {w:World}{x:iA}{N i:Nat}{y:Lay}{V:Value}{H0 b c r5 sz:Nat}{s:Value}{q:Nat}{b14 b16:Bool}{W W':World}(h:aQ w x N i y V H0 b c r5 sz s q b14 b16 W)(hb:Below W.heap.size W W'):aQ w x N i y V H0 b c r5 sz s q b14 b16 W' :=
 ⟨h.inn.keep hb,Nat.le_trans h.sz hb.size,fun h0=>(h.told h0).below hb,fun h0=>(h.old h0).below hb (h.old h0).lt,fun h0=>by obtain⟨g,cap,h1,h2⟩:=h.new h0;exact⟨g,cap,h1.below hb h1.lt,h2.below hb⟩⟩
def VF (vs:List Value) (x:iA) (N i q r5:Nat) (s:Value) (b14 b16:Bool) (k:Nat) (v:Value) (W:World):Prop :=
 match k with
 | 2=>∃g,v=.slice (some ⟨g,0,none⟩) 0 0
 | 12=>b14=false->∃ (a:Option Addr) (c b':Nat),v=.slice a ((x.rs.r i).T.t.L q) c/\Ints a ((x.rs.r i).T.t.L q) b' 0 (x.eng.D i q) W/\(0<(x.rs.r i).T.t.L q->(∃cs,Blk W b' cs 3)/\r5<=b')
 | 13=>b14=false->∃ (a:Option Addr) (c b' s1:Nat),v=.slice (some ⟨s1,0,none⟩) 1 1/\Blk W s1 #[.slice a ((x.rs.r i).T.t.L q) c] 32/\s.ownBlock≠some s1/\Ints a ((x.rs.r i).T.t.L q) b' 0 (x.eng.D i q) W/\(0<(x.rs.r i).T.t.L q->(∃cs,Blk W b' cs 3)/\r5<=b')
 | 14=>b16=false->∃g cap,v=.slice (some ⟨g,0,none⟩) (q+1) cap/\DD r5 N (x.eng.told i) (x.eng.D i) v (q+1) W
 | 16=>True
 | k=>vs[k]? = some v
theorem iI {a:Option Addr}{l b o:Nat}{f:Nat->Int}{W W':World}(h:Ints a l b o f W)(hb:Below W.heap.size W W')(hl:0<l->∃cs,Blk W b cs 3):Ints a l b o f W':=h.below hb (fun h0=>by obtain⟨cs,hc⟩:=hl h0;exact hc.lt)
theorem nI {vs:List Value}{x:iA}{N i q r5:Nat}{s:Value}{b14 b16:Bool}{k:Nat}{v:Value}{W W':World}(hb:Below W.heap.size W W')(h:VF vs x N i q r5 s b14 b16 k v W):VF vs x N i q r5 s b14 b16 k v W':=by
 unfold VF at h |-;split at h
 ·exact h
 ·intro h0;obtain⟨a,c,b',h1,h2,h3⟩:=h h0;exact⟨a,c,b',h1,iI h2 hb (fun h4=>(h3 h4).1),fun h4=>by obtain⟨⟨cs,h5⟩,h6⟩:=h3 h4;exact⟨⟨cs,h5.below hb h5.lt⟩,h6⟩⟩
 ·intro h0;obtain⟨a,c,b',s1,h1,d0,f0,h2,h3⟩:=h h0;exact⟨a,c,b',s1,h1,d0.below hb d0.lt,f0,iI h2 hb (fun h4=>(h3 h4).1),fun h4=>by obtain⟨⟨cs,h5⟩,h6⟩:=h3 h4;exact⟨⟨cs,h5.below hb h5.lt⟩,h6⟩⟩
 ·intro h0;obtain⟨g,cap,h1,h2⟩:=h h0;exact⟨g,cap,h1,h2.below hb⟩
 ·trivial
 ·exact h
theorem FC {vs:List Value}{x:iA}{N i q r5:Nat}{s:Value}{b14 b16:Bool}{k:Nat}{v:Value}{W:World}(h2:k≠2)(h12:k≠12)(h13:k≠13)(h14:k≠14)(h16:k≠16)(h:vs[k]? = some v):VF vs x N i q r5 s b14 b16 k v W:=by
 unfold VF;split <;> first | contradiction | exact h
theorem IC {vs:List Value}{x:iA}{N i q r5:Nat}{s:Value}{b14 b16:Bool}{k:Nat}{v u:Value}{W:World}(h:VF vs x N i q r5 s b14 b16 k v W)(h2:k≠2)(h12:k≠12)(h13:k≠13)(h14:k≠14)(h16:k≠16)(hu:vs[k]? = some u):v=u:=by
 unfold VF at h;split at h <;> first | contradiction | (rw[hu]at h;exact(Option.some.inj h).symm)
theorem mR {vs:List Value}{x:iA}{N i q r5:Nat}{s:Value}{b16:Bool}{k:Nat}{v:Value}{W:World}(W':World)(hk:k≠14)(h:VF vs x N i q r5 s false b16 k v W):VF vs x N i q r5 s true b16 k v W':=by
 unfold VF at h |-;split at h
 ·exact h
 ·intro h0;cases h0
 ·intro h0;cases h0
 ·contradiction
 ·trivial
 ·exact h
theorem YN {vs:List Value}{x:iA}{N i q r5:Nat}{s:Value}{k:Nat}{v:Value}{W:World}(W':World)(h:VF vs x N i q r5 s true false k v W):VF vs x N i q r5 s true true k v W':=by
 unfold VF at h |-;split at h
 ·exact h
 ·intro h0;cases h0
 ·intro h0;cases h0
 ·intro h0;cases h0
 ·trivial
 ·exact h
theorem Tryz.infoRtr:(Tryz.prog.info? 57).map (fun i=>(i.zero.map (fun z=>z.cells.size),i.size,i.bytes))=some (some 2,2,48):=by kernel_rfl
theorem RP (W:World)(base:Nat)(V:Value)(k:Nat)(xs:List Value)(ho:W.ownsRow base 57 2 V k xs)(hk:k<=100)(hC:base<=W.heap.size)(s:Nat)(u v:Value)(hs:Blk W s #[u,v] 57)(hu:u.oneCell'=true)(hv:v.oneCell'=true)(ty:TypeId):
 ∃g cap W',(Builtin.append_ #[28,28] ty #[V,.slice (some ⟨s,0,none⟩) 1 1]).run Tryz.prog W=.ok (.slice (some ⟨g,0,none⟩) (k+1) cap) W'/\W'.ownsRow base 57 2 (.slice (some ⟨g,0,none⟩) (k+1) cap) (k+1) (xs ++ [u,v])/\W.grownBy W' V.ownBlock:=by
 obtain⟨i0,g0,hq⟩:∃i,Tryz.prog.info? 57=some i/\(i.zero.map (fun z=>z.cells.size),i.size,i.bytes)=(some 2,2,48):=Option.map_eq_some_iff.1 Tryz.infoRtr;obtain⟨z,hz,h0⟩:∃z,i0.zero=some z/\z.cells.size=2:=by
  have:=congrArg Prod.fst hq;simpa [Option.map_eq_some_iff] using this
 have d0:i0.size=2:=congrArg (fun x=>x.2.1) hq;have f0:i0.bytes=48:=congrArg (fun x=>x.2.2) hq;obtain⟨g,cap,w',hr,h2,h3,_,_⟩:=run_append_lies (P:=Tryz.prog) W 28 ty base 57 i0 z 2 48 Tryz.underlying28 g0 hz d0 f0 h0 (by decide) V k _ ho ⟨s,0,none⟩ 1 1 [u,v] rfl (World.news_of_block hs) (by intro a ha;simp at ha;rcases ha with rfl | rfl;exact hu;exact hv) (by decide) (by unfold maxLen;omega) (by omega) hC _ rfl;exact⟨g,cap,w',hr,h2,h3⟩
theorem VP (W:World)(base g:Nat)(hg:W.ownsRow base 59 3 (.slice (some ⟨g,0,none⟩) 0 0) 0 [])(x:TC){N:Nat}(h:x.In N W)(hl:x.bn<=120)(hb:base<=W.heap.size)(hgb:W.heap.size=g+1)(ty:TypeId):
 ∃ (v:Value) (W':World),(Builtin.append_ #[29,29] ty #[.slice (some ⟨g,0,none⟩) 0 0,.slice x.ba x.bn x.bc]).run Tryz.prog W=.ok v W'/\W'.ownsRow base 59 3 v ((List.range x.bn).map x.M).length (uA ((List.range x.bn).map x.M))/\Below g W W':=by
 by_cases hp:0<x.bn
 ·obtain⟨i0,j0,hq⟩:∃i,Tryz.prog.info? 59=some i/\(i.zero.map (fun z=>z.cells.size),i.size,i.bytes)=(some 3,3,32):=Option.map_eq_some_iff.1 Tryz.infoMail;obtain⟨z,hz,k0⟩:∃z,i0.zero=some z/\z.cells.size=3:=by
   have:=congrArg Prod.fst hq;simpa [Option.map_eq_some_iff] using this
  have f0:i0.size=3:=congrArg (fun x=>x.2.1) hq;have g0:i0.bytes=32:=congrArg (fun x=>x.2.2) hq;have d0:(uA ((List.range x.bn).map x.M)).length=x.bn*3:=by rw[jD];simp
  obtain⟨g',cap,w',hr,h2,h3,_,_⟩:=run_append_lies (P:=Tryz.prog) W 29 ty base 59 i0 z 3 32 Tryz.underlying29 j0 hz f0 g0 k0 (by decide) _ 0 [] hg ⟨x.bb,x.bo,none⟩ x.bn x.bc (uA ((List.range x.bn).map x.M)) d0 (fun j u hu=>by rw[Go.WideShapes.add_plain];exact TC.news h j u hu) (jG _) hp (by unfold maxLen;omega) (by omega) hb _ rfl;rw[h.ba hp];refine⟨_,w',hr,?_,nA h3 (fun k hk=>by have:g=k:=(by simpa [Value.ownBlock] using hk);omega) (by omega)⟩;simpa using h2
 ·have h0:x.bn=0:=by omega
  rw[h0];exact⟨_,_,OH W ty g x.ba x.bc,by simpa [uA] using hg,Below.refl _ _⟩
theorem JC (x:iA)(N:Nat)(w:World)(h:x.In w.heap.size w)(hgn:x.rs.gn=N)(hN0:0<N)(hN6:N<=6)(hbn:x.bag.bn<=120)(hrl:∀i,i<N->(x.rs.r i).rl=N)(htl:∀i,i<N->(x.rs.r i).T.t.len=N)(hll:∀i,i<N->∀q,q<N->(x.rs.r i).T.t.L q=if x.eng.told i q=true then N else 0):
 Calls Tryz.prog 58 #[x.val] w fun r w'=>(∃P Bv y,qC w.heap.size P N x.eng Bv y w'/\r=.returned (.agg #[.slice (some ⟨y.G,0,none⟩) N y.gc,Bv]))/\Below w.heap.size w w':=by
 obtain⟨W0,N0⟩:∃W0,W0=((w.alloc (.cells x.cells 31)).alloc (.cells #[.slice none 0 0,.slice none 0 0] 31)).alloc (.cells #[.slice none 0 0,.slice none 0 0] 31):=⟨_,rfl⟩;have S1:Below w.heap.size w W0:=by rw[N0];exact(((Below.refl _ w).alloc lR _).alloc (by simp) _).alloc (by simp;omega) _
 have b1:Blk W0 w.heap.size x.cells 31:=by rw[N0];exact((Blk.new w _ _).alloc _).alloc _
 have b2:Blk W0 (w.heap.size+1) #[.slice none 0 0,.slice none 0 0] 31:=by rw[N0];exact(show Blk _ (w.heap.size+1) _ _ from Blk.new' (by simp)).alloc _
 have b3:Blk W0 (w.heap.size+2) #[.slice none 0 0,.slice none 0 0] 31:=by rw[N0];exact Blk.new' (by simp)
 have j0:x.cells=#[.slice x.rs.ga N x.rs.gc,.slice x.bag.ba x.bag.bn x.bag.bc]:=by rw[<-hgn];rfl
 have H:=hide h;have x2:=hide S1;have y2:=hide b1;have z2:=hide b2;have A2:=hide b3;have T1:=hide hgn;have B1:=hide hrl;have T0:=hide htl;have U1:=hide hll;have P0:Hid (x.rs.ga=some ⟨x.rs.gb,x.rs.go,none⟩):=hide (h.rs.ga (by omega));have f0:=hide j0;rw[j0]at N0;rw[iA.val,j0];have B2:=hide N0;clear h S1 b1 b2 b3 hgn hrl htl hll j0 N0;go_enter Tryz.func58,Tryz.ntmps58;go_wp2_with fail;rw[<-B2.out];have y0:Lay:=⟨0,0,#[],fun _=>0,fun _=>0,fun _=>0,fun _=>0,fun _=>#[],fun _ _=>none,fun _ _=>0,fun _ _=>0,fun _ _=>0,0⟩
 go_loopw [4,5,6] (fun q _ _ wr=>∃k:Nat,k<=N/\q=.int .i64 k/\Hid (∃y V,Below w.heap.size w wr/\Blk wr w.heap.size x.cells 31/\Blk wr (w.heap.size+1) #[.slice none 0 0,.slice none 0 0] 31/\Blk wr (w.heap.size+2) #[V,.slice none 0 0] 31/\rE w.heap.size wr.heap.size N x.eng y V k wr)) (fun q _ _ _=>N-(intOf q).toNat)
 case atStart=>exact⟨0,zL,rfl,hide ⟨y0,.slice none 0 0,x2.out,y2.out,z2.out,A2.out,rE.nil _ _ _ _ _ _⟩⟩
 case round =>
  obtain⟨k,hk,rfl,HI⟩:=hrel;obtain⟨y,V,hB,C0,u0,Q0,hC⟩:=HI.out;have x0:=C0.cell 0;simp[f0.out]at x0;by_cases A0:k<N
  ·have C2:(k:Int)<(N:Int):=by omega
   have hI:=H.out.below hB lR;have G0:k<x.rs.gn:=by rw[T1.out];exact A0
   have c0:=hI.rs.c0 k G0;rw[B1.out k A0]at c0;have C1:=(hI.rs.r k G0);have v0:=C1.ints;rw[B1.out k A0]at v0;obtain⟨a',c',b',W2,g0,F0,p2,d1⟩:=xG (wr.alloc (.cells #[] 3)) wr.heap.size (x.rs.r k).ra N (x.rs.r k).rc (x.rs.r k).rb (x.rs.r k).ro (x.rs.r k).R ⟨v0.addr,fun i hi=>by rw[((Below.refl wr.heap.size wr).alloc lR (.cells #[] 3)).cell (p:=⟨(x.rs.r k).rb,(x.rs.r k).ro+i,none⟩) (Nat.lt_of_lt_of_le (C1.lt (by rw[B1.out k A0];exact hN0)) hB.size)];exact v0.cell i hi,v0.len⟩ (by omega) 32;obtain⟨⟨l3,f1⟩,Y2⟩:=p2 hN0;have D2:=F0.addr hN0;subst D2;obtain⟨H0,Q1⟩:∃H0,H0=wr.heap.size:=⟨_,rfl⟩;have i1:(wr.alloc (.cells #[] 3)).heap.size=wr.heap.size+1:=by simp
   have D0:Below wr.heap.size wr W2:=((Below.refl _ wr).alloc lR _).trans (d1.mono (by rw[i1];omega));obtain⟨r5,w1⟩:∃r5,r5=W2.heap.size:=⟨_,rfl⟩;obtain⟨W3,y1⟩:∃W3,W3=W2.alloc (.cells #[.slice (some ⟨b',0,none⟩) N c',.slice none 0 0] 57):=⟨_,rfl⟩;have j1:Below W2.heap.size W2 W3:=by rw[y1];exact(Below.refl _ W2).alloc lR _
   have w0:=D0.trans (j1.mono D0.size);have U0:=f1.below j1 f1.lt;have V1:Hid (RIn w x N k y V H0 b' r5 W3):=hide ⟨hB.trans (w0.mono hB.size),C0.below w0 C0.lt,u0.below w0 u0.lt,Q0.below w0 Q0.lt,by rw[Q1];exact hC.below w0,⟨_,U0⟩,fun j hj=>by rw[j1.cell (p:=⟨b',j,none⟩) f1.lt];have:=F0.cell j hj;rwa [Nat.zero_add]at this,⟨by omega,by rw[w1];exact f1.lt,by rw[Q1];exact hB.size⟩⟩;have D1:Hid (Blk W3 r5 #[.slice (some ⟨b',0,none⟩) N c',.slice none 0 0] 57):=hide (by rw[y1];exact Blk.new' w1);have E2:Hid (V.ownBlock≠some r5):=hide (fun hv=>by have:=(hC.rtrs.lt r5 hv).2;have:=D0.size;omega);have W1:Hid (DD r5 N (x.eng.told k) (x.eng.D k) (.slice none 0 0) 0 W3):=hide (DD.nil _ _ _ _ _);have g3:Hid (r5<W3.heap.size):=hide (D1.out.lt);have E1:=v0.addr hN0;rw[E1]at c0 g0;have k0:=hide g0;have h3:=hide E1;rw[P0.out]at x0;have F2:∀o,(wr.alloc o).cell? ⟨w.heap.size,0,none⟩=some (.slice (some ⟨x.rs.gb,x.rs.go,none⟩) N x.rs.gc):=fun o=>by have:=(C0.alloc o).cell 0;rw[f0.out,P0.out]at this;simpa using this
   have G2:∀o,(wr.alloc o).cell? ⟨x.rs.gb,x.rs.go+k*2,none⟩=some (.slice (some ⟨(x.rs.r k).rb,(x.rs.r k).ro,none⟩) N (x.rs.r k).rc):=fun o=>by rw[((Below.refl wr.heap.size wr).alloc lR o).cell (p:=⟨x.rs.gb,x.rs.go+k*2,none⟩) (Nat.lt_of_lt_of_le (hI.rs.gb (by omega)) hB.size)];exact c0
   have H2:=hide y1;have I2:=hide w1;clear hB C0 u0 Q0 hC hI C1 v0 F0 p2 d1 f1 Y2 U0 j1 w0 D0 y1 w1 Q1 HI i1 g0 E1;go_wp2_with (at_builtin;refine Lib.wpList_append_run _ rfl _ _ _ _ rfl _ _ rfl rfl _ _ k0.out ?_);rw[<-H2.out,<-I2.out];clear c0 x0 F2 G2
   go_loopw [6] (fun q wr=>∃p:Nat,p<=N/\q=.int .i64 p/\Hid (∃s,RIn w x N k y V H0 b' r5 wr/\Blk wr r5 #[.slice (some ⟨b',0,none⟩) N c',s] 57/\DD r5 N (x.eng.told k) (x.eng.D k) s p wr/\(0<p->∃g cap,s=.slice (some ⟨g,0,none⟩) p cap))) (fun q _=>N-(intOf q).toNat)
   case atStart=>exact⟨0,zL,rfl,hide ⟨_,V1.out,D1.out,W1.out,fun h0=>absurd h0 (Nat.lt_irrefl _)⟩⟩
   case round =>
    clear V1 D1 W1;obtain⟨p,hp,rfl,HJ⟩:=hrel;obtain⟨s,O0,R0,hT,B0⟩:=HJ.out;have x0:=O0.bx.cell 0;simp[f0.out]at x0;rw[P0.out]at x0;have hI:=H.out.below O0.below lR;have G0:k<x.rs.gn:=by rw[T1.out];exact A0
    have c1:=hI.rs.c1 k G0;rw[T0.out k A0]at c1;by_cases A1:p<N
    ·have J2:(p:Int)<(N:Int):=by omega
     have M0:Hid ((x.rs.r k).T.ga=some ⟨(x.rs.r k).T.gb,(x.rs.r k).T.go,none⟩):=hide ((hI.rs.r k G0).T.ga (by rw[T0.out k A0];omega));have F1:=hide G0;have X1:Hid (∀g,s.ownBlock=some g->g<wr.heap.size):=hide (fun g hg=>by obtain⟨ta,tc,db,k1,_⟩:=hT.ex;exact(k1.lt g hg).2);obtain⟨wz,Z2⟩:∃wz,wz=wr.heap.size:=⟨_,rfl⟩;have Y1:Hid (aQ w x N k y V H0 b' c' r5 wz s p false false wr):=hide ⟨O0,by omega,fun _=>hT,fun _=>R0,fun h0=>by cases h0⟩;rw[<-Z2]at X1;have V0:Hid (r5<wr.heap.size):=hide R0.lt;clear O0 R0 hT hI G0 HJ B0;rw[M0.out]at c1;go_wp2_with fail;clear c1 x0;refine vD (fun d W=>aQ w x N k y V H0 b' c' r5 wz s p (d 14) (d 16) W) (fun d=>VF [.pointer (some ⟨r5,1,none⟩),s,undef,.pointer (some ⟨w.heap.size,0,none⟩),.slice (some ⟨x.rs.gb,x.rs.go,none⟩) N x.rs.gc,.int .i64 (k:Int),.pointer (some ⟨x.rs.gb,x.rs.go+k*2,none⟩),.pointer (some ⟨x.rs.gb,x.rs.go+k*2+1,none⟩),.slice (some ⟨(x.rs.r k).T.gb,(x.rs.r k).T.go,none⟩) N (x.rs.r k).T.cap,.int .i64 (p:Int),.pointer (some ⟨(x.rs.r k).T.gb,(x.rs.r k).T.go+p,none⟩),.slice ((x.rs.r k).T.A p) ((x.rs.r k).T.t.L p) ((x.rs.r k).T.C p),undef,undef,undef,.pointer (some ⟨r5,1,none⟩),undef] x N k p r5 s (d 14) (d 16)) (by kernel_rfl) (by kernel_rfl) (by kernel_rfl) (Y1.out.keep ⟨rfl,rfl,rfl,lR,fun _ _=>rfl⟩) ⟨?_,?_,?_,?_,?_,?_,?_,?_,?_,?_,?_,?_,?_,?_,?_,?_,?_,trivial⟩ ?_;rotate_right
     ·intro d t W h1 hG _;have I0:d 16=true:=h1 16 (by decide);obtain⟨g9,c9,q2,K0⟩:=hG.new I0;have Z1:Hid (∃s,RIn w x N k y V H0 b' r5 W/\Blk W r5 #[.slice (some ⟨b',0,none⟩) N c',s] 57/\DD r5 N (x.eng.told k) (x.eng.D k) s (p+1) W/\(0<p+1->∃g cap,s=.slice (some ⟨g,0,none⟩) (p+1) cap)):=hide ⟨_,hG.inn,q2,K0,fun _=>⟨g9,c9,rfl⟩⟩;clear hG q2 K0 h1 I0 Y1;simp only[fill,Act.put,sX,sY,sU];go_wp2;go_roundw
      case rel =>
       first
       | exact⟨p+1,by omega,by go_num,Z1⟩
       | ((try rw[<-P0.out]);(try rw[<-M0.out]);(repeat apply Exists.intro);refine⟨?_,rfl⟩;exact⟨p+1,by omega,by go_num,Z1⟩)
      case measure=>simp[intOf];omega
     all_goals intro d t W hs ho hd hw hG hp K hK
     all_goals simp only[fill,Act.put,sX,sY,sU]at hK |-
     ·rw[if_pos (by rfl)];go_simp;exact hK _ _ hG (FC (by decide) (by decide) (by decide) (by decide) (by decide) rfl) (fun j _ _ h=>h)
     ·have e0:=IC (hp 0 (hw 0 (by decide))) (by decide) (by decide) (by decide) (by decide) (by decide) rfl;have I0:=wB (F:=17) (S:=16) hs hd (by kernel_rfl);have cq:=(hG.old I0).cell 1;simp at cq;have K2:∃sa sl sc,s=.slice sa sl sc:=by obtain⟨ta,tc,db,k1,_⟩:=(hG.told (wB (F:=17) (S:=14) hs hd (by kernel_rfl))).ex;obtain⟨a,c,e⟩:=QA k1;exact⟨a,p,c,e⟩
      obtain⟨sa,sl,sc,rfl⟩:=K2;simp only[e0]at hK |-;rw[if_pos (by rfl)];go_simp;exact hK _ _ hG (FC (by decide) (by decide) (by decide) (by decide) (by decide) rfl) (fun j _ _ h=>h)
     ·rw[if_pos (by rfl)];go_simp;exact hK _ _ (hG.keep ((Below.refl _ W).alloc lR _)) ⟨_,rfl⟩ (fun j _ _ h=>nI ((Below.refl _ W).alloc lR _) h)
     ·rw[if_pos (by rfl)];go_simp;exact hK _ _ hG (FC (by decide) (by decide) (by decide) (by decide) (by decide) rfl) (fun j _ _ h=>h)
     ·have e3:=IC (hp 3 (hw 3 (by decide))) (by decide) (by decide) (by decide) (by decide) (by decide) rfl;have cx:=hG.inn.bx.cell 0;simp[f0.out]at cx;rw[P0.out]at cx;simp only[e3]at hK |-;rw[if_pos (by rfl)];go_simp;exact hK _ _ hG (FC (by decide) (by decide) (by decide) (by decide) (by decide) rfl) (fun j _ _ h=>h)
     ·rw[if_pos (by rfl)];go_simp;exact hK _ _ hG (FC (by decide) (by decide) (by decide) (by decide) (by decide) rfl) (fun j _ _ h=>h)
     ·have e4:=IC (hp 4 (hw 4 (by decide))) (by decide) (by decide) (by decide) (by decide) (by decide) rfl;have e5:=IC (hp 5 (hw 5 (by decide))) (by decide) (by decide) (by decide) (by decide) (by decide) rfl;simp only[e4,e5]at hK |-;rw[if_pos (by rfl)];go_simp;exact hK _ _ hG (FC (by decide) (by decide) (by decide) (by decide) (by decide) rfl) (fun j _ _ h=>h)
     ·have e6:=IC (hp 6 (hw 6 (by decide))) (by decide) (by decide) (by decide) (by decide) (by decide) rfl;simp only[e6]at hK |-;rw[if_pos (by rfl)];go_simp;exact hK _ _ hG (FC (by decide) (by decide) (by decide) (by decide) (by decide) rfl) (fun j _ _ h=>h)
     ·have e7:=IC (hp 7 (hw 7 (by decide))) (by decide) (by decide) (by decide) (by decide) (by decide) rfl;have cx:=(H.out.below hG.inn.below lR).rs.c1 k F1.out;rw[T0.out k A0,M0.out]at cx;simp only[e7]at hK |-;rw[if_pos (by rfl)];go_simp;exact hK _ _ hG (FC (by decide) (by decide) (by decide) (by decide) (by decide) rfl) (fun j _ _ h=>h)
     ·rw[if_pos (by rfl)];go_simp;exact hK _ _ hG (FC (by decide) (by decide) (by decide) (by decide) (by decide) rfl) (fun j _ _ h=>h)
     ·have e8:=IC (hp 8 (hw 8 (by decide))) (by decide) (by decide) (by decide) (by decide) (by decide) rfl;have e9:=IC (hp 9 (hw 9 (by decide))) (by decide) (by decide) (by decide) (by decide) (by decide) rfl;simp only[e8,e9]at hK |-;rw[if_pos (by rfl)];go_simp;exact hK _ _ hG (FC (by decide) (by decide) (by decide) (by decide) (by decide) rfl) (fun j _ _ h=>h)
     ·have L2:=IC (hp 10 (hw 10 (by decide))) (by decide) (by decide) (by decide) (by decide) (by decide) rfl;have cx:=((H.out.below hG.inn.below lR).rs.r k F1.out).T.row p (by rw[T0.out k A0];exact A1);simp only[L2]at hK |-;rw[if_pos (by rfl)];go_simp;exact hK _ _ hG (FC (by decide) (by decide) (by decide) (by decide) (by decide) rfl) (fun j _ _ h=>h)
     ·obtain⟨g,e2⟩:=hp 2 (hw 2 (by decide));have M2:=IC (hp 11 (hw 11 (by decide))) (by decide) (by decide) (by decide) (by decide) (by decide) rfl;have N2:=((H.out.below hG.inn.below lR).rs.r k F1.out).T.ints (r:=p) (by rw[T0.out k A0];exact A1);obtain⟨a2,c2,b2,W2,g0,F0,u0,d1⟩:=xG W g ((x.rs.r k).T.A p) ((x.rs.r k).T.t.L p) ((x.rs.r k).T.C p) ((x.rs.r k).T.RB p) ((x.rs.r k).T.RO p) ((x.rs.r k).T.t.Z p) N2 (by rw[U1.out k A0 p A1];split <;> omega) 32;have G1:r5<=W.heap.size:=by have:=hG.sz;have:=V0.out;omega
      simp only[e2]at hK |-;simp only[M2]at hK |-;rw[if_pos (by rfl)];refine wp_append_run (by rfl) _ _ 32 (by rfl) _ _ (by rfl) (by rfl) _ W2 g0 ?_;exact hK _ W2 (hG.keep d1) (fun _=>⟨a2,c2,b2,rfl,F0,fun h0=>⟨(u0 h0).1,Nat.le_trans G1 (u0 h0).2⟩⟩) (fun j _ _ h=>nI d1 h)
     ·have t1:=wB (F:=17) (S:=14) hs hd (by kernel_rfl);obtain⟨a,c,b2,a3,F0,u0⟩:=hp 12 (hw 12 (by decide)) t1;simp only[a3]at hK |-;rw[if_pos (by rfl)];go_simp;have H1:Below W.heap.size W (W.alloc (.cells #[.slice a ((x.rs.r k).T.t.L p) c] 32)):=(Below.refl _ W).alloc lR _;exact hK _ _ (hG.keep H1) (fun _=>⟨a,c,b2,W.heap.size,rfl,Blk.new W _ _,fun hv=>by have:=X1.out _ hv;have:=hG.sz;omega,iI F0 H1 (fun h4=>(u0 h4).1),fun h4=>by obtain⟨⟨cs,h5⟩,h6⟩:=u0 h4;exact⟨⟨cs,h5.alloc _⟩,h6⟩⟩) (fun j _ _ h=>nI H1 h)
     ·have I0:=wB (F:=17) (S:=16) hs hd (by kernel_rfl);have e1:=IC (hp 1 (hw 1 (by decide))) (by decide) (by decide) (by decide) (by decide) (by decide) rfl;obtain⟨a,c,b2,s1,d3,i1,m3,F0,u0⟩:=hp 13 (hw 13 (by decide)) hd;have hT:=hG.told hd;obtain⟨g9,c9,W9,g0,K0,d0,f3⟩:=hT.push (by omega) (by have:=hG.sz;have:=V0.out;omega) (U1.out k A0 p A1) F0 u0 hN0 i1 22;obtain⟨ta,tc,db,k1,_⟩:=hT.ex;have O2:=hG.inn.grown k1 d0;have m0:=(hG.old I0).kept d0 (fun hv=>own_ne k1 (hG.old I0) (by decide) hv.symm rfl);simp only[e1]at hK |-;simp only[d3]at hK |-;rw[if_pos (by rfl)];refine wp_append_run (by rfl) _ _ 22 (by rfl) _ _ (by rfl) (by rfl) _ W9 g0 ?_;refine hK _ W9 ⟨O2,Nat.le_trans hG.sz d0.size,fun h0=>(by cases h0),fun _=>m0,fun h0=>(absurd (I0.symm.trans h0) (by decide))⟩ (fun _=>⟨g9,c9,rfl,K0⟩) (fun j hj _ h=>?_);have h':VF [.pointer (some ⟨r5,1,none⟩),s,undef,.pointer (some ⟨w.heap.size,0,none⟩),.slice (some ⟨x.rs.gb,x.rs.go,none⟩) N x.rs.gc,.int .i64 (k:Int),.pointer (some ⟨x.rs.gb,x.rs.go+k*2,none⟩),.pointer (some ⟨x.rs.gb,x.rs.go+k*2+1,none⟩),.slice (some ⟨(x.rs.r k).T.gb,(x.rs.r k).T.go,none⟩) N (x.rs.r k).T.cap,.int .i64 (p:Int),.pointer (some ⟨(x.rs.r k).T.gb,(x.rs.r k).T.go+p,none⟩),.slice ((x.rs.r k).T.A p) ((x.rs.r k).T.t.L p) ((x.rs.r k).T.C p),undef,undef,undef,.pointer (some ⟨r5,1,none⟩),undef] x N k p r5 s false (d 16) j (t j) W:=by rw[<-hd];exact h
      exact mR W9 hj h'
     ·rw[if_pos (by rfl)];go_simp;exact hK _ _ hG (FC (by decide) (by decide) (by decide) (by decide) (by decide) rfl) (fun j _ _ h=>h)
     ·have P2:=IC (hp 15 (hw 15 (by decide))) (by decide) (by decide) (by decide) (by decide) (by decide) rfl;obtain⟨g9,c9,r2,K0⟩:=hp 14 (hw 14 (by decide)) hd;have t1:=wE (F:=17) hs ho hw (S:=14) (by kernel_rfl) (by decide);rw[r2]at K0;have m0:=hG.old hd;have cq:=m0.cell 1;have fq:=m0.frozen 1;simp at cq;have hN:aQ w x N k y V H0 b' c' r5 wz s p true true (W.setCell ⟨r5,1,none⟩ (.slice (some ⟨g9,0,none⟩) (p+1) c9)):=⟨hG.inn.set m0 E2.out _ _,by simpa using hG.sz,fun h0=>(by cases h0),fun h0=>(by cases h0),fun _=>⟨g9,c9,by have:=m0.set 1 (.slice (some ⟨g9,0,none⟩) (p+1) c9);simpa using this,K0.set m0 (by decide) (by decide) _⟩⟩;have HN:=hide hN;have d2:∀j,d j=true->VF [.pointer (some ⟨r5,1,none⟩),s,undef,.pointer (some ⟨w.heap.size,0,none⟩),.slice (some ⟨x.rs.gb,x.rs.go,none⟩) N x.rs.gc,.int .i64 (k:Int),.pointer (some ⟨x.rs.gb,x.rs.go+k*2,none⟩),.pointer (some ⟨x.rs.gb,x.rs.go+k*2+1,none⟩),.slice (some ⟨(x.rs.r k).T.gb,(x.rs.r k).T.go,none⟩) N (x.rs.r k).T.cap,.int .i64 (p:Int),.pointer (some ⟨(x.rs.r k).T.gb,(x.rs.r k).T.go+p,none⟩),.slice ((x.rs.r k).T.A p) ((x.rs.r k).T.t.L p) ((x.rs.r k).T.C p),undef,undef,undef,.pointer (some ⟨r5,1,none⟩),undef] x N k p r5 s (d 14) (d 16) j (t j) W->VF [.pointer (some ⟨r5,1,none⟩),s,undef,.pointer (some ⟨w.heap.size,0,none⟩),.slice (some ⟨x.rs.gb,x.rs.go,none⟩) N x.rs.gc,.int .i64 (k:Int),.pointer (some ⟨x.rs.gb,x.rs.go+k*2,none⟩),.pointer (some ⟨x.rs.gb,x.rs.go+k*2+1,none⟩),.slice (some ⟨(x.rs.r k).T.gb,(x.rs.r k).T.go,none⟩) N (x.rs.r k).T.cap,.int .i64 (p:Int),.pointer (some ⟨(x.rs.r k).T.gb,(x.rs.r k).T.go+p,none⟩),.slice ((x.rs.r k).T.A p) ((x.rs.r k).T.t.L p) ((x.rs.r k).T.C p),undef,undef,undef,.pointer (some ⟨r5,1,none⟩),undef] x N k p r5 s true true j (t j) (W.setCell ⟨r5,1,none⟩ (.slice (some ⟨g9,0,none⟩) (p+1) c9)):=fun j _ h=>YN _ (by rw[t1,hd]at h;exact h);have Q2:=hide d2;have X0:NA d 16 14=true:=t1;have Y0:NA d 16 16=true:=by simp[NA]
      clear d2 hN m0 K0;simp only[r2]at hK |-;simp only[P2]at hK |-;rw[if_pos (by rfl)];go_simp;exact hK undef _ (by show aQ w x N k y V H0 b' c' r5 wz s p (NA d 16 14) (NA d 16 16) _;rw[X0,Y0];exact HN.out) trivial (fun j _ hj h=>by show VF _ x N k p r5 s (NA d 16 14) (NA d 16 16) j (t j) _;rw[X0,Y0];exact Q2.out j hj h)
    ·have R2:p=N:=by omega
     subst R2;have J2:(p:Int)<=(p:Int):=Int.le_refl _;obtain⟨gt,ct,hs⟩:=B0 hN0;subst hs;obtain⟨W4,z1⟩:∃W4,W4=wr.alloc (.cells #[.slice (some ⟨b',0,none⟩) p c',.slice (some ⟨gt,0,none⟩) p ct] 57):=⟨_,rfl⟩;have I1:Below wr.heap.size wr W4:=by rw[z1];exact(Below.refl _ wr).alloc lR _
     have f2:Blk W4 wr.heap.size #[.slice (some ⟨b',0,none⟩) p c',.slice (some ⟨gt,0,none⟩) p ct] 57:=by rw[z1];exact Blk.new wr _ _
     have i0:=O0.keep I1;obtain⟨g5,c5,W5,g0,g1,d0⟩:=RP W4 w.heap.size V k (xD y p k) i0.cop.rtrs (by omega) i0.below.size wr.heap.size _ _ f2 rfl rfl 28;obtain⟨y',R1⟩:=i0.cop.push i0.lo.2.2 i0.row i0.lo.1 i0.cells i0.lo.2.1 (hT.below I1) g1 d0;have u1:∀q cs,Blk W4 q cs 31->some q≠V.ownBlock:=fun q cs hq hv=>own_ne i0.cop.rtrs hq (by decide) hv.symm rfl;have k1:=i0.bx.kept d0 (u1 _ _ i0.bx);have k2:=i0.res.kept d0 (u1 _ _ i0.res);have k3:=i0.out.kept d0 (u1 _ _ i0.out);have g2:Below w.heap.size w W5:=i0.below.trans (nA d0 (fun q hq=>(i0.cop.rtrs.lt q hq).1) i0.below.size);have h2:Hid (∃y V',Below w.heap.size w (W5.setCell ⟨w.heap.size+2,0,none⟩ (.slice (some ⟨g5,0,none⟩) (k+1) c5))/\Blk (W5.setCell ⟨w.heap.size+2,0,none⟩ (.slice (some ⟨g5,0,none⟩) (k+1) c5)) w.heap.size x.cells 31/\Blk (W5.setCell ⟨w.heap.size+2,0,none⟩ (.slice (some ⟨g5,0,none⟩) (k+1) c5)) (w.heap.size+1) #[.slice none 0 0,.slice none 0 0] 31/\Blk (W5.setCell ⟨w.heap.size+2,0,none⟩ (.slice (some ⟨g5,0,none⟩) (k+1) c5)) (w.heap.size+2) #[V',.slice none 0 0] 31/\rE w.heap.size (W5.setCell ⟨w.heap.size+2,0,none⟩ (.slice (some ⟨g5,0,none⟩) (k+1) c5)).heap.size p x.eng y V' (k+1) (W5.setCell ⟨w.heap.size+2,0,none⟩ (.slice (some ⟨g5,0,none⟩) (k+1) c5))):=hide
      ⟨y',.slice (some ⟨g5,0,none⟩) (k+1) c5,g2.setCell (p:=⟨w.heap.size+2,0,none⟩) (by show w.heap.size<=w.heap.size+2;omega) _,k1.other (by omega) _ _,k2.other (by omega) _ _,by have:=k3.set 0 (.slice (some ⟨g5,0,none⟩) (k+1) c5);simpa using this,(R1.set k3 (by decide) (by decide) (fun hv=>own_ne R1.rtrs k3 (by decide) hv rfl) _).mono (by simp)⟩
     have o0:=(O0.out.cell 0);have S2:=R0.cell 0;have T2:=R0.cell 1;have o5:=k3.cell 0;have f5:=k3.frozen 0;simp at o0 S2 T2 o5;obtain⟨va,vl,vc,S0⟩:∃va vl vc,V=.slice va vl vc:=by obtain⟨a,c,e⟩:=QA i0.cop.rtrs;exact⟨a,k,c,e⟩
     have k0:=hide g0;rw[S0]at o0 k0 o5;have o4:W4.cell? ⟨w.heap.size+2,0,none⟩=some (.slice va vl vc):=by have:=i0.out.cell 0;rw[S0]at this;simpa using this
     rw[z1]at k0 o4;clear O0 R0 hT hI G0 HJ B0 I1 f2 i0 g1 d0 R1 u1 k1 k2 k3 g2 g0 S0 z1;go_wp2_with (at_builtin;refine Lib.wpList_append_run _ rfl _ _ _ _ rfl _ _ rfl rfl _ _ k0.out ?_);go_roundw
     case rel =>
      first
      | exact⟨k+1,by omega,by go_num,h2⟩
      | ((try rw[<-P0.out]);(repeat apply Exists.intro);refine⟨?_,rfl⟩;exact⟨k+1,by omega,by go_num,h2⟩)
     case measure=>simp[intOf];omega
  ·have U2:k=N:=by omega
   subst U2;have C2:(k:Int)<=(k:Int):=Int.le_refl _;have x1:=C0.cell 1;simp[f0.out]at x1;have i3:∀o,(wr.alloc o).cell? ⟨w.heap.size,1,none⟩=some (.slice x.bag.ba x.bag.bn x.bag.bc):=fun o=>by have:=(C0.alloc o).cell 1;rw[f0.out]at this;simpa using this
   have J1:Below wr.heap.size wr (wr.alloc (.cells #[] 59)):=(Below.refl _ wr).alloc lR _;have J0:World.ownsRow (wr.alloc (.cells #[] 59)) wr.heap.size 59 3 (.slice (some ⟨wr.heap.size,0,none⟩) 0 0) 0 [] :=
    World.ownsRow_made wr #[] 0 (base:=wr.heap.size) (e:=59) (size:=3) lR zL (by simp)
   obtain⟨v,W7,g0,L0,t2⟩:=VP (wr.alloc (.cells #[] 59)) wr.heap.size wr.heap.size J0 x.bag ((H.out.below hB lR).below J1 hB.size).bag hbn (by simp) (by simp) 29;have z0:=J1.trans t2;have k1:=C0.below z0 C0.lt;have k2:=u0.below z0 u0.lt;have k3:=Q0.below z0 Q0.lt;have K1:=hC.below z0;have s0:W7.ownsRow w.heap.size 59 3 v x.eng.bag.length (uA x.eng.bag):=Go.Joins.ownsRow_le L0 hB.size;obtain⟨va,vc,S0⟩:=QA hC.rtrs;obtain⟨ba,bc,u2⟩:=QA s0;have nV:∀ (W:World) q cs,rE w.heap.size wr.heap.size k x.eng y V k W->Blk W q cs 31->V.ownBlock≠some q:=fun W q cs hc hq hv=>own_ne hc.rtrs hq (by decide) hv rfl;have nB:∀ (W:World) q cs,W.ownsRow w.heap.size 59 3 v x.eng.bag.length (uA x.eng.bag)->Blk W q cs 31->v.ownBlock≠some q:=fun W q cs hc hq hv=>own_ne hc hq (by decide) hv rfl;have E0:=k2.other (C:=w.heap.size+2) (by omega) 1 v;have v1:Blk (W7.setCell ⟨w.heap.size+2,1,none⟩ v) (w.heap.size+2) #[V,v] 31:=by have:=k3.set 1 v;simpa using this
   have L1:=K1.set (j:=1) k3 (by decide) (by decide) (nV _ _ _ K1 k3) v;have M1:World.ownsRow (W7.setCell ⟨w.heap.size+2,1,none⟩ v) w.heap.size 59 3 v x.eng.bag.length (uA x.eng.bag):=ownsRow_setCell_other s0 (nB _ _ _ s0 k3) v;have Z0:=E0.set 0 V;have i2:=v1.other (C:=w.heap.size+1) (by omega) 0 V;have N1:=L1.set (j:=0) E0 (by decide) (by decide) (nV _ _ _ L1 E0) V;have O1:World.ownsRow ((W7.setCell ⟨w.heap.size+2,1,none⟩ v).setCell ⟨w.heap.size+1,0,none⟩ V) w.heap.size 59 3 v x.eng.bag.length (uA x.eng.bag):=ownsRow_setCell_other M1 (nB _ _ _ M1 E0) V;have P1:=Z0.set 1 v;have j2:=i2.other (C:=w.heap.size+1) (by omega) 1 v;have l2:=N1.set (j:=1) Z0 (by decide) (by decide) (nV _ _ _ N1 Z0) v;have m2:World.ownsRow (((W7.setCell ⟨w.heap.size+2,1,none⟩ v).setCell ⟨w.heap.size+1,0,none⟩ V).setCell ⟨w.heap.size+1,1,none⟩ v) w.heap.size 59 3 v x.eng.bag.length (uA x.eng.bag):=ownsRow_setCell_other O1 (nB _ _ _ O1 Z0) v;obtain⟨y9,v2,w2⟩:=l2.live hN0 j2 (by omega) m2;have o2:Below w.heap.size w W7:=hB.trans (z0.mono hB.size);have HF:Hid ((∃P Bv y,qC w.heap.size P k x.eng Bv y (((W7.setCell ⟨w.heap.size+2,1,none⟩ v).setCell ⟨w.heap.size+1,0,none⟩ V).setCell ⟨w.heap.size+1,1,none⟩ v)/\Ending.returned (.agg #[V,v])=.returned (.agg #[.slice (some ⟨y.G,0,none⟩) k y.gc,Bv]))/\Below w.heap.size w (((W7.setCell ⟨w.heap.size+2,1,none⟩ v).setCell ⟨w.heap.size+1,0,none⟩ V).setCell ⟨w.heap.size+1,1,none⟩ v)):=hide ⟨⟨_,v,y9,v2,by rw[w2]⟩,((o2.setCell (p:=⟨w.heap.size+2,1,none⟩) (by show w.heap.size<=w.heap.size+2;omega) _).setCell (p:=⟨w.heap.size+1,0,none⟩) (by show w.heap.size<=w.heap.size+1;omega) _).setCell (p:=⟨w.heap.size+1,1,none⟩) (by show w.heap.size<=w.heap.size+1;omega) _⟩;have o1:=k3.cell 1;have j3:=k3.frozen 1;have p0:=v1.cell 0;have p1:=v1.cell 1;have q0:=E0.cell 0;have q1:=E0.cell 1;have V2:=E0.frozen 0;have X2:=E0.frozen 1;have e0:=P1.cell 0;have e1:=P1.cell 1;simp at o1 p0 p1 q0 q1 e0 e1;have k0:=hide g0;rw[u2]at k0 p0 p1 q0 q1 V2 X2 e0 e1 HF;rw[S0]at p0 e0 e1 HF;generalize x.eng.bag.length=bl at *;clear J1 J0 L0 t2 z0 k1 k2 k3 K1 s0 nV nB E0 v1 L1 M1 Z0 i2 N1 O1 P1 j2 l2 m2 v2 w2 o2 g0 hB C0 u0 Q0 hC HI S0 u2;go_wp2_with (at_builtin;refine Lib.wpList_append_run _ rfl _ _ _ _ rfl _ _ rfl rfl _ _ k0.out ?_);exact bodyPost_ret (v:=.agg #[.slice va k vc,.slice ba bl bc]) (by simp[results,Tryz.results58,go_sem,e0,e1]) rfl HF.out
theorem Mat.From.clear {m:Mat}{b q:Nat}(h:m.From b)(hq:q<b):m.Clear q :=
 ⟨fun h0=>by have:=h.gb h0;omega,fun r hr h0=>by have:=h.rows r hr h0;omega⟩
theorem Mat.In.clear {m:Mat}{N q:Nat}{w:World}(h:m.In N w)(hq:N<=q):m.Clear q :=
 ⟨fun h0=>by have:=h.gb h0;omega,fun r hr h0=>by have:=(h.addr r hr h0).2;omega⟩
theorem Mat.In.set {m:Mat}{N q:Nat}{w:World}(h:m.In N w)(hc:m.Clear q)(j:Nat)(v:Value):m.In N (w.setCell ⟨q,j,none⟩ v) where
 ga:=h.ga
 gb:=h.gb
 row:=fun r hr=>by rw[qA (hc.gb (by omega))];exact h.row r hr
 addr:=h.addr
 cell:=fun r hr c hcc=>by rw[qA (hc.rows r hr (by omega))];exact h.cell r hr c hcc
 len:=h.len
 lens:=h.lens
theorem iA.From.clear {x:iA}{lo q:Nat}(h:x.From lo)(hq:q<lo):x.Clear q :=
 ⟨fun h0=>by have:=h.g h0;omega,fun i hi=>⟨fun h0=>by have:=(h.r i hi).1 h0;omega,(h.r i hi).2.clear hq⟩,fun h0=>by have:=h.b h0;omega⟩
theorem iA.In.clear {x:iA}{N q:Nat}{w:World}(h:x.In N w)(hq:N<=q):x.Clear q :=
 ⟨fun h0=>by have:=h.rs.gb h0;omega,fun i hi=>⟨fun h0=>by have:=(h.rs.r i hi).lt h0;omega,(h.rs.r i hi).T.clear hq⟩,fun h0=>by have:=h.bag.bb h0;omega⟩
theorem BB.In.set {r:BB}{N q:Nat}{w:World}(h:r.In N w)(h1:0<r.rl->r.rb≠q)(h2:r.T.Clear q)(j:Nat)(v:Value):r.In N (w.setCell ⟨q,j,none⟩ v) :=
 ⟨⟨h.ints.addr,fun i hi=>by rw[qA (h1 (by omega))];exact h.ints.cell i hi,h.ints.len⟩,h.lt,h.T.set h2 j v⟩
theorem iA.In.set {x:iA}{N q:Nat}{w:World}(h:x.In N w)(hc:x.Clear q)(j:Nat)(v:Value):x.In N (w.setCell ⟨q,j,none⟩ v) :=
 ⟨⟨h.rs.ga,h.rs.gb,fun i hi=>by rw[qA (hc.g (by omega))];exact h.rs.c0 i hi,fun i hi=>by rw[qA (hc.g (by omega))];exact h.rs.c1 i hi,fun i hi=>(h.rs.r i hi).set (hc.r i hi).1 (hc.r i hi).2 j v,h.rs.len⟩,
  ⟨h.bag.ba,h.bag.bb,fun i hi=>by rw[qA (hc.b (by omega))];exact h.bag.c0 i hi,fun i hi=>by rw[qA (hc.b (by omega))];exact h.bag.c1 i hi,fun i hi=>by rw[qA (hc.b (by omega))];exact h.bag.c2 i hi,h.bag.len,h.bag.lens⟩⟩
end Go.Proofs.YtjhkadffaephmacGreat
