import Derived.Test.YtjhkadffaephmacGreatCutRestStatesBH
namespace Go.Proofs.YtjhkadffaephmacGreat
set_option maxHeartbeats 16000000
set_option maxRecDepth 100000
open Go.RowKit
theorem FJ {W:World}{b:Nat}{v:Value}{K:List Nat}(h:W.ownsRow b 3 1 v K.length (WE K)):
 ∃ (ta:Option Addr) (tc gt:Nat),v=.slice ta K.length tc/\(0<K.length->ta=some ⟨gt,0,none⟩/\b<=gt/\gt<W.heap.size/\∀k,k<K.length->W.cell? ⟨gt,k,none⟩=some (.int .i64 ((K.getD k 0:Nat):Int))):=by
 rcases Go.Joins.ownsRow_forms h with ⟨e0,e1⟩ | ⟨g,cap,e1⟩
 ·exact⟨none,0,0,by rw[e0,e1],fun h0=>by omega⟩
 ·refine⟨some ⟨g,0,none⟩,cap,g,e1,fun h0=>⟨rfl,(h.lt g (by rw[e1];rfl)).1,(h.lt g (by rw[e1];rfl)).2,fun k hk=>?_⟩⟩;rw[e1]at h;rw[h.cellAt k (by omega)];simp[WE,List.getD_eq_getElem?_getD,List.getElem?_eq_getElem hk]
theorem pQ (n:dA)(base P N i:Nat)(e:Eng)(Bv:Value)(y:Lay)(w:World)(h:n.In base w)(hck:n.net.check=0)(hN:n.nodes=N)(hL:Live base P N e Bv y w)(hm:e.bag.length<=120)(hK:120<e.bag.length+(n.net.hearers i).length):
 Calls Tryz.prog 110 #[n.val,.pointer (some ⟨P,0,none⟩),.int .i64 i] w fun r w'=>r=.returned (.int .i64 2)/\Live base P N e Bv y w'/\Below base w w':=by
 have h0:base<=w.heap.size:=Nat.le_of_lt (Nat.lt_of_le_of_lt hL.lp hL.head.lt);have:(n.net.hearers i).length<=6:=by
  have:=n.net.hearers_le i;have g:=Net.good_of_check hck;have:=g.hi;have:=Net.nodes_N g;omega
 obtain⟨W1,g0⟩:∃W1,W1=w.alloc (.cells n.cells 27):=⟨_,rfl⟩;have f0:Below w.heap.size w W1:=by rw[g0];exact(Below.refl _ w).alloc lR _
 have b3:Blk W1 w.heap.size n.cells 27:=by rw[g0];exact Blk.new w _ _
 have HH:=hide (EI n i W1 ((h.below (f0.mono h0) lR).mono (Nat.le_trans h0 f0.size)) hck);have HX:Hid (∀W,Below W1.heap.size W1 W->Live base P N e Bv y W/\Below base w W):=hide (fun W hb=>⟨(hL.below f0).below hb,(f0.mono h0).trans (hb.mono (Nat.le_trans h0 f0.size))⟩);obtain⟨bl,i0⟩:∃bl bc,Bv=.slice bl e.bag.length bc:=by
  rcases Go.Joins.ownsRow_forms hL.bag with ⟨e0,e1⟩ | ⟨g,cap,e1⟩
  ·exact⟨none,0,by rw[e0,e1]⟩
  ·exact⟨_,_,e1⟩
 obtain⟨bc,i0⟩:=i0;have:=hide (hL.below f0);have k0:=hide i0;have d0:n.cells=#[.int .i64 n.a.size,.slice n.a.B.ga n.a.B.t.len n.a.B.cap,.slice n.a.E.ga n.a.E.t.len n.a.E.cap,.int .i64 N,.slice n.la n.ln n.lc]:=by simp only[dA.cells,Mat.val,hN]
 rw[d0]at g0;rw[dA.val,d0,g0]at HH;rw[dA.val,d0];generalize n.net.hearers i=K at *;generalize e.bag.length=len at *;have m0:=hide g0;clear h hck hN hL h0 f0 b3 i0 d0 g0;go_enter Tryz.func110,Tryz.ntmps110;go_wp2_with fail;go_at_call 134;refine HH.out.mono ?_;rw[<-m0.out];rintro r W2 ⟨⟨v,rfl,hv⟩,j0⟩;obtain⟨ta,tc,gt,rfl,_⟩:=FJ hv;have HF:=hide (HX.out W2 j0);have p1:=HF.out.1.head.cell 1;simp at p1;rw[k0.out]at p1;have:(120:Int)<(len:Int)+(K.length:Int):=by omega
 generalize K.length=kl at *;clear j0 hv HX HH;go_wp2;go_ret;exact⟨rfl,HF.out⟩
structure yT (base P N:Nat) (n:Net) (e1:Eng) (i:Nat) (K:List Nat) (y3:Lay) (gt k:Nat) (wr:World):Prop where
 live:∃Bvk,Live base P N { e1 with bag:=e1.bag ++ (K.take k).map fun q=>e1.mail n i q } Bvk y3 wr/\(0<K.length->Bvk.ownBlock≠some gt)
 lt:0<K.length->gt<wr.heap.size/\gt≠P
 cell:∀j,j<K.length->wr.cell? ⟨gt,j,none⟩=some (.int .i64 ((K.getD j 0:Nat):Int))
theorem kL (K:List Nat)(f:Nat->xB)(k:Nat)(hk:k<K.length):(K.take (k+1)).map f=(K.take k).map f ++ [f (K.getD k 0)]:=by
 rw[List.take_add_one,List.getElem?_eq_getElem hk,List.map_append,List.getD_eq_getElem?_getD,List.getElem?_eq_getElem hk];rfl
theorem QT (n:dA)(base P N i:Nat)(e:Eng)(Bv:Value)(y:Lay)(w:World)(h:n.In base w)(hck:n.net.check=0)(hN:n.nodes=N)(hL:Live base P N e Bv y w)(hfit:e.Fit n.net)(hi:i<N)(hK:e.bag.length+(n.net.hearers i).length<=120):
 Calls Tryz.prog 110 #[n.val,.pointer (some ⟨P,0,none⟩),.int .i64 i] w fun r w'=>r=.returned (.int .i64 0)/\(∃Bv' y',Live base P N (e.tick n.net i) Bv' y' w')/\Below base w w':=by
 have u0:base<=w.heap.size:=Nat.le_of_lt (Nat.lt_of_le_of_lt hL.lp hL.head.lt);have g:=Net.good_of_check hck;have B2:=g.hi;have g2:n.net.N=N:=by show n.nodes.toNat=N;omega
 have C2:N<=6:=by have:n.net.nodes=n.nodes:=rfl;omega
 obtain⟨i0,z2,hq⟩:∃i,Tryz.prog.info? 59=some i/\(i.zero.map (fun z=>z.cells.size),i.size,i.bytes)=(some 3,3,32):=Option.map_eq_some_iff.1 Tryz.infoMail;obtain⟨z,hz,A2⟩:∃z,i0.zero=some z/\z.cells.size=3:=by
  have:=congrArg Prod.fst hq;simpa [Option.map_eq_some_iff] using this
 have i2:i0.size=3:=congrArg (fun x=>x.2.1) hq;have j2:i0.bytes=32:=congrArg (fun x=>x.2.2) hq;obtain⟨W1,J0⟩:∃W1,W1=w.alloc (.cells n.cells 27):=⟨_,rfl⟩;have v0:Below w.heap.size w W1:=by rw[J0];exact(Below.refl _ w).alloc lR _
 have b3:Blk W1 w.heap.size n.cells 27:=by rw[J0];exact Blk.new w _ _
 have HH:=hide (EI n i W1 ((h.below (v0.mono u0) lR).mono (Nat.le_trans u0 v0.size)) hck);obtain⟨bl,X0⟩:∃bl bc,Bv=.slice bl e.bag.length bc:=by
  rcases Go.Joins.ownsRow_forms hL.bag with ⟨e0,e1⟩ | ⟨g,cap,e1⟩
  ·exact⟨none,0,by rw[e0,e1]⟩
  ·exact⟨_,_,e1⟩
 obtain⟨bc,X0⟩:=X0;have d1:=hL.below v0;have HL:=hide d1;have f1:=hide X0;have d0:n.cells=#[.int .i64 n.a.size,.slice n.a.B.ga n.a.B.t.len n.a.B.cap,.slice n.a.E.ga n.a.E.t.len n.a.E.cap,.int .i64 N,.slice n.la n.ln n.lc]:=by simp only[dA.cells,Mat.val,hN]
 have g1:=hide (fun W (hb:Below W1.heap.size W1 W)=>oG n base P N i e Bv y W (h.below ((v0.mono u0).trans (hb.mono (Nat.le_trans u0 v0.size))) lR) hck hN (d1.below hb) hfit hi);have F1:Hid (∀W,Below W1.heap.size W1 W->Below base w W):=hide (fun W hb=>(v0.mono u0).trans (hb.mono (Nat.le_trans u0 v0.size)));have i1:=hide b3;rw[d0]at J0;rw[dA.val,d0,J0]at HH;rw[dA.val,d0]at g1;have G1:=hide J0;obtain⟨K,w1⟩:∃K,K=n.net.hearers i:=⟨_,rfl⟩;rw[<-w1]at HH hK;have H1:Hid (e.tick n.net i={ e.look n.net i with bag:=e.bag ++ K.map fun k=>(e.look n.net i).mail n.net i k }):=hide (by rw[w1];rfl);have p0:=hide d0;have k2:=hide u0;rw[dA.val,d0];obtain⟨len,F0⟩:∃len,len=e.bag.length:=⟨_,rfl⟩;rw[<-F0]at hK f1;have j1:=hide F0;have l2:base<=W1.heap.size:=Nat.le_trans u0 v0.size;clear h hck hN hL d1 u0 v0 b3 X0 d0 J0 hfit hq w1 F0;go_enter Tryz.func110,Tryz.ntmps110;go_wp2_with fail;go_at_call 134;refine HH.out.mono ?_;rw[<-G1.out];rintro r W2 ⟨⟨v,rfl,hv⟩,o0⟩;obtain⟨ta,tc,gt,rfl,y1⟩:=FJ hv;have I1:=HL.out.below o0;have p1:=I1.head.cell 1;have q3:=i1.out.below o0 i1.out.lt;have x0:=q3.cell 0;have x1:=q3.cell 1;have x2:=q3.cell 2;have x3:=q3.cell 3;have x4:=q3.cell 4;simp only[p0.out]at x0 x1 x2 x3 x4;simp at p1 x0 x1 x2 x3 x4;rw[f1.out]at p1;have m2:¬ (120:Int)<(len:Int)+(K.length:Int):=by omega
 have k1:=hide y1;have J1:0<K.length->y.Off P N Bv W2 gt:=fun h0=>by
  obtain⟨_,h1,h2,_⟩:=y1 h0;have H0:=HL.out;exact⟨by have:=H0.head.lt;omega,by have:=H0.rtrs.lt;omega,fun k hk=>by have:=(H0.tolds k hk).lt;omega,fun hv=>by have:=(H0.bag.lt _ hv).2;omega,h2,by have:=H0.ylo;have:=H0.head.lt;omega⟩
 have o1:=hide J1;have HC:=hide (g1.out W2 o0);have K1:=hide (F1.out W2 o0);obtain⟨kl,Y0⟩:∃kl,kl=K.length:=⟨_,rfl⟩;rw[<-Y0]at m2 k1 o1 hK;rw[<-Y0];have D0:=hide Y0;clear o0 hv HH HL I1 q3 y1 J1 g1 F1 Y0;go_wp2_with fail;go_at_call 135;refine HC.out.mono ?_;rintro r W3 ⟨rfl,⟨y3,U1,V1,z1⟩,A1,X1⟩;have m0:Hid (0<kl->ta=some ⟨gt,0,none⟩/\gt<W3.heap.size/\y3.Off P N Bv W3 gt/\∀k,k<kl->W3.cell? ⟨gt,k,none⟩=some (.int .i64 ((K.getD k 0:Nat):Int))):=hide (fun h0=>by
  obtain⟨h1,h2,h3,h4⟩:=k1.out h0;have ho:=o1.out h0;have S0:gt<W3.heap.size:=Nat.lt_of_lt_of_le h3 A1.size;exact⟨h1,S0,⟨ho.p,by rw[V1];exact ho.g,by rw[z1.1];exact ho.t,ho.v,S0,by rw[z1.2];exact ho.lo⟩,fun k hk=>by rw[World.cell?_of_block (X1 gt ho)];exact h4 k hk⟩)
 have L1:({ e.look n.net i with bag:=(e.look n.net i).bag ++ (K.take 0).map fun q=>(e.look n.net i).mail n.net i q }:Eng)=e.look n.net i:=by simp
 have T0:Hid (yT base P N n.net (e.look n.net i) i K y3 gt 0 W3):=hide ⟨⟨Bv,by rw[L1];exact U1,fun h0=>(m0.out (by rw[D0.out];exact h0)).2.2.1.v⟩,fun h0=>⟨(m0.out (by rw[D0.out];exact h0)).2.1,(m0.out (by rw[D0.out];exact h0)).2.2.1.p⟩,fun j hj=>(m0.out (by rw[D0.out];omega)).2.2.2 j (by rw[D0.out];exact hj)⟩;have o2:=hide (K1.out.trans A1);have q2:Hid (0<kl->ta=some ⟨gt,0,none⟩):=hide (fun h0=>(m0.out h0).1);obtain⟨e1,Z0⟩:∃e1,e1=e.look n.net i:=⟨_,rfl⟩;have q0:Hid (e1.bag.length=len):=hide (by rw[Z0,j1.out];rfl);have M0:Hid (e.tick n.net i={ e1 with bag:=e1.bag ++ (K.take kl).map fun q=>e1.mail n.net i q }):=hide (by rw[H1.out,Z0,D0.out,List.take_length];rfl);rw[<-Z0]at T0;have D2:Hid (∀k,k<K.length->K.getD k 0<N->(Pkt.mk i (K.getD k 0) n.net.N (e1.R i)).text=(e1.mail n.net i (K.getD k 0)).b):=hide (fun k _ _=>rfl);clear U1 V1 z1 A1 X1 L1 HC k1 o1 K1 m0 H1 Z0 x0 x1 x2 x3 x4 p1 f1 G1 p0 i1;go_wp2
 go_loopw [9,10,11,30] (fun _ _ _ q wr=>∃k:Nat,k<=kl/\q=.int .i64 k/\Hid (yT base P N n.net e1 i K y3 gt k wr)/\Hid (Below base w wr)) (fun _ _ _ q _=>kl-(intOf q).toNat)
 case atStart=>exact⟨0,zL,rfl,T0,o2⟩
 case round =>
  obtain⟨k,hk,rfl,HI,B1⟩:=hrel;by_cases S0:k<kl
  ·have r2:(k:Int)<(kl:Int):=by omega
   have M1:k<K.length:=by rw[<-D0.out];exact S0
   obtain rfl:=q2.out (by omega);obtain⟨⟨K0,hl,Y1⟩,Z1,C1⟩:=HI.out;have c0:=C1 k M1;obtain⟨ba,a2,Q0⟩:∃ba a2,K0=.slice ba (len+k) a2:=by
    have y0:(e1.bag ++ (K.take k).map fun q=>e1.mail n.net i q).length=len+k:=by
     rw[List.length_append,List.length_map,List.length_take,q0.out];omega
    rcases Go.Joins.ownsRow_forms hl.bag with ⟨e0,e1'⟩ | ⟨g,cap,e1'⟩
    ·have t2:len+k=0:=by rw[<-y0];exact e1'
     exact⟨none,0,by rw[e0,t2]⟩
    ·exact⟨_,_,by rw[e1'];show Value.slice _ (List.length _) _=_;rw[y0]⟩
   obtain⟨q,hq⟩:∃q,q=K.getD k 0:=⟨_,rfl⟩;rw[<-hq]at c0;have h0:=hl.head.cell 0;have r0:=hl.rtrs.cell (i*2);rw[hl.r0 i hi]at r0;simp at h0;obtain⟨b2,d2⟩:=hl.routes i hi;have q1:=hide (iL ⟨i,q,some ⟨y3.rb i,0,none⟩,N,y3.rc i,y3.rb i,0,e1.R i⟩ wr ⟨⟨fun _=>rfl,fun j hj=>by rw[Nat.zero_add];exact d2 j hj,by show N<=_;unfold maxLen;omega⟩,fun _=>b2.lt,by show N<=_;omega⟩);simp only[lC.val,lC.cells,lC.pkt,txt]at q1;have E2:(i:Int)<(N:Int):=by omega
   have U0:=hide hl;have N1:=hide Y1;have V0:=hide Z1;have u2:=hide C1;have s0:=hide Q0;have Hq:=hide hq;clear hl Y1 Z1 C1 b2 d2 Q0 hq HI T0;go_wp2_with fail;go_at_call 136;refine q1.out.mono ?_;rintro r w2 ⟨rfl,o0⟩;have s1:=U0.out.below o0;obtain⟨tx,D1⟩:∃tx,tx=(Pkt.mk i q N (e1.R i)).text:=⟨_,rfl⟩;obtain⟨er,f2⟩:∃er,er=(Pkt.mk i q N (e1.R i)).err:=⟨_,rfl⟩;rw[<-D1,<-f2];obtain⟨W5,L0⟩:∃W5,W5=w2.alloc (.cells #[.int .i64 (i:Int),.int .i64 (q:Int),.string ⟨tx.toArray⟩] 59):=⟨_,rfl⟩;have W0:Below w2.heap.size w2 W5:=by rw[L0];exact(Below.refl _ w2).alloc lR _
   have N0:=s1.below W0;have I0:=hide N0;have p2:=s1.head.cell 1;have y0:(e1.bag ++ (K.take k).map fun q=>e1.mail n.net i q).length=len+k:=by
    rw[List.length_append,List.length_map,List.length_take,q0.out];omega
   have z0:=N0.bag;have j0:W5.ownsRow base 59 3 K0 (len+k) (uA (e1.bag ++ (K.take k).map fun q=>e1.mail n.net i q)):=by rw[<-y0];exact z0
   rw[s0.out]at j0;have t1:=hide j0;have O1:W5.heap[w2.heap.size]? = some (.cells #[.int .i64 (i:Int),.int .i64 (q:Int),.string ⟨tx.toArray⟩] 59 (0,0)):=by rw[L0];exact heap_alloc_new w2 _
   simp at p2;rw[s0.out]at p2;have P1:=hide O1;have w0:base<=W5.heap.size:=Nat.le_of_lt (Nat.lt_of_le_of_lt N0.lp N0.head.lt);have Q1:Hid (Below base wr W5):=hide ((o0.trans (W0.mono o0.size)).mono (Nat.le_of_lt (Nat.lt_of_le_of_lt U0.out.lp U0.out.head.lt)));have g0:Hid (gt<W5.heap.size/\∀j,j<K.length->W5.cell? ⟨gt,j,none⟩=some (.int .i64 ((K.getD j 0:Nat):Int))):=hide (by
    have O0:=o0.trans (W0.mono o0.size);refine⟨Nat.lt_of_lt_of_le (V0.out (by omega)).1 O0.size,fun j hj=>?_⟩;rw[O0.cell (p:=⟨gt,j,none⟩) (V0.out (by omega)).1];exact u2.out j hj)
   have u1:Hid (W5.heap.size=w2.heap.size+1):=hide (by rw[L0];simp);rw[L0]at t1 w0 P1;have R1:=hide L0;have v2:=hide D1;clear o0 s1 W0 N0 y0 z0 j0 O1 q1 L0 D1 f2;go_wp2_with (at_builtin;refine wpList_append_lies _ rfl _ _ _ rfl base 59 i0 z 3 32 Tryz.underlying29 z2 hz i2 j2 A2 (by decide) _ (len+k) _ rfl t1.out ⟨w2.heap.size,0,none⟩ 1 1 [.int .i64 (i:Int),.int .i64 (q:Int),.string ⟨tx.toArray⟩] rfl rfl ?c1 ?c2 (by decide) ?c3 ?c4 ?c5 _ rfl ?_)
   all_goals try (case c1=>exact World.news_of_block P1.out)
   all_goals try (case c2=>simp[Value.oneCell'])
   all_goals try (case c3=>unfold maxLen;omega)
   all_goals try (case c4=>omega)
   all_goals try (case c5=>exact w0)
   intro g' G0 w4 C0 k0 R0 E1;rw[<-R1.out]at k0;have f0:W5.grownBy w4 K0.ownBlock:=by rw[s0.out];exact k0
   have E0:K0.ownBlock=some g'\/W5.heap.size<=g':=by
    rw[s0.out];rcases R0 with h1 | h1
    ·exact Or.inl h1
    ·right;have:=u1.out;omega
   have A0:e1.mail n.net i q=⟨i,q,tx⟩:=by unfold Eng.mail;rw[g2,v2.out]
   have y0:(e1.bag ++ (K.take k).map fun q=>e1.mail n.net i q).length=len+k:=by
    rw[List.length_append,List.length_map,List.length_take,q0.out];omega
   have B0:w4.ownsRow base 59 3 (.slice (some ⟨g',0,none⟩) (len+k+1) G0) ((e1.bag ++ (K.take k).map fun q=>e1.mail n.net i q) ++ [e1.mail n.net i q]).length (uA ((e1.bag ++ (K.take k).map fun q=>e1.mail n.net i q) ++ [e1.mail n.net i q])):=by
    rw[fD,List.length_append,y0,A0,List.map_take];exact C0
   have P0:=I0.out.setBag f0 B0 (fun q' hq'=>by
    have:q'=g':=by simpa [Value.ownBlock] using hq'.symm
    subst this;exact E0)
   have v1:=I0.out.head.kept f0 (fun e2=>(I0.out.bv P e2.symm).1 rfl);have p4:=v1.cell 1;have pf:=v1.frozen 1;simp at p4;rw[s0.out]at p4;have S1:Hid (yT base P N n.net e1 i K y3 gt (k+1) (w4.setCell ⟨P,1,none⟩ (.slice (some ⟨g',0,none⟩) (len+k+1) G0))):=hide ⟨⟨_,by rw[kL K _ k M1,<-List.append_assoc,<-Hq.out];exact P0,fun h0 hh=>by
    have:g'=gt:=by simpa [Value.ownBlock] using hh
    subst this;rcases E0 with h1 | h1
    ·exact N1.out h0 h1
    ·have:=g0.out.1;omega⟩,fun h0=>⟨by have:=g0.out.1;have:=k0.size;simp;omega,(V0.out h0).2⟩,fun j hj=>by
    rw[qA (V0.out (by omega)).2,kH f0 g0.out.1 (N1.out (by omega))];exact g0.out.2 j hj⟩
   have T1:=hide ((B1.out.trans (Q1.out.trans (nA f0 (fun q' hq'=>(I0.out.bag.lt q' hq').1) (by rw[R1.out];exact w0)))).setCell (p:=⟨P,1,none⟩) I0.out.lp (.slice (some ⟨g',0,none⟩) (len+k+1) G0));clear C0 k0 R0 E1 f0 E0 A0 y0 B0 P0 v1 Q1 t1 B1 I0 U0 g0 w0;go_wp2;go_roundw
   case rel =>
    first
    | exact⟨k+1,by omega,by go_num,S1,T1⟩
    | ((repeat apply Exists.intro);refine⟨?_,rfl⟩;exact⟨k+1,by omega,by go_num,S1,T1⟩)
   case measure=>simp[intOf];omega
  ·have y2:k=kl:=by omega
   subst y2;obtain⟨⟨K0,hl,_⟩,_,_⟩:=HI.out;rw[<-M0.out]at hl;have HF:=hide (And.intro (Exists.intro (p:=fun Bv'=>∃y',Live base P N (e.tick n.net i) Bv' y' wr) K0 ⟨y3,hl⟩) B1.out);clear hl HI T0 M0;go_wp2;go_ret;exact⟨rfl,HF.out⟩
theorem iG:∀ (l:List xB) (i:Nat),(uA l).take (i*3)=uA (l.take i)
 | [],i=>by simp[uA]
 | m :: l,0=>by simp[uA]
 | m :: l,i+1=>by
  have ih:=iG l i;have e:uA (m :: l)=.int .i64 m.F :: .int .i64 m.T :: .string ⟨m.b.toArray⟩ :: uA l:=rfl;have e2:uA ((m :: l).take (i+1))=.int .i64 m.F :: .int .i64 m.T :: .string ⟨m.b.toArray⟩ :: uA (l.take i):=rfl;rw[e,e2,show (i+1)*3=i*3+3 by omega,<-ih];rfl
theorem kG:∀ (l:List xB) (i:Nat),(uA l).drop (i*3)=uA (l.drop i)
 | [],i=>by simp[uA]
 | m :: l,0=>by simp
 | m :: l,i+1=>by
  have ih:=kG l i;have e:uA (m :: l)=.int .i64 m.F :: .int .i64 m.T :: .string ⟨m.b.toArray⟩ :: uA l:=rfl;rw[e,show (i+1)*3=i*3+3 by omega];exact ih
theorem qP (l:List xB):∀u∈uA l,u.oneCell'=true:=fun u hu=>by
 simp only[uA,List.mem_flatMap]at hu;obtain⟨m,_,hu⟩:=hu;simp at hu;rcases hu with rfl | rfl | rfl <;> rfl
theorem CP (w:World)(g o c:Nat)(cs:Array Value)(ty:TypeId)(hb:Blk w g cs 59)(ho:o+3<=cs.size):
 (Builtin.clear_ #[29] ty #[.slice (some ⟨g,o,none⟩) 1 c]).run Tryz.prog w=.ok (.tuple #[]) (((w.setCell ⟨g,o,none⟩ (.int .i64 0)).setCell ⟨g,o+1,none⟩ (.int .i64 0)).setCell ⟨g,o+1+1,none⟩ (.string ⟨#[]⟩)):=by
 have d0:=run_storeCells_cells (P:=Tryz.prog) g o [.int .i64 0,.int .i64 0,.string ⟨#[]⟩] 0 w (fun j hj=>by
  have:j<3:=hj;rw[hb.cell];rw[Array.getElem?_eq_getElem (by omega)];rfl) (fun j _=>hb.frozen _) (by intro v hv;simp at hv;rcases hv with rfl | rfl | rfl <;> rfl)
 have f0:(Builtin.zeroCells (Value.agg #[.int .i64 0,.int .i64 0,.string ⟨#[]⟩]).cells 1).toList=[.int .i64 0,.int .i64 0,.string ⟨#[]⟩]:=by kernel_rfl
 simp only[Nat.add_zero]at d0;simp[Builtin.clear_,run_underlying Tryz.underlying29,f0,d0];rfl
theorem YJ (w:World)(base g cap i j:Nat)(l:List xB)(ho:w.ownsRow base 59 3 (.slice (some ⟨g,0,none⟩) l.length cap) l.length (uA l))(hi:i<l.length)(hij:j=i+1)(hl:l.length<=200):
 Calls Tryz.prog 139 #[.slice (some ⟨g,0,none⟩) l.length cap,.int .i64 i,.int .i64 (j:Int)] w fun e w'=>e=.returned (.slice (some ⟨g,0,none⟩) (l.length-1) cap)/\w.grownBy w' (some g)/\w'.ownsRow base 59 3 (.slice (some ⟨g,0,none⟩) (l.length-1) cap) (l.eraseIdx i).length (uA (l.eraseIdx i)):=by
 obtain⟨i0,G0,hq⟩:∃i,Tryz.prog.info? 59=some i/\(i.zero.map (fun z=>z.cells.size),i.size,i.bytes)=(some 3,3,32):=Option.map_eq_some_iff.1 Tryz.infoMail;have x0:i0.size=3:=congrArg (fun x=>x.2.1) hq;obtain⟨H0,I0⟩:=ho;rcases I0 with ⟨h0,_⟩ | ⟨g',cap',cur,e1,hbase,hb,hn,hm,hcs,htk⟩
 ·cases h0
 obtain⟨rfl,rfl⟩:g=g'/\cap=cap':=by simpa using e1
 generalize hlen:l.length=n at *;have y0:Blk w.drew g cur 59:=hb;obtain⟨news,d0⟩:∃news,news=uA (l.drop j):=⟨_,rfl⟩;have j0:news.length=(n-j)*3:=by rw[d0,jD,List.length_drop,hlen]
 have p0:∀k,k<n*3->cur[k]? = (uA l)[k]?:=fun k hk=>by
  rw[<-htk,List.getElem?_take,if_pos hk,Array.getElem?_toList]
 obtain⟨A,hA,v0⟩:∃A:Addr,(if cap=j then some (⟨g,0,none⟩:Addr) else some ⟨g,j*3,none⟩)=some A/\∀t u,news[t]? = some u->w.drew.cell? (A.add t)=some u:=by
  by_cases h:cap=j
  ·refine⟨⟨g,0,none⟩,by simp[h],fun t u hu=>?_⟩;have h0:news.length=0:=by rw[j0];omega
   rw[List.length_eq_zero_iff.1 h0]at hu;simp at hu
  ·refine⟨⟨g,j*3,none⟩,by simp[h],fun t u hu=>?_⟩;have ht:t<(n-j)*3:=by
    have:=(List.getElem?_eq_some_iff.1 hu).1;rwa [j0]at this
   rw[Go.WideShapes.add_plain,y0.cell,p0 _ (by omega),<-hu,d0,<-kG,List.getElem?_drop]
 have q0:i*i0.size+news.length<=cur.size:=by rw[j0,x0,hcs];omega
 have k0:=run_append_room (P:=Tryz.prog) w.drew 29 29 59 i0 Tryz.underlying29 G0 g i cap cur y0 A (n-j) (cap-j) news (by rw[x0];exact j0) v0 (by rw[d0];exact qP _) (by omega) q0;obtain⟨g0,f0⟩:∃g0,g0=(cur.toList.take (i*i0.size) ++ news ++ cur.toList.drop (i*i0.size+news.length)).toArray:=⟨_,rfl⟩;rw[<-f0]at k0;have m0:g0.size=cap*3:=by
  rw[f0,x0];simp[j0,hcs];omega
 have s0:g0.toList.take ((n-1)*3)=uA (l.eraseIdx i):=by
  rw[f0,x0,List.eraseIdx_eq_take_drop_succ,<-hij,fD,<-d0,<-iG,<-htk];simp only[List.take_take];rw[show min (i*3) (n*3)=i*3 by omega];rw[List.take_left' (by simp[j0,hcs];omega)]
 obtain⟨W1,w0⟩:∃W1,W1=w.drew.setRow g g0:=⟨_,rfl⟩;have z0:Blk W1 g g0 59:=by rw[w0];exact setRow_heap w.drew g cur g0 59 (0,0) y0
 have J0:∀ty,(Builtin.clear_ #[29] ty #[.slice (some ⟨g,(n-1)*3,none⟩) (n-(n-1)) (cap-(n-1))]).run Tryz.prog W1=.ok (.tuple #[]) (((W1.setCell ⟨g,(n-1)*3,none⟩ (.int .i64 0)).setCell ⟨g,(n-1)*3+1,none⟩ (.int .i64 0)).setCell ⟨g,(n-1)*3+1+1,none⟩ (.string ⟨#[]⟩)):=fun ty=>by
  rw[show n-(n-1)=1 by omega];exact CP W1 g ((n-1)*3) (cap-(n-1)) g0 ty z0 (by rw[m0];omega)
 have o0:w.grownBy W1 (some g):=by
  rw[w0];refine⟨rfl,rfl,rfl,by simp[World.setRow],fun k hk hne=>?_⟩;show (w.heap.modify g _)[k]? = w.heap[k]?;rw[Array.getElem?_modify,if_neg (fun e=>hne (by rw[e]))]
 have D0:w.grownBy (((W1.setCell ⟨g,(n-1)*3,none⟩ (.int .i64 0)).setCell ⟨g,(n-1)*3+1,none⟩ (.int .i64 0)).setCell ⟨g,(n-1)*3+1+1,none⟩ (.string ⟨#[]⟩)) (some g) :=
  ⟨o0.os,o0.tape,o0.output,by simpa using o0.size,fun k hk hne=>by
   have A0:k≠g:=fun e=>hne (by rw[e]);rw[Below.heap_setCell _ _ _ _ A0,Below.heap_setCell _ _ _ _ A0,Below.heap_setCell _ _ _ _ A0];exact o0.block k hk hne⟩
 have E0:=((z0.set ((n-1)*3) (.int .i64 0)).set ((n-1)*3+1) (.int .i64 0)).set ((n-1)*3+1+1) (.string ⟨#[]⟩);have B0:(l.eraseIdx i).length=n-1:=by rw[List.length_eraseIdx,hlen,if_pos hi]
 have u0:World.ownsRow (((W1.setCell ⟨g,(n-1)*3,none⟩ (.int .i64 0)).setCell ⟨g,(n-1)*3+1,none⟩ (.int .i64 0)).setCell ⟨g,(n-1)*3+1+1,none⟩ (.string ⟨#[]⟩)) base 59 3 (.slice (some ⟨g,0,none⟩) (n-1) cap) (l.eraseIdx i).length (uA (l.eraseIdx i)):=by
  rw[B0];refine⟨by rw[jD,B0],Or.inr ⟨g,cap,_,rfl,hbase,E0,by omega,hm,by simp[m0],?_⟩⟩;rw[Array.toList_setIfInBounds,Array.toList_setIfInBounds,Array.toList_setIfInBounds,List.take_set_of_le (by omega),List.take_set_of_le (by omega),List.take_set_of_le (by omega)];exact s0
 have HF:=hide (And.intro D0 u0);have R1:=hide k0;have K0:cap<=2 ^ 63-1:=hm;have h1:(i:Int)<=(n:Int):=by omega
 have h2:(j:Int)<=(n:Int):=by omega
 have h3:((i:Int) == (j:Int))=false:=by simp;omega
 have L0:i<=cap:=by omega
 have M0:j<=cap:=by omega
 have N0:j<=n:=by omega
 have F0:i<=j:=by omega
 have O0:n-1<=cap:=by omega
 have P0:=hide w0;rw[<-w0]at R1;have C0:i+(n-j)=n-1:=by omega
 rw[C0]at R1;clear k0 o0 D0 u0 z0 E0 s0 m0 q0 v0 p0 j0 y0 hb H0 htk hq w0 f0 d0 B0 e1 hbase hij;go_enter Tryz.func139,Tryz.ntmps139;go_wp2_with fail
 go_region_law (refine rC rfl (.tmp 22) (.tmp 25) 29 rfl (.slice (some ⟨g,0,none⟩) i cap) (.slice (some A) (n-j) (cap-j)) (by simp[Act.eval,Act.put]) (by simp[Act.eval,Act.put]) (.slice (some ⟨g,0,none⟩) (n-1) cap) W1 R1.out ?_)
 all_goals
  go_wp2;go_ret;exact⟨rfl,HF.out⟩
theorem nM {base P N:Nat}{e:Eng}{Bv:Value}{y:Lay}{W:World}(h:Live base P N e Bv y W){i:Nat}(hi:i<e.bag.length):∃g cap,Bv=.slice (some ⟨g,0,none⟩) e.bag.length cap:=by
 rcases Go.Joins.ownsRow_forms h.bag with ⟨_,e0⟩ | ⟨g,cap,e1⟩
 ·omega
 ·exact⟨g,cap,e1⟩
theorem yN (base P N i:Nat)(e:Eng)(Bv:Value)(y:Lay)(w:World)(hL:Live base P N e Bv y w)(hi:i<e.bag.length)(hm:e.bag.length<=200):
 Calls Tryz.prog 115 #[.pointer (some ⟨P,0,none⟩),.int .i64 i] w fun r w'=>r=.returned (.tuple #[])/\(∃Bv',Live base P N (e.without i) Bv' y w'/\Bv'.ownBlock=Bv.ownBlock)/\Below base w w'/\Kept y P N Bv w w':=by
 have k0:base<=w.heap.size:=Nat.le_of_lt (Nat.lt_of_le_of_lt hL.lp hL.head.lt);obtain⟨g,cap,j0⟩:=nM hL hi;have d0:=hL.bag;rw[j0]at d0;have HD:=hide (YJ w base g cap i (i+1) e.bag d0 hi rfl hm);rw[show ((i+1:Nat):Int)=(i:Int)+1 by omega]at HD;have HL:=hide hL;have m0:=(d0.lt g rfl).1;have x1:=hL.head.cell 1;simp at x1;rw[j0]at x1;have h0:=hide j0;clear hL d0 j0;go_enter Tryz.func115,Tryz.ntmps115;go_wp2_with fail;go_at_call 139;refine HD.out.mono ?_;rintro r w2 ⟨rfl,hg,g0⟩;have i0:w.grownBy w2 Bv.ownBlock:=by rw[h0.out];exact hg
 have f0:=HL.out.setBag (l:=e.bag.eraseIdx i) i0 g0 (fun q hq=>by
  left;rw[h0.out];exact hq)
 have hh:=HL.out.head.kept i0 (fun e1=>(HL.out.bv P e1.symm).1 rfl);have p1:=hh.cell 1;have:=hh.frozen 1;simp at p1;rw[h0.out]at p1;have hK:Kept y P N Bv w (w2.setCell ⟨P,1,none⟩ (.slice (some ⟨g,0,none⟩) (e.bag.length-1) cap)):=fun b hb=>by
  rw[Below.heap_setCell _ _ _ _ hb.p];exact i0.block b hb.lt (fun e1=>hb.v e1.symm)
 have HF:=hide (And.intro (Exists.intro (p:=fun Bv'=>Live base P N (e.without i) Bv' y (w2.setCell ⟨P,1,none⟩ (.slice (some ⟨g,0,none⟩) (e.bag.length-1) cap))/\Bv'.ownBlock=Bv.ownBlock) _ ⟨f0,by rw[h0.out];rfl⟩) (And.intro ((nA hg (fun q hq=>by cases hq;exact m0) k0).setCell (p:=⟨P,1,none⟩) HL.out.lp (.slice (some ⟨g,0,none⟩) (e.bag.length-1) cap)) hK));clear hg g0 i0 f0 hh HD x1 hK;go_wp2;go_end0;exact⟨rfl,HF.out⟩
theorem NS (base P N i:Nat)(e:Eng)(Bv:Value)(y:Lay)(w:World)(hL:Live base P N e Bv y w)(hi:i<e.bag.length)(hm:e.bag.length<=200):
 Calls Tryz.prog 115 #[.pointer (some ⟨P,0,none⟩),.int .i64 i] w fun r w'=>r=.returned (.tuple #[])/\(∃Bv',Live base P N (e.without i) Bv' y w')/\Below base w w'/\Kept y P N Bv w w' :=
 (yN base P N i e Bv y w hL hi hm).mono (fun _ _ ⟨h1,⟨B,h2,_⟩,h3,h4⟩=>⟨h1,⟨B,h2⟩,h3,h4⟩)
structure ZG (w:World) (b4 B C:Nat) (F T:Int) (rl bl:List UInt8) (k:Nat) (W:World):Prop where
 below:Below w.heap.size w W
 res:Blk W w.heap.size #[.int .i64 0,.int .i64 0,.slice none 0 0] 92
 lo:w.heap.size<b4
 mid:b4<C
 apart:B≠b4
 far:B<C
 cur:∃v,Blk W b4 #[.int .i64 F,.int .i64 T,v] 92/\W.ownsRow C 3 1 v k (JA (fun i=>((rl.getD i 0).toNat:Int)) k)
 bytes:∀ (j:Nat) (h:j<bl.length),W.cell? ⟨B,j,none⟩=some (.int .u8 (bl[j].toNat:Int))
 lt:C<=W.heap.size
theorem ZG.pkt {w:World}{b4 B C:Nat}{F T:Int}{rl bl:List UInt8}{k:Nat}{W:World}(h:ZG w b4 B C F T rl bl k W)(hk:k<=60):
 ∃p:lC,Blk W b4 p.cells 92/\p.pkt=⟨F,T,k,fun i=>((rl.getD i 0).toNat:Int)⟩/\p.In W.heap.size W/\(0<p.n->w.heap.size<p.rb)/\(0<p.n->yB W p.rb):=by
 obtain⟨v,hv,ho⟩:=h.cur;have:=h.lo;have:=h.mid;rcases Go.Joins.ownsRow_forms ho with ⟨rfl,rfl⟩ | ⟨gb,cap,rfl⟩
 ·exact⟨⟨F,T,none,0,0,0,0,_⟩,hv,rfl,⟨⟨fun h0=>absurd h0 (Nat.lt_irrefl _),fun i hi=>absurd hi nZ,zL⟩,fun h0=>absurd h0 (Nat.lt_irrefl _),zL⟩,fun h0=>absurd h0 (Nat.lt_irrefl _),fun h0=>absurd h0 (Nat.lt_irrefl _)⟩
 ·have d0:=ho.lt gb rfl;refine⟨⟨F,T,some ⟨gb,0,none⟩,k,cap,gb,0,_⟩,hv,rfl,⟨⟨fun _=>rfl,fun i hi=>?_,by show k<=maxLen;unfold maxLen;omega⟩,fun _=>d0.2,by show k<=_;omega⟩,fun _=>by show w.heap.size<gb;omega,fun _=>yB.own ho⟩;have f0:i<k:=hi;have:=ho.cellAt i (by omega);rw[NB f0]at this;show W.cell? ⟨gb,0+i,none⟩=_;rw[Nat.zero_add];exact this
theorem ZG.put {w:World}{b4 B C:Nat}{F T:Int}{rl bl:List UInt8}{k:Nat}{W W4:World}{v:Value}{g cap:Nat}(h:ZG w b4 B C F T rl bl k W)
 (hown:W4.ownsRow C 3 1 (.slice (some ⟨g,0,none⟩) (k+1) cap) (k+1) (JA (fun i=>((rl.getD i 0).toNat:Int)) k ++ [.int .i64 ((rl.getD k 0).toNat:Int)]))
 (hv:Blk W b4 #[.int .i64 F,.int .i64 T,v] 92) (hb:Below C W W4) :
 ZG w b4 B C F T rl bl (k+1) (W4.setCell ⟨b4,2,none⟩ (.slice (some ⟨g,0,none⟩) (k+1) cap)):=by
 have h1:=h.lo;have h2:=h.mid;have h3:=h.lt;have h4:=h.far;have d0:=hv.below hb (by omega);refine⟨(h.below.trans (hb.mono (by omega))).setCell (p:=⟨b4,2,none⟩) (by show w.heap.size<=b4;omega) _,(h.res.below hb (by omega)).other (by omega) _ _,h1,h2,h.apart,h4,⟨.slice (some ⟨g,0,none⟩) (k+1) cap,?_,?_⟩,fun j hj=>?_,?_⟩
 ·have:=d0.set 2 (.slice (some ⟨g,0,none⟩) (k+1) cap);simpa using this
 ·rw[OA];exact ownsRow_setCell_below hown (by show b4<C;omega) _
 ·rw[qA h.apart,hb.cell (p:=⟨B,j,none⟩) h4];exact h.bytes j hj
 ·have:=hb.size;simp;omega
def qE (l:List UInt8) (base:Nat) (e:Ending) (w':World):Prop :=
 ∃p:lC,e=.returned (.tuple #[p.val,.int .i64 (UA l)])/\p.pkt.same (XH l)/\p.In w'.heap.size w'/\(0<p.n->base<=p.rb/\yB w' p.rb)
theorem EB {l:List UInt8}{base:Nat}{w':World}{x:Int}(hx:UA l=x)(h0:x≠0):qE l base (.returned (.tuple #[.agg #[.int .i64 0,.int .i64 0,.slice none 0 0],.int .i64 x])) w' :=
 ⟨⟨0,0,none,0,0,0,0,fun _=>0⟩,by rw[hx];rfl,by unfold XH;rw[if_neg (by omega)];exact⟨rfl,rfl,rfl,fun _ _=>rfl⟩,⟨⟨fun h=>absurd h (Nat.lt_irrefl _),fun i hi=>absurd hi nZ,zL⟩,fun h=>absurd h (Nat.lt_irrefl _),zL⟩,fun h=>absurd h (Nat.lt_irrefl _)⟩
theorem lC.In.set3 {p:lC}{B:Nat}{W:World}(h:p.In W.heap.size W)(hB:0<p.n->B<p.rb)(v0 v1 v2:Value):p.In (st3 W B v0 v1 v2).heap.size (st3 W B v0 v1 v2):=by
 have hs:(st3 W B v0 v1 v2).heap.size=W.heap.size:=by unfold st3;simp
 rw[hs];refine⟨⟨h.ints.addr,fun i hi=>?_,h.ints.len⟩,h.lt,h.small⟩;have d0:p.rb≠B:=by have:=hB (by omega);omega
 unfold st3;rw[qA d0,qA d0,qA d0];exact h.ints.cell i hi
theorem eG {l:List UInt8}{i:Nat}(h:i<(ByteArray.mk l.toArray).size):(ByteArray.mk l.toArray)[i]=l.getD i 0:=by
 have h':i<l.length:=by simpa [ByteArray.size] using h
 rw[List.getD_eq_getElem?_getD,List.getElem?_eq_getElem h'];rfl
theorem vS (l:List UInt8)(w:World)(hl:l.length<=maxLen):
 Calls Tryz.prog 137 #[txt l] w fun e w'=>qE l w.heap.size e w'/\Below w.heap.size w w':=by
 unfold maxLen at hl;have B1:(ByteArray.mk l.toArray).size=l.length:=by simp[ByteArray.size]
 have b0:=Blk.new w #[.int .i64 0,.int .i64 0,.slice none 0 0] 92;have w0:Below w.heap.size w (w.alloc (.cells #[.int .i64 0,.int .i64 0,.slice none 0 0] 92)):=(Below.refl _ w).alloc lR _;unfold txt;by_cases v0:60<l.length
 ·have k0:=hide w0;have d0:=b0.cell 0;have d1:=b0.cell 1;have d2:=b0.cell 2;have df:=b0.frozen;simp at d0 d1 d2;have Hx:Hid (UA l=2):=hide (by unfold UA;rw[if_pos v0]);generalize hs:ByteArray.mk l.toArray=s at *;have A0:(60:Int)<(s.size:Int):=by omega
  clear v0 hs b0 w0;go_enter Tryz.func137,Tryz.ntmps137;go_wp2;exact bodyPost_ret (v:=.tuple #[.agg #[.int .i64 0,.int .i64 0,.slice none 0 0],.int .i64 2]) (by simp[results,Tryz.results137,go_sem]) rfl ⟨EB Hx.out (by decide),k0.out⟩
 by_cases h6:l.length<6
 ·have k0:=hide w0;have d0:=b0.cell 0;have d1:=b0.cell 1;have d2:=b0.cell 2;have df:=b0.frozen;simp at d0 d1 d2;have Hx:Hid (UA l=1):=hide (by unfold UA;rw[if_neg v0,if_pos h6]);generalize hs:ByteArray.mk l.toArray=s at *;have A0:¬ (60:Int)<(s.size:Int):=by omega
  have V0:(s.size:Int)<6:=by omega
  clear v0 h6 hs b0 w0;go_enter Tryz.func137,Tryz.ntmps137;go_wp2;exact bodyPost_ret (v:=.tuple #[.agg #[.int .i64 0,.int .i64 0,.slice none 0 0],.int .i64 1]) (by simp[results,Tryz.results137,go_sem]) rfl ⟨EB Hx.out (by decide),k0.out⟩
 obtain⟨W0,F0⟩:∃W0,W0=w.alloc (.cells #[.int .i64 0,.int .i64 0,.slice none 0 0] 92):=⟨_,rfl⟩;rw[<-F0]at b0 w0;have X0:W0.heap.size=w.heap.size+1:=by rw[F0];simp
 have hg:∀ (i:Nat) (h:i<(ByteArray.mk l.toArray).size),(ByteArray.mk l.toArray)[i]=l.getD i 0:=fun i h=>eG h;have Y0:=hide (aS l (by omega));generalize hs:ByteArray.mk l.toArray=s at *;have A0:¬ (60:Int)<(s.size:Int):=by omega
 have V0:¬ (s.size:Int)<6:=by omega
 have i1:(1:Int)<(s.size:Int):=by omega
 have i2:(2:Int)<(s.size:Int):=by omega
 have g1:(s[1]'(by omega)).toNat=(l.getD 1 0).toNat:=by rw[hg 1 (by omega)]
 have g2:(s[2]'(by omega)).toNat=(l.getD 2 0).toNat:=by rw[hg 2 (by omega)]
 have hF:=(l.getD 1 0).toNat_lt;have hT:=(l.getD 2 0).toNat_lt;obtain⟨F,eF⟩:∃F,(l.getD 1 0).toNat=F:=⟨_,rfl⟩;obtain⟨T,eT⟩:∃T,(l.getD 2 0).toNat=T:=⟨_,rfl⟩;rw[eF]at g1 hF;rw[eT]at g2 hT;have HF:=hide eF;have HT:=hide eT;clear hg eF eT;go_enter Tryz.func137,Tryz.ntmps137;go_wp2;rw[<-F0];clear F0
 go_cut [4] from 17 to 23 (fun p4 wx=>∃b4:Nat,p4=.pointer (some ⟨b4,0,none⟩)/\Hid (w.heap.size<b4/\Blk wx b4 #[.int .i64 (F:Int),.int .i64 (T:Int),.slice none 0 0] 92/\Below (w.heap.size+1) W0 wx))
 case first =>
  go_region
  go_wp2_with fail;go_meet;exact⟨_,rfl,hide ⟨by omega,by first | exact Blk.new' (by simp[X0]) | skip,((Below.refl _ W0).alloc (by omega) _).trans ⟨rfl,rfl,rfl,lR,fun _ _=>rfl⟩⟩⟩
 case rest =>
  obtain⟨b4,rfl,HC⟩:=hcut;obtain⟨a,b,c,d,r,x,y,e6⟩:=Y0.out;have I0:l.length=r.length+6:=by rw[e6];simp
  obtain⟨rs,y0⟩:∃rs,rs=ByteArray.mk r.toArray:=⟨_,rfl⟩;have Z0:rs.size=r.length:=by rw[y0];simp[ByteArray.size]
  have J0:s.extract 4 (l.length-2)=rs:=by
   rw[<-hs,y0,ByteArray.extract_mk];congr 2;rw[I0,e6];simp
  have f1:s.extract 4 ((l.length:Int)-2).toNat=rs:=by
   rw[<-J0];congr 1;omega
  have C1:(4:Int)<=(l.length:Int)-2:=by omega
  have Q0:Hid (∀ (cap:Nat) (m:Nat×Nat),ZG w b4 wc.heap.size (wc.heap.size+1) F T r r 0 (wc.drew.alloc (.cells (bytesRow rs cap) 5 m))):=hide (fun cap m=>by
   obtain⟨q1,q2,q3⟩:=HC.out;have K0:Below wc.heap.size wc (wc.drew.alloc (.cells (bytesRow rs cap) 5 m)):=(show Below wc.heap.size wc wc.drew from ⟨rfl,rfl,rfl,lR,fun _ _=>rfl⟩).trans ((Below.refl _ wc.drew).alloc lR _);have D1:=q3.size;refine⟨(w0.trans (q3.mono (by omega))).trans (K0.mono (by omega)),(b0.below q3 (by omega)).below K0 (by omega),q1,Nat.lt_succ_of_lt q2.lt,(by have:=q2.lt;omega),Nat.lt_succ_self _,⟨_,q2.below K0 q2.lt,World.ownsRow_nil _ _ _ _⟩,fun j hj=>?_,by simp⟩;have:=World.cell?_alloc_mark wc.drew (bytesRow rs cap) 5 m j;have e2:rs.data.size=r.length:=by rw[y0];simp
   refine this.trans ?_;rw[bytesRow_at rs cap j (by omega)];have e3:rs.data[j]'(by omega)=r[j]:=by simp[y0]
   rw[e3])
  have j1:=fun u=>run_bytes_of_string (P:=Tryz.prog) u 9 96 5 rs Tryz.underlying9 Tryz.underlying96 Tryz.underlying5;have H6:=hide e6;have E1:=hide y0;obtain⟨w1,x1,y1,z1,A1⟩:=info_parts Tryz.infoInt;have k1:=hide hs;have F1:=hide I0;have o1:r.length<=54:=by omega
  clear hs e6 y0 I0;go_wp2;have R0:=hide (Q0.out (grownCap wc rs.size 0 5) ((bytesRow rs (grownCap wc rs.size 0 5)).size,(bytesRow rs (grownCap wc rs.size 0 5)).size+1));simp only[Z0]at R0;clear Q0 HC j1
  go_loopw [6,31] (fun _ q wr=>∃k:Nat,k<=r.length/\q=.int .i64 k/\Hid (ZG w b4 wc.heap.size (wc.heap.size+1) F T r r k wr)) (fun _ q _=>r.length-(intOf q).toNat)
  case atStart=>exact⟨0,zL,rfl,R0⟩
  case round =>
   obtain⟨k,hk,rfl,HI⟩:=hrel;by_cases U0:k<r.length
   ·have hc:=HI.out.bytes k U0;have G1:=(r[k]).toNat_lt;have S0:r.getD k 0=r[k]:=by rw[List.getD_eq_getElem?_getD,List.getElem?_eq_getElem U0];rfl
    obtain⟨v,hv,ho⟩:=HI.out.cur;have H1:=HI.out.lo;have s1:=HI.out.mid;have t1:=HI.out.lt;have u0:=fun W4 g cap h1 h2=>HI.out.put (W4:=W4) (g:=g) (cap:=cap) h1 hv h2;rw[S0]at u0;have B0:=hide u0;have v2:=hv.cell 2;have vf:=hv.frozen;simp at v2;have Hv:=hide hv;have Ho:=hide ho;generalize (r[k]).toNat=rv at *;have I1:(k:Int)<(r.length:Int):=by omega
    clear u0 hv ho S0;go_wp2_with (at_builtin;refine wpList_append_lies _ rfl _ _ _ rfl (wc.heap.size+1) 3 w1 _ 1 8 Tryz.underlying32 x1 y1 z1 A1 rfl (by decide) _ k _ rfl (Ho.out.alloc _) ⟨wr.heap.size,0,none⟩ 1 1 [.int .i64 (rv:Int)] rfl rfl ?c1 ?c2 (by decide) ?c3 ?c4 ?c5 _ rfl ?_)
    all_goals try (case c1=>exact World.news_of_block (Blk.new' (by simp)))
    all_goals try (case c2=>simp[Value.oneCell'])
    all_goals try (case c3=>unfold maxLen;omega)
    all_goals try (case c4=>omega)
    all_goals try (case c5=>simp;omega)
    intro g' N0 w4 q0 s0 O0 P0;have L0:=(((Below.refl (wc.heap.size+1) wr).alloc (by omega) (.cells #[.int .i64 (rv:Int)] 3)).trans (nA s0 (fun g hg=>(Ho.out.lt g hg).1) (by simp;omega)));have HN:=hide (B0.out w4 g' N0 q0 L0);have M0:=Hv.out.below L0 (by omega);have u1:=M0.cell 2;have J1:=M0.frozen 2;simp at u1;clear q0 s0 O0 P0 B0 Hv Ho M0 HI L0;go_wp2;go_roundw
    case rel =>
     first
     | exact⟨k+1,by omega,by go_num,HN⟩
     | ((repeat apply Exists.intro);refine⟨?_,rfl⟩;exact⟨k+1,by omega,by go_num,HN⟩)
    case measure=>simp[intOf];omega
   ·have v1:k=r.length:=by omega
    subst v1;obtain⟨p,hp,G0,D0,E0,H0⟩:=HI.out.pkt (by omega);have p0:=hp.cell 0;have p1:=hp.cell 1;have p2:=hp.cell 2;simp[lC.cells]at p0 p1 p2;have HW:=hide (iL p wr D0);simp only[lC.val,lC.cells,txt]at HW;go_wp2_with fail;go_at_call 136;refine HW.out.mono ?_;rintro e w5 ⟨rfl,o0⟩;have g0:p.pkt.same (LA l):=by
     have h1:=XC a b c d r x y;have e6:=H6.out;rw[<-e6]at h1;rw[G0];have eF:=HF.out;have eT:=HT.out;have q1:(F:Int)=(LA l).F:=by rw[<-eF];rfl
     have q2:(T:Int)=(LA l).T:=by rw[<-eT];rfl
     exact⟨q1,q2,h1.2.2.1.symm,fun i hi=>(h1.2.2.2 i (by have:=h1.2.2.1;simp only at this hi;omega)).symm⟩
    have f0:=HI.out.res.below o0 HI.out.res.lt;have i0:=hp.below o0 hp.lt;have x0:=HI.out.below.trans (o0.mono HI.out.below.size);have K1:s.toList=l:=by rw[<-k1.out];simp
    have m0:=D0.grown o0;rw[Pkt.same_err g0,Pkt.same_text g0];have r0:=f0.cell 0;have r1:=f0.cell 1;have r2:=f0.cell 2;have rf:=f0.frozen;simp at r0 r1 r2;by_cases j0:(LA l).err=0
    ·by_cases z0:(LA l).bytes=l
     ·have Hx:Hid (UA l=0):=hide (by unfold UA;rw[if_neg v0,if_neg h6,if_pos ⟨j0,z0⟩]);have C0:(LA l).text=l:=by unfold Pkt.text;rw[if_pos j0,z0]
      have b3:=f0.set3 (.int .i64 p.F) (.int .i64 p.T) (.slice p.ra p.n p.rc);have e0:=b3.cell 0;have e1:=b3.cell 1;have e2:=b3.cell 2;have c0:=i0.cell 0;have c1:=i0.cell 1;have c2:=i0.cell 2;unfold st3 at e0 e1 e2;simp[lC.cells]at e0 e1 e2 c0 c1 c2;have HA:Hid (qE l w.heap.size (.returned (.tuple #[.agg #[.int .i64 p.F,.int .i64 p.T,.slice p.ra p.n p.rc],.int .i64 0])) (st3 w5 w.heap.size (.int .i64 p.F) (.int .i64 p.T) (.slice p.ra p.n p.rc))) :=
       hide ⟨p,by rw[Hx.out];rfl,by unfold XH;rw[if_pos Hx.out];exact g0,m0.set3 E0 _ _ _,fun h0=>⟨Nat.le_of_lt (E0 h0),by unfold st3;exact((((H0 h0).grown o0).set _ _).set _ _).set _ _⟩⟩
      have k0:=hide (iB x0 lR (.int .i64 p.F) (.int .i64 p.T) (.slice p.ra p.n p.rc));have T0:(l == l)=true:=beq_self_eq_true l;rw[j0,C0];clear j0 z0 C0 g0 f0 i0 x0 m0 G0 D0 E0 H0 hp p0 p1 p2 HI HW o0 b3;go_wp2;exact bodyPost_ret (v:=.tuple #[.agg #[.int .i64 p.F,.int .i64 p.T,.slice p.ra p.n p.rc],.int .i64 0]) (by simp[results,Tryz.results137,go_sem,e0,e1,e2]) rfl ⟨HA.out,k0.out⟩
     ·have Hx:Hid (UA l=1):=hide (by unfold UA;rw[if_neg v0,if_neg h6,if_neg (fun h=>z0 h.2)]);have C0:(LA l).text≠l:=by unfold Pkt.text;rw[if_pos j0];exact z0
      have T0:((LA l).text == l)=false:=by simpa using C0
      have b3:=f0.set3 (.int .i64 0) (.int .i64 0) (.slice none 0 0);have e0:=b3.cell 0;have e1:=b3.cell 1;have e2:=b3.cell 2;unfold st3 at e0 e1 e2;simp at e0 e1 e2;have k0:=hide (iB x0 lR (.int .i64 0) (.int .i64 0) (.slice none 0 0));rw[j0];generalize (LA l).text=tx at *;clear j0 z0 C0 g0 f0 i0 x0 m0 G0 D0 E0 H0 hp p0 p1 p2 HI HW o0 b3;go_wp2;exact bodyPost_ret (v:=.tuple #[.agg #[.int .i64 0,.int .i64 0,.slice none 0 0],.int .i64 1]) (by simp[results,Tryz.results137,go_sem,e0,e1,e2]) rfl ⟨EB Hx.out (by decide),k0.out⟩
    ·have Hx:Hid (UA l=1):=hide (by unfold UA;rw[if_neg v0,if_neg h6,if_neg (fun h=>j0 h.1)]);have T0:((LA l).err != 0)=true:=by simpa using j0
     have b3:=f0.set3 (.int .i64 0) (.int .i64 0) (.slice none 0 0);have e0:=b3.cell 0;have e1:=b3.cell 1;have e2:=b3.cell 2;unfold st3 at e0 e1 e2;simp at e0 e1 e2;have k0:=hide (iB x0 lR (.int .i64 0) (.int .i64 0) (.slice none 0 0));generalize (LA l).err=er at *;clear j0 g0 f0 i0 x0 m0 G0 D0 E0 H0 hp p0 p1 p2 HI HW o0 b3;go_wp2;exact bodyPost_ret (v:=.tuple #[.agg #[.int .i64 0,.int .i64 0,.slice none 0 0],.int .i64 1]) (by simp[results,Tryz.results137,go_sem,e0,e1,e2]) rfl ⟨EB Hx.out (by decide),k0.out⟩
end Go.Proofs.YtjhkadffaephmacGreat
