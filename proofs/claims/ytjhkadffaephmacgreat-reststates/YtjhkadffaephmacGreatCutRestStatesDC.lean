import Derived.Test.YtjhkadffaephmacGreatCutRestStatesDB
import Derived.Test.YtjhkadffaephmacGreatCutRestStatesAF
namespace Go.Proofs.YtjhkadffaephmacGreat
set_option maxHeartbeats 16000000
set_option maxRecDepth 100000
open Go.RowKit
theorem Tryz.infoShape:(Tryz.prog.info? 106).map (fun i=>(i.zero,i.size,i.bytes))=some (some (.agg #[.int .i64 0,.int .i64 0]),2,16):=by kernel_rfl
def SE (s g:Nat->Nat):Nat->List Value
 | 0=>[]
 | k+1=>SE s g k ++ [.int .i64 (s k),.int .i64 (g k)]
theorem RD (s g:Nat->Nat)(k:Nat):(SE s g k).length=k*2:=by
 induction k with
 | zero=>rfl
 | succ k ih=>simp[SE,ih];omega
theorem vI (s g:Nat->Nat){k i:Nat}(h:i<k):(SE s g k)[i*2]? = some (.int .i64 (s i))/\(SE s g k)[i*2+1]? = some (.int .i64 (g i)):=by
 induction k with
 | zero=>omega
 | succ k ih =>
  simp only[SE];by_cases e:i=k
  ·subst e;rw[List.getElem?_append_right (by rw[RD];omega),List.getElem?_append_right (by rw[RD];omega),RD];simp
  ·rw[List.getElem?_append_left (by rw[RD];omega),List.getElem?_append_left (by rw[RD];omega)];exact ih (by omega)
theorem xK {w:World}{B n:Nat}{v:Value}{s g:Nat->Nat}(h:w.ownsRow B 106 2 v n (SE s g n)):∃ga gb cap,v=.slice ga n cap/\sI ga n gb s g w:=by
 rcases Go.Joins.ownsRow_forms h with ⟨rfl,rfl⟩ | ⟨gb,cap,rfl⟩
 ·exact⟨none,0,0,rfl,⟨fun h=>by omega,fun h=>by omega,fun i h=>by omega,fun i h=>by omega⟩⟩
 ·refine⟨_,gb,cap,rfl,⟨fun _=>rfl,fun _=>(h.lt gb rfl).2,fun i hi=>?_,fun i hi=>?_⟩⟩
  ·rw[h.cellAt (i*2) (by omega)];exact(vI s g hi).1
  ·rw[h.cellAt (i*2+1) (by omega)];exact(vI s g hi).2
theorem NN {h:yA}{sub:Nat->fA}{k:Nat}(hk:k<h.pn)(h0:∀j,j<k->(sub j).err=0)(he:(sub k).err≠0):(fA.mk h sub).err=(sub k).err:=by
 have:=nG (f:=fun i=>(sub i).err) hk h0 he;rw[XJ,if_neg (by rw[this];exact he),this]
theorem PN {h:yA}{sub:Nat->fA}(h0:∀j,j<h.pn->(sub j).err=0):(fA.mk h sub).err=OC h (fun i=>(sub i).size) (fun i=>(sub i).edges):=by
 rw[XJ,if_pos (jC.2 h0)]
theorem xN (p:fA):∀ (w:World),p.In w.heap.size w ->
 Calls Tryz.prog 67 #[p.head.val] w fun e w'=>zG p.err p.size p.edges e/\Below w.heap.size w w':=by
 induction p using fA.ind with
 | no=>exact fun _ h=>False.elim h
 | mk h sub ih =>
  intro w i1;have IH:=hide ih;clear ih;obtain⟨hh,hs⟩:=i1;have:=hh.plen;have N0:Below w.heap.size w ((w.alloc (.cells h.cells 37)).alloc (.cells #[.int .i64 0,.int .i64 0] 106)):=((Below.refl _ w).alloc lR _).alloc (by simp) _;have b0:=(Blk.new w h.cells 37).alloc (.cells #[.int .i64 0,.int .i64 0] 106);have bR:Blk ((w.alloc (.cells h.cells 37)).alloc (.cells #[.int .i64 0,.int .i64 0] 106)) (w.heap.size+1) #[.int .i64 0,.int .i64 0] 106:=Blk.new' (by simp);obtain⟨i0,Y0,Z0,g1,h1⟩:=info_parts Tryz.infoShape;simp only[DF,yA.val,yA.cells]at *;have c3:=b0.cell 3;simp at c3;have:=hide (XJ h sub);go_enter Tryz.func67,Tryz.ntmps67;go_wp2;generalize hW2:((w.alloc (.cells #[.int .i64 h.kind,.int .i64 h.n,.slice h.eg h.en h.ec,.slice h.pg h.pn h.pc] 37)).alloc (.cells #[.int .i64 0,.int .i64 0] 106))=W2 at *;have:W2.heap.size=w.heap.size+2:=by rw[<-hW2];simp
  clear hW2
  go_loopw [4,12] (fun v i wr=>∃k:Nat,k<=h.pn/\i=.int .i64 k/\Hid (∀j,j<k->(sub j).err=0)/\Hid (wr.ownsRow (w.heap.size+2) 106 2 v k (SE (fun j=>(sub j).size) (fun j=>(sub j).edges) k))/\Hid (Below (w.heap.size+2) W2 wr)) (fun _ i _=>h.pn-(intOf i).toNat)
  case atStart=>exact⟨0,zL,rfl,hide (fun j hj=>absurd hj nZ),hide ⟨rfl,Or.inl ⟨rfl,rfl⟩⟩,hide (Below.refl _ _)⟩
  case round =>
   obtain⟨k,hk,rfl,p0,A0,HB⟩:=hrel;have HW:=hide (N0.trans (HB.out.mono (by omega)));have b1:=b0.below HB.out (by omega);have k0:=bR.below HB.out (by omega);by_cases T0:k<h.pn
   ·obtain⟨S0,F0⟩:=hs k T0;have U0:=hh.pa (by omega);have m0:=S0.below HW.out (hh.pl (by omega));have q0:=m0.c0;have q1:=m0.c1;have q2:=m0.c2;have q3:=m0.c3;have HI:=hide ((F0.grown HW.out).grown ((Below.refl _ wr).alloc lR (.cells (sub k).head.cells 37)));simp only[yA.cells]at HI;go_wp2_with fail;go_at_call 67;refine(IH.out k _ HI.out).mono ?_;rintro e w1 ⟨⟨s,g,rfl,h0⟩,J0⟩;have C0:=hide (HB.out.trans (((Below.refl _ wr).alloc lR (.cells #[.int .i64 (sub k).head.kind,.int .i64 (sub k).head.n,.slice (sub k).head.eg (sub k).head.en (sub k).head.ec,.slice (sub k).head.pg (sub k).head.pn (sub k).head.pc] 37)).trans (J0.mono (by simp)) |>.mono (by have:=HB.out.size;omega)));have o0:=hide (ZA (A0.out.alloc (.cells #[.int .i64 (sub k).head.kind,.int .i64 (sub k).head.n,.slice (sub k).head.eg (sub k).head.en (sub k).head.ec,.slice (sub k).head.pg (sub k).head.pn (sub k).head.pc] 37)) J0);have:w.heap.size+2<=w1.heap.size:=by have:=C0.out.size;omega
    have O0:=bR.below C0.out (by omega);have D0:=hide (N0.trans (C0.out.mono (by omega)));clear J0 HI q0 q1 q2 q3 S0 m0 F0 k0 b1 HW;by_cases he:(sub k).err=0
    ·obtain⟨rfl,rfl⟩:=h0 he;have V0:((sub k).err != 0)=false:=by simp[he]
     have He:=hide he;clear he h0;go_wp2_with (at_builtin;refine wpList_append_lies _ rfl _ _ _ rfl (w.heap.size+2) 106 i0 _ 2 16 Tryz.underlying134 Y0 Z0 g1 h1 rfl (by decide) _ k _ rfl ((o0.out.alloc _).alloc _) ⟨w1.heap.size+1,0,none⟩ 1 1 [.int .i64 (sub k).size,.int .i64 (sub k).edges] rfl rfl ?c1 ?c2 (by decide) ?c3 ?c4 ?c5 _ rfl ?_)
     case c1=>exact World.news_of_block (Blk.new' (by simp))
     case c2=>simp[Value.oneCell']
     case c3=>unfold maxLen;omega
     case c4=>omega
     case c5=>simp;omega
     intro g' cap w2 w0 x0 L0 M0;have P0:=hide (((C0.out.alloc (by omega) _).alloc (by simp;omega) _).trans (nA x0 (fun g hg=>(o0.out.lt g hg).1) (by simp;omega)));have v0:=hide w0;clear w0 x0 L0 M0 o0 C0 D0 O0;go_wp2;go_roundw
     case rel =>
      have hn:∀j,j<k+1->(sub j).err=0:=fun j hj=>by
       by_cases e:j=k
       ·subst e;exact He.out
       ·exact p0.out j (by omega)
      first
      | exact⟨k+1,by omega,by go_num,hide hn,v0,P0⟩
      | (rw[<-U0];(repeat apply Exists.intro);exact⟨⟨k+1,by omega,by go_num,hide hn,v0,P0⟩,rfl⟩)
     case measure=>simp[intOf];omega
    ·have V0:((sub k).err != 0)=true:=by simp[he]
     have Hp:=hide (NN T0 p0.out he);have W0:=hide he;clear he h0;have G0:=O0.alloc (.cells #[.int .i64 s,.int .i64 g] 106);have d0:=G0.cell 0;have d1:=G0.cell 1;have df:=G0.frozen;simp at d0 d1;go_wp2;have f0:=G0.set2 (.int .i64 0) (.int .i64 0);have e0:=f0.cell 0;have e1:=f0.cell 1;simp at e0 e1;refine bodyPost_ret (v:=.tuple #[.agg #[.int .i64 0,.int .i64 0],.int .i64 (sub k).err]) (by simp[results,Tryz.results67,go_sem,e0,e1]) rfl ⟨by rw[Hp.out];exact TA W0.out,?_⟩
     first
     | exact QB (D0.out.alloc D0.out.size _) (by omega) _ _
     | exact(QB D0.out (by omega) _ _).alloc (by have:=D0.out.size;simp;omega) _
   ·have X0:k=h.pn:=by omega
    subst X0;have Hr:=hide (fun i hi=>wJ (p0.out i hi));have Hp:=hide (PN (h:=h) (sub:=sub) p0.out);obtain⟨ga,gb,cap,rfl,K0⟩:=xK A0.out;have H0:=hide ((hh.below HW.out lR).mono HW.out.size);have I0:=hide (iH h wr H0.out);have Q0:=hide (RI h ga cap gb _ _ wr H0.out K0 Hr.out);have R0:=hide (xH h ga cap gb _ _ wr H0.out K0 Hr.out);have z0:=b1.cell 0;have z1:=b1.cell 1;have z2:=b1.cell 2;have z3:=b1.cell 3;simp at z0 z1 z2 z3;simp only[yA.val,yA.cells]at I0 Q0 R0;have E0:∀ (w4:World),Below wr.heap.size wr w4->Blk w4 (w.heap.size+1) #[.int .i64 0,.int .i64 0] 106/\Below w.heap.size w w4:=fun w4 hb=>⟨k0.below hb k0.lt,HW.out.trans (hb.mono HW.out.size)⟩;have u0:=hide E0;clear E0 K0 A0 p0;by_cases k1:h.kind=1
    ·have g0:=k1;have f1:(h.kind == 1)=true:=by simp[k1]
     clear k1;have Hx:Hid (fA.err (.mk h sub)=YB h):=hide (by rw[Hp.out];unfold OC;simp[g0]);have Hy:Hid (fA.size (.mk h sub)=h.n.toNat+2/\fA.edges (.mk h sub)=h.en):=hide (by simp[fA.size,fA.edges,g0]);clear g0;generalize YB h=xx at *;go_wp2_with fail;go_at_call 99;refine I0.out.mono ?_;rintro e w4 ⟨⟨s,g,rfl,h0⟩,s0⟩;obtain⟨f0,B0⟩:=u0.out w4 s0;have y0:=hide h0;clear h0 s0 b1 k0 bR b0 z0 z1 z2 z3;have d0:=f0.cell 0;have d1:=f0.cell 1;have df:=f0.frozen;simp at d0 d1;go_wp2;have j0:=f0.set2 (.int .i64 s) (.int .i64 g);have e0:=j0.cell 0;have e1:=j0.cell 1;simp at e0 e1;refine bodyPost_ret (v:=.tuple #[.agg #[.int .i64 s,.int .i64 g],.int .i64 xx]) (by simp[results,Tryz.results67,go_sem,e0,e1]) rfl ⟨by rw[Hx.out,Hy.out.1,Hy.out.2];exact⟨s,g,rfl,y0.out⟩,QB B0 (by omega) _ _⟩
    by_cases k2:h.kind=2
    ·have g0:=k2;have f1:(h.kind == 1)=false:=by simp[k2]
     have f2:(h.kind == 2)=true:=by simp[k2]
     clear k1 k2;have Hx:Hid (fA.err (.mk h sub)=YB h):=hide (by rw[Hp.out];unfold OC;simp[g0]);have Hy:Hid (fA.size (.mk h sub)=h.n.toNat+2/\fA.edges (.mk h sub)=h.en):=hide (by simp[fA.size,fA.edges,g0]);clear g0;generalize YB h=xx at *;go_wp2_with fail;go_at_call 99;refine I0.out.mono ?_;rintro e w4 ⟨⟨s,g,rfl,h0⟩,s0⟩;obtain⟨f0,B0⟩:=u0.out w4 s0;have y0:=hide h0;clear h0 s0 b1 k0 bR b0 z0 z1 z2 z3;have d0:=f0.cell 0;have d1:=f0.cell 1;have df:=f0.frozen;simp at d0 d1;go_wp2;have j0:=f0.set2 (.int .i64 s) (.int .i64 g);have e0:=j0.cell 0;have e1:=j0.cell 1;simp at e0 e1;refine bodyPost_ret (v:=.tuple #[.agg #[.int .i64 s,.int .i64 g],.int .i64 xx]) (by simp[results,Tryz.results67,go_sem,e0,e1]) rfl ⟨by rw[Hx.out,Hy.out.1,Hy.out.2];exact⟨s,g,rfl,y0.out⟩,QB B0 (by omega) _ _⟩
    by_cases k3:h.kind=3
    ·have g0:=k3;have f1:(h.kind == 1)=false:=by simp[k3]
     have f2:(h.kind == 2)=false:=by simp[k3]
     have f3:(h.kind == 3)=true:=by simp[k3]
     clear k1 k2 k3;have Hx:Hid (fA.err (.mk h sub)=fB h (fun j=>(sub j).size) (fun j=>(sub j).edges)):=hide (by rw[Hp.out];unfold OC;simp[g0]);have Hy:Hid (fA.size (.mk h sub)=((sub 0).size-1)*((sub 1).size-1)+1/\fA.edges (.mk h sub)=(sub 0).edges):=hide (by simp[fA.size,fA.edges,g0]);clear g0;generalize fB h (fun j=>(sub j).size) (fun j=>(sub j).edges)=xx at *;go_wp2_with fail;go_at_call 100;refine Q0.out.mono ?_;rintro e w4 ⟨⟨s,g,rfl,h0⟩,s0⟩;obtain⟨f0,B0⟩:=u0.out w4 s0;have y0:=hide h0;clear h0 s0 b1 k0 bR b0 z0 z1 z2 z3;have d0:=f0.cell 0;have d1:=f0.cell 1;have df:=f0.frozen;simp at d0 d1;go_wp2;have j0:=f0.set2 (.int .i64 s) (.int .i64 g);have e0:=j0.cell 0;have e1:=j0.cell 1;simp at e0 e1;refine bodyPost_ret (v:=.tuple #[.agg #[.int .i64 s,.int .i64 g],.int .i64 xx]) (by simp[results,Tryz.results67,go_sem,e0,e1]) rfl ⟨by rw[Hx.out,Hy.out.1,Hy.out.2];exact⟨s,g,rfl,y0.out⟩,QB B0 (by omega) _ _⟩
    by_cases k4:h.kind=4
    ·have g0:=k4;have f1:(h.kind == 1)=false:=by simp[k4]
     have f2:(h.kind == 2)=false:=by simp[k4]
     have f3:(h.kind == 3)=false:=by simp[k4]
     have f4:(h.kind == 4)=true:=by simp[k4]
     clear k1 k2 k3 k4;have Hx:Hid (fA.err (.mk h sub)=LB h (fun j=>(sub j).size) (fun j=>(sub j).edges)):=hide (by rw[Hp.out];unfold OC;simp[g0]);have Hy:Hid (fA.size (.mk h sub)=(sub 0).size/\fA.edges (.mk h sub)=(sub 0).edges):=hide (by simp[fA.size,fA.edges,g0]);clear g0;generalize LB h (fun j=>(sub j).size) (fun j=>(sub j).edges)=xx at *;go_wp2_with fail;go_at_call 101;refine R0.out.mono ?_;rintro e w4 ⟨⟨s,g,rfl,h0⟩,s0⟩;obtain⟨f0,B0⟩:=u0.out w4 s0;have y0:=hide h0;clear h0 s0 b1 k0 bR b0 z0 z1 z2 z3;have d0:=f0.cell 0;have d1:=f0.cell 1;have df:=f0.frozen;simp at d0 d1;go_wp2;have j0:=f0.set2 (.int .i64 s) (.int .i64 g);have e0:=j0.cell 0;have e1:=j0.cell 1;simp at e0 e1;refine bodyPost_ret (v:=.tuple #[.agg #[.int .i64 s,.int .i64 g],.int .i64 xx]) (by simp[results,Tryz.results67,go_sem,e0,e1]) rfl ⟨by rw[Hx.out,Hy.out.1,Hy.out.2];exact⟨s,g,rfl,y0.out⟩,QB B0 (by omega) _ _⟩
    ·have f1:(h.kind == 1)=false:=by simp[k1]
     have f2:(h.kind == 2)=false:=by simp[k2]
     have f3:(h.kind == 3)=false:=by simp[k3]
     have f4:(h.kind == 4)=false:=by simp[k4]
     have Hx:Hid (fA.err (.mk h sub)=7):=hide (by rw[Hp.out];unfold OC;simp[k1,k2,k3,k4]);clear k1 k2 k3 k4;have d0:=k0.cell 0;have d1:=k0.cell 1;have df:=k0.frozen;simp at d0 d1;go_wp2;have j0:=k0.set2 (.int .i64 0) (.int .i64 0);have e0:=j0.cell 0;have e1:=j0.cell 1;simp at e0 e1;refine bodyPost_ret (v:=.tuple #[.agg #[.int .i64 0,.int .i64 0],.int .i64 7]) (by simp[results,Tryz.results67,go_sem,e0,e1]) rfl ⟨by rw[Hx.out];exact TA (by decide),QB HW.out (by omega) _ _⟩
theorem FR (p:fA):∀ (w:World),p.In w.heap.size w->p.err=0->p.wide=false ->
 Calls Tryz.prog 45 #[p.head.val] w fun e w'=>Made p.built w.heap.size e w'/\Below w.heap.size w w':=by
 induction p using fA.ind with
 | no=>exact fun _ h=>False.elim h
 | mk h sub ih =>
  intro w A1 M0 B0;have IH:=hide ih;clear ih;obtain⟨hh,hs⟩:=A1;obtain⟨j1,A0⟩:=mJ B0;have hR:=ZM M0;clear M0 B0;simp only[DF,yA.val,yA.cells]at *;have b0:Blk ((w.alloc (.cells #[.int .i64 h.kind,.int .i64 h.n,.slice h.eg h.en h.ec,.slice h.pg h.pn h.pc] 37)).alloc (.cells #[.int .i64 0,.slice none 0 0,.slice none 0 0] 24)) w.heap.size #[.int .i64 h.kind,.int .i64 h.n,.slice h.eg h.en h.ec,.slice h.pg h.pn h.pc] 37:=(Blk.new w _ _).alloc _;have b1:Blk ((w.alloc (.cells #[.int .i64 h.kind,.int .i64 h.n,.slice h.eg h.en h.ec,.slice h.pg h.pn h.pc] 37)).alloc (.cells #[.int .i64 0,.slice none 0 0,.slice none 0 0] 24)) (w.heap.size+1) #[.int .i64 0,.slice none 0 0,.slice none 0 0] 24:=Blk.new' (by simp);have q0:Below w.heap.size w ((w.alloc (.cells #[.int .i64 h.kind,.int .i64 h.n,.slice h.eg h.en h.ec,.slice h.pg h.pn h.pc] 37)).alloc (.cells #[.int .i64 0,.slice none 0 0,.slice none 0 0] 24)):=((Below.refl _ w).alloc lR _).alloc (by simp) _;have y0:(((w.alloc (.cells #[.int .i64 h.kind,.int .i64 h.n,.slice h.eg h.en h.ec,.slice h.pg h.pn h.pc] 37)).alloc (.cells #[.int .i64 0,.slice none 0 0,.slice none 0 0] 24)):World).heap.size=w.heap.size+2:=by simp
  have k0:∀ (x:FB) (m:xA) (w1:World),m.alg=x.alg->m.In w1.heap.size w1->m.FromS (w.heap.size+2) w1->Below (w.heap.size+2) ((w.alloc (.cells #[.int .i64 h.kind,.int .i64 h.n,.slice h.eg h.en h.ec,.slice h.pg h.pn h.pc] 37)).alloc (.cells #[.int .i64 0,.slice none 0 0,.slice none 0 0] 24)) w1 ->
   Blk w1 (w.heap.size+1) #[.int .i64 0,.slice none 0 0,.slice none 0 0] 24/\Blk (st3 w1 (w.heap.size+1) (.int .i64 m.size) m.B.val m.E.val) (w.heap.size+1) #[.int .i64 m.size,m.B.val,m.E.val] 24 /\
   Made x w.heap.size (.returned (.agg #[.int .i64 m.size,m.B.val,m.E.val])) (st3 w1 (w.heap.size+1) (.int .i64 m.size) m.B.val m.E.val)/\Below w.heap.size w (st3 w1 (w.heap.size+1) (.int .i64 m.size) m.B.val m.E.val):=fun x m w1 u0 s0 f0 hb=>by
   have bR:=b1.below hb (by omega);have s1:=iB (q0.trans (hb.mono (by omega))) (show w.heap.size<=w.heap.size+1 by omega) (.int .i64 m.size) m.B.val m.E.val;refine⟨bR,bR.set3 _ _ _,⟨m,rfl,u0,⟨?_,?_⟩,⟨f0.B.mono (by omega),f0.E.mono (by omega),fun r hr h0=>(by unfold st3;exact(((f0.sB r hr h0).set _ _).set _ _).set _ _),fun r hr h0=>(by unfold st3;exact(((f0.sE r hr h0).set _ _).set _ _).set _ _)⟩⟩,s1⟩
   ·have R0:(st3 w1 (w.heap.size+1) (.int .i64 m.size) m.B.val m.E.val).heap.size=w1.heap.size:=by unfold st3;simp
    rw[R0];exact((s0.B.other f0.B (by omega) _).other f0.B (by omega) _).other f0.B (by omega) _
   ·have R0:(st3 w1 (w.heap.size+1) (.int .i64 m.size) m.B.val m.E.val).heap.size=w1.heap.size:=by unfold st3;simp
    rw[R0];exact((s0.E.other f0.E (by omega) _).other f0.E (by omega) _).other f0.E (by omega) _
  simp only[Mat.val]at k0;have c0:=b0.cell 0;have c1:=b0.cell 1;have c2:=b0.cell 2;have c3:=b0.cell 3;simp at c0 c1 c2 c3;have N0:=(hh.below q0 lR).mono q0.size;simp only[fA.built];rcases hR with ⟨k,pn,n1,n2,ev⟩ | hR
  ·skip;have k3:¬ h.kind=3:=by omega
   have k4:¬ h.kind=4:=by omega
   simp only[if_neg k3,if_neg k4];obtain⟨N,hN⟩:∃N:Nat,h.n=(N:Int):=⟨h.n.toNat,by omega⟩;have O0:h.n.toNat=N:=by omega
   by_cases k2:h.kind=2
   ·simp only[if_pos k2,O0];have HC:=hide (WK h N _ N0 (by omega) (by omega) j1 (fun i hi=>by have:=ev i hi;omega));have f1:(h.kind == 1)=false:=by simp[k2]
    have f2:(h.kind == 2)=true:=by simp[k2]
    have j0:=hide (k0 (YF N h.en h.evN));simp only[hN]at HC j0 y0 b0 b1 q0 c0 c1 c2 c3 |-;clear k k2 k3 k4 ev k0 O0 hN pn;go_enter Tryz.func45,Tryz.ntmps45;go_wp2_with fail;go_at_call 85;refine HC.out.mono ?_;rintro e w1 ⟨⟨m,rfl,u0,s0,f0⟩,v0⟩;rw[y0]at f0 v0;obtain⟨bR,p0,hM,hB⟩:=j0.out m w1 u0 s0 f0 v0;have d0:=bR.cell 0;have d1:=bR.cell 1;have d2:=bR.cell 2;have df:=bR.frozen;have e0:=p0.cell 0;have e1:=p0.cell 1;have e2:=p0.cell 2;unfold st3 at e0 e1 e2;simp at d0 d1 d2 e0 e1 e2;have HM:=hide hM;have HB:=hide hB;clear hM hB u0 s0 f0 v0;simp only[xA.val,Mat.val];go_wp2;exact bodyPost_ret (v:=.agg #[.int .i64 m.size,.slice m.B.ga m.B.t.len m.B.cap,.slice m.E.ga m.E.t.len m.E.cap]) (by simp[results,Tryz.results45,go_sem,e0,e1,e2]) rfl ⟨HM.out,HB.out⟩
   ·simp only[if_neg k2,O0];have HC:=hide (YK h N _ N0 (by omega) (by omega) j1 (fun i hi=>by have:=ev i hi;omega));have f1:(h.kind == 1)=true:=by simp;omega
    have j0:=hide (k0 (mG N h.en h.evN));simp only[hN]at HC j0 y0 b0 b1 q0 c0 c1 c2 c3 |-;clear k k2 k3 k4 ev k0 O0 hN pn;go_enter Tryz.func45,Tryz.ntmps45;go_wp2_with fail;go_at_call 84;refine HC.out.mono ?_;rintro e w1 ⟨⟨m,rfl,u0,s0,f0⟩,v0⟩;rw[y0]at f0 v0;obtain⟨bR,p0,hM,hB⟩:=j0.out m w1 u0 s0 f0 v0;have d0:=bR.cell 0;have d1:=bR.cell 1;have d2:=bR.cell 2;have df:=bR.frozen;have e0:=p0.cell 0;have e1:=p0.cell 1;have e2:=p0.cell 2;unfold st3 at e0 e1 e2;simp at d0 d1 d2 e0 e1 e2;have HM:=hide hM;have HB:=hide hB;clear hM hB u0 s0 f0 v0;simp only[xA.val,Mat.val];go_wp2;exact bodyPost_ret (v:=.agg #[.int .i64 m.size,.slice m.B.ga m.B.t.len m.B.cap,.slice m.E.ga m.E.t.len m.E.cap]) (by simp[results,Tryz.results45,go_sem,e0,e1,e2]) rfl ⟨HM.out,HB.out⟩
  rcases hR with ⟨k,pn,n0,en,D0,e1',g,s⟩ | hR
  ·skip;simp only[if_pos k];obtain⟨o0,z0,g0⟩:=ME D0 (A0 0 (by omega));obtain⟨o1,z1,g1⟩:=ME e1' (A0 1 (by omega));have f1:(h.kind == 1)=false:=by simp[k]
   have f2:(h.kind == 2)=false:=by simp[k]
   have f3:(h.kind == 3)=true:=by simp[k]
   have j0:=hide (k0 (yC (sub 0).built (sub 1).built));obtain⟨K0,L0⟩:=hs 0 (by omega);obtain⟨k1,p1⟩:=hs 1 (by omega);have E0:=hh.pa (by omega);have w0:=hh.pl (by omega);have:(1:Int)<(h.pn:Int):=by omega
   have S0:(0:Int)<(h.pn:Int):=by omega
   have F0:0<h.pn:=by omega
   have G0:=A0 0 (by omega);have h1:=A0 1 (by omega);have HP:Hid (∀m0 m1 (w2:World),QE m0 (sub 0).built->QE m1 (sub 1).built->m0.In w2.heap.size w2->m1.In w2.heap.size w2->Calls Tryz.prog 86 #[m0.val,m1.val] w2 fun e w'=>Made (yC (sub 0).built (sub 1).built) w2.heap.size e w'/\Below w2.heap.size w2 w') :=
    hide (fun m0 m1 w2 l0 l1 i0 i1=>XK m0 m1 _ _ w2 l0 l1 i0 i1 o0 o1 (by rw[g0,g1];exact g) (by rw[z0,z1];exact s))
   have H0:=hide (fun (w':World) (hi:(sub 0).In w'.heap.size w')=>IH.out 0 w' hi D0 G0);have H1:=hide (fun (w':World) (hi:(sub 1).In w'.heap.size w')=>IH.out 1 w' hi e1' h1);simp only[E0]at j0 y0 b0 b1 q0 c0 c1 c2 c3 |-;clear k pn n0 en D0 e1' g s o0 o1 z0 z1 g0 g1 k0 A0 hs IH G0 h1 E0 N0;go_enter Tryz.func45,Tryz.ntmps45;go_wp2_with fail;generalize ((w.alloc (.cells #[.int .i64 h.kind,.int .i64 h.n,.slice h.eg h.en h.ec,.slice (some ⟨h.pb,h.po,none⟩) h.pn h.pc] 37)).alloc (.cells #[.int .i64 0,.slice none 0 0,.slice none 0 0] 24))=W at *;have HK:Hid (∀w',Below (w.heap.size+1) W w'->w'.cell? ⟨w.heap.size,3,none⟩=some (.slice (some ⟨h.pb,h.po,none⟩) h.pn h.pc)/\w'.cell? ⟨h.pb,h.po,none⟩=some (.int .i64 (sub 0).head.kind)/\w'.cell? ⟨h.pb,h.po+1,none⟩=some (.int .i64 (sub 0).head.n)/\w'.cell? ⟨h.pb,h.po+2,none⟩=some (.slice (sub 0).head.eg (sub 0).head.en (sub 0).head.ec)/\w'.cell? ⟨h.pb,h.po+3,none⟩=some (.slice (sub 0).head.pg (sub 0).head.pn (sub 0).head.pc)/\w'.cell? ⟨h.pb,h.po+4,none⟩=some (.int .i64 (sub 1).head.kind)/\w'.cell? ⟨h.pb,h.po+4+1,none⟩=some (.int .i64 (sub 1).head.n)/\w'.cell? ⟨h.pb,h.po+4+2,none⟩=some (.slice (sub 1).head.eg (sub 1).head.en (sub 1).head.ec)/\w'.cell? ⟨h.pb,h.po+4+3,none⟩=some (.slice (sub 1).head.pg (sub 1).head.pn (sub 1).head.pc)):=hide (fun w' hb=>by
    have P0:=q0.trans (hb.mono (by omega));have a0:=K0.below P0 w0;have a1:=k1.below P0 w0;exact⟨(b0.below hb (by omega)).cell 3,a0.c0,a0.c1,a0.c2,a0.c3,a1.c0,a1.c1,a1.c2,a1.c3⟩)
   have HW:=HK.out W (Below.refl _ _);have T0:=hide (fun (w':World) (hb:Below (w.heap.size+2) W w')=>L0.grown (q0.trans (hb.mono (by omega))));have t1:=hide (fun (w':World) (hb:Below (w.heap.size+2) W w')=>p1.grown (q0.trans (hb.mono (by omega))));have I0:Below (w.heap.size+2) W W.drew:=⟨rfl,rfl,rfl,lR,fun _ _=>rfl⟩;clear c0 c1 c2 c3 L0 p1 K0 k1
   go_region_held3 (fun w'=>w'.cell? ⟨w.heap.size,3,none⟩=some (.slice (some ⟨h.pb,h.po,none⟩) h.pn h.pc)/\w'.cell? ⟨h.pb,h.po,none⟩=some (.int .i64 (sub 0).head.kind)/\w'.cell? ⟨h.pb,h.po+1,none⟩=some (.int .i64 (sub 0).head.n)/\w'.cell? ⟨h.pb,h.po+2,none⟩=some (.slice (sub 0).head.eg (sub 0).head.en (sub 0).head.ec)/\w'.cell? ⟨h.pb,h.po+3,none⟩=some (.slice (sub 0).head.pg (sub 0).head.pn (sub 0).head.pc)/\w'.cell? ⟨h.pb,h.po+4,none⟩=some (.int .i64 (sub 1).head.kind)/\w'.cell? ⟨h.pb,h.po+4+1,none⟩=some (.int .i64 (sub 1).head.n)/\w'.cell? ⟨h.pb,h.po+4+2,none⟩=some (.slice (sub 1).head.eg (sub 1).head.en (sub 1).head.ec)/\w'.cell? ⟨h.pb,h.po+4+3,none⟩=some (.slice (sub 1).head.pg (sub 1).head.pn (sub 1).head.pc)) (first | exact HK.out _ ⟨rfl,rfl,rfl,lR,fun _ _=>rfl⟩ | exact HK.out _ U0 | exact HK.out _ u1 | exact HK.out _ J0 | exact HK.out _ (iB J0 lR _ _ _))
    (first
     | (go_at_call 45;refine(H0.out _ (T0.out _ I0)).mono ?_;rintro e w1 ⟨⟨m0,rfl,W0,X0,q1⟩,v0⟩;have x0:=I0.trans (v0.mono (show w.heap.size+2<=W.heap.size from Nat.le_of_eq y0.symm));have U0:=x0.mono (show w.heap.size+1<=w.heap.size+2 by omega);clear H0)
     | (go_at_call 45;refine(H1.out _ (t1.out _ x0)).mono ?_;rintro e w2 ⟨⟨m1,rfl,x1,y1,B1⟩,Y0⟩;have Q0:=x0.trans (Y0.mono (by have:=x0.size;omega));have u1:=Q0.mono (show w.heap.size+1<=w.heap.size+2 by omega);have V0:=(X0.below Y0 lR).mono Y0.size;clear H1)
     | (go_at_call 86;refine(HP.out m0 m1 _ (kM W0) (kM x1) V0 y1).mono ?_;rintro e w3 ⟨⟨m,rfl,u0,s0,f0⟩,Z0⟩;have C0:=Q0.trans (Z0.mono (by have:=Q0.size;omega));have J0:=C0.mono (show w.heap.size+1<=w.heap.size+2 by omega);have bR:=b1.below C0 (by omega);have d0:=bR.cell 0;have d1:=bR.cell 1;have d2:=bR.cell 2;have df:=bR.frozen;simp at d0 d1 d2;simp only[xA.val,Mat.val]))
   all_goals
    obtain⟨p0,hM,hB⟩:=(j0.out m w3 u0 s0 (f0.mono (by have:=Q0.size;omega)) C0).2;have e0:=p0.cell 0;have e1:=p0.cell 1;have e2:=p0.cell 2;unfold st3 at e0 e1 e2;simp at e0 e1 e2;have HM:=hide hM;have HB:=hide hB;clear hM hB u0 s0 f0;go_wp2;exact bodyPost_ret (v:=.agg #[.int .i64 m.size,.slice m.B.ga m.B.t.len m.B.cap,.slice m.E.ga m.E.t.len m.E.cap]) (by simp[results,Tryz.results45,go_sem,e0,e1,e2]) rfl ⟨HM.out,HB.out⟩
  obtain⟨k,pn,n0,D0,en,ev⟩:=hR
  ·skip;have k3:¬ h.kind=3:=by omega
   simp only[if_neg k3,if_pos k];obtain⟨o0,z0,g0⟩:=ME D0 (A0 0 (by omega));have f1:(h.kind == 1)=false:=by simp[k]
   have f2:(h.kind == 2)=false:=by simp[k]
   have f3:(h.kind == 3)=false:=by simp[k]
   have:(h.kind == 4)=true:=by simp[k]
   have j0:=hide (k0 (KE (sub 0).built h.evN));obtain⟨K0,L0⟩:=hs 0 (by omega);have E0:=hh.pa (by omega);have w0:=hh.pl (by omega);have S0:(0:Int)<(h.pn:Int):=by omega
   have F0:0<h.pn:=by omega
   have G0:=A0 0 (by omega);have HP:Hid (∀m0 (b:Nat) (w2:World),b<=w2.heap.size->m0.FromS b w2->QE m0 (sub 0).built->m0.In w2.heap.size w2->h.In w2.heap.size w2->Calls Tryz.prog 87 #[m0.val,.slice h.eg h.en h.ec] w2 fun e w'=>Made (KE (sub 0).built h.evN) b e w'/\Below w2.heap.size w2 w') :=
    hide (fun m0 b w2 hb hf l0 i0 ih0=>XI h m0 _ b w2 hb hf ih0 l0 i0 o0 (by rw[g0];exact en) (by rw[z0];exact ev))
   have H0:=hide (fun (w':World) (hi:(sub 0).In w'.heap.size w')=>IH.out 0 w' hi D0 G0);simp only[E0]at j0 y0 b0 b1 q0 c0 c1 c2 c3 |-;clear k k3 pn n0 en D0 ev o0 z0 g0 k0 A0 hs IH G0 E0 N0;go_enter Tryz.func45,Tryz.ntmps45;go_wp2_with fail;generalize ((w.alloc (.cells #[.int .i64 h.kind,.int .i64 h.n,.slice h.eg h.en h.ec,.slice (some ⟨h.pb,h.po,none⟩) h.pn h.pc] 37)).alloc (.cells #[.int .i64 0,.slice none 0 0,.slice none 0 0] 24))=W at *;have HK:Hid (∀w',Below (w.heap.size+1) W w'->w'.cell? ⟨w.heap.size,2,none⟩=some (.slice h.eg h.en h.ec)/\w'.cell? ⟨w.heap.size,3,none⟩=some (.slice (some ⟨h.pb,h.po,none⟩) h.pn h.pc)/\w'.cell? ⟨h.pb,h.po,none⟩=some (.int .i64 (sub 0).head.kind)/\w'.cell? ⟨h.pb,h.po+1,none⟩=some (.int .i64 (sub 0).head.n)/\w'.cell? ⟨h.pb,h.po+2,none⟩=some (.slice (sub 0).head.eg (sub 0).head.en (sub 0).head.ec)/\w'.cell? ⟨h.pb,h.po+3,none⟩=some (.slice (sub 0).head.pg (sub 0).head.pn (sub 0).head.pc)):=hide (fun w' hb=>by
    have P0:=q0.trans (hb.mono (by omega));have a0:=K0.below P0 w0;exact⟨(b0.below hb (by omega)).cell 2,(b0.below hb (by omega)).cell 3,a0.c0,a0.c1,a0.c2,a0.c3⟩)
   have HW:=HK.out W (Below.refl _ _);have T0:=hide (fun (w':World) (hb:Below (w.heap.size+2) W w')=>L0.grown (q0.trans (hb.mono (by omega))));have v1:=hide (fun (w':World) (hb:Below (w.heap.size+2) W w')=>(hh.below (q0.trans (hb.mono (by omega))) lR).mono (q0.trans (hb.mono (by omega))).size);have I0:Below (w.heap.size+2) W W.drew:=⟨rfl,rfl,rfl,lR,fun _ _=>rfl⟩;clear c0 c1 c2 c3 L0 K0
   go_region_held3 (fun w'=>w'.cell? ⟨w.heap.size,2,none⟩=some (.slice h.eg h.en h.ec)/\w'.cell? ⟨w.heap.size,3,none⟩=some (.slice (some ⟨h.pb,h.po,none⟩) h.pn h.pc)/\w'.cell? ⟨h.pb,h.po,none⟩=some (.int .i64 (sub 0).head.kind)/\w'.cell? ⟨h.pb,h.po+1,none⟩=some (.int .i64 (sub 0).head.n)/\w'.cell? ⟨h.pb,h.po+2,none⟩=some (.slice (sub 0).head.eg (sub 0).head.en (sub 0).head.ec)/\w'.cell? ⟨h.pb,h.po+3,none⟩=some (.slice (sub 0).head.pg (sub 0).head.pn (sub 0).head.pc)) (first | exact HK.out _ ⟨rfl,rfl,rfl,lR,fun _ _=>rfl⟩ | exact HK.out _ U0 | exact HK.out _ J0 | exact HK.out _ (iB J0 lR _ _ _))
    (first
     | (go_at_call 45;refine(H0.out _ (T0.out _ I0)).mono ?_;rintro e w1 ⟨⟨m0,rfl,W0,X0,q1⟩,v0⟩;have x0:=I0.trans (v0.mono (show w.heap.size+2<=W.heap.size from Nat.le_of_eq y0.symm));have U0:=x0.mono (show w.heap.size+1<=w.heap.size+2 by omega);clear H0)
     | (go_at_call 87;refine(HP.out m0 _ _ v0.size q1 (kM W0) X0 (v1.out _ x0)).mono ?_;rintro e w3 ⟨⟨m,rfl,u0,s0,f0⟩,Z0⟩;have C0:=x0.trans (Z0.mono (by have:=x0.size;omega));have J0:=C0.mono (show w.heap.size+1<=w.heap.size+2 by omega);have bR:=b1.below C0 (by omega);have d0:=bR.cell 0;have d1:=bR.cell 1;have d2:=bR.cell 2;have df:=bR.frozen;simp at d0 d1 d2;simp only[xA.val,Mat.val]))
   all_goals
    obtain⟨p0,hM,hB⟩:=(j0.out m w3 u0 s0 (f0.mono (by show w.heap.size+2<=W.heap.size;omega)) C0).2;have e0:=p0.cell 0;have e1:=p0.cell 1;have e2:=p0.cell 2;unfold st3 at e0 e1 e2;simp at e0 e1 e2;have HM:=hide hM;have HB:=hide hB;clear hM hB u0 s0 f0;go_wp2;exact bodyPost_ret (v:=.agg #[.int .i64 m.size,.slice m.B.ga m.B.t.len m.B.cap,.slice m.E.ga m.E.t.len m.E.cap]) (by simp[results,Tryz.results45,go_sem,e0,e1,e2]) rfl ⟨HM.out,HB.out⟩
def fA.chk (p:fA):Int:=if p.many 4=true then 2 else p.err
theorem JL {p:fA}{d:Nat}(h:p.many d=false):p.wide=false:=by
 rw[iM]at h;simp at h;exact h.2
def mP:Mat:=⟨none,0,0,0,fun _=>none,fun _=>0,fun _=>0,fun _=>0,⟨0,fun _=>0,fun _ _=>0⟩⟩
def gF:xA:=⟨0,mP,mP⟩
theorem vL (n:Nat)(w:World):mP.In n w where
 ga:=fun h=>absurd h nZ
 gb:=fun h=>absurd h nZ
 row:=fun _ h=>absurd h nZ
 addr:=fun _ h=>absurd h nZ
 cell:=fun _ h=>absurd h nZ
 len:=zL
 lens:=fun _ h=>absurd h nZ
theorem JG (n:Nat)(w:World):gF.In n w:=⟨vL n w,vL n w⟩
def fA.res (p:fA):Alg:=if p.chk=0 then p.built.alg else gF.alg
theorem TG (p:fA)(w:World)(hin:p.In w.heap.size w):
 Calls Tryz.prog 29 #[p.head.val] w fun e w'=>e=.returned (.int .i64 p.chk)/\Below w.heap.size w w':=by
 have d0:Below w.heap.size w (w.alloc (.cells p.head.cells 37)):=(Below.refl _ w).alloc lR _;have b0:=Blk.new w p.head.cells 37;have HT:=hide (FM p 4 (w.alloc (.cells p.head.cells 37)) (by omega) (hin.grown d0));simp only[yA.val,yA.cells]at *;cases hm:p.many 4 with
 | true =>
  have e:Hid (p.chk=2):=hide (by unfold fA.chk;rw[if_pos hm]);rw[hm]at HT;clear hm;go_enter Tryz.func29,Tryz.ntmps29;go_wp2_with fail;go_at_call 66;refine HT.out.mono ?_;rintro r w1 ⟨rfl,f0⟩;have hB:=hide (d0.trans (f0.mono d0.size));go_wp2;go_ret;exact⟨by rw[e.out];rfl,hB.out⟩
 | false =>
  have e:Hid (p.chk=p.err):=hide (by unfold fA.chk;rw[if_neg (by rw[hm];simp)]);rw[hm]at HT;clear hm;go_enter Tryz.func29,Tryz.ntmps29;go_wp2_with fail;go_at_call 66;refine HT.out.mono ?_;rintro r w1 ⟨rfl,f0⟩;have hB:=d0.trans (f0.mono d0.size);have HM:=hide (xN p w1 (hin.grown hB));simp only[yA.val,yA.cells]at HM;have b1:=b0.below f0 b0.lt;have c0:=b1.cell 0;have c1:=b1.cell 1;have c2:=b1.cell 2;have c3:=b1.cell 3;simp at c0 c1 c2 c3;go_wp2_with fail;go_at_call 67;refine HM.out.mono ?_;rintro r w2 ⟨⟨s,g,rfl,_⟩,h0⟩;have g0:=hide (hB.trans (h0.mono hB.size));go_wp2;go_ret;exact⟨by rw[e.out];rfl,g0.out.alloc g0.out.size _⟩
def qK (x:Alg) (c:Int) (e:Ending) (w':World):Prop:=∃m:xA,e=.returned (.tuple #[m.val,.int .i64 c])/\m.alg=x/\m.In w'.heap.size w'
def yM (x:Alg) (c:Int) (lo:Nat) (e:Ending) (w':World):Prop:=∃m:xA,e=.returned (.tuple #[m.val,.int .i64 c])/\m.alg=x/\m.In w'.heap.size w'/\m.FromS lo w'
theorem wN (b:Nat)(W:World):gF.FromS b W:=⟨⟨fun h=>absurd h nZ,fun _ h=>absurd h nZ⟩,⟨fun h=>absurd h nZ,fun _ h=>absurd h nZ⟩,fun _ h=>absurd h nZ,fun _ h=>absurd h nZ⟩
theorem UG (p:fA)(w:World)(hin:p.In w.heap.size w):
 Calls Tryz.prog 14 #[p.head.val] w fun e w'=>yM p.res p.chk w.heap.size e w'/\Below w.heap.size w w':=by
 have o0:Below w.heap.size w ((w.alloc (.cells p.head.cells 37)).alloc (.cells #[.int .i64 0,.slice none 0 0,.slice none 0 0] 24)):=((Below.refl _ w).alloc lR _).alloc (by simp) _;have b0:=(Blk.new w p.head.cells 37).alloc (.cells #[.int .i64 0,.slice none 0 0,.slice none 0 0] 24);have bR:Blk ((w.alloc (.cells p.head.cells 37)).alloc (.cells #[.int .i64 0,.slice none 0 0,.slice none 0 0] 24)) (w.heap.size+1) #[.int .i64 0,.slice none 0 0,.slice none 0 0] 24:=Blk.new' (by simp);have HC:=hide (TG p _ (hin.grown o0));have w0:((w.alloc (.cells p.head.cells 37)).alloc (.cells #[.int .i64 0,.slice none 0 0,.slice none 0 0] 24)).heap.size=w.heap.size+2:=by simp
 have Hz:=hide (show p.chk≠0->p.res=gF.alg from fun h=>by unfold fA.res;rw[if_neg h]);have Hy:=hide (show p.chk=0->p.res=p.built.alg/\p.err=0/\p.wide=false from fun h=>by
  refine⟨by unfold fA.res;rw[if_pos h],?_,?_⟩
  ·unfold fA.chk at h;split at h
   ·cases h
   ·exact h
  ·unfold fA.chk at h;split at h
   ·cases h
   ·rename_i hm
    exact JL (d:=4) (by simpa using hm))
 simp only[yA.val,yA.cells]at *;generalize p.chk=ck at *;go_enter Tryz.func14,Tryz.ntmps14;go_wp2_with fail;go_at_call 29;refine HC.out.mono ?_;rintro r w1 ⟨rfl,k0⟩;rw[w0]at k0;have hB:=o0.trans (k0.mono (by omega));have i0:=bR.below k0 (by omega);have b1:=b0.below k0 (by omega);clear HC o0;by_cases hc:ck=0
 ·obtain⟨e1,e2,e3⟩:=Hy.out hc;subst hc;have u0:=hide (FR p w1 (hin.grown hB) e2 e3);simp only[yA.val,yA.cells]at u0;have c0:=b1.cell 0;have c1:=b1.cell 1;have c2:=b1.cell 2;have c3:=b1.cell 3;simp at c0 c1 c2 c3;have HR:=hide e1;clear e1 e2 e3 Hz Hy;go_wp2_with fail;go_at_call 45;refine u0.out.mono ?_;rintro e w2 ⟨⟨m,rfl,v0,q0,f0⟩,s0⟩;have:w.heap.size+2<=w1.heap.size:=by have:=k0.size;omega
  have j0:=i0.below s0 i0.lt;have x0:=hB.trans (s0.mono hB.size);have d0:=j0.cell 0;have d1:=j0.cell 1;have d2:=j0.cell 2;have df:=j0.frozen;have g0:=j0.set3 (.int .i64 m.size) m.B.val m.E.val;have e0:=g0.cell 0;have e1:=g0.cell 1;have e2:=g0.cell 2;unfold st3 at e0 e1 e2;simp[Mat.val]at d0 d1 d2 e0 e1 e2;have m0:=hide (iB x0 (show w.heap.size<=w.heap.size+1 by omega) (.int .i64 m.size) m.B.val m.E.val);have HA:Hid (yM p.res 0 w.heap.size (.returned (.tuple #[.agg #[.int .i64 m.size,m.B.val,m.E.val],.int .i64 0])) (st3 w2 (w.heap.size+1) (.int .i64 m.size) m.B.val m.E.val)):=hide (by
   refine⟨m,rfl,v0.trans HR.out.symm,⟨?_,?_⟩,⟨f0.B.mono (by omega),f0.E.mono (by omega),fun r hr h0=>(by unfold st3;exact(((f0.sB r hr h0).set _ _).set _ _).set _ _),fun r hr h0=>(by unfold st3;exact(((f0.sE r hr h0).set _ _).set _ _).set _ _)⟩⟩
   ·have p0:(st3 w2 (w.heap.size+1) (.int .i64 m.size) m.B.val m.E.val).heap.size=w2.heap.size:=by unfold st3;simp
    rw[p0];exact((q0.B.other f0.B (by omega) _).other f0.B (by omega) _).other f0.B (by omega) _
   ·have p0:(st3 w2 (w.heap.size+1) (.int .i64 m.size) m.B.val m.E.val).heap.size=w2.heap.size:=by unfold st3;simp
    rw[p0];exact((q0.E.other f0.E (by omega) _).other f0.E (by omega) _).other f0.E (by omega) _)
  simp only[Mat.val]at HA m0;clear v0 q0 f0 s0 j0 g0;simp only[xA.val,Mat.val];go_wp2;exact bodyPost_ret (v:=.tuple #[.agg #[.int .i64 m.size,.slice m.B.ga m.B.t.len m.B.cap,.slice m.E.ga m.E.t.len m.E.cap],.int .i64 0]) (by simp[results,Tryz.results14,go_sem,e0,e1,e2]) rfl ⟨HA.out,m0.out⟩
 ·have:((ck:Int) != 0)=true:=by simp[hc]
  have HR:=hide (Hz.out hc);clear hc Hz Hy;have d0:=i0.cell 0;have d1:=i0.cell 1;have d2:=i0.cell 2;have df:=i0.frozen;have g0:=i0.set3 (.int .i64 0) (.slice none 0 0) (.slice none 0 0);have e0:=g0.cell 0;have e1:=g0.cell 1;have e2:=g0.cell 2;unfold st3 at e0 e1 e2;simp at d0 d1 d2 e0 e1 e2;have m0:=hide (iB hB (show w.heap.size<=w.heap.size+1 by omega) (.int .i64 0) (.slice none 0 0) (.slice none 0 0));go_wp2;exact bodyPost_ret (v:=.tuple #[.agg #[.int .i64 0,.slice none 0 0,.slice none 0 0],.int .i64 ck]) (by simp[results,Tryz.results14,go_sem,e0,e1,e2]) rfl ⟨⟨gF,rfl,HR.out.symm,JG _ _,wN _ _⟩,m0.out⟩
theorem BK (p:fA)(w:World)(hin:p.In w.heap.size w):
 Calls Tryz.prog 14 #[p.head.val] w fun e w'=>qK p.res p.chk e w'/\Below w.heap.size w w' :=
 (UG p w hin).mono fun _ _ ⟨⟨m,h1,h2,h3,_⟩,hb⟩=>⟨⟨m,h1,h2,h3⟩,hb⟩
end Go.Proofs.YtjhkadffaephmacGreat
