import Derived.Test.YtjhkadffaephmacGreatCutRestStatesDE
namespace Go.Proofs.YtjhkadffaephmacGreat
set_option maxHeartbeats 16000000
set_option maxRecDepth 100000
open Go.RowKit
theorem yE {x:FB}{lo hi:Nat}{VB VE:Value}{w:World}(h:NC x lo hi VB VE w):∃gB cB gE cE,VB=.slice gB x.size cB/\VE=.slice gE x.el cE:=by
 obtain⟨mid,_,_,h1,h2⟩:=h;obtain⟨gB,cB,e1⟩:=h1.form;obtain⟨gE,cE,e2⟩:=h2.form;exact⟨gB,cB,gE,cE,e1,e2⟩
theorem UH {x:FB}{lo hi:Nat}{VB VE:Value}{w:World}(h:NC x lo hi VB VE w)(hx:x.Ok):∃m:xA,VB=m.B.val/\VE=m.E.val/\QE m x/\m.In w.heap.size w:=by
 obtain⟨mid,_,_,h1,h2⟩:=h;have:=hx.hi;have:=hx.el;obtain⟨B,e1,t1,i1,_⟩:=h1.mat (by omega) (by omega);obtain⟨E,e2,t2,i2,_⟩:=h2.mat (by omega) (by omega);exact⟨⟨x.size,B,E⟩,e1,e2,⟨rfl,t1,t2⟩,i1,i2⟩
theorem MU (w:World)(B:Nat)(v0 v1 v2:Value):w.grownBy (st3 w B v0 v1 v2) (some B):=⟨rfl,rfl,rfl,by unfold st3;simp,fun j _ hne=>by
 have e:∀ (X:World) (k:Nat) (v:Value),(X.setCell ⟨B,k,none⟩ v).heap[j]? = X.heap[j]?:=fun X k v=>by
  show (X.heap.modify B _)[j]? = _;rw[Array.getElem?_modify,if_neg (fun e=>hne (by rw[e]))]
 unfold st3;rw[e,e,e]⟩
theorem lF {x:FB}{lo:Nat}{VB VE:Value}{w:World}{B:Nat}(h:NC x lo w.heap.size VB VE w)(hB:B<lo)(v0 v1 v2:Value):NC x lo (st3 w B v0 v1 v2).heap.size VB VE (st3 w B v0 v1 v2):=by
 have hs:(st3 w B v0 v1 v2).heap.size=w.heap.size:=by unfold st3;simp
 rw[hs];exact h.kept (MU w B v0 v1 v2) (fun k hk=>Or.inl (by have e:B=k:=(by simpa using hk);omega))
theorem NC.lower {x:FB}{lo lo' hi:Nat}{VB VE:Value}{w:World}(h:NC x lo hi VB VE w)(hl:lo'<=lo):NC x lo' hi VB VE w:=by
 obtain⟨mid,h1,h2,h3,h4⟩:=h;exact⟨mid,by omega,h2,h3.mono hl lR,h4⟩
theorem WL (p:fA):∀ (w:World),p.In w.heap.size w->p.wide=false ->
 Calls Tryz.prog 36 #[p.head.val] w fun e w'=>kK p w.heap.size e w'/\Below w.heap.size w w':=by
 induction p using fA.ind with
 | no=>exact fun _ h=>False.elim h
 | mk h sub ih =>
  intro w C6 R3;have IH:=hide ih;clear ih;obtain⟨hh,hs⟩:=C6;obtain⟨q5,X3⟩:=mJ R3;have D6:=hh.plen;have D5:Below w.heap.size w ((w.alloc (.cells h.cells 37)).alloc (.cells #[.int .i64 0,.slice none 0 0,.slice none 0 0] 24)):=((Below.refl _ w).alloc lR _).alloc (by simp) _;have b0:=(Blk.new w h.cells 37).alloc (.cells #[.int .i64 0,.slice none 0 0,.slice none 0 0] 24);have bR:Blk ((w.alloc (.cells h.cells 37)).alloc (.cells #[.int .i64 0,.slice none 0 0,.slice none 0 0] 24)) (w.heap.size+1) #[.int .i64 0,.slice none 0 0,.slice none 0 0] 24:=Blk.new' (by simp);obtain⟨i0,p6,q6,r6,t6⟩:=info_parts Tryz.infoAlg;obtain⟨i1,m2,o2,p2,A2⟩:=info_parts Tryz.infoInt;obtain⟨i2,Y3,Z3,a4,b4⟩:=info_parts Tryz.infoInts;simp only[DF,yA.val,yA.cells]at *;go_enter Tryz.func36,Tryz.ntmps36;go_wp2;generalize hW2:((w.alloc (.cells #[.int .i64 h.kind,.int .i64 h.n,.slice h.eg h.en h.ec,.slice h.pg h.pn h.pc] 37)).alloc (.cells #[.int .i64 0,.slice none 0 0,.slice none 0 0] 24))=W2 at *;have hsz:W2.heap.size=w.heap.size+2:=by rw[<-hW2];simp
  clear hW2
  go_loopw [4,5] (fun v i wr=>∃ (k:Nat) (VB VE:Nat->Value) (lo hi:Nat->Nat),k<=h.pn/\i=.int .i64 k/\Hid (∀j,j<k->(sub j).err=0)/\Hid (PE (w.heap.size+2) (fun j=>(sub j).built) k v VB VE lo hi wr)/\Hid (Below (w.heap.size+2) W2 wr)) (fun _ i _=>h.pn-(intOf i).toNat)
  case atStart=>exact⟨0,fun _=>undef,fun _=>undef,fun _=>0,fun _=>0,zL,rfl,hide (fun j hj=>absurd hj nZ),hide (PE.nil _ _ _ _ _ _ _),hide (Below.refl _ _)⟩
  case round =>
   obtain⟨k,VB,VE,lo,hi,hk,rfl,F1,HP,HB⟩:=hrel;have HW:=hide (D5.trans (HB.out.mono (by omega)));have b1:=b0.below HB.out (by omega);have D0:=bR.below HB.out (by omega);have c3:=b1.cell 3;simp at c3;have R4:w.heap.size+2<=wr.heap.size:=by have:=HB.out.size;omega
   by_cases L0:k<h.pn
   ·obtain⟨s5,O3⟩:=hs k L0;have E5:=hh.pa (by omega);have N1:=s5.below HW.out (hh.pl (by omega));have q0:=N1.c0;have q1:=N1.c1;have q2:=N1.c2;have q3:=N1.c3;have V0:(k:Int)<(h.pn:Int):=by omega
    have HI:=hide (O3.grown HW.out);have F5:=X3 k L0;go_wp2_with fail;go_at_call 36;refine(IH.out k _ HI.out F5).mono ?_;rintro r w1 ⟨L4,s3⟩;have S4:=hide (HB.out.trans (s3.mono R4));have j4:=hide (HW.out.trans (s3.mono HW.out.size));have T4:=D0.below s3 D0.lt;have E6:=s3.size;rcases L4 with ⟨herr,vb,ve,rfl,h1⟩ | ⟨herr,rfl⟩
    ·obtain⟨gB,cB,gE,cE,rfl,rfl⟩:=yE h1;have T3:=hide (HP.out.below s3);have U4:∀g,Value.ownBlock u4=some g->g<wr.heap.size:=fun g hg=>(HP.out.row.lt g hg).2;have HE:=hide herr;have m4:=hide h1;clear s3 HI q0 q1 q2 q3 s5 N1 O3 D0 b1 HW h1 herr c3;generalize hsz2:(sub k).built.size=sz at *;generalize hel2:(sub k).built.el=el at *;have G5:=hide hsz2;have F6:=hide hel2;clear hsz2 hel2;go_wp2_with (at_builtin;refine wpList_append_lies _ rfl _ _ _ rfl (w.heap.size+2) 24 i0 _ 3 56 Tryz.underlying111 p6 q6 r6 t6 rfl (by decide) _ k _ rfl ((T3.out.row.alloc _).alloc _) ⟨w1.heap.size+1,0,none⟩ 1 1 [.int .i64 (sz:Int),.slice gB sz cB,.slice gE el cE] rfl rfl ?c1 ?c2 (by decide) ?c3 ?c4 ?c5 _ rfl ?_)
     all_goals try (case c1=>exact World.news_of_block (Blk.new' (by simp)))
     all_goals try (case c2=>simp[Value.oneCell'])
     all_goals try (case c3=>unfold maxLen;omega)
     all_goals try (case c4=>omega)
     all_goals try (case c5=>simp;omega)
     intro g c w2 S3 f0 j0 u0;have w0:=hide (((S4.out.alloc (by omega) _).alloc (by simp;omega) _).trans (nA f0 (fun g hg=>(T3.out.row.lt g hg).1) (by simp;omega)));have V4:=hide (PE.push (l:=wr.heap.size) (t:=w1.heap.size) ((T3.out.below ((Below.refl _ _).alloc lR (.cells #[.int .i64 (sz:Int),.slice gB sz cB,.slice gE el cE] 24))).below ((Below.refl _ _).alloc lR (.cells #[.int .i64 (sz:Int),.slice gB sz cB,.slice gE el cE] 24))) R4 (by simp;omega) ((m4.out.below ((Below.refl _ _).alloc lR _)).below ((Below.refl _ _).alloc lR _)) U4 (by rw[G5.out];exact S3) f0 (by simpa using j0));clear S3 f0 j0 u0 T3 S4 j4 T4 U4;go_wp2;go_roundw
     case rel =>
      have hn:∀j,j<k+1->(sub j).err=0:=fun j hj=>by
       by_cases e:j=k
       ·subst e;exact HE.out
       ·exact F1.out j (by omega)
      first
      | exact⟨k+1,_,_,_,_,by omega,by go_num,hide hn,V4,w0⟩
      | (rw[<-E5];(repeat apply Exists.intro);exact⟨⟨k+1,_,_,_,_,by omega,by go_num,hide hn,V4,w0⟩,rfl⟩)
     case measure=>simp[intOf];omega
    ·have L1:((sub k).err != 0)=true:=by simp[herr]
     have Hp:=hide (NN L0 F1.out herr);have H5:=hide herr;clear herr;have w3:=T4.alloc (.cells #[.int .i64 0,.slice none 0 0,.slice none 0 0] 24);have d0:=w3.cell 0;have d1:=w3.cell 1;have d2:=w3.cell 2;have df:=w3.frozen;simp at d0 d1 d2;go_wp2;have P2:=w3.set3 (.int .i64 0) (.slice none 0 0) (.slice none 0 0);have e0:=P2.cell 0;have e1:=P2.cell 1;have e2:=P2.cell 2;unfold st3 at e0 e1 e2;simp at e0 e1 e2;refine bodyPost_ret (v:=.tuple #[.agg #[.int .i64 0,.slice none 0 0,.slice none 0 0],.int .i64 (sub k).err]) (by simp[results,Tryz.results36,go_sem,e0,e1,e2]) rfl ⟨Or.inr ⟨by rw[Hp.out];exact H5.out,by rw[Hp.out]⟩,?_⟩;exact iB (j4.out.alloc j4.out.size _) (by omega) _ _ _
   ·have I5:k=h.pn:=by omega
    subst I5;have V0:(h.pn:Int)<=(h.pn:Int):=Int.le_refl _;have Hr:=hide (fun i hi=>wJ (F1.out i hi));have Hp:=hide (PN (h:=h) (sub:=sub) F1.out);have z0:=b1.cell 0;have z1:=b1.cell 1;have z2:=b1.cell 2;simp at z0 z1 z2;have o3:=hide ((hh.below HW.out lR).mono HW.out.size);have d0:=D0.cell 0;have d1:=D0.cell 1;have d2:=D0.cell 2;have df:=D0.frozen;simp at d0 d1 d2;have P2:=D0.set3 (.int .i64 0) (.slice none 0 0) (.slice none 0 0);have e0:=P2.cell 0;have e1:=P2.cell 1;have e2:=P2.cell 2;unfold st3 at e0 e1 e2;simp at e0 e1 e2;have hel:=hh.elen;unfold maxLen at hel;have k2:=hide (iB HW.out (show w.heap.size<=w.heap.size+1 by omega) (.int .i64 0) (.slice none 0 0) (.slice none 0 0));by_cases kk:h.kind=1\/h.kind=2\/h.kind=3\/h.kind=4
    ·have W4:=hide (fun n=>iB (below_drewN HW.out n) (show w.heap.size<=w.heap.size+1 by omega) (.int .i64 0) (.slice none 0 0) (.slice none 0 0));have n4:=hide (fun n=>(D0.drewN n).set3 (.int .i64 0) (.slice none 0 0) (.slice none 0 0));have E0:=fun n=>(n4.out n).cell 0;have E1:=fun n=>(n4.out n).cell 1;have E2:=fun n=>(n4.out n).cell 2;unfold st3 at E0 E1 E2;simp at E0 E1 E2;obtain⟨ga,cap,u6⟩:∃ga cap,u4=.slice ga h.pn cap:=by
      rcases Go.Joins.ownsRow_forms HP.out.row with ⟨e,e'⟩ | ⟨gb,cap,e⟩
      ·exact⟨none,0,by rw[e,e']⟩
      ·exact⟨_,_,e⟩
     subst u6;by_cases k3:h.kind=3
     ·have f1:(h.kind == 1)=false:=by simp[k3]
      have f2:(h.kind == 2)=false:=by simp[k3]
      have f3:(h.kind == 3)=true:=by simp[k3]
      have he:fA.err (.mk h sub)=fB h (fun j=>(sub j).size) (fun j=>(sub j).edges):=by rw[Hp.out];unfold OC;rw[if_neg (by omega),if_pos k3]
      have Q0:fA.built (.mk h sub)=yC (sub 0).built (sub 1).built:=by simp only[fA.built,if_pos k3]
      by_cases g1:h.pn=2
      ·have f5:((h.pn:Int) != 2)=false:=by simp[g1]
       by_cases g2:h.n=0
       ·have f6:((h.n:Int) != 0)=false:=by simp[g2]
        by_cases g3:h.en=0
        ·have f7:(h.en:Int)<=0:=by omega
         have J5:h.en<=0:=by omega
         obtain⟨o0,O2,B2⟩:=ME (F1.out 0 (by omega)) (X3 0 (by omega));obtain⟨o1,M4,d4⟩:=ME (F1.out 1 (by omega)) (X3 1 (by omega));have T0:=HP.out.tabs 0 (by omega);have T1:=HP.out.tabs 1 (by omega);obtain⟨m0,l3,m3,l0,t5⟩:=UH T0 o0;obtain⟨m1,u5,x5,l1,y5⟩:=UH T1 o1;have o4:m0.B.t.len=(sub 0).built.size:=by rw[l0.B];rfl
         have p4:m0.E.t.len=(sub 0).built.el:=by rw[l0.E];rfl
         have q4:m1.B.t.len=(sub 1).built.size:=by rw[l1.B];rfl
         have s4:m1.E.t.len=(sub 1).built.el:=by rw[l1.E];rfl
         obtain⟨g,k0,hf,x6,n3⟩:=HP.out.row.form (by omega);injection hf with hf1 hf2 hf3;subst hf1;have row:=HP.out.row;have cA:=iK (fun j=>(sub j).built.size) VB VE (k:=h.pn) (i:=0) (by omega);have cB:=iK (fun j=>(sub j).built.size) VB VE (k:=h.pn) (i:=1) (by omega);have r0:=(row.cellAt 0 (by omega)).trans cA.1;have r1:=(row.cellAt 1 (by omega)).trans cA.2.1;have r2:=(row.cellAt 2 (by omega)).trans cA.2.2;have r3:=(row.cellAt 3 (by omega)).trans cB.1;have r4:=(row.cellAt 4 (by omega)).trans cB.2.1;have r5:=(row.cellAt 5 (by omega)).trans cB.2.2;rw[l3,Mat.val,o4]at r1;rw[m3,Mat.val,p4]at r2;rw[u5,Mat.val,q4]at r4;rw[x5,Mat.val,s4]at r5;have v4:(0:Int)<(h.pn:Int):=by omega
         have x3:0<h.pn:=by omega
         have K5:(1:Int)<(h.pn:Int):=by omega
         have L5:=o0.lo;have M5:=o1.lo;have G6:=o0.hi;have H6:=o1.hi;have N5:((sub 0).built.size-1:Int)*((sub 1).built.size-1:Int)=((((sub 0).built.size-1)*((sub 1).built.size-1):Nat):Int):=by
          rw[Int.natCast_mul,Int.ofNat_sub (by omega),Int.ofNat_sub (by omega)];rfl
         have hP:((sub 0).built.size-1)*((sub 1).built.size-1)<=23*23:=Nat.mul_le_mul (by omega) (by omega);have e4:(sub 0).built.el≠(sub 1).built.el->fA.err (.mk h sub)=4:=fun hn=>by
          rw[he];unfold fB;rw[if_neg (by omega),if_neg (by omega),if_neg (by omega),if_pos (by rw[B2,d4]at hn;exact hn)]
         have e5:(sub 0).built.el=(sub 1).built.el->24<((sub 0).built.size-1)*((sub 1).built.size-1)+1->fA.err (.mk h sub)=2:=fun hn hs'=>by
          rw[he];unfold fB;rw[if_neg (by omega),if_neg (by omega),if_neg (by omega),if_neg (by rw[B2,d4]at hn;simp[hn]),if_pos (by rw[O2,M4]at hs';exact hs')]
         have e6:(sub 0).built.el=(sub 1).built.el->¬ 24<((sub 0).built.size-1)*((sub 1).built.size-1)+1->fA.err (.mk h sub)=0:=fun hn hs'=>by
          rw[he];unfold fB;rw[if_neg (by omega),if_neg (by omega),if_neg (by omega),if_neg (by rw[B2,d4]at hn;simp[hn]),if_neg (by rw[O2,M4]at hs';exact hs')]
         have z3:=hide (fun (hn:(sub 0).built.el=(sub 1).built.el) (hs':((sub 0).built.size-1)*((sub 1).built.size-1)+1<=24) (W:World) (hb:Below wr.heap.size wr W)=>dN m0 m1 _ _ W l0 l1 ((t5.below hb lR).mono hb.size) ((y5.below hb lR).mono hb.size) o0 o1 hn hs');have X4:=l0.size;have Y4:=l1.size;simp only[xA.val,Mat.val,o4,p4,q4,s4,X4,Y4]at z3;clear T0 T1 l3 m3 u5 x5 l0 l1 t5 y5 o4 p4 q4 s4 row cA cB o0 o1 O2 M4 B2 d4 L5 M5 he kk k3 g1 g2 g3 X4 Y4;have O1:=hide Q0;clear Q0;generalize (sub 0).built.el=el0 at *;generalize (sub 1).built.el=el1 at *;generalize hX0:(sub 0).built=X0 at *;generalize hX1:(sub 1).built=X1 at *;clear hX0 hX1;by_cases g4:el0=el1
         ·have f8:((el0:Int) != (el1:Int))=false:=by simp[g4]
          by_cases g5:24<(X0.size-1)*(X1.size-1)+1
          ·have Hx:=hide (e5 g4 g5);generalize (X0.size-1)*(X1.size-1)=pp at *;have f9:(24:Int)<(pp:Int)+1:=by omega
           clear e4 e5 e6 g4 g5 z3;go_wp2_with fail
           go_quiet (fail)
           go_wp2_with fail
           go_quiet (fail)
           go_wp2;exact bodyPost_ret (v:=.tuple #[.agg #[.int .i64 0,.slice none 0 0,.slice none 0 0],.int .i64 2]) (by simp[results,Tryz.results36,go_sem,E0,E1,E2]) rfl ⟨Or.inr ⟨by rw[Hx.out];decide,by rw[Hx.out]⟩,W4.out _⟩
          ·have Hx:=hide (e6 g4 g5);have w4:=hide (z3.out g4 (by omega));generalize hpp:(X0.size-1)*(X1.size-1)=pp at *;have f9:(pp:Int)+1<=24:=by omega
           clear e4 e5 e6 g4 z3;go_wp2_with fail
           go_quiet (fail)
           go_wp2_with fail
           go_quiet (fail)
           go_wp2_with fail;have HK:Hid (∀w':World,Below wr.heap.size wr w'->w'.cell? ⟨g,0,none⟩=some (.int .i64 (X0.size:Int))/\w'.cell? ⟨g,1,none⟩=some (.slice m0.B.ga X0.size m0.B.cap)/\w'.cell? ⟨g,2,none⟩=some (.slice m0.E.ga el0 m0.E.cap)/\w'.cell? ⟨g,3,none⟩=some (.int .i64 (X1.size:Int))/\w'.cell? ⟨g,4,none⟩=some (.slice m1.B.ga X1.size m1.B.cap)/\w'.cell? ⟨g,5,none⟩=some (.slice m1.E.ga el1 m1.E.cap)):=hide (fun w' hb=>⟨(hb.cell (p:=⟨g,0,none⟩) n3).trans r0,(hb.cell (p:=⟨g,1,none⟩) n3).trans r1,(hb.cell (p:=⟨g,2,none⟩) n3).trans r2,(hb.cell (p:=⟨g,3,none⟩) n3).trans r3,(hb.cell (p:=⟨g,4,none⟩) n3).trans r4,(hb.cell (p:=⟨g,5,none⟩) n3).trans r5⟩);have A3:Hid (∀ (w':World) (v0 v1 v2:Value),Below wr.heap.size wr w'->(((w'.setCell ⟨w.heap.size+1,0,none⟩ v0).setCell ⟨w.heap.size+1,1,none⟩ v1).setCell ⟨w.heap.size+1,2,none⟩ v2).cell? ⟨g,0,none⟩=some (.int .i64 (X0.size:Int))/\(((w'.setCell ⟨w.heap.size+1,0,none⟩ v0).setCell ⟨w.heap.size+1,1,none⟩ v1).setCell ⟨w.heap.size+1,2,none⟩ v2).cell? ⟨g,1,none⟩=some (.slice m0.B.ga X0.size m0.B.cap)/\(((w'.setCell ⟨w.heap.size+1,0,none⟩ v0).setCell ⟨w.heap.size+1,1,none⟩ v1).setCell ⟨w.heap.size+1,2,none⟩ v2).cell? ⟨g,2,none⟩=some (.slice m0.E.ga el0 m0.E.cap)/\(((w'.setCell ⟨w.heap.size+1,0,none⟩ v0).setCell ⟨w.heap.size+1,1,none⟩ v1).setCell ⟨w.heap.size+1,2,none⟩ v2).cell? ⟨g,3,none⟩=some (.int .i64 (X1.size:Int))/\(((w'.setCell ⟨w.heap.size+1,0,none⟩ v0).setCell ⟨w.heap.size+1,1,none⟩ v1).setCell ⟨w.heap.size+1,2,none⟩ v2).cell? ⟨g,4,none⟩=some (.slice m1.B.ga X1.size m1.B.cap)/\(((w'.setCell ⟨w.heap.size+1,0,none⟩ v0).setCell ⟨w.heap.size+1,1,none⟩ v1).setCell ⟨w.heap.size+1,2,none⟩ v2).cell? ⟨g,5,none⟩=some (.slice m1.E.ga el1 m1.E.cap)):=hide (fun w' v0 v1 v2 hb=>by
            have L1:g≠w.heap.size+1:=by omega
            simp only[qA L1];exact HK.out w' hb)
           have hN:∀n,Below wr.heap.size wr (wr.drewN n):=fun n=>below_drewN (Below.refl _ _) n;have O5:∀n,Below wr.heap.size wr ((wr.drewN n).drew):=fun n=>(hN n).trans ⟨rfl,rfl,rfl,lR,fun _ _=>rfl⟩;have x4:∀a b,Below wr.heap.size wr (((wr.drewN a).drewN b).drew):=fun a b=>(below_drewN (hN a) b).trans ⟨rfl,rfl,rfl,lR,fun _ _=>rfl⟩
           go_region_held3 (fun w'=>w'.cell? ⟨g,0,none⟩=some (.int .i64 (X0.size:Int))/\w'.cell? ⟨g,1,none⟩=some (.slice m0.B.ga X0.size m0.B.cap)/\w'.cell? ⟨g,2,none⟩=some (.slice m0.E.ga el0 m0.E.cap)/\w'.cell? ⟨g,3,none⟩=some (.int .i64 (X1.size:Int))/\w'.cell? ⟨g,4,none⟩=some (.slice m1.B.ga X1.size m1.B.cap)/\w'.cell? ⟨g,5,none⟩=some (.slice m1.E.ga el1 m1.E.cap)) (first | exact HK.out _ (hN _) | exact HK.out _ (O5 _) | exact HK.out _ (x4 _ _) | exact HK.out _ Q2 | exact A3.out _ _ _ _ Q2)
            (first
             | (go_at_call 70;refine(w4.out _ (hN _)).mono ?_;rintro r w5 ⟨⟨vb,ve,rfl,h1⟩,h4⟩;obtain⟨gB,cB,gE,cE,rfl,rfl⟩:=yE h1;have Q2:=(hN _).trans (h4.mono lR);have k1:=D0.below Q2 D0.lt;have y0:=k1.cell 0;have y1:=k1.cell 1;have y2:=k1.cell 2;have yf:=k1.frozen;simp at y0 y1 y2)
             | (go_at_call 70;refine(w4.out _ (x4 _ _)).mono ?_;rintro r w5 ⟨⟨vb,ve,rfl,h1⟩,h4⟩;obtain⟨gB,cB,gE,cE,rfl,rfl⟩:=yE h1;have Q2:=(x4 _ _).trans (h4.mono lR);have k1:=D0.below Q2 D0.lt;have y0:=k1.cell 0;have y1:=k1.cell 1;have y2:=k1.cell 2;have yf:=k1.frozen;simp at y0 y1 y2))
           all_goals
            have P5:w.heap.size+1<wr.heap.size:=by omega
            have M2:=k1.set3 (.int .i64 ((yC X0 X1).size:Int)) (.slice gB (yC X0 X1).size cB) (.slice gE (yC X0 X1).el cE);have s0:=M2.cell 0;have s1:=M2.cell 1;have s2:=M2.cell 2;unfold st3 at s0 s1 s2;simp at s0 s1 s2;have HA:Hid (kK (.mk h sub) w.heap.size (.returned (.tuple #[.agg #[.int .i64 ((yC X0 X1).size:Int),.slice gB (yC X0 X1).size cB,.slice gE (yC X0 X1).el cE],.int .i64 0])) (st3 w5 (w.heap.size+1) (.int .i64 ((yC X0 X1).size:Int)) (.slice gB (yC X0 X1).size cB) (.slice gE (yC X0 X1).el cE))):=hide (Or.inl ⟨Hx.out,_,_,by rw[O1.out],by rw[O1.out];exact(lF h1 (by simpa using P5) _ _ _).lower (by simp;omega)⟩);have P1:=hide (iB (HW.out.trans (Q2.mono (by omega))) (show w.heap.size<=w.heap.size+1 by omega) (.int .i64 ((yC X0 X1).size:Int)) (.slice gB (yC X0 X1).size cB) (.slice gE (yC X0 X1).el cE));clear h1 h4 Q2 k1 M2 y0 y1 y2 yf HK A3 w4 r0 r1 r2 r3 r4 r5 e0 e1 e2 E0 E1 E2;go_wp2;exact bodyPost_ret (v:=.tuple #[.agg #[.int .i64 ((yC X0 X1).size:Int),.slice gB (yC X0 X1).size cB,.slice gE (yC X0 X1).el cE],.int .i64 0]) (by simp[results,Tryz.results36,go_sem,s0,s1,s2]) rfl ⟨HA.out,P1.out⟩
         ·have f8:((el0:Int) != (el1:Int))=true:=by simp;omega
          have Hx:=hide (e4 g4);clear e4 e5 e6 g4 z3 N5 hP;go_wp2_with fail
          go_quiet (fail)
          go_wp2;exact bodyPost_ret (v:=.tuple #[.agg #[.int .i64 0,.slice none 0 0,.slice none 0 0],.int .i64 4]) (by simp[results,Tryz.results36,go_sem,E0,E1,E2]) rfl ⟨Or.inr ⟨by rw[Hx.out];decide,by rw[Hx.out]⟩,W4.out _⟩
        ·have f7:(0:Int)<(h.en:Int):=by omega
         have J5:0<h.en:=by omega
         have Hx:Hid (fA.err (.mk h sub)=1):=hide (by rw[he];unfold fB;rw[if_neg (by omega),if_neg (by omega),if_pos g3]);clear kk k3 g1 g2 g3 he Q0;go_wp2;exact bodyPost_ret (v:=.tuple #[.agg #[.int .i64 0,.slice none 0 0,.slice none 0 0],.int .i64 1]) (by simp[results,Tryz.results36,go_sem,e0,e1,e2]) rfl ⟨Or.inr ⟨by rw[Hx.out];decide,by rw[Hx.out]⟩,k2.out⟩
       ·have f6:((h.n:Int) != 0)=true:=by simp[g2]
        have Hx:Hid (fA.err (.mk h sub)=3):=hide (by rw[he];unfold fB;rw[if_neg (by omega),if_pos g2]);clear kk k3 g1 g2 he Q0;go_wp2;exact bodyPost_ret (v:=.tuple #[.agg #[.int .i64 0,.slice none 0 0,.slice none 0 0],.int .i64 3]) (by simp[results,Tryz.results36,go_sem,e0,e1,e2]) rfl ⟨Or.inr ⟨by rw[Hx.out];decide,by rw[Hx.out]⟩,k2.out⟩
      ·have f5:((h.pn:Int) != 2)=true:=by simp;omega
       have Hx:Hid (fA.err (.mk h sub)=1):=hide (by rw[he];unfold fB;rw[if_pos g1]);clear kk k3 g1 he Q0;go_wp2;exact bodyPost_ret (v:=.tuple #[.agg #[.int .i64 0,.slice none 0 0,.slice none 0 0],.int .i64 1]) (by simp[results,Tryz.results36,go_sem,e0,e1,e2]) rfl ⟨Or.inr ⟨by rw[Hx.out];decide,by rw[Hx.out]⟩,k2.out⟩
     by_cases k4:h.kind=4
     ·have f1:(h.kind == 1)=false:=by simp[k4]
      have f2:(h.kind == 2)=false:=by simp[k4]
      have f3:(h.kind == 3)=false:=by simp[k4]
      have f4:(h.kind == 4)=true:=by simp[k4]
      have he:fA.err (.mk h sub)=LB h (fun j=>(sub j).size) (fun j=>(sub j).edges):=by rw[Hp.out];unfold OC;rw[if_neg (by omega),if_neg (by omega),if_pos k4]
      have Q0:fA.built (.mk h sub)=KE (sub 0).built h.evN:=by simp only[fA.built,if_neg k3,if_pos k4]
      by_cases g1:h.pn=1
      ·have f5:((h.pn:Int) != 1)=false:=by simp[g1]
       by_cases g2:h.n=0
       ·have f6:((h.n:Int) != 0)=false:=by simp[g2]
        obtain⟨o0,O2,B2⟩:=ME (F1.out 0 (by omega)) (X3 0 (by omega));have T0:=HP.out.tabs 0 (by omega);have C2:=HP.out.top 0 (by omega);obtain⟨gB,cB,gE,cE,l3,m3⟩:=yE T0;obtain⟨g,k0,hf,x6,n3⟩:=HP.out.row.form (by omega);injection hf with hf1 hf2 hf3;subst hf1;have row:=HP.out.row;have cA:=iK (fun j=>(sub j).built.size) VB VE (k:=h.pn) (i:=0) (by omega);have r0:=(row.cellAt 0 (by omega)).trans cA.1;have r1:=(row.cellAt 1 (by omega)).trans cA.2.1;have r2:=(row.cellAt 2 (by omega)).trans cA.2.2;rw[l3]at r1;rw[m3]at r2;have v4:(0:Int)<(h.pn:Int):=by omega
        have x3:0<h.pn:=by omega
        by_cases g3:h.en=(sub 0).built.el
        ·have f7:((h.en:Int) != ((sub 0).built.el:Int))=false:=by simp[g3]
         obtain⟨mid,y6,z6,TB,TE⟩:=T0;have ef:within h.ev h.en 0 (2 ^ (sub 0).built.size-1)=false->fA.err (.mk h sub)=3:=fun hw=>by
          rw[he];unfold LB;rw[if_neg (by omega),if_neg (by omega),if_neg (by rw[B2]at g3;simp[g3]),if_pos (by rw[O2]at hw;exact hw)]
         have et:within h.ev h.en 0 (2 ^ (sub 0).built.size-1)=true->fA.err (.mk h sub)=0:=fun hw=>by
          rw[he];unfold LB;rw[if_neg (by omega),if_neg (by omega),if_neg (by rw[B2]at g3;simp[g3]),if_neg (by rw[O2]at hw;rw[hw];simp)]
         have I6:=o0.lo;have Q5:=o0.hi;have R5:=o0.el;have O1:=hide Q0;have Z4:=hide o0;have S5:=hide ef;have T5:=hide et;rw[l3]at TB;rw[m3]at TE;have y4:=hide TB;have z4:=hide TE;have a5:=hide g3;clear Q0 o0 ef et TB TE g3 kk k3 k4 g1 g2 he l3 m3 row cA O2 B2 L0 E0 E1 E2 e0 e1 e2;generalize (sub 0).built=X0 at *;generalize hS:X0.size=S at *;have HS:=hide hS;clear hS;obtain⟨w6,rfl⟩:∃w6,w6=wr:=⟨wr,rfl⟩;have b9:=Blk.new w6 #[.int .i64 (S:Int),.slice gB S cB,.slice gE X0.el cE] 24;have Q1:Below w6.heap.size w6 (w6.alloc (.cells #[.int .i64 (S:Int),.slice gB S cB,.slice gE X0.el cE] 24)):=(Below.refl _ w6).alloc lR _;have U5:∀o,(w6.alloc o).cell? ⟨w.heap.size,2,none⟩=some (.slice h.eg h.en h.ec):=fun o=>(b1.alloc o).cell 2;have B3:(S:Int)<=24:=by omega
         go_wp2_with fail;generalize w6.alloc (.cells #[.int .i64 (S:Int),.slice gB S cB,.slice gE X0.el cE] 24)=V at *;have q0:=b9.cell 0;have q1:=b9.cell 1;have q2:=b9.cell 2;simp at q0 q1 q2
         go_loop [10,11] (fun al i=>∃k:Nat,k<=S/\i=.int .i64 k/\al=.int .i64 ((2 ^ k:Nat):Int)) (fun _ i=>S-(intOf i).toNat)
         case atStart=>exact⟨0,zL,rfl,rfl⟩
         case round =>
          obtain⟨k,hk,rfl,rfl⟩:=hrel;have V5:2 ^ k<=2 ^ 24:=Nat.pow_le_pow_right (by omega) (by omega);by_cases L0:k<S
          ·have V0:(k:Int)<(S:Int):=by omega
           have R2:=hide (show 2 ^ (k+1)=2*2 ^ k by rw[Nat.pow_succ];omega);generalize hTT:2 ^ k=T at *;have W5:(T:Int)<=16777216:=by omega
           clear hTT;go_wp2
           go_round
           case rel =>
            first
            | exact⟨k+1,by omega,by go_num,by rw[R2.out];go_num⟩
            | ((repeat apply Exists.intro);exact⟨⟨k+1,by omega,by go_num,by rw[R2.out];go_num⟩,rfl⟩)
           case measure=>simp[intOf];omega
          ·have p1:S=k:=by omega
           subst p1;have V0:(S:Int)<=(S:Int):=Int.le_refl _;have b5:=hide (show ((2 ^ S:Nat):Int)=(2:Int) ^ S by simp);have X5:1<=2 ^ S:=Nat.one_le_two_pow;generalize hT:2 ^ S=T at *;have J6:1<=T:=X5;have W5:(T:Int)<=16777216:=by omega
           have Y5:(1:Int)<=(T:Int):=by omega
           have K6:=hide hT;clear hT;go_wp2_with fail
           go_loopw [12] (fun i wx=>∃k:Nat,k<=h.en/\i=.int .i64 k/\Hid (∀j,j<k->0<=h.ev j/\h.ev j<=(T:Int)-1)/\Hid (wx=V)) (fun i _=>h.en-(intOf i).toNat)
           case atStart=>exact⟨0,zL,rfl,hide (fun j hj=>absurd hj nZ),hide rfl⟩
           case round =>
            obtain⟨k,hk,rfl,Z1,hq⟩:=hrel;have hq:=hq.out.symm;subst hq;have l2:=b1.below Q1 b1.lt;have x2:=l2.cell 2;simp at x2;by_cases L0:k<h.en
            ·have V0:(k:Int)<(h.en:Int):=by omega
             have M0:=hh.ea (by omega);have C3:=(Q1.cell (p:=⟨h.eb,h.eo+k,none⟩) (Nat.lt_of_lt_of_le (hh.el (by omega)) HW.out.size)).trans (o3.out.ecell k L0);have J1:=hide (fun (W:World)=>jA (h.ev k) 0 ((T:Int)-1) W);by_cases J0:0<=h.ev k/\h.ev k<=(T:Int)-1
             ·rw[show (decide ((0:Int)<=h.ev k) && decide (h.ev k<=(T:Int)-1))=true by simp[J0]]at J1;have D3:=hide J0;clear J0;go_wp2_with (go_at_call 52;refine(J1.out _).mono ?_;rintro r w' ⟨rfl,hq⟩;have hq:=hq.symm;subst hq);go_roundw
              case rel =>
               have hn:∀j,j<k+1->0<=h.ev j/\h.ev j<=(T:Int)-1:=fun j hj=>by
                by_cases e:j=k
                ·subst e;exact D3.out
                ·exact Z1.out j (by omega)
               first
               | exact⟨k+1,by omega,by go_num,hide hn,hide rfl⟩
               | ((try rw[<-M0]);(repeat apply Exists.intro);exact⟨⟨k+1,by omega,by go_num,hide hn,by first | exact hide rfl | exact trivial⟩,rfl⟩)
              case measure=>simp[intOf];omega
             ·rw[show (decide ((0:Int)<=h.ev k) && decide (h.ev k<=(T:Int)-1))=false by simp;omega]at J1;have Hx:Hid (fA.err (.mk h sub)=3):=hide (S5.out (wD L0 (by rw[<-b5.out];omega)));clear J0;have E3:=D0.below Q1 D0.lt;have y0:=E3.cell 0;have y1:=E3.cell 1;have y2:=E3.cell 2;have yf:=E3.frozen;have A4:=E3.set3 (.int .i64 0) (.slice none 0 0) (.slice none 0 0);have s0:=A4.cell 0;have s1:=A4.cell 1;have s2:=A4.cell 2;unfold st3 at s0 s1 s2;simp at y0 y1 y2 s0 s1 s2;have P1:=hide (iB (HW.out.trans (Q1.mono HW.out.size)) (show w.heap.size<=w.heap.size+1 by omega) (.int .i64 0) (.slice none 0 0) (.slice none 0 0));go_wp2_with (go_at_call 52;refine(J1.out _).mono ?_;rintro r w' ⟨rfl,hq⟩;have hq:=hq.symm;subst hq);exact bodyPost_ret (v:=.tuple #[.agg #[.int .i64 0,.slice none 0 0,.slice none 0 0],.int .i64 3]) (by simp[results,Tryz.results36,go_sem,s0,s1,s2]) rfl ⟨Or.inr ⟨by rw[Hx.out];decide,by rw[Hx.out]⟩,P1.out⟩
            ·have p1:k=h.en:=by omega
             have V0:(h.en:Int)<=(k:Int):=by omega
             have M1:∀j,j<h.en->0<=h.ev j/\h.ev j<=(T:Int)-1:=fun j hj=>Z1.out j (by omega);have Hx:Hid (fA.err (.mk h sub)=0):=hide (T5.out (within_iff.2 (by rw[<-b5.out];exact M1)));have F3:=hide M1;clear p1 M1 Z1;obtain⟨FE,z5⟩:∃FE:Nat->Nat->Int,FE=fun a b=>(((KE X0 h.evN).edge a b:Nat):Int):=⟨_,rfl⟩;obtain⟨XE,A5⟩:∃XE:Nat->Nat->Int,XE=fun a b=>((X0.edge a b:Nat):Int):=⟨_,rfl⟩;obtain⟨Zf,B5⟩:∃Zf:Nat->Nat->Nat->Nat->Int,Zf=fun i k r c=>if r<i\/(r=i/\c<k) then FE r c else XE r c:=⟨_,rfl⟩;have d5:=hide z5;have i5:=hide A5;have G3:=hide B5;clear z5 A5 B5;have B4:=hide (show BA mid (hi 0) (.slice gE X0.el cE) X0.el S (Zf 0 0) V from (z4.out.below Q1).congr (fun r _ j _=>by simp only[G3.out];simp only[i5.out];simp));have C4:=hide (y4.out.below Q1);have L6:w.heap.size+2<=mid:=by have:=C2.1;omega
             have Z5:hi 0<=w6.heap.size:=C2.2;have M6:=hide (show mid<=hi 0 from z6);go_wp2_with fail
             go_loopw [13] (fun i wx=>∃k:Nat,k<=h.en/\i=.int .i64 k/\Hid (BA mid (hi 0) (.slice gE X0.el cE) X0.el S (Zf k 0) wx)/\Hid (BA (lo 0) mid (.slice gB S cB) S S (fun r c=>(X0.best r c:Int)) wx)/\Hid (Blk wx w6.heap.size #[.int .i64 (S:Int),.slice gB S cB,.slice gE X0.el cE] 24)/\Hid (Below mid V wx)) (fun i _=>h.en-(intOf i).toNat)
             case atStart=>exact⟨0,zL,rfl,B4,C4,hide b9,hide (Below.refl _ _)⟩
             case round =>
              obtain⟨i,S6,rfl,j1,U0,H9,G0⟩:=hrel;obtain⟨wx,rfl⟩:∃wx,wx=wr:=⟨wr,rfl⟩;clear x2 l2 q0 q1 q2;have D4:Hid (∀W':World,Below mid V W'->Blk W' w.heap.size #[.int .i64 h.kind,.int .i64 h.n,.slice h.eg h.en h.ec,.slice h.pg h.pn h.pc] 37/\(∀i,i<h.en->W'.cell? ⟨h.eb,h.eo+i,none⟩=some (.int .i64 (h.ev i)))/\Blk W' (w.heap.size+1) #[.int .i64 0,.slice none 0 0,.slice none 0 0] 24):=hide (fun W' hb=>by
               refine⟨(b1.below Q1 b1.lt).below hb (by omega),fun i hi=>?_,(D0.below Q1 D0.lt).below hb (by omega)⟩;have hl:=hh.el (by omega);rw[hb.cell (p:=⟨h.eb,h.eo+i,none⟩) (show h.eb<mid by omega),Q1.cell (p:=⟨h.eb,h.eo+i,none⟩) (show h.eb<w6.heap.size by have:=HW.out.size;omega)];exact o3.out.ecell i hi)
              obtain⟨bp,G1,R0⟩:=D4.out wx G0.out;have x2:=bp.cell 2;simp at x2;by_cases L0:i<h.en
              ·have U3:(i:Int)<(h.en:Int):=by omega
               have M0:=hh.ea (by omega);have C3:=G1 i L0;obtain⟨N4,i4⟩:=F3.out i L0;obtain⟨v,hv⟩:∃v:Nat,h.ev i=(v:Int):=⟨(h.ev i).toNat,by omega⟩;have j5:h.evN i=v:=by unfold yA.evN;omega
               have a6:=hide j5;rw[hv]at C3 N4 i4;have T2:i<X0.el:=by rw[<-a5.out];exact L0
               clear hv j5 G1 R0 bp;go_wp2_with fail
               go_loopw [14,15] (fun m j wy=>∃k:Nat,k<=S/\j=.int .i64 k/\m=.int .i64 ((v / 2 ^ k:Nat):Int)/\Hid (BA mid (hi 0) (.slice gE X0.el cE) X0.el S (Zf i k) wy)/\Hid (BA (lo 0) mid (.slice gB S cB) S S (fun r c=>(X0.best r c:Int)) wy)/\Hid (Blk wy w6.heap.size #[.int .i64 (S:Int),.slice gB S cB,.slice gE X0.el cE] 24)/\Hid (Below mid V wy)) (fun _ j _=>S-(intOf j).toNat)
               case atStart=>exact⟨0,zL,rfl,by simp,j1,U0,H9,G0⟩
               case round =>
                clear j1 U0 H9 G0 x2 C3;obtain⟨k,hk,rfl,rfl,j1,U0,H9,G0⟩:=hrel;have q0:=H9.out.cell 0;have q2:=H9.out.cell 2;simp at q0 q2;by_cases j2:k<S
                ·have V0:(k:Int)<(S:Int):=by omega
                 have b6:v / 2 ^ k<=16777216:=Nat.le_trans (Nat.div_le_self _ _) (by omega);have R2:=hide (show v / 2 ^ (k+1)=v / 2 ^ k / 2 by rw[Nat.pow_succ,Nat.div_div_eq_div_mul]);have V3:=Nat.testBit_eq_decide_div_mod_eq (x:=v) (i:=k);have p3:FE i k=if v.testBit k then (S:Int)-1 else XE i k:=by
                  rw[d5.out,i5.out];show (((if (h.evN i).testBit k then X0.size-1 else X0.edge i k):Nat):Int)=_;rw[a6.out,HS.out];split
                  ·omega
                  ·rfl
                 generalize hqq:v / 2 ^ k=q at *;clear hqq;have N6:(q:Int)<=16777216:=by omega
                 by_cases hb:q % 2=1
                 ·have fb:((q:Int) % 2 == 1)=true:=by simp;omega
                  rw[show v.testBit k=true by rw[V3];simp[hb],if_pos rfl]at p3;obtain⟨g,c,t1,t2,t3,t4⟩:=j1.out;obtain⟨ge,T6,hf,A6,B6⟩:=t1.form (by omega);injection hf with hf1 hf2 hf3;subst hf1;subst hf3;obtain⟨u1,u2,u3⟩:=t3 i T2;have E4:=(u1.lt (g i) rfl).1;have d6:=(u1.lt (g i) rfl).2;have ce:=(t1.cellAt i (by omega)).trans (qL T2);have cr:=(u1.cellAt k (by omega)).trans (NB j2);have cf:=u1.frozenAt k;have k5:w6.heap.size≠g i:=by omega
                  have g6:ge≠g i:=fun e=>u3 (by rw[e];rfl);have HK:Hid (∀n,(wr.drewN n).cell? ⟨w6.heap.size,2,none⟩=some (.slice (some ⟨ge,0,none⟩) X0.el cE)/\(wr.drewN n).cell? ⟨ge,i,none⟩=some (.slice (some ⟨g i,0,none⟩) S (c i))/\(wr.drewN n).cell? ⟨w6.heap.size,0,none⟩=some (.int .i64 (S:Int))):=hide (fun n=>⟨q2,ce,q0⟩);have A3:Hid (∀n,((wr.drewN n).setCell ⟨g i,k,none⟩ (.int .i64 ((S:Int)-1))).cell? ⟨w6.heap.size,2,none⟩=some (.slice (some ⟨ge,0,none⟩) X0.el cE)/\((wr.drewN n).setCell ⟨g i,k,none⟩ (.int .i64 ((S:Int)-1))).cell? ⟨ge,i,none⟩=some (.slice (some ⟨g i,0,none⟩) S (c i))/\((wr.drewN n).setCell ⟨g i,k,none⟩ (.int .i64 ((S:Int)-1))).cell? ⟨w6.heap.size,0,none⟩=some (.int .i64 (S:Int))):=hide (fun n=>by simp only[qA k5,qA g6];exact⟨q2,ce,q0⟩);have N2:=hide (fun n=>(BA.set (w:=wr.drewN n) (Z:=Zf i k) t1 t2 t3 t4 (j:=k) T2 ((S:Int)-1)).congr (Z':=Zf i (k+1)) (fun r _ j _=>by
                   simp only[G3.out];by_cases e:r=i/\j=k
                   ·rw[if_pos e,if_pos (by omega),e.1,e.2,p3]
                   ·rw[if_neg e];by_cases e2:r<i\/(r=i/\j<k)
                    ·rw[if_pos e2,if_pos (by omega)]
                    ·rw[if_neg e2,if_neg (by omega)]))
                  have F4:∀n,(wr.drewN n).grownBy ((wr.drewN n).setCell ⟨g i,k,none⟩ (.int .i64 ((S:Int)-1))) (some (g i)):=fun n=>⟨rfl,rfl,rfl,by simp,fun j _ L1=>by
                   show (wr.heap.modify (g i) _)[j]? = _;rw[Array.getElem?_modify,if_neg (fun e=>L1 (by rw[e]))];rfl⟩
                  have w0:=hide (fun n=>BA.kept (w:=wr.drewN n) U0.out (F4 n) (fun j hj=>Or.inr (by have e:g i=j:=(by simpa using hj);omega)));have n5:=hide (fun n=>(H9.out.drewN n).other (C:=g i) k5 k (.int .i64 ((S:Int)-1)));have p5:=hide (fun n=>(below_drewN G0.out n).setCell (p:=⟨g i,k,none⟩) (show mid<=g i from E4) (.int .i64 ((S:Int)-1)));have O6:IntKind.i64.wrap ((S:Int)-1)=(S:Int)-1:=by rw[IntKind.wrap_i64];omega
                  have i6:(i:Int)<(X0.el:Int):=by omega
                  have Hh:=hide F4;clear t1 t2 t3 t4 u1 u2 u3 F4 V3 p3;go_wp2_with fail
                  go_region_held3 (fun w'=>w'.cell? ⟨w6.heap.size,2,none⟩=some (.slice (some ⟨ge,0,none⟩) X0.el cE)/\w'.cell? ⟨ge,i,none⟩=some (.slice (some ⟨g i,0,none⟩) S (c i))/\w'.cell? ⟨w6.heap.size,0,none⟩=some (.int .i64 (S:Int))) (first | exact HK.out 1 | exact HK.out _ | exact A3.out 1 | exact A3.out _)
                   (fail)
                  go_wp2;go_roundw
                  case rel =>
                   first
                   | exact⟨k+1,by omega,by go_num,by rw[R2.out];simp,hide (N2.out 1),hide (w0.out 1),hide (n5.out 1),hide (p5.out 1)⟩
                   | ((try rw[<-M0]);(repeat apply Exists.intro);refine⟨?_,rfl⟩;exact⟨k+1,by omega,by go_num,by rw[R2.out];simp,hide (N2.out 1),hide (w0.out 1),hide (n5.out 1),hide (p5.out 1)⟩)
                  case measure=>simp[intOf];omega
                 ·have fb:((q:Int) % 2 == 1)=false:=by simp;omega
                  rw[show v.testBit k=false by rw[V3];simp[hb],if_neg (by simp)]at p3;have N2:=hide (j1.out.congr (Z':=Zf i (k+1)) (fun r _ j _=>by
                   simp only[G3.out];by_cases e2:r<i\/(r=i/\j<k)
                   ·rw[if_pos e2,if_pos (by omega)]
                   ·rw[if_neg e2];by_cases e:r=i/\j=k
                    ·rw[if_pos (by omega),e.1,e.2,p3]
                    ·rw[if_neg (by omega)]))
                  clear V3 p3 hb;go_wp2;go_roundw
                  case rel =>
                   first
                   | exact⟨k+1,by omega,by go_num,by rw[R2.out];simp,N2,U0,H9,G0⟩
                   | ((try rw[<-M0]);(repeat apply Exists.intro);exact⟨⟨k+1,by omega,by go_num,by rw[R2.out];simp,N2,U0,H9,G0⟩,rfl⟩)
                  case measure=>simp[intOf];omega
                ·have p1:S=k:=by omega
                 subst p1;have V0:(S:Int)<=(S:Int):=Int.le_refl _;have N2:=hide (j1.out.congr (Z':=Zf (i+1) 0) (fun r _ j hj=>by
                  simp only[G3.out];by_cases e2:r<i\/(r=i/\j<S)
                  ·rw[if_pos e2,if_pos (by omega)]
                  ·rw[if_neg e2,if_neg (by omega)]))
                 go_wp2;go_roundw
                 case rel =>
                  first
                  | exact⟨i+1,by omega,by go_num,N2,U0,H9,G0⟩
                  | ((try rw[<-M0]);(repeat apply Exists.intro);exact⟨⟨i+1,by omega,by go_num,N2,U0,H9,G0⟩,rfl⟩)
                 case measure=>simp[intOf];omega
              ·have D2:i=h.en:=by omega
               have F2:(h.en:Int)<=(i:Int):=by omega
               have n0:=H9.out.cell 0;have n1:=H9.out.cell 1;have n2:=H9.out.cell 2;simp at n0 n1 n2;have y0:=R0.cell 0;have y1:=R0.cell 1;have y3:=R0.cell 2;have yf:=R0.frozen;have K1:=R0.set3 (.int .i64 (S:Int)) (.slice gB S cB) (.slice gE X0.el cE);have s0:=K1.cell 0;have s1:=K1.cell 1;have s2:=K1.cell 2;unfold st3 at s0 s1 s2;simp at y0 y1 y3 s0 s1 s2;have HA:Hid (kK (.mk h sub) w.heap.size (.returned (.tuple #[.agg #[.int .i64 (S:Int),.slice gB S cB,.slice gE X0.el cE],.int .i64 0])) (st3 wx (w.heap.size+1) (.int .i64 (S:Int)) (.slice gB S cB) (.slice gE X0.el cE))):=hide (Or.inl ⟨Hx.out,_,_,by rw[O1.out,show (KE X0 h.evN).size=S from HS.out],by
                rw[O1.out];have P6:=Q1.size;have Q6:=G0.out.size;have R6:=C2.1;refine(lF (lo:=lo 0) ⟨mid,y6,by omega,?_,?_⟩ (by omega) _ _ _).lower (by omega)
                ·have:=U0.out;rw[show (KE X0 h.evN).size=S from HS.out];exact this
                ·have:=(j1.out.mono lR (show hi 0<=wx.heap.size by omega)).congr (Z':=FE) (fun r hr c _=>by
                  simp only[G3.out];rw[if_pos (Or.inl (by have:=a5.out;omega))])
                 rw[d5.out]at this;rw[show (KE X0 h.evN).size=S from HS.out];exact this⟩)
               have P1:=hide (iB (HW.out.trans ((Q1.mono HW.out.size).trans (G0.out.mono (show w.heap.size<=mid by omega)))) (show w.heap.size<=w.heap.size+1 by omega) (.int .i64 (S:Int)) (.slice gB S cB) (.slice gE X0.el cE));clear U0 j1 R0 K1 G1 bp D2;go_wp2;exact bodyPost_ret (v:=.tuple #[.agg #[.int .i64 (S:Int),.slice gB S cB,.slice gE X0.el cE],.int .i64 0]) (by simp[results,Tryz.results36,go_sem,s0,s1,s2]) rfl ⟨HA.out,P1.out⟩
        ·have f7:((h.en:Int) != ((sub 0).built.el:Int))=true:=by simp;omega
         have Hx:Hid (fA.err (.mk h sub)=4):=hide (by rw[he];unfold LB;rw[if_neg (by omega),if_neg (by omega),if_pos (by rw[B2]at g3;exact g3)]);have k1:=D0.alloc (.cells #[.int .i64 ((sub 0).built.size:Int),.slice gB (sub 0).built.size cB,.slice gE (sub 0).built.el cE] 24);have M2:=k1.set3 (.int .i64 0) (.slice none 0 0) (.slice none 0 0);have y0:=k1.cell 0;have y1:=k1.cell 1;have y2:=k1.cell 2;have yf:=k1.frozen;have s0:=M2.cell 0;have s1:=M2.cell 1;have s2:=M2.cell 2;unfold st3 at s0 s1 s2;simp at y0 y1 y2 s0 s1 s2;have U5:∀o,(wr.alloc o).cell? ⟨w.heap.size,2,none⟩=some (.slice h.eg h.en h.ec):=fun o=>(b1.alloc o).cell 2;have P1:=hide (iB (HW.out.alloc HW.out.size (.cells #[.int .i64 ((sub 0).built.size:Int),.slice gB (sub 0).built.size cB,.slice gE (sub 0).built.el cE] 24)) (show w.heap.size<=w.heap.size+1 by omega) (.int .i64 0) (.slice none 0 0) (.slice none 0 0));clear kk k3 k4 g1 g2 g3 he Q0 T0 C2 l3 m3 row cA o0 O2 B2;go_wp2;exact bodyPost_ret (v:=.tuple #[.agg #[.int .i64 0,.slice none 0 0,.slice none 0 0],.int .i64 4]) (by simp[results,Tryz.results36,go_sem,s0,s1,s2]) rfl ⟨Or.inr ⟨by rw[Hx.out];decide,by rw[Hx.out]⟩,P1.out⟩
       ·have f6:((h.n:Int) != 0)=true:=by simp[g2]
        have Hx:Hid (fA.err (.mk h sub)=3):=hide (by rw[he];unfold LB;rw[if_neg (by omega),if_pos g2]);clear kk k3 k4 g1 g2 he Q0;go_wp2;exact bodyPost_ret (v:=.tuple #[.agg #[.int .i64 0,.slice none 0 0,.slice none 0 0],.int .i64 3]) (by simp[results,Tryz.results36,go_sem,e0,e1,e2]) rfl ⟨Or.inr ⟨by rw[Hx.out];decide,by rw[Hx.out]⟩,k2.out⟩
      ·have f5:((h.pn:Int) != 1)=true:=by simp;omega
       have Hx:Hid (fA.err (.mk h sub)=1):=hide (by rw[he];unfold LB;rw[if_pos g1]);clear kk k3 k4 g1 he Q0;go_wp2;exact bodyPost_ret (v:=.tuple #[.agg #[.int .i64 0,.slice none 0 0,.slice none 0 0],.int .i64 1]) (by simp[results,Tryz.results36,go_sem,e0,e1,e2]) rfl ⟨Or.inr ⟨by rw[Hx.out];decide,by rw[Hx.out]⟩,k2.out⟩
     ·have W3:h.kind=1\/h.kind=2:=by omega
      have he:fA.err (.mk h sub)=YB h:=by rw[Hp.out];unfold OC;rw[if_pos W3]
      have f3:(h.kind == 3)=false:=by simp[k3]
      have f4:(h.kind == 4)=false:=by simp[k4]
      obtain⟨L2,v3,C5⟩:∃L2:Bool,(h.kind == 1) = !L2/\(h.kind == 2)=L2:=by
       rcases W3 with e | e
       ·exact⟨false,by simp[e],by simp[e]⟩
       ·exact⟨true,by simp[e],by simp[e]⟩
      have Q0:fA.built (.mk h sub)=if L2=true then YF h.n.toNat h.en h.evN else mG h.n.toNat h.en h.evN:=by
       simp only[fA.built,if_neg k3,if_neg k4];rcases W3 with e | e
       ·have:L2=false:=by rw[<-C5];simp[e]
        rw[if_neg (by omega),this];rfl
       ·have:L2=true:=by rw[<-C5];simp[e]
        rw[if_pos e,this];rfl
      clear W3 kk k3 k4;by_cases g1:h.pn=0
      ·have f5:((h.pn:Int) != 0)=false:=by simp[g1]
       by_cases g2:1<=h.n/\h.n<=22
       ·have U2:=hide (fun (W:World)=>jA h.n 1 22 W);rw[show (decide ((1:Int)<=h.n) && decide (h.n<=22))=true by simp[g2]]at U2;cases L2 with
        | true =>
         simp only[Bool.not_true]at v3;simp only[if_true]at Q0;obtain⟨w6,rfl⟩:∃w6,w6=wr:=⟨wr,rfl⟩;go_wp2_with (go_at_call 52;refine(U2.out _).mono ?_;rintro r w' ⟨rfl,hq⟩;have hq:=hq.symm;subst hq)
         go_loopw [16] (fun i wx=>∃k:Nat,k<=h.en/\i=.int .i64 k/\Hid (∀j,j<k->1<=h.ev j/\h.ev j<=h.n)/\Hid (∃m,wx=w6.drewN m)) (fun i _=>h.en-(intOf i).toNat)
         case atStart=>exact⟨0,zL,rfl,hide (fun j hj=>absurd hj nZ),hide ⟨0,rfl⟩⟩
         case round =>
          obtain⟨k,hk,rfl,Z1,HD⟩:=hrel;have N0:Below w6.heap.size w6 wr:=by obtain⟨m,rfl⟩:=HD.out;exact below_drewN (Below.refl _ _) m
          have l2:=b1.below N0 b1.lt;have x0:=l2.cell 0;have x1:=l2.cell 1;have x2:=l2.cell 2;simp at x0 x1 x2;clear z0 z1 z2 e0 e1 e2 E0 E1 E2 d0 d1 d2 c3;by_cases L0:k<h.en
          ·have V0:(k:Int)<(h.en:Int):=by omega
           have M0:=hh.ea (by omega);have C3:=(N0.cell (p:=⟨h.eb,h.eo+k,none⟩) (Nat.lt_of_lt_of_le (hh.el (by omega)) HW.out.size)).trans (o3.out.ecell k L0);have J1:=hide (fun (W:World)=>jA (h.ev k) 1 h.n W);by_cases J0:1<=h.ev k/\h.ev k<=h.n
           ·rw[show (decide ((1:Int)<=h.ev k) && decide (h.ev k<=h.n))=true by simp[J0]]at J1;have D3:=hide J0;clear J0;go_wp2_with fail
            go_quiet ((go_at_call 52;exact Calls.quiet_of_same (J1.out _)))
            go_wp2;go_roundw
            case rel =>
             have hn:∀j,j<k+1->1<=h.ev j/\h.ev j<=h.n:=fun j hj=>by
              by_cases e:j=k
              ·subst e;exact D3.out
              ·exact Z1.out j (by omega)
             have H3:Hid (∃m,wr.drewN nq=w6.drewN m):=hide (by obtain⟨m,rfl⟩:=HD.out;exact⟨_,by rw[World.drewN_drewN]⟩)
             first
             | exact⟨k+1,by omega,by go_num,hide hn,H3⟩
             | (rw[<-M0];(repeat apply Exists.intro);exact⟨⟨k+1,by omega,by go_num,hide hn,H3⟩,rfl⟩)
            case measure=>simp[intOf];omega
           ·rw[show (decide ((1:Int)<=h.ev k) && decide (h.ev k<=h.n))=false by simp;omega]at J1;have Hx:Hid (fA.err (.mk h sub)=3):=hide (by rw[he];unfold YB;rw[if_neg (by omega),if_pos (Or.inr (Or.inr (wD L0 (by omega))))]);clear J0;have V2:=hide (fun n=>((D0.below N0 D0.lt).drewN n).set3 (.int .i64 0) (.slice none 0 0) (.slice none 0 0));have G2:=hide (fun n=>((D0.below N0 D0.lt).drewN n));have Y0:=fun n=>(G2.out n).cell 0;have Y1:=fun n=>(G2.out n).cell 1;have Y2:=fun n=>(G2.out n).cell 2;have Yf:=fun n=>(G2.out n).frozen;have S0:=fun n=>(V2.out n).cell 0;have S1:=fun n=>(V2.out n).cell 1;have S2:=fun n=>(V2.out n).cell 2;unfold st3 at S0 S1 S2;simp at Y0 Y1 Y2 S0 S1 S2;have j6:=(D0.below N0 D0.lt).frozen;have G4:=hide (fun n=>iB (below_drewN (HW.out.trans (N0.mono HW.out.size)) n) (show w.heap.size<=w.heap.size+1 by omega) (.int .i64 0) (.slice none 0 0) (.slice none 0 0));go_wp2_with fail
            go_quiet ((go_at_call 52;exact Calls.quiet_of_same (J1.out _)))
            go_wp2;exact bodyPost_ret (v:=.tuple #[.agg #[.int .i64 0,.slice none 0 0,.slice none 0 0],.int .i64 3]) (by simp[results,Tryz.results36,go_sem,S0,S1,S2]) rfl ⟨Or.inr ⟨by rw[Hx.out];decide,by rw[Hx.out]⟩,G4.out _⟩
          ·have p1:k=h.en:=by omega
           have V0:(h.en:Int)<=(k:Int):=by omega
           have M1:∀j,j<h.en->1<=h.ev j/\h.ev j<=h.n:=fun j hj=>Z1.out j (by omega);have Hx:Hid (fA.err (.mk h sub)=0):=hide (by rw[he];unfold YB;rw[if_neg (by omega),if_neg (by rw[within_iff.2 M1];simp;omega)]);obtain⟨N,hN⟩:∃N:Nat,h.n=(N:Int):=⟨h.n.toNat,by omega⟩;have I3:h.n.toNat=N:=by omega
           rw[I3]at Q0;obtain⟨S,hS⟩:∃S:Nat,S=N+2:=⟨_,rfl⟩;have J3:(YF N h.en h.evN).Ok:=IL (by omega) (by omega) q5 (fun e hi=>by have:=M1 e hi;unfold yA.evN;omega);have O1:=hide Q0;have HN:=hide hN;have HS:=hide hS;have Z4:=hide J3;have F3:=hide M1;have k6:h.n+2=(S:Int):=by omega
           have B3:(S:Int)<=24:=by omega
           have K3:S<=24:=by omega
           have m6:3<=S:=by omega
           obtain⟨w7,rfl⟩:∃w7,w7=wr:=⟨wr,rfl⟩;clear p1 M1 hN I3 hS J3 Q0 he Z1;go_wp2_with fail;have L3:=Blk.new w7 #[.int .i64 (S:Int),.slice none 0 0,.slice none 0 0] 24;have H4:Below w7.heap.size w7 (w7.alloc (.cells #[.int .i64 (S:Int),.slice none 0 0,.slice none 0 0] 24)):=(Below.refl _ w7).alloc lR _;have n6:(w7.alloc (.cells #[.int .i64 (S:Int),.slice none 0 0,.slice none 0 0] 24)).heap.size=w7.heap.size+1:=by simp
           generalize w7.alloc (.cells #[.int .i64 (S:Int),.slice none 0 0,.slice none 0 0] 24)=V at *;obtain⟨ZB,P3⟩:∃ZB:Nat->Nat->Int,ZB=fun a b=>(((YF N h.en h.evN).best a b:Nat):Int):=⟨_,rfl⟩;obtain⟨ZE,Q3⟩:∃ZE:Nat->Nat->Int,ZE=fun a b=>(((YF N h.en h.evN).edge a b:Nat):Int):=⟨_,rfl⟩;have X2:=hide P3;have H2:=hide Q3;clear P3 Q3
           go_loopw [18] (fun i wx=>∃ (k:Nat) (VB:Value),k<=S/\i=.int .i64 k/\Hid (Blk wx w7.heap.size #[.int .i64 (S:Int),VB,.slice none 0 0] 24)/\Hid (BA (w7.heap.size+1) wx.heap.size VB k S ZB wx)/\Hid (Below w7.heap.size V wx)) (fun i _=>S-(intOf i).toNat)
           case atStart=>exact⟨0,_,zL,rfl,hide L3,hide (BA.nil _ _ _ _ _),hide (Below.refl _ _)⟩
           case round =>
            obtain⟨i,VB,hi,rfl,H0,HT,G0⟩:=hrel;obtain⟨wx,rfl⟩:∃wx,wx=wr:=⟨wr,rfl⟩;have I4:w7.heap.size+1<=wx.heap.size:=by have:=G0.out.size;omega
            have Z2:w7.heap.size<=wx.heap.size:=by omega
            have p0:=H0.out.cell 0;simp at p0;clear x0 x1 x2 L3;by_cases L0:i<S
            ·have U3:(i:Int)<(S:Int):=by omega
             go_wp2_with fail
             go_loopw [19,20] (fun v j wy=>∃k:Nat,k<=S/\j=.int .i64 k/\Hid (wy.ownsRow wx.heap.size 3 1 v k (JA (ZB i) k))/\Hid (Below wx.heap.size wx wy)) (fun _ j _=>S-(intOf j).toNat)
             case atStart=>exact⟨0,zL,rfl,hide (World.ownsRow_nil _ _ _ _),hide (Below.refl _ _)⟩
             case round =>
              obtain⟨k,hk,rfl,HO,h0⟩:=hrel;have C0:=H0.out.below h0.out H0.out.lt;have J4:=C0.cell 0;simp at J4;clear p0 C0;by_cases j2:k<S
              ·have V0:(k:Int)<(S:Int):=by omega
               by_cases c1:k<i
               ·have K4:(k:Int)<(i:Int):=by omega
                have A0:Hid (ZB i k=(k:Int)):=hide (by rw[X2.out];show ((min i k:Nat):Int)=_;omega);clear c1;go_wp2_with (at_builtin;refine wpList_append_lies _ rfl _ _ _ rfl wx.heap.size 3 i1 _ 1 8 Tryz.underlying32 m2 o2 p2 A2 rfl (by decide) _ k _ rfl (HO.out.alloc _) ⟨wr.heap.size,0,none⟩ 1 1 [.int .i64 (k:Int)] rfl rfl ?c1 ?c2 (by decide) ?c3 ?c4 ?c5 _ rfl ?_)
                all_goals try (case c1=>exact World.news_of_block (Blk.new' (by simp)))
                all_goals try (case c2=>simp[Value.oneCell'])
                all_goals try (case c3=>unfold maxLen;omega)
                all_goals try (case c4=>omega)
                all_goals try (case c5=>have:=h0.out.size;simp;omega)
                intro g' k0 w2 g0 f0 j0 u0;have I0:=hide (show w2.ownsRow wx.heap.size 3 1 _ (k+1) (JA (ZB i) (k+1)) by rw[OA,A0.out];exact g0);have w0:=hide ((h0.out.alloc (by have:=h0.out.size;omega) _).trans (nA f0 (fun g hg=>(HO.out.lt g hg).1) (by have:=h0.out.size;simp;omega)));clear g0 f0 j0 u0;go_wp2;go_roundw
                case rel =>
                 first
                 | exact⟨k+1,by omega,by go_num,I0,w0⟩
                 | ((try rw[<-M0]);(repeat apply Exists.intro);exact⟨⟨k+1,by omega,by go_num,I0,w0⟩,rfl⟩)
                case measure=>simp[intOf];omega
               ·have K4:(i:Int)<=(k:Int):=by omega
                have A0:Hid (ZB i k=(i:Int)):=hide (by rw[X2.out];show ((min i k:Nat):Int)=_;omega);clear c1;go_wp2_with (at_builtin;refine wpList_append_lies _ rfl _ _ _ rfl wx.heap.size 3 i1 _ 1 8 Tryz.underlying32 m2 o2 p2 A2 rfl (by decide) _ k _ rfl (HO.out.alloc _) ⟨wr.heap.size,0,none⟩ 1 1 [.int .i64 (i:Int)] rfl rfl ?c1 ?c2 (by decide) ?c3 ?c4 ?c5 _ rfl ?_)
                all_goals try (case c1=>exact World.news_of_block (Blk.new' (by simp)))
                all_goals try (case c2=>simp[Value.oneCell'])
                all_goals try (case c3=>unfold maxLen;omega)
                all_goals try (case c4=>omega)
                all_goals try (case c5=>have:=h0.out.size;simp;omega)
                intro g' k0 w2 g0 f0 j0 u0;have I0:=hide (show w2.ownsRow wx.heap.size 3 1 _ (k+1) (JA (ZB i) (k+1)) by rw[OA,A0.out];exact g0);have w0:=hide ((h0.out.alloc (by have:=h0.out.size;omega) _).trans (nA f0 (fun g hg=>(HO.out.lt g hg).1) (by have:=h0.out.size;simp;omega)));clear g0 f0 j0 u0;go_wp2;go_roundw
                case rel =>
                 first
                 | exact⟨k+1,by omega,by go_num,I0,w0⟩
                 | ((try rw[<-M0]);(repeat apply Exists.intro);exact⟨⟨k+1,by omega,by go_num,I0,w0⟩,rfl⟩)
                case measure=>simp[intOf];omega
              ·have p1:k=S:=by omega
               subst p1;have V0:(k:Int)<=(k:Int):=Int.le_refl _;obtain⟨gn,cn,rfl,O4,P4⟩:=HO.out.form (by omega);have W0:=H0.out.below h0.out H0.out.lt;obtain⟨g,c,t1,t2,t3,t4⟩:=HT.out.below h0.out;have n2:=W0.cell 1;simp at n2;have a3:∀o,(wr.alloc o).cell? ⟨w7.heap.size,1,none⟩=some VB:=fun o=>(W0.alloc o).cell 1;have K0:∀j,Value.ownBlock VB=some j->w7.heap.size+1<=j:=fun j hj=>(t1.lt j hj).1;have b3:w7.heap.size+1<=w7.heap.size+1:=lR;have B1:=hide t1;clear t1;go_wp2_with (at_builtin;refine wpList_append_lies _ rfl _ _ _ rfl (w7.heap.size+1) 32 i2 _ 1 24 Tryz.underlying22 Y3 Z3 a4 b4 rfl (by decide) _ i _ rfl (B1.out.alloc _) ⟨wr.heap.size,0,none⟩ 1 1 [.slice (some ⟨gn,0,none⟩) k cn] rfl rfl ?c1 ?c2 (by decide) ?c3 ?c4 ?c5 _ rfl ?_)
               all_goals try (case c1=>exact World.news_of_block (Blk.new' (by simp)))
               all_goals try (case c2=>simp[Value.oneCell'])
               all_goals try (case c3=>unfold maxLen;omega)
               all_goals try (case c4=>omega)
               all_goals try (case c5=>have:=h0.out.size;simp;omega)
               intro g' k0 w2 g0 f0 j0 u0;have d3:=hide (BA.push (Z:=ZB) (B1.out.alloc (.cells #[.slice (some ⟨gn,0,none⟩) k cn] 32)) t2 (fun r hr=>⟨(t3 r hr).1.alloc _,(t3 r hr).2⟩) t4 (by omega) (HO.out.alloc _) g0 f0 (by simpa using j0));have B0:=OB (W0.alloc (.cells #[.slice (some ⟨gn,0,none⟩) k cn] 32)) f0 (fun e=>by have:=K0 _ e;omega);have w0:=hide ((G0.out.trans (h0.out.mono Z2)).alloc (by have:=h0.out.size;omega) (.cells #[.slice (some ⟨gn,0,none⟩) k cn] 32) |>.trans (nA f0 (fun g hg=>by have:=K0 g hg;omega) (by have:=h0.out.size;simp;omega)));have M3:=f0.size;have m1:=B0.cell 1;have mf:=B0.frozen;simp at m1;have C1:=hide B0;clear g0 f0 j0 u0 B1 t2 t3 t4 W0 B0 n2 a3;go_wp2;have F0:=hide (C1.out.set 1 (.slice (some ⟨g',0,none⟩) (i+1) k0));simp at F0;have I2:w2.grownBy (w2.setCell ⟨w7.heap.size,1,none⟩ (.slice (some ⟨g',0,none⟩) (i+1) k0)) (some w7.heap.size):=⟨rfl,rfl,rfl,by simp,fun j _ L1=>by
                show (w2.heap.modify w7.heap.size _)[j]? = _;rw[Array.getElem?_modify,if_neg (fun e=>L1 (by rw[e]))]⟩
               have R1:=hide ((d3.out.kept I2 (fun k hk=>Or.inl (by have e:w7.heap.size=k:=(by simpa using hk);omega))).mono lR (Nat.le_of_eq (show w2.heap.size=(w2.setCell ⟨w7.heap.size,1,none⟩ (.slice (some ⟨g',0,none⟩) (i+1) k0)).heap.size by simp)));have U1:=hide (w0.out.setCell (p:=⟨w7.heap.size,1,none⟩) lR (.slice (some ⟨g',0,none⟩) (i+1) k0));go_roundw
               case rel =>
                first
                | exact⟨i+1,_,by omega,by go_num,F0,R1,U1⟩
                | ((try rw[<-M0]);(repeat apply Exists.intro);exact⟨⟨i+1,_,by omega,by go_num,F0,R1,U1⟩,rfl⟩)
               case measure=>simp[intOf];omega
            ·have D2:S=i:=by omega
             subst D2;have U3:(S:Int)<=(S:Int):=Int.le_refl _;obtain⟨w8,rfl⟩:∃w8,w8=wx:=⟨wx,rfl⟩;have D1:Hid (∀W':World,Below w7.heap.size V W'->Blk W' w.heap.size #[.int .i64 h.kind,.int .i64 h.n,.slice h.eg h.en h.ec,.slice h.pg h.pn h.pc] 37/\(∀i,i<h.en->W'.cell? ⟨h.eb,h.eo+i,none⟩=some (.int .i64 (h.ev i)))/\Below w6.heap.size w6 W'):=hide (fun W' hb=>by
              have e3:Below w6.heap.size w6 W':=(N0.trans (H4.mono N0.size)).trans (hb.mono N0.size);exact⟨b1.below e3 b1.lt,fun i hi=>(e3.cell (p:=⟨h.eb,h.eo+i,none⟩) (Nat.lt_of_lt_of_le (hh.el (by omega)) HW.out.size)).trans (o3.out.ecell i hi),e3⟩)
             obtain⟨a2,_,_⟩:=D1.out w8 G0.out;have y2:=a2.cell 2;simp at y2;go_wp2_with fail
             go_loopw [21] (fun i wx=>∃ (k:Nat) (VE:Value),k<=h.en/\i=.int .i64 k/\Hid (Blk wx w7.heap.size #[.int .i64 (S:Int),VB,VE] 24)/\Hid (BA (w7.heap.size+1) w8.heap.size VB S S ZB wx)/\Hid (BA w8.heap.size wx.heap.size VE k S ZE wx)/\Hid (Below w7.heap.size V wx)/\Hid (w8.heap.size<=wx.heap.size)) (fun i _=>h.en-(intOf i).toNat)
             case atStart=>exact⟨0,_,zL,rfl,H0,HT,hide (BA.nil _ _ _ _ _),G0,hide lR⟩
             case round =>
              clear H0 HT G0 a2 y2 p0;obtain⟨i,VE,hi,rfl,H0,U0,j1,G0,Q4⟩:=hrel;obtain⟨wx,rfl⟩:∃wx,wx=wr:=⟨wr,rfl⟩;have h3:=Q4.out;have N3:w7.heap.size+1<=wx.heap.size:=by omega
              have A1:w7.heap.size<=wx.heap.size:=by omega
              obtain⟨a2,_,H1⟩:=D1.out wx G0.out;have y2:=a2.cell 2;simp at y2;have p0:=H0.out.cell 0;simp at p0;by_cases L0:i<h.en
              ·have F2:(i:Int)<(h.en:Int):=by omega
               have M0:=hh.ea (by omega);obtain⟨N4,i4⟩:=F3.out i L0;go_wp2_with fail
               go_loopw [22,23] (fun v j wy=>∃k:Nat,k<=S/\j=.int .i64 k/\Hid (wy.ownsRow wx.heap.size 3 1 v k (JA (ZE i) k))/\Hid (Below wx.heap.size wx wy)) (fun _ j _=>S-(intOf j).toNat)
               case atStart=>exact⟨0,zL,rfl,hide (World.ownsRow_nil _ _ _ _),hide (Below.refl _ _)⟩
               case round =>
                obtain⟨k,hk,rfl,HO,h0⟩:=hrel;clear a2 y2 p0;have C0:=H0.out.below h0.out H0.out.lt;obtain⟨I1,G1,_⟩:=D1.out wr (G0.out.trans (h0.out.mono A1));have p0:=C0.cell 0;have x0:=I1.cell 0;have x1:=I1.cell 1;have x2:=I1.cell 2;have xe:=G1 i L0;simp at p0 x0 x1 x2;have J2:=HN.out;have K2:=HS.out;have Z0:(h.evN i:Int)=h.ev i:=by unfold yA.evN;omega
                by_cases j2:k<S
                ·have V0:(k:Int)<(S:Int):=by omega
                 by_cases c1:k+1=S
                 ·have q1:((k:Int) == (S:Int)-1)=true:=by simp;omega
                  have A0:Hid (ZE i k=((S:Int)-1)):=hide (by rw[H2.out];show ((max k (h.evN i):Nat):Int)=_;omega);have q2:h.ev i<=(k:Int):=by omega
                  clear c1 J2 K2 Z0 C0 I1 G1;go_wp2_with (at_builtin;refine wpList_append_lies _ rfl _ _ _ rfl wx.heap.size 3 i1 _ 1 8 Tryz.underlying32 m2 o2 p2 A2 rfl (by decide) _ k _ rfl (HO.out.alloc _) ⟨wr.heap.size,0,none⟩ 1 1 [.int .i64 ((S:Int)-1:Int)] rfl rfl ?c1 ?c2 (by decide) ?c3 ?c4 ?c5 _ rfl ?_)
                  all_goals try (case c1=>exact World.news_of_block (Blk.new' (by simp)))
                  all_goals try (case c2=>simp[Value.oneCell'])
                  all_goals try (case c3=>unfold maxLen;omega)
                  all_goals try (case c4=>omega)
                  all_goals try (case c5=>have:=h0.out.size;simp;omega)
                  intro g' k0 w2 g0 f0 j0 u0;have I0:=hide (show w2.ownsRow wx.heap.size 3 1 _ (k+1) (JA (ZE i) (k+1)) by rw[OA,A0.out];exact g0);have w0:=hide ((h0.out.alloc (by have:=h0.out.size;omega) _).trans (nA f0 (fun g hg=>(HO.out.lt g hg).1) (by have:=h0.out.size;simp;omega)));clear g0 f0 j0 u0;go_wp2;go_roundw
                  case rel =>
                   first
                   | exact⟨k+1,by omega,by go_num,I0,w0⟩
                   | ((try rw[<-M0]);(repeat apply Exists.intro);exact⟨⟨k+1,by omega,by go_num,I0,w0⟩,rfl⟩)
                  case measure=>simp[intOf];omega
                 ·have q1:((k:Int) == (S:Int)-1)=false:=by simp;omega
                  by_cases c2:(k:Int)<h.ev i
                  ·have q3:h.ev i<=h.n:=i4;have A0:Hid (ZE i k=h.ev i):=hide (by rw[H2.out];show ((max k (h.evN i):Nat):Int)=_;omega);clear c1 J2 K2 Z0 C0 I1 G1;go_wp2_with (at_builtin;refine wpList_append_lies _ rfl _ _ _ rfl wx.heap.size 3 i1 _ 1 8 Tryz.underlying32 m2 o2 p2 A2 rfl (by decide) _ k _ rfl (HO.out.alloc _) ⟨wr.heap.size,0,none⟩ 1 1 [.int .i64 (h.ev i:Int)] rfl rfl ?c1 ?c2 (by decide) ?c3 ?c4 ?c5 _ rfl ?_)
                   all_goals try (case c1=>exact World.news_of_block (Blk.new' (by simp)))
                   all_goals try (case c2=>simp[Value.oneCell'])
                   all_goals try (case c3=>unfold maxLen;omega)
                   all_goals try (case c4=>omega)
                   all_goals try (case c5=>have:=h0.out.size;simp;omega)
                   intro g' k0 w2 g0 f0 j0 u0;have I0:=hide (show w2.ownsRow wx.heap.size 3 1 _ (k+1) (JA (ZE i) (k+1)) by rw[OA,A0.out];exact g0);have w0:=hide ((h0.out.alloc (by have:=h0.out.size;omega) _).trans (nA f0 (fun g hg=>(HO.out.lt g hg).1) (by have:=h0.out.size;simp;omega)));clear g0 f0 j0 u0;go_wp2;go_roundw
                   case rel =>
                    first
                    | exact⟨k+1,by omega,by go_num,I0,w0⟩
                    | ((try rw[<-M0]);(repeat apply Exists.intro);exact⟨⟨k+1,by omega,by go_num,I0,w0⟩,rfl⟩)
                   case measure=>simp[intOf];omega
                  ·have q2:h.ev i<=(k:Int):=by omega
                   have q3:(k:Int)<=h.n:=by omega
                   have A0:Hid (ZE i k=(k:Int)):=hide (by rw[H2.out];show ((max k (h.evN i):Nat):Int)=_;omega);clear c1 c2 J2 K2 Z0 C0 I1 G1;go_wp2_with (at_builtin;refine wpList_append_lies _ rfl _ _ _ rfl wx.heap.size 3 i1 _ 1 8 Tryz.underlying32 m2 o2 p2 A2 rfl (by decide) _ k _ rfl (HO.out.alloc _) ⟨wr.heap.size,0,none⟩ 1 1 [.int .i64 (k:Int)] rfl rfl ?c1 ?c2 (by decide) ?c3 ?c4 ?c5 _ rfl ?_)
                   all_goals try (case c1=>exact World.news_of_block (Blk.new' (by simp)))
                   all_goals try (case c2=>simp[Value.oneCell'])
                   all_goals try (case c3=>unfold maxLen;omega)
                   all_goals try (case c4=>omega)
                   all_goals try (case c5=>have:=h0.out.size;simp;omega)
                   intro g' k0 w2 g0 f0 j0 u0;have I0:=hide (show w2.ownsRow wx.heap.size 3 1 _ (k+1) (JA (ZE i) (k+1)) by rw[OA,A0.out];exact g0);have w0:=hide ((h0.out.alloc (by have:=h0.out.size;omega) _).trans (nA f0 (fun g hg=>(HO.out.lt g hg).1) (by have:=h0.out.size;simp;omega)));clear g0 f0 j0 u0;go_wp2;go_roundw
                   case rel =>
                    first
                    | exact⟨k+1,by omega,by go_num,I0,w0⟩
                    | ((try rw[<-M0]);(repeat apply Exists.intro);exact⟨⟨k+1,by omega,by go_num,I0,w0⟩,rfl⟩)
                   case measure=>simp[intOf];omega
                ·have p1:S=k:=by omega
                 subst p1;have V0:(S:Int)<=(S:Int):=Int.le_refl _;clear J2 K2 Z0 C0 I1 G1 x0 x1 x2 xe;obtain⟨gn,cn,rfl,O4,P4⟩:=HO.out.form (by omega);have W0:=H0.out.below h0.out H0.out.lt;obtain⟨g,c,t1,t2,t3,t4⟩:=j1.out.below h0.out;have i3:=hide (U0.out.below h0.out);have n2:=W0.cell 2;simp at n2;have a3:∀o,(wr.alloc o).cell? ⟨w7.heap.size,2,none⟩=some VE:=fun o=>(W0.alloc o).cell 2;have K0:∀j,Value.ownBlock VE=some j->w8.heap.size<=j:=fun j hj=>(t1.lt j hj).1;have b3:w7.heap.size+1<=w8.heap.size:=by omega
                 have B1:=hide t1;clear t1;go_wp2_with (at_builtin;refine wpList_append_lies _ rfl _ _ _ rfl (w8.heap.size) 32 i2 _ 1 24 Tryz.underlying22 Y3 Z3 a4 b4 rfl (by decide) _ i _ rfl (B1.out.alloc _) ⟨wr.heap.size,0,none⟩ 1 1 [.slice (some ⟨gn,0,none⟩) S cn] rfl rfl ?c1 ?c2 (by decide) ?c3 ?c4 ?c5 _ rfl ?_)
                 all_goals try (case c1=>exact World.news_of_block (Blk.new' (by simp)))
                 all_goals try (case c2=>simp[Value.oneCell'])
                 all_goals try (case c3=>unfold maxLen;omega)
                 all_goals try (case c4=>omega)
                 all_goals try (case c5=>have:=h0.out.size;simp;omega)
                 intro g' k0 w2 g0 f0 j0 u0;have d3:=hide (BA.push (Z:=ZE) (B1.out.alloc (.cells #[.slice (some ⟨gn,0,none⟩) S cn] 32)) t2 (fun r hr=>⟨(t3 r hr).1.alloc _,(t3 r hr).2⟩) t4 (by omega) (HO.out.alloc _) g0 f0 (by simpa using j0));have B0:=OB (W0.alloc (.cells #[.slice (some ⟨gn,0,none⟩) S cn] 32)) f0 (fun e=>by have:=K0 _ e;omega);have w0:=hide ((G0.out.trans (h0.out.mono A1)).alloc (by have:=h0.out.size;omega) (.cells #[.slice (some ⟨gn,0,none⟩) S cn] 32) |>.trans (nA f0 (fun g hg=>by have:=K0 g hg;omega) (by have:=h0.out.size;simp;omega)));have M3:=f0.size;have j3:=hide ((i3.out.alloc (.cells #[.slice (some ⟨gn,0,none⟩) S cn] 32)).kept f0 (fun j hj=>Or.inr (K0 j hj)));have m1:=B0.cell 2;have mf:=B0.frozen;simp at m1;have C1:=hide B0;clear g0 f0 j0 u0 B1 t2 t3 t4 W0 B0 n2 a3;go_wp2;have F0:=hide (C1.out.set 2 (.slice (some ⟨g',0,none⟩) (i+1) k0));simp at F0;have I2:w2.grownBy (w2.setCell ⟨w7.heap.size,2,none⟩ (.slice (some ⟨g',0,none⟩) (i+1) k0)) (some w7.heap.size):=⟨rfl,rfl,rfl,by simp,fun j _ L1=>by
                  show (w2.heap.modify w7.heap.size _)[j]? = _;rw[Array.getElem?_modify,if_neg (fun e=>L1 (by rw[e]))]⟩
                 have R1:=hide ((d3.out.kept I2 (fun k hk=>Or.inl (by have e:w7.heap.size=k:=(by simpa using hk);omega))).mono lR (Nat.le_of_eq (show w2.heap.size=(w2.setCell ⟨w7.heap.size,2,none⟩ (.slice (some ⟨g',0,none⟩) (i+1) k0)).heap.size by simp)));have U1:=hide (w0.out.setCell (p:=⟨w7.heap.size,2,none⟩) lR (.slice (some ⟨g',0,none⟩) (i+1) k0));have V1:=hide (j3.out.kept I2 (fun k hk=>Or.inl (by have e:w7.heap.size=k:=(by simpa using hk);omega)));have W1:=hide (show w8.heap.size<=(w2.setCell ⟨w7.heap.size,2,none⟩ (.slice (some ⟨g',0,none⟩) (i+1) k0)).heap.size by have:=h0.out.size;simp at M3;simp;omega);go_roundw
                 case rel =>
                  first
                  | exact⟨i+1,_,by omega,by go_num,F0,V1,R1,U1,W1⟩
                  | ((try rw[<-M0]);(repeat apply Exists.intro);exact⟨⟨i+1,_,by omega,by go_num,F0,V1,R1,U1,W1⟩,rfl⟩)
                 case measure=>simp[intOf];omega
              ·have D2:i=h.en:=by omega
               have F2:(h.en:Int)<=(i:Int):=by omega
               subst D2;obtain⟨b2,O0,rfl⟩:=U0.out.form;obtain⟨h2,P0,rfl⟩:=j1.out.form;have n1:=H0.out.cell 1;have n2:=H0.out.cell 2;simp at n1 n2;have R0:=D0.below H1 D0.lt;have y0:=R0.cell 0;have y1:=R0.cell 1;have y3:=R0.cell 2;have yf:=R0.frozen;have K1:=R0.set3 (.int .i64 (S:Int)) (.slice b2 S O0) (.slice h2 h.en P0);have s0:=K1.cell 0;have s1:=K1.cell 1;have s2:=K1.cell 2;unfold st3 at s0 s1 s2;simp at y0 y1 y3 s0 s1 s2;have HA:Hid (kK (.mk h sub) w.heap.size (.returned (.tuple #[.agg #[.int .i64 (S:Int),.slice b2 S O0,.slice h2 h.en P0],.int .i64 0])) (st3 wx (w.heap.size+1) (.int .i64 (S:Int)) (.slice b2 S O0) (.slice h2 h.en P0))):=hide (Or.inl ⟨Hx.out,_,_,by rw[O1.out,show (YF N h.en h.evN).size=S from HS.out.symm],by
                rw[O1.out];refine(lF (lo:=w7.heap.size+1) ⟨w8.heap.size,by omega,h3,?_,?_⟩ (by have:=N0.size;have:=HW.out.size;omega) _ _ _).lower (by have:=N0.size;have:=HW.out.size;omega)
                ·have:=U0.out;rw[X2.out]at this;rw[show (YF N h.en h.evN).size=S from HS.out.symm];exact this
                ·have:=j1.out;rw[H2.out]at this;rw[show (YF N h.en h.evN).size=S from HS.out.symm];exact this⟩)
               have P1:=hide (iB (HW.out.trans (H1.mono HW.out.size)) (show w.heap.size<=w.heap.size+1 by omega) (.int .i64 (S:Int)) (.slice b2 S O0) (.slice h2 h.en P0));clear U0 j1 R0 K1 H1;go_wp2;exact bodyPost_ret (v:=.tuple #[.agg #[.int .i64 (S:Int),.slice b2 S O0,.slice h2 h.en P0],.int .i64 0]) (by simp[results,Tryz.results36,go_sem,s0,s1,s2]) rfl ⟨HA.out,P1.out⟩
        | false =>
         simp only[Bool.not_false]at v3;simp only[Bool.false_eq_true,if_false]at Q0;obtain⟨w6,rfl⟩:∃w6,w6=wr:=⟨wr,rfl⟩;go_wp2_with (go_at_call 52;refine(U2.out _).mono ?_;rintro r w' ⟨rfl,hq⟩;have hq:=hq.symm;subst hq)
         go_loopw [16] (fun i wx=>∃k:Nat,k<=h.en/\i=.int .i64 k/\Hid (∀j,j<k->1<=h.ev j/\h.ev j<=h.n)/\Hid (∃m,wx=w6.drewN m)) (fun i _=>h.en-(intOf i).toNat)
         case atStart=>exact⟨0,zL,rfl,hide (fun j hj=>absurd hj nZ),hide ⟨0,rfl⟩⟩
         case round =>
          obtain⟨k,hk,rfl,Z1,HD⟩:=hrel;have N0:Below w6.heap.size w6 wr:=by obtain⟨m,rfl⟩:=HD.out;exact below_drewN (Below.refl _ _) m
          have l2:=b1.below N0 b1.lt;have x0:=l2.cell 0;have x1:=l2.cell 1;have x2:=l2.cell 2;simp at x0 x1 x2;clear z0 z1 z2 e0 e1 e2 E0 E1 E2 d0 d1 d2 c3;by_cases L0:k<h.en
          ·have V0:(k:Int)<(h.en:Int):=by omega
           have M0:=hh.ea (by omega);have C3:=(N0.cell (p:=⟨h.eb,h.eo+k,none⟩) (Nat.lt_of_lt_of_le (hh.el (by omega)) HW.out.size)).trans (o3.out.ecell k L0);have J1:=hide (fun (W:World)=>jA (h.ev k) 1 h.n W);by_cases J0:1<=h.ev k/\h.ev k<=h.n
           ·rw[show (decide ((1:Int)<=h.ev k) && decide (h.ev k<=h.n))=true by simp[J0]]at J1;have D3:=hide J0;clear J0;go_wp2_with fail
            go_quiet ((go_at_call 52;exact Calls.quiet_of_same (J1.out _)))
            go_wp2;go_roundw
            case rel =>
             have hn:∀j,j<k+1->1<=h.ev j/\h.ev j<=h.n:=fun j hj=>by
              by_cases e:j=k
              ·subst e;exact D3.out
              ·exact Z1.out j (by omega)
             have H3:Hid (∃m,wr.drewN nq=w6.drewN m):=hide (by obtain⟨m,rfl⟩:=HD.out;exact⟨_,by rw[World.drewN_drewN]⟩)
             first
             | exact⟨k+1,by omega,by go_num,hide hn,H3⟩
             | (rw[<-M0];(repeat apply Exists.intro);exact⟨⟨k+1,by omega,by go_num,hide hn,H3⟩,rfl⟩)
            case measure=>simp[intOf];omega
           ·rw[show (decide ((1:Int)<=h.ev k) && decide (h.ev k<=h.n))=false by simp;omega]at J1;have Hx:Hid (fA.err (.mk h sub)=3):=hide (by rw[he];unfold YB;rw[if_neg (by omega),if_pos (Or.inr (Or.inr (wD L0 (by omega))))]);clear J0;have V2:=hide (fun n=>((D0.below N0 D0.lt).drewN n).set3 (.int .i64 0) (.slice none 0 0) (.slice none 0 0));have G2:=hide (fun n=>((D0.below N0 D0.lt).drewN n));have Y0:=fun n=>(G2.out n).cell 0;have Y1:=fun n=>(G2.out n).cell 1;have Y2:=fun n=>(G2.out n).cell 2;have Yf:=fun n=>(G2.out n).frozen;have S0:=fun n=>(V2.out n).cell 0;have S1:=fun n=>(V2.out n).cell 1;have S2:=fun n=>(V2.out n).cell 2;unfold st3 at S0 S1 S2;simp at Y0 Y1 Y2 S0 S1 S2;have j6:=(D0.below N0 D0.lt).frozen;have G4:=hide (fun n=>iB (below_drewN (HW.out.trans (N0.mono HW.out.size)) n) (show w.heap.size<=w.heap.size+1 by omega) (.int .i64 0) (.slice none 0 0) (.slice none 0 0));go_wp2_with fail
            go_quiet ((go_at_call 52;exact Calls.quiet_of_same (J1.out _)))
            go_wp2;exact bodyPost_ret (v:=.tuple #[.agg #[.int .i64 0,.slice none 0 0,.slice none 0 0],.int .i64 3]) (by simp[results,Tryz.results36,go_sem,S0,S1,S2]) rfl ⟨Or.inr ⟨by rw[Hx.out];decide,by rw[Hx.out]⟩,G4.out _⟩
          ·have p1:k=h.en:=by omega
           have V0:(h.en:Int)<=(k:Int):=by omega
           have M1:∀j,j<h.en->1<=h.ev j/\h.ev j<=h.n:=fun j hj=>Z1.out j (by omega);have Hx:Hid (fA.err (.mk h sub)=0):=hide (by rw[he];unfold YB;rw[if_neg (by omega),if_neg (by rw[within_iff.2 M1];simp;omega)]);obtain⟨N,hN⟩:∃N:Nat,h.n=(N:Int):=⟨h.n.toNat,by omega⟩;have I3:h.n.toNat=N:=by omega
           rw[I3]at Q0;obtain⟨S,hS⟩:∃S:Nat,S=N+2:=⟨_,rfl⟩;have J3:(mG N h.en h.evN).Ok:=mM (by omega) (by omega) q5;have O1:=hide Q0;have HN:=hide hN;have HS:=hide hS;have Z4:=hide J3;have F3:=hide M1;have k6:h.n+2=(S:Int):=by omega
           have B3:(S:Int)<=24:=by omega
           have K3:S<=24:=by omega
           have m6:3<=S:=by omega
           obtain⟨w7,rfl⟩:∃w7,w7=wr:=⟨wr,rfl⟩;clear p1 M1 hN I3 hS J3 Q0 he Z1;go_wp2_with fail;have L3:=Blk.new w7 #[.int .i64 (S:Int),.slice none 0 0,.slice none 0 0] 24;have H4:Below w7.heap.size w7 (w7.alloc (.cells #[.int .i64 (S:Int),.slice none 0 0,.slice none 0 0] 24)):=(Below.refl _ w7).alloc lR _;have n6:(w7.alloc (.cells #[.int .i64 (S:Int),.slice none 0 0,.slice none 0 0] 24)).heap.size=w7.heap.size+1:=by simp
           generalize w7.alloc (.cells #[.int .i64 (S:Int),.slice none 0 0,.slice none 0 0] 24)=V at *;obtain⟨ZB,P3⟩:∃ZB:Nat->Nat->Int,ZB=fun a b=>(((mG N h.en h.evN).best a b:Nat):Int):=⟨_,rfl⟩;obtain⟨ZE,Q3⟩:∃ZE:Nat->Nat->Int,ZE=fun a b=>(((mG N h.en h.evN).edge a b:Nat):Int):=⟨_,rfl⟩;have X2:=hide P3;have H2:=hide Q3;clear P3 Q3
           go_loopw [18] (fun i wx=>∃ (k:Nat) (VB:Value),k<=S/\i=.int .i64 k/\Hid (Blk wx w7.heap.size #[.int .i64 (S:Int),VB,.slice none 0 0] 24)/\Hid (BA (w7.heap.size+1) wx.heap.size VB k S ZB wx)/\Hid (Below w7.heap.size V wx)) (fun i _=>S-(intOf i).toNat)
           case atStart=>exact⟨0,_,zL,rfl,hide L3,hide (BA.nil _ _ _ _ _),hide (Below.refl _ _)⟩
           case round =>
            obtain⟨i,VB,hi,rfl,H0,HT,G0⟩:=hrel;obtain⟨wx,rfl⟩:∃wx,wx=wr:=⟨wr,rfl⟩;have I4:w7.heap.size+1<=wx.heap.size:=by have:=G0.out.size;omega
            have Z2:w7.heap.size<=wx.heap.size:=by omega
            have p0:=H0.out.cell 0;simp at p0;clear x0 x1 x2 L3;by_cases L0:i<S
            ·have U3:(i:Int)<(S:Int):=by omega
             go_wp2_with fail
             go_loopw [19,20] (fun v j wy=>∃k:Nat,k<=S/\j=.int .i64 k/\Hid (wy.ownsRow wx.heap.size 3 1 v k (JA (ZB i) k))/\Hid (Below wx.heap.size wx wy)) (fun _ j _=>S-(intOf j).toNat)
             case atStart=>exact⟨0,zL,rfl,hide (World.ownsRow_nil _ _ _ _),hide (Below.refl _ _)⟩
             case round =>
              obtain⟨k,hk,rfl,HO,h0⟩:=hrel;have C0:=H0.out.below h0.out H0.out.lt;have J4:=C0.cell 0;simp at J4;clear p0 C0;by_cases j2:k<S
              ·have V0:(k:Int)<(S:Int):=by omega
               by_cases c1:k<i
               ·have K4:(k:Int)<(i:Int):=by omega
                have A0:Hid (ZB i k=(k:Int)):=hide (by rw[X2.out];show ((min i k:Nat):Int)=_;omega);clear c1;go_wp2_with (at_builtin;refine wpList_append_lies _ rfl _ _ _ rfl wx.heap.size 3 i1 _ 1 8 Tryz.underlying32 m2 o2 p2 A2 rfl (by decide) _ k _ rfl (HO.out.alloc _) ⟨wr.heap.size,0,none⟩ 1 1 [.int .i64 (k:Int)] rfl rfl ?c1 ?c2 (by decide) ?c3 ?c4 ?c5 _ rfl ?_)
                all_goals try (case c1=>exact World.news_of_block (Blk.new' (by simp)))
                all_goals try (case c2=>simp[Value.oneCell'])
                all_goals try (case c3=>unfold maxLen;omega)
                all_goals try (case c4=>omega)
                all_goals try (case c5=>have:=h0.out.size;simp;omega)
                intro g' k0 w2 g0 f0 j0 u0;have I0:=hide (show w2.ownsRow wx.heap.size 3 1 _ (k+1) (JA (ZB i) (k+1)) by rw[OA,A0.out];exact g0);have w0:=hide ((h0.out.alloc (by have:=h0.out.size;omega) _).trans (nA f0 (fun g hg=>(HO.out.lt g hg).1) (by have:=h0.out.size;simp;omega)));clear g0 f0 j0 u0;go_wp2;go_roundw
                case rel =>
                 first
                 | exact⟨k+1,by omega,by go_num,I0,w0⟩
                 | ((try rw[<-M0]);(repeat apply Exists.intro);exact⟨⟨k+1,by omega,by go_num,I0,w0⟩,rfl⟩)
                case measure=>simp[intOf];omega
               ·have K4:(i:Int)<=(k:Int):=by omega
                have A0:Hid (ZB i k=(i:Int)):=hide (by rw[X2.out];show ((min i k:Nat):Int)=_;omega);clear c1;go_wp2_with (at_builtin;refine wpList_append_lies _ rfl _ _ _ rfl wx.heap.size 3 i1 _ 1 8 Tryz.underlying32 m2 o2 p2 A2 rfl (by decide) _ k _ rfl (HO.out.alloc _) ⟨wr.heap.size,0,none⟩ 1 1 [.int .i64 (i:Int)] rfl rfl ?c1 ?c2 (by decide) ?c3 ?c4 ?c5 _ rfl ?_)
                all_goals try (case c1=>exact World.news_of_block (Blk.new' (by simp)))
                all_goals try (case c2=>simp[Value.oneCell'])
                all_goals try (case c3=>unfold maxLen;omega)
                all_goals try (case c4=>omega)
                all_goals try (case c5=>have:=h0.out.size;simp;omega)
                intro g' k0 w2 g0 f0 j0 u0;have I0:=hide (show w2.ownsRow wx.heap.size 3 1 _ (k+1) (JA (ZB i) (k+1)) by rw[OA,A0.out];exact g0);have w0:=hide ((h0.out.alloc (by have:=h0.out.size;omega) _).trans (nA f0 (fun g hg=>(HO.out.lt g hg).1) (by have:=h0.out.size;simp;omega)));clear g0 f0 j0 u0;go_wp2;go_roundw
                case rel =>
                 first
                 | exact⟨k+1,by omega,by go_num,I0,w0⟩
                 | ((try rw[<-M0]);(repeat apply Exists.intro);exact⟨⟨k+1,by omega,by go_num,I0,w0⟩,rfl⟩)
                case measure=>simp[intOf];omega
              ·have p1:k=S:=by omega
               subst p1;have V0:(k:Int)<=(k:Int):=Int.le_refl _;obtain⟨gn,cn,rfl,O4,P4⟩:=HO.out.form (by omega);have W0:=H0.out.below h0.out H0.out.lt;obtain⟨g,c,t1,t2,t3,t4⟩:=HT.out.below h0.out;have n2:=W0.cell 1;simp at n2;have a3:∀o,(wr.alloc o).cell? ⟨w7.heap.size,1,none⟩=some VB:=fun o=>(W0.alloc o).cell 1;have K0:∀j,Value.ownBlock VB=some j->w7.heap.size+1<=j:=fun j hj=>(t1.lt j hj).1;have b3:w7.heap.size+1<=w7.heap.size+1:=lR;have B1:=hide t1;clear t1;go_wp2_with (at_builtin;refine wpList_append_lies _ rfl _ _ _ rfl (w7.heap.size+1) 32 i2 _ 1 24 Tryz.underlying22 Y3 Z3 a4 b4 rfl (by decide) _ i _ rfl (B1.out.alloc _) ⟨wr.heap.size,0,none⟩ 1 1 [.slice (some ⟨gn,0,none⟩) k cn] rfl rfl ?c1 ?c2 (by decide) ?c3 ?c4 ?c5 _ rfl ?_)
               all_goals try (case c1=>exact World.news_of_block (Blk.new' (by simp)))
               all_goals try (case c2=>simp[Value.oneCell'])
               all_goals try (case c3=>unfold maxLen;omega)
               all_goals try (case c4=>omega)
               all_goals try (case c5=>have:=h0.out.size;simp;omega)
               intro g' k0 w2 g0 f0 j0 u0;have d3:=hide (BA.push (Z:=ZB) (B1.out.alloc (.cells #[.slice (some ⟨gn,0,none⟩) k cn] 32)) t2 (fun r hr=>⟨(t3 r hr).1.alloc _,(t3 r hr).2⟩) t4 (by omega) (HO.out.alloc _) g0 f0 (by simpa using j0));have B0:=OB (W0.alloc (.cells #[.slice (some ⟨gn,0,none⟩) k cn] 32)) f0 (fun e=>by have:=K0 _ e;omega);have w0:=hide ((G0.out.trans (h0.out.mono Z2)).alloc (by have:=h0.out.size;omega) (.cells #[.slice (some ⟨gn,0,none⟩) k cn] 32) |>.trans (nA f0 (fun g hg=>by have:=K0 g hg;omega) (by have:=h0.out.size;simp;omega)));have M3:=f0.size;have m1:=B0.cell 1;have mf:=B0.frozen;simp at m1;have C1:=hide B0;clear g0 f0 j0 u0 B1 t2 t3 t4 W0 B0 n2 a3;go_wp2;have F0:=hide (C1.out.set 1 (.slice (some ⟨g',0,none⟩) (i+1) k0));simp at F0;have I2:w2.grownBy (w2.setCell ⟨w7.heap.size,1,none⟩ (.slice (some ⟨g',0,none⟩) (i+1) k0)) (some w7.heap.size):=⟨rfl,rfl,rfl,by simp,fun j _ L1=>by
                show (w2.heap.modify w7.heap.size _)[j]? = _;rw[Array.getElem?_modify,if_neg (fun e=>L1 (by rw[e]))]⟩
               have R1:=hide ((d3.out.kept I2 (fun k hk=>Or.inl (by have e:w7.heap.size=k:=(by simpa using hk);omega))).mono lR (Nat.le_of_eq (show w2.heap.size=(w2.setCell ⟨w7.heap.size,1,none⟩ (.slice (some ⟨g',0,none⟩) (i+1) k0)).heap.size by simp)));have U1:=hide (w0.out.setCell (p:=⟨w7.heap.size,1,none⟩) lR (.slice (some ⟨g',0,none⟩) (i+1) k0));go_roundw
               case rel =>
                first
                | exact⟨i+1,_,by omega,by go_num,F0,R1,U1⟩
                | ((try rw[<-M0]);(repeat apply Exists.intro);exact⟨⟨i+1,_,by omega,by go_num,F0,R1,U1⟩,rfl⟩)
               case measure=>simp[intOf];omega
            ·have D2:S=i:=by omega
             subst D2;have U3:(S:Int)<=(S:Int):=Int.le_refl _;obtain⟨w8,rfl⟩:∃w8,w8=wx:=⟨wx,rfl⟩;have D1:Hid (∀W':World,Below w7.heap.size V W'->Blk W' w.heap.size #[.int .i64 h.kind,.int .i64 h.n,.slice h.eg h.en h.ec,.slice h.pg h.pn h.pc] 37/\(∀i,i<h.en->W'.cell? ⟨h.eb,h.eo+i,none⟩=some (.int .i64 (h.ev i)))/\Below w6.heap.size w6 W'):=hide (fun W' hb=>by
              have e3:Below w6.heap.size w6 W':=(N0.trans (H4.mono N0.size)).trans (hb.mono N0.size);exact⟨b1.below e3 b1.lt,fun i hi=>(e3.cell (p:=⟨h.eb,h.eo+i,none⟩) (Nat.lt_of_lt_of_le (hh.el (by omega)) HW.out.size)).trans (o3.out.ecell i hi),e3⟩)
             obtain⟨a2,_,_⟩:=D1.out w8 G0.out;have y2:=a2.cell 2;simp at y2;go_wp2_with fail
             go_loopw [21] (fun i wx=>∃ (k:Nat) (VE:Value),k<=h.en/\i=.int .i64 k/\Hid (Blk wx w7.heap.size #[.int .i64 (S:Int),VB,VE] 24)/\Hid (BA (w7.heap.size+1) w8.heap.size VB S S ZB wx)/\Hid (BA w8.heap.size wx.heap.size VE k S ZE wx)/\Hid (Below w7.heap.size V wx)/\Hid (w8.heap.size<=wx.heap.size)) (fun i _=>h.en-(intOf i).toNat)
             case atStart=>exact⟨0,_,zL,rfl,H0,HT,hide (BA.nil _ _ _ _ _),G0,hide lR⟩
             case round =>
              clear H0 HT G0 a2 y2 p0;obtain⟨i,VE,hi,rfl,H0,U0,j1,G0,Q4⟩:=hrel;obtain⟨wx,rfl⟩:∃wx,wx=wr:=⟨wr,rfl⟩;have h3:=Q4.out;have N3:w7.heap.size+1<=wx.heap.size:=by omega
              have A1:w7.heap.size<=wx.heap.size:=by omega
              obtain⟨a2,_,H1⟩:=D1.out wx G0.out;have y2:=a2.cell 2;simp at y2;have p0:=H0.out.cell 0;simp at p0;by_cases L0:i<h.en
              ·have F2:(i:Int)<(h.en:Int):=by omega
               have M0:=hh.ea (by omega);obtain⟨N4,i4⟩:=F3.out i L0;go_wp2_with fail
               go_loopw [22,23] (fun v j wy=>∃k:Nat,k<=S/\j=.int .i64 k/\Hid (wy.ownsRow wx.heap.size 3 1 v k (JA (ZE i) k))/\Hid (Below wx.heap.size wx wy)) (fun _ j _=>S-(intOf j).toNat)
               case atStart=>exact⟨0,zL,rfl,hide (World.ownsRow_nil _ _ _ _),hide (Below.refl _ _)⟩
               case round =>
                obtain⟨k,hk,rfl,HO,h0⟩:=hrel;clear a2 y2 p0;have C0:=H0.out.below h0.out H0.out.lt;obtain⟨I1,G1,_⟩:=D1.out wr (G0.out.trans (h0.out.mono A1));have p0:=C0.cell 0;have x0:=I1.cell 0;have x1:=I1.cell 1;have x2:=I1.cell 2;have xe:=G1 i L0;simp at p0 x0 x1 x2;have J2:=HN.out;have K2:=HS.out;have Z0:(h.evN i:Int)=h.ev i:=by unfold yA.evN;omega
                by_cases j2:k<S
                ·have V0:(k:Int)<(S:Int):=by omega
                 by_cases c1:k+1=S
                 ·have q1:((k:Int) == (S:Int)-1)=true:=by simp;omega
                  have A0:Hid (ZE i k=((S:Int)-1)):=hide (by rw[H2.out];show ((min (k+h.evN i) (N+1):Nat):Int)=_;omega);have q2:h.ev i<=(k:Int):=by omega
                  clear c1 J2 K2 Z0 C0 I1 G1;go_wp2_with (at_builtin;refine wpList_append_lies _ rfl _ _ _ rfl wx.heap.size 3 i1 _ 1 8 Tryz.underlying32 m2 o2 p2 A2 rfl (by decide) _ k _ rfl (HO.out.alloc _) ⟨wr.heap.size,0,none⟩ 1 1 [.int .i64 ((S:Int)-1:Int)] rfl rfl ?c1 ?c2 (by decide) ?c3 ?c4 ?c5 _ rfl ?_)
                  all_goals try (case c1=>exact World.news_of_block (Blk.new' (by simp)))
                  all_goals try (case c2=>simp[Value.oneCell'])
                  all_goals try (case c3=>unfold maxLen;omega)
                  all_goals try (case c4=>omega)
                  all_goals try (case c5=>have:=h0.out.size;simp;omega)
                  intro g' k0 w2 g0 f0 j0 u0;have I0:=hide (show w2.ownsRow wx.heap.size 3 1 _ (k+1) (JA (ZE i) (k+1)) by rw[OA,A0.out];exact g0);have w0:=hide ((h0.out.alloc (by have:=h0.out.size;omega) _).trans (nA f0 (fun g hg=>(HO.out.lt g hg).1) (by have:=h0.out.size;simp;omega)));clear g0 f0 j0 u0;go_wp2;go_roundw
                  case rel =>
                   first
                   | exact⟨k+1,by omega,by go_num,I0,w0⟩
                   | ((try rw[<-M0]);(repeat apply Exists.intro);exact⟨⟨k+1,by omega,by go_num,I0,w0⟩,rfl⟩)
                  case measure=>simp[intOf];omega
                 ·have q1:((k:Int) == (S:Int)-1)=false:=by simp;omega
                  by_cases c2:h.n<(k:Int)+h.ev i
                  ·have A0:Hid (ZE i k=((S:Int)-1)):=hide (by rw[H2.out];show ((min (k+h.evN i) (N+1):Nat):Int)=_;omega);clear c1 J2 K2 Z0 C0 I1 G1;go_wp2_with (at_builtin;refine wpList_append_lies _ rfl _ _ _ rfl wx.heap.size 3 i1 _ 1 8 Tryz.underlying32 m2 o2 p2 A2 rfl (by decide) _ k _ rfl (HO.out.alloc _) ⟨wr.heap.size,0,none⟩ 1 1 [.int .i64 ((S:Int)-1:Int)] rfl rfl ?c1 ?c2 (by decide) ?c3 ?c4 ?c5 _ rfl ?_)
                   all_goals try (case c1=>exact World.news_of_block (Blk.new' (by simp)))
                   all_goals try (case c2=>simp[Value.oneCell'])
                   all_goals try (case c3=>unfold maxLen;omega)
                   all_goals try (case c4=>omega)
                   all_goals try (case c5=>have:=h0.out.size;simp;omega)
                   intro g' k0 w2 g0 f0 j0 u0;have I0:=hide (show w2.ownsRow wx.heap.size 3 1 _ (k+1) (JA (ZE i) (k+1)) by rw[OA,A0.out];exact g0);have w0:=hide ((h0.out.alloc (by have:=h0.out.size;omega) _).trans (nA f0 (fun g hg=>(HO.out.lt g hg).1) (by have:=h0.out.size;simp;omega)));clear g0 f0 j0 u0;go_wp2;go_roundw
                   case rel =>
                    first
                    | exact⟨k+1,by omega,by go_num,I0,w0⟩
                    | ((try rw[<-M0]);(repeat apply Exists.intro);exact⟨⟨k+1,by omega,by go_num,I0,w0⟩,rfl⟩)
                   case measure=>simp[intOf];omega
                  ·have q3:(k:Int)+h.ev i<=h.n:=by omega
                   have A0:Hid (ZE i k=(k:Int)+h.ev i):=hide (by rw[H2.out];show ((min (k+h.evN i) (N+1):Nat):Int)=_;omega);clear c1 c2 J2 K2 Z0 C0 I1 G1;go_wp2_with (at_builtin;refine wpList_append_lies _ rfl _ _ _ rfl wx.heap.size 3 i1 _ 1 8 Tryz.underlying32 m2 o2 p2 A2 rfl (by decide) _ k _ rfl (HO.out.alloc _) ⟨wr.heap.size,0,none⟩ 1 1 [.int .i64 ((k:Int)+h.ev i:Int)] rfl rfl ?c1 ?c2 (by decide) ?c3 ?c4 ?c5 _ rfl ?_)
                   all_goals try (case c1=>exact World.news_of_block (Blk.new' (by simp)))
                   all_goals try (case c2=>simp[Value.oneCell'])
                   all_goals try (case c3=>unfold maxLen;omega)
                   all_goals try (case c4=>omega)
                   all_goals try (case c5=>have:=h0.out.size;simp;omega)
                   intro g' k0 w2 g0 f0 j0 u0;have I0:=hide (show w2.ownsRow wx.heap.size 3 1 _ (k+1) (JA (ZE i) (k+1)) by rw[OA,A0.out];exact g0);have w0:=hide ((h0.out.alloc (by have:=h0.out.size;omega) _).trans (nA f0 (fun g hg=>(HO.out.lt g hg).1) (by have:=h0.out.size;simp;omega)));clear g0 f0 j0 u0;go_wp2;go_roundw
                   case rel =>
                    first
                    | exact⟨k+1,by omega,by go_num,I0,w0⟩
                    | ((try rw[<-M0]);(repeat apply Exists.intro);exact⟨⟨k+1,by omega,by go_num,I0,w0⟩,rfl⟩)
                   case measure=>simp[intOf];omega
                ·have p1:S=k:=by omega
                 subst p1;have V0:(S:Int)<=(S:Int):=Int.le_refl _;clear J2 K2 Z0 C0 I1 G1 x0 x1 x2 xe;obtain⟨gn,cn,rfl,O4,P4⟩:=HO.out.form (by omega);have W0:=H0.out.below h0.out H0.out.lt;obtain⟨g,c,t1,t2,t3,t4⟩:=j1.out.below h0.out;have i3:=hide (U0.out.below h0.out);have n2:=W0.cell 2;simp at n2;have a3:∀o,(wr.alloc o).cell? ⟨w7.heap.size,2,none⟩=some VE:=fun o=>(W0.alloc o).cell 2;have K0:∀j,Value.ownBlock VE=some j->w8.heap.size<=j:=fun j hj=>(t1.lt j hj).1;have b3:w7.heap.size+1<=w8.heap.size:=by omega
                 have B1:=hide t1;clear t1;go_wp2_with (at_builtin;refine wpList_append_lies _ rfl _ _ _ rfl (w8.heap.size) 32 i2 _ 1 24 Tryz.underlying22 Y3 Z3 a4 b4 rfl (by decide) _ i _ rfl (B1.out.alloc _) ⟨wr.heap.size,0,none⟩ 1 1 [.slice (some ⟨gn,0,none⟩) S cn] rfl rfl ?c1 ?c2 (by decide) ?c3 ?c4 ?c5 _ rfl ?_)
                 all_goals try (case c1=>exact World.news_of_block (Blk.new' (by simp)))
                 all_goals try (case c2=>simp[Value.oneCell'])
                 all_goals try (case c3=>unfold maxLen;omega)
                 all_goals try (case c4=>omega)
                 all_goals try (case c5=>have:=h0.out.size;simp;omega)
                 intro g' k0 w2 g0 f0 j0 u0;have d3:=hide (BA.push (Z:=ZE) (B1.out.alloc (.cells #[.slice (some ⟨gn,0,none⟩) S cn] 32)) t2 (fun r hr=>⟨(t3 r hr).1.alloc _,(t3 r hr).2⟩) t4 (by omega) (HO.out.alloc _) g0 f0 (by simpa using j0));have B0:=OB (W0.alloc (.cells #[.slice (some ⟨gn,0,none⟩) S cn] 32)) f0 (fun e=>by have:=K0 _ e;omega);have w0:=hide ((G0.out.trans (h0.out.mono A1)).alloc (by have:=h0.out.size;omega) (.cells #[.slice (some ⟨gn,0,none⟩) S cn] 32) |>.trans (nA f0 (fun g hg=>by have:=K0 g hg;omega) (by have:=h0.out.size;simp;omega)));have M3:=f0.size;have j3:=hide ((i3.out.alloc (.cells #[.slice (some ⟨gn,0,none⟩) S cn] 32)).kept f0 (fun j hj=>Or.inr (K0 j hj)));have m1:=B0.cell 2;have mf:=B0.frozen;simp at m1;have C1:=hide B0;clear g0 f0 j0 u0 B1 t2 t3 t4 W0 B0 n2 a3;go_wp2;have F0:=hide (C1.out.set 2 (.slice (some ⟨g',0,none⟩) (i+1) k0));simp at F0;have I2:w2.grownBy (w2.setCell ⟨w7.heap.size,2,none⟩ (.slice (some ⟨g',0,none⟩) (i+1) k0)) (some w7.heap.size):=⟨rfl,rfl,rfl,by simp,fun j _ L1=>by
                  show (w2.heap.modify w7.heap.size _)[j]? = _;rw[Array.getElem?_modify,if_neg (fun e=>L1 (by rw[e]))]⟩
                 have R1:=hide ((d3.out.kept I2 (fun k hk=>Or.inl (by have e:w7.heap.size=k:=(by simpa using hk);omega))).mono lR (Nat.le_of_eq (show w2.heap.size=(w2.setCell ⟨w7.heap.size,2,none⟩ (.slice (some ⟨g',0,none⟩) (i+1) k0)).heap.size by simp)));have U1:=hide (w0.out.setCell (p:=⟨w7.heap.size,2,none⟩) lR (.slice (some ⟨g',0,none⟩) (i+1) k0));have V1:=hide (j3.out.kept I2 (fun k hk=>Or.inl (by have e:w7.heap.size=k:=(by simpa using hk);omega)));have W1:=hide (show w8.heap.size<=(w2.setCell ⟨w7.heap.size,2,none⟩ (.slice (some ⟨g',0,none⟩) (i+1) k0)).heap.size by have:=h0.out.size;simp at M3;simp;omega);go_roundw
                 case rel =>
                  first
                  | exact⟨i+1,_,by omega,by go_num,F0,V1,R1,U1,W1⟩
                  | ((try rw[<-M0]);(repeat apply Exists.intro);exact⟨⟨i+1,_,by omega,by go_num,F0,V1,R1,U1,W1⟩,rfl⟩)
                 case measure=>simp[intOf];omega
              ·have D2:i=h.en:=by omega
               have F2:(h.en:Int)<=(i:Int):=by omega
               subst D2;obtain⟨b2,O0,rfl⟩:=U0.out.form;obtain⟨h2,P0,rfl⟩:=j1.out.form;have n1:=H0.out.cell 1;have n2:=H0.out.cell 2;simp at n1 n2;have R0:=D0.below H1 D0.lt;have y0:=R0.cell 0;have y1:=R0.cell 1;have y3:=R0.cell 2;have yf:=R0.frozen;have K1:=R0.set3 (.int .i64 (S:Int)) (.slice b2 S O0) (.slice h2 h.en P0);have s0:=K1.cell 0;have s1:=K1.cell 1;have s2:=K1.cell 2;unfold st3 at s0 s1 s2;simp at y0 y1 y3 s0 s1 s2;have HA:Hid (kK (.mk h sub) w.heap.size (.returned (.tuple #[.agg #[.int .i64 (S:Int),.slice b2 S O0,.slice h2 h.en P0],.int .i64 0])) (st3 wx (w.heap.size+1) (.int .i64 (S:Int)) (.slice b2 S O0) (.slice h2 h.en P0))):=hide (Or.inl ⟨Hx.out,_,_,by rw[O1.out,show (mG N h.en h.evN).size=S from HS.out.symm],by
                rw[O1.out];refine(lF (lo:=w7.heap.size+1) ⟨w8.heap.size,by omega,h3,?_,?_⟩ (by have:=N0.size;have:=HW.out.size;omega) _ _ _).lower (by have:=N0.size;have:=HW.out.size;omega)
                ·have:=U0.out;rw[X2.out]at this;rw[show (mG N h.en h.evN).size=S from HS.out.symm];exact this
                ·have:=j1.out;rw[H2.out]at this;rw[show (mG N h.en h.evN).size=S from HS.out.symm];exact this⟩)
               have P1:=hide (iB (HW.out.trans (H1.mono HW.out.size)) (show w.heap.size<=w.heap.size+1 by omega) (.int .i64 (S:Int)) (.slice b2 S O0) (.slice h2 h.en P0));clear U0 j1 R0 K1 H1;go_wp2;exact bodyPost_ret (v:=.tuple #[.agg #[.int .i64 (S:Int),.slice b2 S O0,.slice h2 h.en P0],.int .i64 0]) (by simp[results,Tryz.results36,go_sem,s0,s1,s2]) rfl ⟨HA.out,P1.out⟩
       ·have U2:=hide (jA h.n 1 22 wr);rw[show (decide ((1:Int)<=h.n) && decide (h.n<=22))=false by simp;omega]at U2;have Hx:Hid (fA.err (.mk h sub)=3):=hide (by rw[he];unfold YB;rw[if_neg (by omega),if_pos (by omega)]);clear g1 g2 he Q0;cases L2 with
        | true =>
         simp only[Bool.not_true]at v3;go_wp2_with (go_at_call 52;refine U2.out.mono ?_;rintro r w' ⟨rfl,rfl⟩);exact bodyPost_ret (v:=.tuple #[.agg #[.int .i64 0,.slice none 0 0,.slice none 0 0],.int .i64 3]) (by simp[results,Tryz.results36,go_sem,e0,e1,e2]) rfl ⟨Or.inr ⟨by rw[Hx.out];decide,by rw[Hx.out]⟩,k2.out⟩
        | false =>
         simp only[Bool.not_false]at v3;go_wp2_with (go_at_call 52;refine U2.out.mono ?_;rintro r w' ⟨rfl,rfl⟩);exact bodyPost_ret (v:=.tuple #[.agg #[.int .i64 0,.slice none 0 0,.slice none 0 0],.int .i64 3]) (by simp[results,Tryz.results36,go_sem,e0,e1,e2]) rfl ⟨Or.inr ⟨by rw[Hx.out];decide,by rw[Hx.out]⟩,k2.out⟩
      ·have f5:((h.pn:Int) != 0)=true:=by simp[g1]
       have Hx:Hid (fA.err (.mk h sub)=1):=hide (by rw[he];unfold YB;rw[if_pos g1]);clear g1 he Q0;cases L2 with
       | true =>
        simp only[Bool.not_true]at v3;go_wp2;exact bodyPost_ret (v:=.tuple #[.agg #[.int .i64 0,.slice none 0 0,.slice none 0 0],.int .i64 1]) (by simp[results,Tryz.results36,go_sem,e0,e1,e2]) rfl ⟨Or.inr ⟨by rw[Hx.out];decide,by rw[Hx.out]⟩,k2.out⟩
       | false =>
        simp only[Bool.not_false]at v3;go_wp2;exact bodyPost_ret (v:=.tuple #[.agg #[.int .i64 0,.slice none 0 0,.slice none 0 0],.int .i64 1]) (by simp[results,Tryz.results36,go_sem,e0,e1,e2]) rfl ⟨Or.inr ⟨by rw[Hx.out];decide,by rw[Hx.out]⟩,k2.out⟩
    ·have f1:(h.kind == 1)=false:=by simp;omega
     have f2:(h.kind == 2)=false:=by simp;omega
     have f3:(h.kind == 3)=false:=by simp;omega
     have f4:(h.kind == 4)=false:=by simp;omega
     have Hx:Hid (fA.err (.mk h sub)=7):=hide (by rw[Hp.out];unfold OC;rw[if_neg (by omega),if_neg (by omega),if_neg (by omega)]);clear kk;go_wp2;exact bodyPost_ret (v:=.tuple #[.agg #[.int .i64 0,.slice none 0 0,.slice none 0 0],.int .i64 7]) (by simp[results,Tryz.results36,go_sem,e0,e1,e2]) rfl ⟨Or.inr ⟨by rw[Hx.out];decide,by rw[Hx.out]⟩,k2.out⟩
end Go.Proofs.YtjhkadffaephmacGreat
