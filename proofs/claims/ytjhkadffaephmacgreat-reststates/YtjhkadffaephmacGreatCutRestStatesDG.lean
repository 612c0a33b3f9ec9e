import Derived.Test.YtjhkadffaephmacGreatCutRestStatesDF
namespace Go.Proofs.YtjhkadffaephmacGreat
set_option maxHeartbeats 16000000
set_option maxRecDepth 100000
open Go.RowKit
theorem MR {x:FB}{b:Nat}{VB VE:Value}{w:World}(h:NC x b w.heap.size VB VE w)(hx:x.Ok):qK x.alg 0 (.returned (.tuple #[.agg #[.int .i64 x.size,VB,VE],.int .i64 0])) w:=by
 obtain⟨m,rfl,rfl,hl,hi⟩:=UH h hx;refine⟨m,?_,?_,hi⟩
 ·rw[<-hl.size];rfl
 ·unfold xA.alg FB.alg;rw[hl.size,hl.B,hl.E]
theorem iO (p:fA)(w:World)(hin:p.In w.heap.size w):
 Calls Tryz.prog 10 #[p.head.val] w fun e w'=>qK p.res p.chk e w'/\Below w.heap.size w w':=by
 have v0:Below w.heap.size w ((w.alloc (.cells p.head.cells 37)).alloc (.cells #[.int .i64 0,.slice none 0 0,.slice none 0 0] 24)):=((Below.refl _ w).alloc lR _).alloc (by simp) _;have b0:=(Blk.new w p.head.cells 37).alloc (.cells #[.int .i64 0,.slice none 0 0,.slice none 0 0] 24);have bR:Blk ((w.alloc (.cells p.head.cells 37)).alloc (.cells #[.int .i64 0,.slice none 0 0,.slice none 0 0] 24)) (w.heap.size+1) #[.int .i64 0,.slice none 0 0,.slice none 0 0] 24:=Blk.new' (by simp);have HC:=hide (yP p 4 _ lR (hin.grown v0));have z0:((w.alloc (.cells p.head.cells 37)).alloc (.cells #[.int .i64 0,.slice none 0 0,.slice none 0 0] 24)).heap.size=w.heap.size+2:=by simp
 have Hm:=hide (show (p.deep 4=true\/p.wide=true)->p.res=gF.alg/\p.chk=2 from fun h=>by
  have e:p.chk=2:=by unfold fA.chk;rw[if_pos (by rw[iM];simpa using h)]
  exact⟨by unfold fA.res;rw[if_neg (by rw[e];decide)],e⟩)
 have Hn:=hide (show p.deep 4=false->p.wide=false->p.chk=p.err from fun h1 h2=>by
  unfold fA.chk;rw[if_neg (by rw[iM,h1,h2];simp)])
 simp only[yA.val,yA.cells]at *;go_enter Tryz.func10,Tryz.ntmps10;go_wp2_with fail;go_at_call 34;refine HC.out.mono ?_;rintro r w1 ⟨n,rfl,⟨C0,D0,s0⟩,o0⟩;rw[z0]at o0;have hB:=v0.trans (o0.mono (by omega));have f0:=bR.below o0 (by omega);have b1:=b0.below o0 (by omega);clear HC;have d0:=f0.cell 0;have d1:=f0.cell 1;have d2:=f0.cell 2;have df:=f0.frozen;have g0:=f0.set3 (.int .i64 2) (.slice none 0 0) (.slice none 0 0);simp at d0 d1 d2;by_cases h4:4<n
 ·have A0:(4:Int)<(n:Int):=by omega
  obtain⟨hr,hc⟩:=Hm.out (Or.inl (s0.1 h4));have HR:=hide hr;have HK:=hide hc;have g0:=f0.set3 (.int .i64 0) (.slice none 0 0) (.slice none 0 0);have e0:=g0.cell 0;have e1:=g0.cell 1;have e2:=g0.cell 2;unfold st3 at e0 e1 e2;simp at e0 e1 e2;have k0:=hide (iB hB (show w.heap.size<=w.heap.size+1 by omega) (.int .i64 0) (.slice none 0 0) (.slice none 0 0));clear hr hc s0 Hm Hn;go_wp2;exact bodyPost_ret (v:=.tuple #[.agg #[.int .i64 0,.slice none 0 0,.slice none 0 0],.int .i64 2]) (by simp[results,Tryz.results10,go_sem,e0,e1,e2]) rfl ⟨⟨gF,by rw[HK.out];rfl,HR.out.symm,JG _ _⟩,k0.out⟩
 ·have A0:(n:Int)<=4:=by omega
  have hd:p.deep 4=false:=by rw[Bool.eq_false_iff];exact fun h=>h4 (s0.2 h)
  have HD:=hide hd;clear hd s0 h4;have c0:=b1.cell 0;have c1:=b1.cell 1;have c2:=b1.cell 2;have c3:=b1.cell 3;simp at c0 c1 c2 c3;have HW:=hide (vO p w1 (hin.grown hB));simp only[yA.val,yA.cells]at HW;go_wp2_with fail;go_at_call 35;refine HW.out.mono ?_;rintro r w2 ⟨rfl,p0⟩;have:w.heap.size+2<=w1.heap.size:=by have:=o0.size;omega
  have i0:=f0.below p0 f0.lt;have b2:=b1.below p0 b1.lt;have q0:=hB.trans (p0.mono hB.size);have:=p0.size;clear d0 d1 d2 df c0 c1 c2 c3 HW;have d0:=i0.cell 0;have d1:=i0.cell 1;have d2:=i0.cell 2;have df:=i0.frozen;simp at d0 d1 d2;cases hw:p.wide with
  | true =>
   obtain⟨hr,hc⟩:=Hm.out (Or.inr hw);have HR:=hide hr;have HK:=hide hc;have g0:=i0.set3 (.int .i64 0) (.slice none 0 0) (.slice none 0 0);have e0:=g0.cell 0;have e1:=g0.cell 1;have e2:=g0.cell 2;unfold st3 at e0 e1 e2;simp at e0 e1 e2;have k0:=hide (iB q0 (show w.heap.size<=w.heap.size+1 by omega) (.int .i64 0) (.slice none 0 0) (.slice none 0 0));clear hr hc Hm Hn hw;go_wp2;exact bodyPost_ret (v:=.tuple #[.agg #[.int .i64 0,.slice none 0 0,.slice none 0 0],.int .i64 2]) (by simp[results,Tryz.results10,go_sem,e0,e1,e2]) rfl ⟨⟨gF,by rw[HK.out];rfl,HR.out.symm,JG _ _⟩,k0.out⟩
  | false =>
   have HE:=hide (Hn.out HD.out hw);have u0:=hide (WL p w2 (hin.grown q0) hw);have B0:=hide hw;clear hw Hm Hn;have c0:=b2.cell 0;have c1:=b2.cell 1;have c2:=b2.cell 2;have c3:=b2.cell 3;simp at c0 c1 c2 c3;simp only[yA.val,yA.cells]at u0;go_wp2_with fail;go_at_call 36;refine u0.out.mono ?_;rintro e w3 ⟨ha,y0⟩;have m0:=i0.below y0 i0.lt;have w0:=q0.trans (y0.mono q0.size);clear d0 d1 d2 df c0 c1 c2 c3 u0 b0 b1 b2 bR f0 i0 g0 o0 p0;have d0:=m0.cell 0;have d1:=m0.cell 1;have d2:=m0.cell 2;have df:=m0.frozen;simp at d0 d1 d2;rcases ha with ⟨h0,VB,VE,rfl,ht⟩ | ⟨h0,rfl⟩
   ·obtain⟨gB,cB,gE,cE,rfl,rfl⟩:=yE ht;have x0:=(ME h0 B0.out).1;have j0:=m0.set3 (.int .i64 p.built.size) (.slice gB p.built.size cB) (.slice gE p.built.el cE);have e0:=j0.cell 0;have e1:=j0.cell 1;have e2:=j0.cell 2;unfold st3 at e0 e1 e2;simp at e0 e1 e2;have k0:=hide (iB w0 (show w.heap.size<=w.heap.size+1 by omega) (.int .i64 p.built.size) (.slice gB p.built.size cB) (.slice gE p.built.el cE));have HA:Hid (qK p.res p.chk (.returned (.tuple #[.agg #[.int .i64 p.built.size,.slice gB p.built.size cB,.slice gE p.built.el cE],.int .i64 0])) (st3 w3 (w.heap.size+1) (.int .i64 p.built.size) (.slice gB p.built.size cB) (.slice gE p.built.el cE))):=hide (by
     have hc:p.chk=0:=by rw[HE.out,h0]
     rw[show p.res=p.built.alg by unfold fA.res;rw[if_pos hc],hc];exact MR (lF ht (by omega) _ _ _) x0)
    clear ht x0 h0 m0 j0;go_wp2;exact bodyPost_ret (v:=.tuple #[.agg #[.int .i64 p.built.size,.slice gB p.built.size cB,.slice gE p.built.el cE],.int .i64 0]) (by simp[results,Tryz.results10,go_sem,e0,e1,e2]) rfl ⟨HA.out,k0.out⟩
   ·have j0:=m0.set3 (.int .i64 0) (.slice none 0 0) (.slice none 0 0);have e0:=j0.cell 0;have e1:=j0.cell 1;have e2:=j0.cell 2;unfold st3 at e0 e1 e2;simp at e0 e1 e2;have k0:=hide (iB w0 (show w.heap.size<=w.heap.size+1 by omega) (.int .i64 0) (.slice none 0 0) (.slice none 0 0));have HR:=hide (show p.res=gF.alg by unfold fA.res;rw[if_neg (by rw[HE.out];exact h0)]);clear h0;generalize hce:p.err=ce at *;have HK:=hide (HE.out);clear hce;go_wp2;exact bodyPost_ret (v:=.tuple #[.agg #[.int .i64 0,.slice none 0 0,.slice none 0 0],.int .i64 ce]) (by simp[results,Tryz.results10,go_sem,e0,e1,e2]) rfl ⟨⟨gF,by rw[HK.out];rfl,HR.out.symm,JG _ _⟩,k0.out⟩
end Go.Proofs.YtjhkadffaephmacGreat
