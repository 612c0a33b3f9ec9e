import Derived.Test.YtjhkadffaephmacGreatCutRestStatesCC
namespace Go.Proofs.YtjhkadffaephmacGreat
set_option maxHeartbeats 16000000
set_option maxRecDepth 100000
open Go.RowKit
structure iA.Same (x z:iA):Prop where
 gn:x.rs.gn=z.rs.gn
 ints:∀i,i<x.rs.gn->XA (x.rs.r i).rl (z.rs.r i).rl (x.rs.r i).R (z.rs.r i).R=true
 told:∀i,i<x.rs.gn->(x.rs.r i).T.t.same (z.rs.r i).T.t=true
 bn:x.bag.bn=z.bag.bn
 mail:∀i,i<x.bag.bn->x.bag.M i=z.bag.M i
structure SEG (x z:iA) (w W:World):Prop where
 below:Below w.heap.size w W
 bx:Blk W w.heap.size x.cells 31
 bz:Blk W (w.heap.size+1) z.cells 31
theorem SEG.keep {x z:iA}{w W W':World}(h:SEG x z w W)(hb:Below W.heap.size W W'):SEG x z w W':=⟨h.below.trans (hb.mono h.below.size),h.bx.below hb h.bx.lt,h.bz.below hb h.bz.lt⟩
theorem yJ (x z:iA)(w:World)(hx:x.In w.heap.size w)(hz:z.In w.heap.size w)(hs:x.Same z):
 Calls Tryz.prog 20 #[x.val,z.val] w fun r w'=>r=.returned (.bool true)/\Below w.heap.size w w':=by
 obtain⟨W1,i0⟩:∃W1,W1=(w.alloc (.cells x.cells 31)).alloc (.cells z.cells 31):=⟨_,rfl⟩;have L0:Hid (SEG x z w W1):=hide ⟨by rw[i0];exact((Below.refl _ w).alloc lR _).alloc (by simp) _,by rw[i0];exact(Blk.new w _ _).alloc _,by rw[i0];exact Blk.new' (by simp)⟩;obtain⟨N,hN⟩:∃N,N=x.rs.gn:=⟨_,rfl⟩;obtain⟨B,hB⟩:∃B,B=x.bag.bn:=⟨_,rfl⟩;have D0:=hx.rs.len;have E0:=hx.bag.len;unfold maxLen at D0 E0;rw[<-hN]at D0;rw[<-hB]at E0;have w0:x.cells=#[.slice x.rs.ga N x.rs.gc,.slice x.bag.ba B x.bag.bc]:=by rw[hN,hB];rfl
 have y0:z.cells=#[.slice z.rs.ga N z.rs.gc,.slice z.bag.ba B z.bag.bc]:=by rw[hN,hB,hs.gn,hs.bn];rfl
 have Hx:=hide hx;have Hz:=hide hz;have Hs:=hide hs;have F0:=hide hN;have G0:=hide hB;have H0:Hid (N=z.rs.gn):=hide (hN.trans hs.gn);have I0:Hid (B=z.bag.bn):=hide (hB.trans hs.bn);have j0:=hide w0;have z0:=hide y0;simp only[iA.val,w0,y0]at i0 |-;have M0:=hide i0;clear hx hz hs hN hB w0 y0 i0;go_enter Tryz.func20,Tryz.ntmps20;go_wp2_with fail;rw[<-M0.out]
 go_loopw [5] (fun q wr=>∃k:Nat,k<=N/\q=.int .i64 k/\Hid (SEG x z w wr)) (fun q _=>N-(intOf q).toNat)
 case atStart=>exact⟨0,zL,rfl,L0⟩
 case round =>
  obtain⟨k,hk,rfl,HG⟩:=hrel;have x0:=HG.out.bx.cell 0;simp[j0.out]at x0;by_cases g0:k<N
  ·have:(k:Int)<(N:Int):=by omega
   have m0:Hid (x.rs.ga=some ⟨x.rs.gb,x.rs.go,none⟩):=hide (Hx.out.rs.ga (by rw[<-F0.out];omega));have o0:Hid (z.rs.ga=some ⟨z.rs.gb,z.rs.go,none⟩):=hide (Hz.out.rs.ga (by rw[<-H0.out];omega));have h0:Hid (k<x.rs.gn):=hide (by rw[<-F0.out];exact g0);have p0:Hid (k<z.rs.gn):=hide (by rw[<-H0.out];exact g0);have J0:=hide (fun W (hb:Below w.heap.size w W)=>yF (x.rs.r k).ra (z.rs.r k).ra (x.rs.r k).rl (z.rs.r k).rl (x.rs.r k).rc (z.rs.r k).rc (x.rs.r k).rb (x.rs.r k).ro (z.rs.r k).rb (z.rs.r k).ro (x.rs.r k).R (z.rs.r k).R W ((Hx.out.below hb lR).rs.r k h0.out).ints ((Hz.out.below hb lR).rs.r k p0.out).ints);have A0:=hide (fun W (hb:Below w.heap.size w W)=>dD (x.rs.r k).T (z.rs.r k).T w.heap.size W ((Hx.out.below hb lR).rs.r k h0.out).T ((Hz.out.below hb lR).rs.r k p0.out).T);rw[Hs.out.ints k h0.out]at J0;rw[Hs.out.told k h0.out]at A0;simp only[Mat.val]at A0;go_wp2_with fail;refine EA (fun W=>SEG x z w W) (oC [.pointer (some ⟨w.heap.size,0,none⟩),.slice (some ⟨x.rs.gb,x.rs.go,none⟩) N x.rs.gc,.int .i64 (k:Int),.pointer (some ⟨x.rs.gb,x.rs.go+k*2,none⟩),.pointer (some ⟨x.rs.gb,x.rs.go+k*2,none⟩),.slice (x.rs.r k).ra (x.rs.r k).rl (x.rs.r k).rc,.pointer (some ⟨w.heap.size+1,0,none⟩),.slice (some ⟨z.rs.gb,z.rs.go,none⟩) N z.rs.gc,.int .i64 (k:Int),.pointer (some ⟨z.rs.gb,z.rs.go+k*2,none⟩),.pointer (some ⟨z.rs.gb,z.rs.go+k*2,none⟩),.slice (z.rs.r k).ra (z.rs.r k).rl (z.rs.r k).rc,.bool true,.bool false,.bool false,.pointer (some ⟨w.heap.size,0,none⟩),.slice (some ⟨x.rs.gb,x.rs.go,none⟩) N x.rs.gc,.int .i64 (k:Int),.pointer (some ⟨x.rs.gb,x.rs.go+k*2,none⟩),.pointer (some ⟨x.rs.gb,x.rs.go+k*2+1,none⟩),.slice (x.rs.r k).T.ga (x.rs.r k).T.t.len (x.rs.r k).T.cap,.pointer (some ⟨w.heap.size+1,0,none⟩),.slice (some ⟨z.rs.gb,z.rs.go,none⟩) N z.rs.gc,.int .i64 (k:Int),.pointer (some ⟨z.rs.gb,z.rs.go+k*2,none⟩),.pointer (some ⟨z.rs.gb,z.rs.go+k*2+1,none⟩),.slice (z.rs.r k).T.ga (z.rs.r k).T.t.len (z.rs.r k).T.cap,.bool true,.bool false,.bool false]) (by kernel_rfl) (by kernel_rfl) (by kernel_rfl) (HG.out.keep ⟨rfl,rfl,rfl,lR,fun _ _=>rfl⟩) ⟨?_,?_,?_,?_,?_,?_,?_,?_,?_,?_,?_,?_,?_,?_,?_,?_,?_,?_,?_,?_,?_,?_,?_,?_,?_,?_,?_,?_,?_,?_,trivial⟩ ?_;rotate_right
   ·intro t W hG hE;have K0:=aA (hE 29 (by decide)) rfl;have k0:=hide hG;clear hE hG;simp only[fill,Act.put,sX,sY,sU,K0];clear K0;go_wp2;go_roundw
    case rel =>
     first
     | exact⟨k+1,by omega,by go_num,k0⟩
     | ((repeat apply Exists.intro);refine⟨?_,rfl⟩;exact⟨k+1,by omega,by go_num,k0⟩)
    case measure=>simp[intOf];omega
   all_goals intro t W hG hp K hK
   all_goals simp only[fill,Act.put,sX,sY,sU]at hK |-
   rotate_left
   ·have e0:=aA (hp 0 (by decide)) rfl;have qx:=hG.bx.cell 0;simp[j0.out]at qx;rw[m0.out]at qx;simp only[e0]at hK |-;rw[if_pos (by rfl)];go_simp;exact hK _ _ hG rfl (fun _ _ _ h=>h)
   rotate_left 3
   ·have e4:=aA (hp 4 (by decide)) rfl;have cx:=(Hx.out.below hG.below lR).rs.c0 k h0.out;simp only[e4]at hK |-;rw[if_pos (by rfl)];go_simp;exact hK _ _ hG rfl (fun _ _ _ h=>h)
   rotate_left
   ·have e6:=aA (hp 6 (by decide)) rfl;have qz:=hG.bz.cell 0;simp[z0.out]at qz;rw[o0.out]at qz;simp only[e6]at hK |-;rw[if_pos (by rfl)];go_simp;exact hK _ _ hG rfl (fun _ _ _ h=>h)
   rotate_left 3
   ·have q0:=aA (hp 10 (by decide)) rfl;have cz:=(Hz.out.below hG.below lR).rs.c0 k p0.out;simp only[q0]at hK |-;rw[if_pos (by rfl)];go_simp;exact hK _ _ hG rfl (fun _ _ _ h=>h)
   ·have e5:=aA (hp 5 (by decide)) rfl;have N0:=aA (hp 11 (by decide)) rfl;simp only[e5,N0]at hK |-;rw[if_pos (by rfl)];go_simp;go_at_call 27;refine(J0.out W hG.below).mono ?_;rintro r W' ⟨rfl,m',rfl⟩;go_simp;exact hK _ _ (hG.keep (below_drewN (Below.refl _ _) m')) rfl (fun _ _ _ h=>h)
   rotate_left 3
   ·have f0:=aA (hp 14 (by decide)) rfl;have O0:=aA (hp 15 (by decide)) rfl;have qx:=hG.bx.cell 0;simp[j0.out]at qx;rw[m0.out]at qx;simp only[f0,O0]at hK |-;rw[if_pos (by rfl)];go_simp;exact hK _ _ hG rfl (fun _ _ _ h=>h)
   rotate_left 3
   ·have f0:=aA (hp 14 (by decide)) rfl;have P0:=aA (hp 19 (by decide)) rfl;have cx:=(Hx.out.below hG.below lR).rs.c1 k h0.out;simp only[f0,P0]at hK |-;rw[if_pos (by rfl)];go_simp;exact hK _ _ hG rfl (fun _ _ _ h=>h)
   rotate_left
   ·have f0:=aA (hp 14 (by decide)) rfl;have Q0:=aA (hp 21 (by decide)) rfl;have qz:=hG.bz.cell 0;simp[z0.out]at qz;rw[o0.out]at qz;simp only[f0,Q0]at hK |-;rw[if_pos (by rfl)];go_simp;exact hK _ _ hG rfl (fun _ _ _ h=>h)
   rotate_left 3
   ·have f0:=aA (hp 14 (by decide)) rfl;have R0:=aA (hp 25 (by decide)) rfl;have cz:=(Hz.out.below hG.below lR).rs.c1 k p0.out;simp only[f0,R0]at hK |-;rw[if_pos (by rfl)];go_simp;exact hK _ _ hG rfl (fun _ _ _ h=>h)
   ·have f0:=aA (hp 14 (by decide)) rfl;have S0:=aA (hp 20 (by decide)) rfl;have T0:=aA (hp 26 (by decide)) rfl;simp only[f0,S0,T0]at hK |-;rw[if_pos (by rfl)];go_simp;go_at_call 16;refine(A0.out W hG.below).mono ?_;rintro r W' ⟨rfl,m',rfl⟩;go_simp;exact hK _ _ (hG.keep (below_drewN (Below.refl _ _) m')) rfl (fun _ _ _ h=>h)
   all_goals try simp(disch:=first | rfl | decide) only[vat hp,List.getD_cons_succ,List.getD_cons_zero]at hK |-
   all_goals (rw[if_pos (by rfl)];go_simp;exact hK _ _ hG rfl (fun _ _ _ h=>h))
  ·have U0:k=N:=by omega
   subst U0;clear hk g0;go_wp2_with fail
   go_loopw [6] (fun q wr=>∃j:Nat,j<=B/\q=.int .i64 j/\Hid (SEG x z w wr)) (fun q _=>B-(intOf q).toNat)
   case atStart=>exact⟨0,zL,rfl,HG⟩
   case round =>
    obtain⟨j,hj,rfl,C0⟩:=hrel;have x1:=C0.out.bx.cell 1;simp[j0.out]at x1;by_cases g0:j<B
    ·have:(j:Int)<(B:Int):=by omega
     have m0:Hid (x.bag.ba=some ⟨x.bag.bb,x.bag.bo,none⟩):=hide (Hx.out.bag.ba (by rw[<-G0.out];omega));have o0:Hid (z.bag.ba=some ⟨z.bag.bb,z.bag.bo,none⟩):=hide (Hz.out.bag.ba (by rw[<-I0.out];omega));have s0:Hid (j<x.bag.bn):=hide (by rw[<-G0.out];exact g0);have B0:Hid (j<z.bag.bn):=hide (by rw[<-I0.out];exact g0);have Hm:Hid (z.bag.M j=x.bag.M j):=hide (Hs.out.mail j s0.out).symm;go_wp2_with fail;refine EA (fun W=>SEG x z w W) (oC [.pointer (some ⟨w.heap.size,1,none⟩),.slice (some ⟨x.bag.bb,x.bag.bo,none⟩) B x.bag.bc,.int .i64 (j:Int),.pointer (some ⟨x.bag.bb,x.bag.bo+j*3,none⟩),.agg #[.int .i64 (x.bag.M j).F,.int .i64 (x.bag.M j).T,.string ⟨(x.bag.M j).b.toArray⟩],.pointer (some ⟨w.heap.size+1,1,none⟩),.slice (some ⟨z.bag.bb,z.bag.bo,none⟩) B z.bag.bc,.int .i64 (j:Int),.pointer (some ⟨z.bag.bb,z.bag.bo+j*3,none⟩),.agg #[.int .i64 (x.bag.M j).F,.int .i64 (x.bag.M j).T,.string ⟨(x.bag.M j).b.toArray⟩],.bool false]) (by kernel_rfl) (by kernel_rfl) (by kernel_rfl) (C0.out.keep ⟨rfl,rfl,rfl,lR,fun _ _=>rfl⟩) ⟨?_,?_,?_,?_,?_,?_,?_,?_,?_,?_,?_,trivial⟩ ?_;rotate_right
     ·intro t W hG hE;have q0:=aA (hE 10 (by decide)) rfl;have k0:=hide hG;clear hE hG;simp only[fill,Act.put,sX,sY,sU,q0];clear q0;go_wp2;go_roundw
      case rel =>
       first
       | exact⟨j+1,by omega,by go_num,k0⟩
       | ((repeat apply Exists.intro);refine⟨?_,rfl⟩;exact⟨j+1,by omega,by go_num,k0⟩)
      case measure=>simp[intOf];omega
     all_goals intro t W hG hp K hK
     all_goals simp only[fill,Act.put,sX,sY,sU]at hK |-
     rotate_left
     ·have e0:=aA (hp 0 (by decide)) rfl;have qx:=hG.bx.cell 1;simp[j0.out]at qx;rw[m0.out]at qx;simp only[e0]at hK |-;rw[if_pos (by rfl)];go_simp;exact hK _ _ hG rfl (fun _ _ _ h=>h)
     rotate_left 2
     ·have e3:=aA (hp 3 (by decide)) rfl;have u0:=(Hx.out.below hG.below lR).bag;have d0:=u0.c0 j s0.out;have d1:=u0.c1 j s0.out;have d2:=u0.c2 j s0.out;clear u0;simp only[e3]at hK |-;rw[if_pos (by rfl)];go_simp;exact hK _ _ hG rfl (fun _ _ _ h=>h)
     rotate_left
     ·have e5:=aA (hp 5 (by decide)) rfl;have qz:=hG.bz.cell 1;simp[z0.out]at qz;rw[o0.out]at qz;simp only[e5]at hK |-;rw[if_pos (by rfl)];go_simp;exact hK _ _ hG rfl (fun _ _ _ h=>h)
     rotate_left 2
     ·have e8:=aA (hp 8 (by decide)) rfl;have v0:=(Hz.out.below hG.below lR).bag;have d0:=v0.c0 j B0.out;have d1:=v0.c1 j B0.out;have d2:=v0.c2 j B0.out;rw[Hm.out]at d0 d1 d2;clear v0;simp only[e8]at hK |-;rw[if_pos (by rfl)];go_simp;exact hK _ _ hG rfl (fun _ _ _ h=>h)
     all_goals try simp(disch:=first | rfl | decide) only[vat hp,List.getD_cons_succ,List.getD_cons_zero]at hK |-
     all_goals (rw[if_pos (by rfl)];go_simp;exact hK _ _ hG rfl (fun _ _ _ h=>h))
    ·have V0:j=B:=by omega
     subst V0;have HF:=hide C0.out.below;clear g0 hj;go_wp2
     first
     | exact⟨rfl,HF.out⟩
     | (go_ret;exact⟨rfl,HF.out⟩)
theorem iA.same_rtrs {x z:iA}{n:Net}{N:Nat}(hx:x.Right n N)(hz:z.Right n N)(hR:x.eng.R=z.eng.R)(ht:x.eng.told=z.eng.told)(hD:x.eng.D=z.eng.D):
 x.rs.gn=z.rs.gn/\(∀i,i<x.rs.gn->XA (x.rs.r i).rl (z.rs.r i).rl (x.rs.r i).R (z.rs.r i).R=true)/\(∀i,i<x.rs.gn->(x.rs.r i).T.t.same (z.rs.r i).T.t=true):=by
 refine⟨by rw[hx.gn,hz.gn],fun i hi=>?_,fun i hi=>?_⟩
 ·rw[hx.gn]at hi;rw[hx.rl i hi,hz.rl i hi];exact WC.2 ⟨rfl,fun j _=>congrFun (congrFun hR i) j⟩
 ·rw[hx.gn]at hi;refine Tab.same_iff.2 ⟨by rw[hx.tl i hi,hz.tl i hi],fun q hq=>?_⟩;rw[hx.tl i hi]at hq;have hL:(x.rs.r i).T.t.L q=(z.rs.r i).T.t.L q:=by rw[hx.ll i hi q hq,hz.ll i hi q hq,ht]
  exact⟨hL,fun c _=>congrFun (congrFun (congrFun hD i) q) c⟩
theorem iA.same_of {x z:iA}{n:Net}{N:Nat}(hx:x.Right n N)(hz:z.Right n N)(he:x.eng=z.eng):x.Same z:=by
 obtain⟨h1,h2,h3⟩:=iA.same_rtrs hx hz (by rw[he]) (by rw[he]) (by rw[he]);have hb:(List.range x.bag.bn).map x.bag.M=(List.range z.bag.bn).map z.bag.M:=congrArg Eng.bag he;have hl:x.bag.bn=z.bag.bn:=by have:=congrArg List.length hb;simpa using this
 refine⟨h1,h2,h3,hl,fun i hi=>?_⟩;have:=congrArg (fun l=>l[i]?) hb;simpa [hi,<-hl] using this
def KS:TC:=⟨none,0,0,0,0,fun _=>zA⟩
theorem JQ (N:Nat)(w:World):KS.In N w :=
 ⟨fun h=>absurd h (Nat.lt_irrefl _),fun h=>absurd h (Nat.lt_irrefl _),fun _ h=>absurd h nZ,fun _ h=>absurd h nZ,fun _ h=>absurd h nZ,zL,fun _ h=>absurd h nZ⟩
theorem rH {x:Int}(h0:0<=x)(h1:x<1000):IntKind.i64.wrap x=x:=by
 simp[IntKind.wrap,IntKind.bits,IntKind.signed];omega
section
variable {vs:List Value} {c:Nat} {er:Int} {Φ:iA->Prop} {lo:Nat} {b:Bool} {k:Nat} {v:Value} {W W':World}
end
def gL:iA:=⟨⟨none,0,0,0,0,fun _=>⟨none,0,0,0,0,fun _=>0,⟨none,0,0,0,fun _=>none,fun _=>0,fun _=>0,fun _=>0,⟨0,fun _=>0,fun _ _=>0⟩⟩⟩⟩,KS⟩
theorem jJ (N:Nat)(w:World):gL.In N w :=
 ⟨⟨fun h=>absurd h (Nat.lt_irrefl _),fun h=>absurd h (Nat.lt_irrefl _),fun _ h=>absurd h nZ,fun _ h=>absurd h nZ,fun _ h=>absurd h nZ,zL⟩,JQ N w⟩
theorem nO (w:World)(ty:TypeId)(g n cap:Nat)(ad:Option Addr)(q:Nat)(h:n<=cap):
 (Builtin.append_ #[29,29] ty #[.slice (some ⟨g,0,none⟩) n cap,.slice ad 0 q]).run Tryz.prog w=.ok (.slice (some ⟨g,0,none⟩) n cap) w:=by
 obtain⟨i0,d0,hq⟩:∃i,Tryz.prog.info? 59=some i/\(i.zero.map (fun z=>z.cells.size),i.size,i.bytes)=(some 3,3,32):=Option.map_eq_some_iff.1 Tryz.infoMail;cases ad <;> simp[Builtin.append_,run_underlying Tryz.underlying29,sizeOf,typeInfo,d0,Builtin.lenOf,Builtin.firstCells,storeCells,loadCells,loadCellsFrom,h]
theorem PH (W:World)(base g cap:Nat)(l l2:List xB)(ho:W.ownsRow base 59 3 (.slice (some ⟨g,0,none⟩) l.length cap) l.length (uA l))(hl:l.length+l2.length<=200)(hC:base<=W.heap.size)(ad:Addr)(c:Nat)(hs:0<l2.length->∀t u,(uA l2)[t]? = some u->W.cell? (ad.add t)=some u)(ty:TypeId):
 ∃g' cap' W',(Builtin.append_ #[29,29] ty #[.slice (some ⟨g,0,none⟩) l.length cap,.slice (some ad) l2.length c]).run Tryz.prog W=.ok (.slice (some ⟨g',0,none⟩) (l ++ l2).length cap') W'/\W'.ownsRow base 59 3 (.slice (some ⟨g',0,none⟩) (l ++ l2).length cap') (l ++ l2).length (uA (l ++ l2))/\Below base W W':=by
 by_cases hp:0<l2.length
 ·obtain⟨i0,g0,hq⟩:∃i,Tryz.prog.info? 59=some i/\(i.zero.map (fun z=>z.cells.size),i.size,i.bytes)=(some 3,3,32):=Option.map_eq_some_iff.1 Tryz.infoMail;obtain⟨z,hz,j0⟩:∃z,i0.zero=some z/\z.cells.size=3:=by
   have:=congrArg Prod.fst hq;simpa [Option.map_eq_some_iff] using this
  have d0:i0.size=3:=congrArg (fun x=>x.2.1) hq;have f0:i0.bytes=32:=congrArg (fun x=>x.2.2) hq;obtain⟨g',cap',w',hr,h2,h3,_,_⟩:=run_append_lies (P:=Tryz.prog) W 29 ty base 59 i0 z 3 32 Tryz.underlying29 g0 hz d0 f0 j0 (by decide) _ l.length _ ho ad l2.length c (uA l2) (jD _) (hs hp) (jG _) hp (by unfold maxLen;omega) (by omega) hC _ rfl;rw[List.length_append,fD];exact⟨g',cap',w',hr,h2,nA h3 (fun k hk=>(ho.lt k hk).1) hC⟩
 ·have h0:l2=[]:=List.length_eq_zero_iff.1 (by omega);subst h0;rw[List.append_nil];exact⟨g,cap,W,nO W ty g l.length cap (some ad) c (dQ ho rfl),ho,Below.refl _ _⟩
structure WoG (w W2:World) (x:iA) (N k P:Nat) (y:Lay) (b13:Bool) (W:World):Prop where
 old:b13=false->Below W2.heap.size W2 W
 new:b13=true->Below w.heap.size w W/\Blk W (w.heap.size+1) #[.slice none 0 0,.slice none 0 0] 31/\∃Bv,qC (w.heap.size+2) P N (x.eng.without k) Bv y W
def woE (vs:List Value) (x:iA) (k j wz:Nat) (b5 b11 b13:Bool) (q:Nat) (v:Value) (W:World):Prop :=
 match q with
 | 0=>b5=false->∃g,v=.slice (some ⟨g,0,none⟩) 0 0/\W.ownsRow wz 59 3 (.slice (some ⟨g,0,none⟩) 0 0) 0 []
 | 5=>b11=false->∃g cap,v=.slice (some ⟨g,0,none⟩) (x.eng.bag.take k).length cap/\W.ownsRow wz 59 3 (.slice (some ⟨g,0,none⟩) (x.eng.bag.take k).length cap) (x.eng.bag.take k).length (uA (x.eng.bag.take k))
 | 10=>∃off mc,v=.slice (some ⟨x.bag.bb,off,none⟩) (x.bag.bn-j) mc/\(0<x.bag.bn-j->off=x.bag.bo+j*3)
 | 11=>b13=false->∃g cap,v=.slice (some ⟨g,0,none⟩) (x.eng.bag.eraseIdx k).length cap/\W.ownsRow wz 59 3 (.slice (some ⟨g,0,none⟩) (x.eng.bag.eraseIdx k).length cap) (x.eng.bag.eraseIdx k).length (uA (x.eng.bag.eraseIdx k))
 | 13=>True
 | q=>vs[q]? = some v
theorem TR {vs:List Value}{x:iA}{k j wz:Nat}{b5 b11 b13:Bool}{q:Nat}{v:Value}{W W':World}(hb:Below W.heap.size W W')(h:woE vs x k j wz b5 b11 b13 q v W):woE vs x k j wz b5 b11 b13 q v W':=by
 unfold woE at h |-;split at h
 ·intro h0;obtain⟨g,h1,h2⟩:=h h0;exact⟨g,h1,ZA h2 hb⟩
 ·intro h0;obtain⟨g,cap,h1,h2⟩:=h h0;exact⟨g,cap,h1,ZA h2 hb⟩
 ·exact h
 ·intro h0;obtain⟨g,cap,h1,h2⟩:=h h0;exact⟨g,cap,h1,ZA h2 hb⟩
 ·trivial
 ·exact h
theorem fE {vs:List Value}{x:iA}{k j wz:Nat}{b5 b11 b13:Bool}{q:Nat}{v:Value}{W:World}(h0:q≠0)(h5:q≠5)(h10:q≠10)(h11:q≠11)(h13:q≠13)(h:vs[q]? = some v):woE vs x k j wz b5 b11 b13 q v W:=by
 unfold woE;split <;> first | contradiction | exact h
theorem iE {vs:List Value}{x:iA}{k j wz:Nat}{b5 b11 b13:Bool}{q:Nat}{v u:Value}{W:World}(h:woE vs x k j wz b5 b11 b13 q v W)(h0:q≠0)(h5:q≠5)(h10:q≠10)(h11:q≠11)(h13:q≠13)(hu:vs[q]? = some u):v=u:=by
 unfold woE at h;split at h <;> first | contradiction | (rw[hu]at h;exact(Option.some.inj h).symm)
theorem UR {vs:List Value}{x:iA}{k j wz:Nat}{q:Nat}{v:Value}{W:World}(W':World)(hq:q≠5)(hq1:q≠11)(h:woE vs x k j wz false false false q v W):woE vs x k j wz true false false q v W':=by
 unfold woE at h |-;split at h
 ·intro h0;cases h0
 ·contradiction
 ·exact h
 ·contradiction
 ·trivial
 ·exact h
theorem uO {vs:List Value}{x:iA}{k j wz:Nat}{q:Nat}{v:Value}{W:World}(W':World)(hq:q≠11)(h:woE vs x k j wz true false false q v W):woE vs x k j wz true true false q v W':=by
 unfold woE at h |-;split at h
 ·intro h0;cases h0
 ·intro h0;cases h0
 ·exact h
 ·contradiction
 ·trivial
 ·exact h
theorem OT {vs:List Value}{x:iA}{k j wz:Nat}{q:Nat}{v:Value}{W:World}(W':World)(h:woE vs x k j wz true true false q v W):woE vs x k j wz true true true q v W':=by
 unfold woE at h |-;split at h
 ·intro h0;cases h0
 ·intro h0;cases h0
 ·exact h
 ·intro h0;cases h0
 ·trivial
 ·exact h
theorem NI {α:Type}(l:List α)(k:Nat):l.take k ++ l.drop (k+1)=l.eraseIdx k:=(List.eraseIdx_eq_take_drop_succ l k).symm
theorem dG (x:iA)(N k:Nat)(w:World)(h:x.In w.heap.size w)(hgn:x.rs.gn=N)(hN0:0<N)(hN6:N<=6)(hbn:x.bag.bn<=120)(hrl:∀i,i<N->(x.rs.r i).rl=N)(htl:∀i,i<N->(x.rs.r i).T.t.len=N)(hll:∀i,i<N->∀q,q<N->(x.rs.r i).T.t.L q=if x.eng.told i q=true then N else 0)(hk:k<x.bag.bn)(hcap:x.bag.bn<=x.bag.bc):
 Calls Tryz.prog 56 #[x.val,.int .i64 k] w fun r w'=>(∃P Bv y,qC w.heap.size P N (x.eng.without k) Bv y w'/\r=.returned (.agg #[.slice (some ⟨y.G,0,none⟩) N y.gc,Bv]))/\Below w.heap.size w w':=by
 obtain⟨W0,u0⟩:∃W0,W0=(w.alloc (.cells x.cells 31)).alloc (.cells #[.slice none 0 0,.slice none 0 0] 31):=⟨_,rfl⟩;have M0:Below w.heap.size w W0:=by rw[u0];exact((Below.refl _ w).alloc lR _).alloc (by simp) _
 have C0:W0.heap.size=w.heap.size+2:=by rw[u0];simp
 have b4:Blk W0 w.heap.size x.cells 31:=by rw[u0];exact(Blk.new w _ _).alloc _
 have b6:Blk W0 (w.heap.size+1) #[.slice none 0 0,.slice none 0 0] 31:=by rw[u0];exact Blk.new' (by simp)
 have L0:=hide (JC x N W0 (h.grown M0) hgn hN0 hN6 hbn hrl htl hll);have N0:=h.bag.ba (by omega);have D0:x.eng.bag.length=x.bag.bn:=by show ((List.range x.bag.bn).map x.bag.M).length=_;simp
 obtain⟨j,hj⟩:∃j,j=k+1:=⟨_,rfl⟩;have Hx:=hide h;have O0:=hide M0;have Q0:=hide b4;have R0:=hide b6;have S0:=hide C0;have G1:=hide N0;have o0:=hide D0;have E0:x.cells=#[.slice x.rs.ga x.rs.gn x.rs.gc,.slice (some ⟨x.bag.bb,x.bag.bo,none⟩) x.bag.bn x.bag.bc]:=by rw[<-N0];rfl
 have g1:=hide E0;have z0:=b4.cell 0;have z1:=b4.cell 1;rw[E0]at z0 z1;simp at z0 z1;rw[E0]at u0;simp only[iA.val,E0]at L0 |-;have h1:=hide u0;have H1:(k:Int)<(x.bag.bn:Int):=by omega
 clear h M0 b4 b6 E0 C0 u0 N0 D0 hrl htl hll hgn;rw[h1.out]at L0 z0 z1;go_enter Tryz.func56,Tryz.ntmps56;go_wp2_with fail;go_at_call 58;refine L0.out.mono ?_;rw[<-h1.out];rintro r W1 ⟨⟨P0,Bv,y,X0,rfl⟩,Y0⟩;obtain⟨ba,bc,Z0⟩:=QA X0.live.bag;obtain⟨P,hP⟩:∃P,P=W1.heap.size:=⟨_,rfl⟩;obtain⟨W2,H0⟩:∃W2,W2=W1.alloc (.cells #[.slice (some ⟨y.G,0,none⟩) N y.gc,Bv] 31):=⟨_,rfl⟩;have i1:Below W1.heap.size W1 W2:=by rw[H0];exact(Below.refl _ W1).alloc lR _
 have m0:=Y0.trans (i1.mono Y0.size);have T0:=X0.rebox;rw[<-H0,<-hP,S0.out]at T0;have x0:=hide T0;have q0:=hide (O0.out.trans (m0.mono O0.out.size));have F0:=hide (Q0.out.below m0 Q0.out.lt);have U0:=hide (R0.out.below m0 R0.out.lt);obtain⟨wz,q1⟩:∃wz,wz=W2.heap.size:=⟨_,rfl⟩;have y0:=hide q1;rw[Z0]at H0;rw[Z0];have v1:=hide H0;have HP:=hide hP;have Hj:=hide hj;have V0:Hid (WoG w W2 x N k P y false W2):=hide ⟨fun _=>Below.refl _ _,fun h0=>by cases h0⟩;have w1:Hid (j<=x.bag.bn):=hide (by omega);clear X0 Y0 i1 m0 T0 H0 hP Z0 L0 z0 z1 Q0 R0 O0 q1 hj;go_wp2_with fail;rw[<-v1.out,<-HP.out];refine vD (fun d W=>WoG w W2 x N k P y (d 13) W) (fun d=>woE [undef,.pointer (some ⟨w.heap.size,1,none⟩),.slice (some ⟨x.bag.bb,x.bag.bo,none⟩) x.bag.bn x.bag.bc,.int .i64 (k:Int),.slice (some ⟨x.bag.bb,x.bag.bo,none⟩) k x.bag.bc,undef,.pointer (some ⟨w.heap.size,1,none⟩),.slice (some ⟨x.bag.bb,x.bag.bo,none⟩) x.bag.bn x.bag.bc,.int .i64 (k:Int),.int .i64 (j:Int),undef,undef,.pointer (some ⟨P,1,none⟩),undef] x k j wz (d 5) (d 11) (d 13)) (by kernel_rfl) (by kernel_rfl) (by kernel_rfl) ⟨fun _=>⟨rfl,rfl,rfl,lR,fun _ _=>rfl⟩,fun h0=>(by cases h0)⟩ ⟨?_,?_,?_,?_,?_,?_,?_,?_,?_,?_,?_,?_,?_,?_,trivial⟩ ?_;rotate_right
 ·intro d t W K0 hG _;obtain⟨t1,v0,Bw,I0⟩:=hG.new (K0 13 (by decide));obtain⟨ca,cc,J0⟩:=QA I0.live.bag;have p0:=I0.live.head.cell 0;have p1:=I0.live.head.cell 1;have s0:=v0.cell 0;have s1:=v0.cell 1;have f0:=v0.frozen 0;have f1:=v0.frozen 1;have c7:=(v0.set 0 (.slice (some ⟨y.G,0,none⟩) N y.gc)).set 1 Bw;have e0:=c7.cell 0;have e1:=c7.cell 1;simp at p0 p1 s0 s1 e0 e1;have j1:=(I0.setRes hN0 (by omega) v0 (.slice (some ⟨y.G,0,none⟩) N y.gc) Bw).mono (lo:=w.heap.size) (by omega);have HF:Hid ((∃P Bv z,qC w.heap.size P N (x.eng.without k) Bv z ((W.setCell ⟨w.heap.size+1,0,none⟩ (.slice (some ⟨y.G,0,none⟩) N y.gc)).setCell ⟨w.heap.size+1,1,none⟩ Bw)/\Ending.returned (.agg #[.slice (some ⟨y.G,0,none⟩) N y.gc,Bw])=.returned (.agg #[.slice (some ⟨z.G,0,none⟩) N z.gc,Bv]))/\Below w.heap.size w ((W.setCell ⟨w.heap.size+1,0,none⟩ (.slice (some ⟨y.G,0,none⟩) N y.gc)).setCell ⟨w.heap.size+1,1,none⟩ Bw)):=hide ⟨⟨_,_,_,j1,rfl⟩,(t1.setCell (p:=⟨w.heap.size+1,0,none⟩) (by show w.heap.size<=w.heap.size+1;omega) _).setCell (p:=⟨w.heap.size+1,1,none⟩) (by show w.heap.size<=w.heap.size+1;omega) _⟩;rw[J0]at p1 e0 e1 HF;generalize (x.eng.without k).bag.length=bl at *;clear hG K0 v0 I0 t1 j1 c7 J0 V0 x0 q0 F0 U0;simp only[fill,Act.put,sX,sY,sU];go_wp2;exact bodyPost_ret (v:=.agg #[.slice (some ⟨y.G,0,none⟩) N y.gc,.slice ca bl cc]) (by simp[results,Tryz.results56,go_sem,e0,e1]) rfl HF.out
 all_goals intro d t W hs ho hd hw hG hp K hK
 all_goals simp only[fill,Act.put,sX,sY,sU]at hK |-
 ·have g0:=wB (F:=14) (S:=13) hs hd (by kernel_rfl);have h5:=wB (F:=14) (S:=5) hs hd (by kernel_rfl);rw[if_pos (by rfl)];go_simp;have x1:Below W.heap.size W (W.alloc (.cells #[] 59)):=(Below.refl _ W).alloc lR _;have i0:World.ownsRow (W.alloc (.cells #[] 59)) wz 59 3 (.slice (some ⟨W.heap.size,0,none⟩) 0 0) 0 []:=World.ownsRow_made W #[] 0 (base:=wz) (e:=59) (size:=3) (by rw[y0.out];exact(hG.old g0).size) zL (by simp);exact hK _ _ ⟨fun _=>(hG.old g0).alloc (hG.old g0).size _,fun h0=>absurd (g0.symm.trans h0) (by decide)⟩ (fun _=>⟨_,rfl,i0⟩) (fun j _ _ h=>TR x1 h)
 ·rw[if_pos (by rfl)];go_simp;exact hK _ _ hG (fE (by decide) (by decide) (by decide) (by decide) (by decide) rfl) (fun j _ _ h=>h)
 ·have e1:=iE (hp 1 (hw 1 (by decide))) (by decide) (by decide) (by decide) (by decide) (by decide) rfl;have g0:=wB (F:=14) (S:=13) hs hd (by kernel_rfl);have cx:=(F0.out.below (hG.old g0) F0.out.lt).cell 1;rw[g1.out]at cx;simp at cx;simp only[e1]at hK |-;rw[if_pos (by rfl)];go_simp;exact hK _ _ hG (fE (by decide) (by decide) (by decide) (by decide) (by decide) rfl) (fun j _ _ h=>h)
 ·rw[if_pos (by rfl)];go_simp;exact hK _ _ hG (fE (by decide) (by decide) (by decide) (by decide) (by decide) rfl) (fun j _ _ h=>h)
 ·have e2:=iE (hp 2 (hw 2 (by decide))) (by decide) (by decide) (by decide) (by decide) (by decide) rfl;have e3:=iE (hp 3 (hw 3 (by decide))) (by decide) (by decide) (by decide) (by decide) (by decide) rfl;have I1:k<=x.bag.bc:=by omega
  simp only[e2,e3]at hK |-;rw[if_pos (by rfl)];go_simp;exact hK _ _ hG (fE (by decide) (by decide) (by decide) (by decide) (by decide) rfl) (fun j _ _ h=>h)
 ·have g0:=wB (F:=14) (S:=13) hs hd (by kernel_rfl);have A0:=wB (F:=14) (S:=11) hs hd (by kernel_rfl);obtain⟨g,e0,i0⟩:=hp 0 (hw 0 (by decide)) hd;have e4:=iE (hp 4 (hw 4 (by decide))) (by decide) (by decide) (by decide) (by decide) (by decide) rfl;have d0:=hG.old g0;have B0:(x.eng.bag.take k).length=k:=by rw[List.length_take,o0.out];omega
  obtain⟨g5,c5,W5,k0,j0,d1⟩:=PH W wz g 0 [] (x.eng.bag.take k) i0 (by rw[B0];simp;omega) (by rw[y0.out];exact d0.size) ⟨x.bag.bb,x.bag.bo,none⟩ x.bag.bc (fun _ t u hu=>by
   rw[Go.WideShapes.add_plain];refine TC.news ((Hx.out.below (q0.out.trans (d0.mono q0.out.size)) lR).bag) t u ?_;have ht:t<k*3:=by have:=(List.getElem?_eq_some_iff.1 hu).1;rw[jD,B0]at this;exact this
   rw[<-iG,List.getElem?_take,if_pos ht]at hu;exact hu) 29
  rw[List.nil_append]at k0 j0;rw[B0]at k0;simp only[e0]at hK |-;simp only[e4]at hK |-;rw[if_pos (by rfl)];refine wp_append_run (by rfl) _ _ 29 (by rfl) _ _ (by rfl) (by rfl) _ W5 k0 ?_;refine hK _ W5 ⟨fun _=>d0.trans (by rw[<-y0.out];exact d1),fun h0=>absurd (g0.symm.trans h0) (by decide)⟩ (fun _=>⟨g5,c5,by rw[B0],j0⟩) (fun jj hj hdj h=>?_);have h':woE [undef,.pointer (some ⟨w.heap.size,1,none⟩),.slice (some ⟨x.bag.bb,x.bag.bo,none⟩) x.bag.bn x.bag.bc,.int .i64 (k:Int),.slice (some ⟨x.bag.bb,x.bag.bo,none⟩) k x.bag.bc,undef,.pointer (some ⟨w.heap.size,1,none⟩),.slice (some ⟨x.bag.bb,x.bag.bo,none⟩) x.bag.bn x.bag.bc,.int .i64 (k:Int),.int .i64 (j:Int),undef,undef,.pointer (some ⟨P,1,none⟩),undef] x k j wz false false false jj (t jj) W:=by have h2:=h;rw[hd,A0,g0]at h2;exact h2
  show woE [undef,.pointer (some ⟨w.heap.size,1,none⟩),.slice (some ⟨x.bag.bb,x.bag.bo,none⟩) x.bag.bn x.bag.bc,.int .i64 (k:Int),.slice (some ⟨x.bag.bb,x.bag.bo,none⟩) k x.bag.bc,undef,.pointer (some ⟨w.heap.size,1,none⟩),.slice (some ⟨x.bag.bb,x.bag.bo,none⟩) x.bag.bn x.bag.bc,.int .i64 (k:Int),.int .i64 (j:Int),undef,undef,.pointer (some ⟨P,1,none⟩),undef] x k j wz (NA d 5 5) (NA d 5 11) (NA d 5 13) jj (t jj) W5;rw[show NA d 5 5=true by simp[NA],show NA d 5 11=false from A0,show NA d 5 13=false from g0];exact UR W5 hj (fun hh=>by rw[hh,A0]at hdj;cases hdj) h'
 ·rw[if_pos (by rfl)];go_simp;exact hK _ _ hG (fE (by decide) (by decide) (by decide) (by decide) (by decide) rfl) (fun j _ _ h=>h)
 ·have e6:=iE (hp 6 (hw 6 (by decide))) (by decide) (by decide) (by decide) (by decide) (by decide) rfl;have g0:=wB (F:=14) (S:=13) hs hd (by kernel_rfl);have cx:=(F0.out.below (hG.old g0) F0.out.lt).cell 1;rw[g1.out]at cx;simp at cx;simp only[e6]at hK |-;rw[if_pos (by rfl)];go_simp;exact hK _ _ hG (fE (by decide) (by decide) (by decide) (by decide) (by decide) rfl) (fun j _ _ h=>h)
 ·rw[if_pos (by rfl)];go_simp;exact hK _ _ hG (fE (by decide) (by decide) (by decide) (by decide) (by decide) rfl) (fun j _ _ h=>h)
 ·have e8:=iE (hp 8 (hw 8 (by decide))) (by decide) (by decide) (by decide) (by decide) (by decide) rfl;simp only[e8]at hK |-;rw[if_pos (by rfl)];go_simp;exact hK _ _ hG (fE (by decide) (by decide) (by decide) (by decide) (by decide) (by rw[Hj.out,rH (by omega) (by omega)];rfl)) (fun j _ _ h=>h)
 ·have e7:=iE (hp 7 (hw 7 (by decide))) (by decide) (by decide) (by decide) (by decide) (by decide) rfl;have e9:=iE (hp 9 (hw 9 (by decide))) (by decide) (by decide) (by decide) (by decide) (by decide) rfl;have J1:=w1.out;have K1:(j:Int)<=(x.bag.bn:Int):=by omega
  have L1:j<=x.bag.bc:=by omega
  obtain⟨off,hA,w0⟩:∃off,(if x.bag.bc=j then some (⟨x.bag.bb,x.bag.bo,none⟩:Addr) else some ⟨x.bag.bb,x.bag.bo+j*3,none⟩)=some ⟨x.bag.bb,off,none⟩/\(0<x.bag.bn-j->off=x.bag.bo+j*3):=by
   by_cases u1:x.bag.bc=j
   ·exact⟨_,by rw[if_pos u1],fun h0=>by omega⟩
   ·exact⟨_,by rw[if_neg u1],fun _=>rfl⟩
  simp only[e7,e9]at hK |-;rw[if_pos (by rfl)];go_simp;exact hK _ _ hG ⟨off,_,rfl,w0⟩ (fun j _ _ h=>h)
 ·have g0:=wB (F:=14) (S:=13) hs hd (by kernel_rfl);have h5:=wE (F:=14) hs ho hw (S:=5) (by kernel_rfl) (by decide);obtain⟨g,cap,e5,i0⟩:=hp 5 (hw 5 (by decide)) hd;obtain⟨off,mc,D1,w0⟩:=hp 10 (hw 10 (by decide));have d0:=hG.old g0;have k1:(x.eng.bag.drop j).length=x.bag.bn-j:=by rw[List.length_drop,o0.out]
  have B0:(x.eng.bag.take k).length=k:=by rw[List.length_take,o0.out];omega
  obtain⟨g5,c5,W5,k0,j0,d1⟩:=PH W wz g cap (x.eng.bag.take k) (x.eng.bag.drop j) i0 (by rw[B0,k1,Hj.out];omega) (by rw[y0.out];exact d0.size) ⟨x.bag.bb,off,none⟩ mc (fun h0 t u hu=>by
   rw[Go.WideShapes.add_plain,w0 (by omega)];rw[<-kG,List.getElem?_drop]at hu;have:=TC.news ((Hx.out.below (q0.out.trans (d0.mono q0.out.size)) lR).bag) (j*3+t) u hu;rw[show x.bag.bo+j*3+t=x.bag.bo+(j*3+t) by omega];exact this) 29
  have y1:x.eng.bag.take k ++ x.eng.bag.drop j=x.eng.bag.eraseIdx k:=by rw[Hj.out];exact NI _ _
  rw[y1]at k0 j0;rw[k1]at k0;simp only[e5]at hK |-;simp only[D1]at hK |-;rw[if_pos (by rfl)];refine wp_append_run (by rfl) _ _ 29 (by rfl) _ _ (by rfl) (by rfl) _ W5 k0 ?_;refine hK _ W5 ⟨fun _=>d0.trans (by rw[<-y0.out];exact d1),fun h0=>absurd (g0.symm.trans h0) (by decide)⟩ (fun _=>⟨g5,c5,rfl,j0⟩) (fun jj hj hdj h=>?_);have h':woE [undef,.pointer (some ⟨w.heap.size,1,none⟩),.slice (some ⟨x.bag.bb,x.bag.bo,none⟩) x.bag.bn x.bag.bc,.int .i64 (k:Int),.slice (some ⟨x.bag.bb,x.bag.bo,none⟩) k x.bag.bc,undef,.pointer (some ⟨w.heap.size,1,none⟩),.slice (some ⟨x.bag.bb,x.bag.bo,none⟩) x.bag.bn x.bag.bc,.int .i64 (k:Int),.int .i64 (j:Int),undef,undef,.pointer (some ⟨P,1,none⟩),undef] x k j wz true false false jj (t jj) W:=by have h2:=h;rw[h5,hd,g0]at h2;exact h2
  show woE [undef,.pointer (some ⟨w.heap.size,1,none⟩),.slice (some ⟨x.bag.bb,x.bag.bo,none⟩) x.bag.bn x.bag.bc,.int .i64 (k:Int),.slice (some ⟨x.bag.bb,x.bag.bo,none⟩) k x.bag.bc,undef,.pointer (some ⟨w.heap.size,1,none⟩),.slice (some ⟨x.bag.bb,x.bag.bo,none⟩) x.bag.bn x.bag.bc,.int .i64 (k:Int),.int .i64 (j:Int),undef,undef,.pointer (some ⟨P,1,none⟩),undef] x k j wz (NA d 11 5) (NA d 11 11) (NA d 11 13) jj (t jj) W5;rw[show NA d 11 5=true from h5,show NA d 11 11=true by simp[NA],show NA d 11 13=false from g0];exact uO W5 hj h'
 ·rw[if_pos (by rfl)];go_simp;exact hK _ _ hG (fE (by decide) (by decide) (by decide) (by decide) (by decide) rfl) (fun j _ _ h=>h)
 ·have A0:=wE (F:=14) hs ho hw (S:=11) (by kernel_rfl) (by decide);have h5:=wE (F:=14) hs ho hw (S:=5) (by kernel_rfl) (by decide);obtain⟨g,cap,E1,i0⟩:=hp 11 (hw 11 (by decide)) hd;have A1:=iE (hp 12 (hw 12 (by decide))) (by decide) (by decide) (by decide) (by decide) (by decide) rfl;have d0:=hG.old hd;have G0:=x0.out.setBag d0 (by rw[<-y0.out];exact i0);have hh:=(x0.out.live.head.below d0 x0.out.live.head.lt);have cq:=hh.cell 1;have fq:=hh.frozen 1;obtain⟨ga,gc,F1⟩:=QA x0.out.live.bag;simp at cq;rw[F1]at cq;have M1:=x0.out.live.lp;have hN:WoG w W2 x N k P y true (W.setCell ⟨P,1,none⟩ (.slice (some ⟨g,0,none⟩) (x.eng.bag.eraseIdx k).length cap)):=⟨fun h0=>(by cases h0),fun _=>⟨(q0.out.trans (d0.mono q0.out.size)).setCell (p:=⟨P,1,none⟩) (by show w.heap.size<=P;omega) _,(U0.out.below d0 U0.out.lt).other (by omega) _ _,_,G0⟩⟩;have HN:=hide hN;have B1:Hid (∀jj,woE [undef,.pointer (some ⟨w.heap.size,1,none⟩),.slice (some ⟨x.bag.bb,x.bag.bo,none⟩) x.bag.bn x.bag.bc,.int .i64 (k:Int),.slice (some ⟨x.bag.bb,x.bag.bo,none⟩) k x.bag.bc,undef,.pointer (some ⟨w.heap.size,1,none⟩),.slice (some ⟨x.bag.bb,x.bag.bo,none⟩) x.bag.bn x.bag.bc,.int .i64 (k:Int),.int .i64 (j:Int),undef,undef,.pointer (some ⟨P,1,none⟩),undef] x k j wz (d 5) (d 11) (d 13) jj (t jj) W->woE [undef,.pointer (some ⟨w.heap.size,1,none⟩),.slice (some ⟨x.bag.bb,x.bag.bo,none⟩) x.bag.bn x.bag.bc,.int .i64 (k:Int),.slice (some ⟨x.bag.bb,x.bag.bo,none⟩) k x.bag.bc,undef,.pointer (some ⟨w.heap.size,1,none⟩),.slice (some ⟨x.bag.bb,x.bag.bo,none⟩) x.bag.bn x.bag.bc,.int .i64 (k:Int),.int .i64 (j:Int),undef,undef,.pointer (some ⟨P,1,none⟩),undef] x k j wz true true true jj (t jj) (W.setCell ⟨P,1,none⟩ (.slice (some ⟨g,0,none⟩) (x.eng.bag.eraseIdx k).length cap))):=hide (fun jj h=>OT _ (by rw[h5,A0,hd]at h;exact h));have u5:NA d 13 5=true:=h5;have C1:NA d 13 11=true:=A0;have o1:NA d 13 13=true:=by simp[NA]
  generalize (x.eng.bag.eraseIdx k).length=el at *;clear hN G0 hh i0;simp only[E1]at hK |-;simp only[A1]at hK |-;rw[if_pos (by rfl)];go_simp;exact hK undef _ (by show WoG w W2 x N k P y (NA d 13 13) _;rw[o1];exact HN.out) trivial (fun jj _ hj h=>by show woE _ x k j wz (NA d 13 5) (NA d 13 11) (NA d 13 13) jj (t jj) _;rw[u5,C1,o1];exact B1.out jj h)
end Go.Proofs.YtjhkadffaephmacGreat
