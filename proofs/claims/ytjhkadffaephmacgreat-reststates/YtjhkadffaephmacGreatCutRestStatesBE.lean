import Derived.Test.YtjhkadffaephmacGreatCutRestStatesBD
namespace Go.Proofs.YtjhkadffaephmacGreat
set_option maxHeartbeats 16000000
set_option maxRecDepth 100000
open Go.RowKit
theorem XQ (n:dA)(x:Mat)(w:World)(h:n.In w.heap.size w)(hx:x.In w.heap.size w):
 Calls Tryz.prog 8 #[n.val,x.val] w fun e w'=>e=.returned (.int .i64 (n.net.fit x.t))/\Below w.heap.size w w':=by
 have g0:Below w.heap.size w (w.alloc (.cells n.cells 27)):=(Below.refl _ w).alloc lR _;have b0:=Blk.new w n.cells 27;have HC:=hide (gH n _ (h.grown g0));have HR:=hide (fun W (hb:Below w.heap.size w W) (hc:n.net.check=0)=>KO n x W (hx.grown hb) (Net.good_of_check hc).law.good.lo (Net.good_of_check hc).law.good.hi);have d0:Hid (n.net.fit x.t=if n.net.check=0 then n.net.rows x.t else n.net.check):=hide rfl;generalize n.net.check=ck at *;clear h hx;simp only[dA.val,dA.cells,Mat.val]at HC HR b0 g0 |-;go_enter Tryz.func8,Tryz.ntmps8;go_wp2_with fail;go_at_call 30;refine HC.out.mono ?_;rintro e w1 ⟨rfl,i0⟩;have h0:=g0.trans (i0.mono g0.size);have b1:=b0.below i0 b0.lt;clear HC g0 b0 i0;by_cases hc:ck=0
 ·subst hc;have j0:=hide (HR.out w1 h0 rfl);have f0:Hid (n.net.fit x.t=n.net.rows x.t):=hide (by rw[d0.out,if_pos (by first | rfl | trivial)]);have x0:=b1.cell 0;have x1:=b1.cell 1;have x2:=b1.cell 2;have x3:=b1.cell 3;have x4:=b1.cell 4;simp at x0 x1 x2 x3 x4;have HB:=hide h0;clear HR d0 h0;go_wp2_with fail;go_at_call 31;refine j0.out.mono ?_;rintro e w2 ⟨rfl,k0⟩;have m0:=hide (HB.out.trans (k0.mono HB.out.size));clear k0 j0;go_wp2;go_ret;exact⟨by rw[f0.out];rfl,m0.out⟩
 ·have f0:Hid (n.net.fit x.t=ck):=hide (by rw[d0.out,if_neg hc]);have:(ck == 0)=false:=by simp[hc]
  have HB:=hide h0;clear d0 hc HR h0;go_wp2;go_ret;exact⟨by rw[f0.out];rfl,HB.out⟩
theorem xI (n:dA)(i j:Nat)(ga:Option Addr)(cap b o:Nat)(f:Nat->Int)(w:World)(h:n.In w.heap.size w)(hck:n.net.check=0)(hf:Ints ga n.net.N b o f w)(hb:b<w.heap.size)(hr:n.net.Routes f):
 Calls Tryz.prog 50 #[n.val,.int .i64 i,.int .i64 j,.slice ga n.net.N cap] w fun e w'=>e=.returned (.int .i64 (n.net.route i j f))/\Below w.heap.size w w':=by
 have g:=Net.good_of_check hck;have lo:=g.lo;have M0:=g.hi;have:2<=n.a.size:=g.law.good.lo;have:n.a.size<=24:=g.law.good.hi;obtain⟨N,hN⟩:∃N:Nat,n.nodes=N:=⟨n.nodes.toNat,by have:n.net.nodes=n.nodes:=rfl;omega⟩;have m0:n.net.N=N:=by show n.nodes.toNat=N;omega
 have:N<=6:=by have:n.net.nodes=n.nodes:=rfl;omega
 have:1<=N:=by have:n.net.nodes=n.nodes:=rfl;omega
 rw[m0]at hf |-;have N0:=hf.addr (by omega);subst N0;have d0:n.cells=#[.int .i64 n.a.size,.slice n.a.B.ga n.a.B.t.len n.a.B.cap,.slice n.a.E.ga n.a.E.t.len n.a.E.cap,.int .i64 N,.slice n.la n.ln n.lc]:=by simp only[dA.cells,Mat.val,hN]
 have s0:Below w.heap.size w (w.alloc (.cells n.cells 27)):=(Below.refl _ w).alloc lR _;have b0:=Blk.new w n.cells 27;have HE:=hide (fun (k:Nat) W (hb:Below w.heap.size w W)=>nH n i k W (h.grown hb));have HO:=hide (n.net.out_spec g hr i j);have G:=hide g;have H:=hide h;have HR:=hide hr;have HF:=hide hf;have O0:=hide m0;have g0:Hid (n.net.out i j f 0=if i=j then 0 else n.a.size-1):=hide rfl;have h0:Hid (n.net.route i j f=n.net.out i j f N):=hide (by unfold Net.route;rw[m0]);simp only[dA.val,d0]at HE |-;rw[d0]at s0 b0;have:=hide d0;obtain⟨W0,p0⟩:∃W0,W0=w.alloc (.cells #[.int .i64 n.a.size,.slice n.a.B.ga n.a.B.t.len n.a.B.cap,.slice n.a.E.ga n.a.E.t.len n.a.E.cap,.int .i64 N,.slice n.la n.ln n.lc] 27):=⟨_,rfl⟩;have B0:Hid (Below w.heap.size w W0):=hide (by rw[p0];exact s0);have E0:Hid (Blk W0 w.heap.size #[.int .i64 n.a.size,.slice n.a.B.ga n.a.B.t.len n.a.B.cap,.slice n.a.E.ga n.a.E.t.len n.a.E.cap,.int .i64 N,.slice n.la n.ln n.lc] 27):=hide (by rw[p0];exact b0);clear hN d0 h hck m0 lo M0 g s0 b0 hr hf;have P0:∃v:Int,v=n.net.out i j f 0/\((i=j/\v=0)\/(i≠j/\v=n.a.size-1)):=by
  by_cases e:i=j
  ·exact⟨_,rfl,Or.inl ⟨e,by rw[g0.out,if_pos e]⟩⟩
  ·exact⟨_,rfl,Or.inr ⟨e,by rw[g0.out,if_neg e]⟩⟩
 obtain⟨v0,K0,k0⟩:=P0;have Q0:=hide K0;clear K0 g0;rcases k0 with ⟨hij,hv⟩ | ⟨hij,hv⟩
 all_goals
  first
  | (have u0:((i:Int) == (j:Int))=true:=by simp[hij])
  | (have u0:((i:Int) == (j:Int))=false:=by simp;omega)
  have Hv:=hide hv;clear hij hv;go_enter Tryz.func50,Tryz.ntmps50;go_wp2_with fail;rw[<-p0];clear p0
  go_loopw [9,10,11] (fun s q _ wr=>∃k:Nat,k<=N/\q=.int .i64 k/\s=.int .i64 (n.net.out i j f k)/\Hid (Below W0.heap.size W0 wr)) (fun _ q _ _=>N-(intOf q).toNat)
  case atStart=>exact⟨0,zL,rfl,by rw[<-Q0.out,Hv.out],hide (Below.refl _ _)⟩
  case round =>
   obtain⟨k,hk,rfl,rfl,HB⟩:=hrel;have bN:=E0.out.below HB.out E0.out.lt;have x0:=bN.cell 0;have x1:=bN.cell 1;have x2:=bN.cell 2;have x3:=bN.cell 3;have x4:=bN.cell 4;simp at x0 x1 x2 x3 x4;have o0:=B0.out.trans (HB.out.mono B0.out.size);by_cases L0:k<N
   ·have R0:(k:Int)<(N:Int):=by omega
    have F0:=hide (HE.out k wr o0);clear o0;go_wp2_with fail;go_at_call 53;refine F0.out.mono ?_;rintro e w3 ⟨rfl,e1⟩;have w0:Below wr.heap.size wr w3:=by rw[e1];exact(Below.refl _ _).alloc lR _
    have j0:=hide (HB.out.trans (w0.mono HB.out.size));have b3:=bN.below w0 bN.lt;clear x0 x1 x2 x3 x4 bN F0 w0 e1;by_cases q0:0<=n.net.edge i k
    ·have f0:n.net.out i j f (k+1)=n.net.a.B.get (n.net.out i j f k) (n.net.a.E.get (n.net.edge i k) (f k)):=by rw[Net.out,if_pos q0]
     have G0:k<n.net.N:=by rw[O0.out];exact L0
     have S0:=n.net.edge_lt G.out i k;obtain⟨ke,z0⟩:∃ke:Nat,n.net.edge i k=ke:=⟨(n.net.edge i k).toNat,by omega⟩;obtain⟨hv,A0⟩:∃hv:Nat,f k=hv:=⟨(f k).toNat,by have:=(HR.out k G0).1;omega⟩;have i0:ke<n.a.E.t.len:=by have e2:n.net.a.E.len=n.a.E.t.len:=rfl;omega
     have H0:hv<n.a.E.t.L ke:=by
      have e1:=G.out.law.good.ew ke i0;have e2:=(HR.out k G0).2;have e3:n.net.a.E.L ke=n.a.E.t.L ke:=rfl;omega
     have I0:=G.out.law.good.ez ke i0 hv H0;obtain⟨mv,C0⟩:∃mv:Nat,n.a.E.t.Z ke hv=mv:=⟨(n.a.E.t.Z ke hv).toNat,by have:=I0.1;have e3:n.net.a.E.Z ke hv=n.a.E.t.Z ke hv:=rfl;omega⟩;have hL:=(HO.out k (by omega)).1;obtain⟨bv,D0⟩:∃bv:Nat,n.net.out i j f k=bv:=⟨(n.net.out i j f k).toNat,by omega⟩;have:n.net.a.size=n.a.size:=rfl;have J0:bv<n.a.B.t.len:=by
      have e1:=G.out.law.good.bl;have e3:n.net.a.B.len=n.a.B.t.len:=rfl;omega
     have T0:mv<n.a.B.t.L bv:=by
      have e1:=G.out.law.good.bw bv J0;have e3:n.net.a.B.L bv=n.a.B.t.L bv:=rfl;have:n.net.a.E.Z ke hv=n.a.E.t.Z ke hv:=rfl;omega
     have Hn:Hid (n.net.out i j f (k+1)=n.a.B.t.Z bv mv):=hide (by
      rw[f0,D0,z0,A0];show n.a.B.t.get bv (n.a.E.t.get ke hv)=_;simp only[Tab.get,Int.toNat_natCast,C0])
     have y0:=H.out.below (B0.out.trans (j0.out.mono B0.out.size)) lR;obtain⟨a1,a2,a3⟩:=y0.a.E.at i0 H0;obtain⟨d1,d2,d3⟩:=y0.a.B.at J0 T0;rw[C0]at a3;have hc:=(HF.out.below (B0.out.trans (j0.out.mono B0.out.size)) (fun _=>hb)).cell k L0;rw[A0]at hc;have x1:=b3.cell 1;have x2:=b3.cell 2;simp at x1 x2;have:(ke:Int)<(n.a.E.t.len:Int):=by omega
     have:(hv:Int)<(n.a.E.t.L ke:Int):=by omega
     have:(bv:Int)<(n.a.B.t.len:Int):=by omega
     have:(mv:Int)<(n.a.B.t.L bv:Int):=by omega
     rw[D0,z0];clear f0 A0 C0 hL I0 D0 z0 S0 q0 y0 b3;go_wp2_with fail
     go_quiet (fail)
     go_wp2;go_roundw
     case rel =>
      first
      | exact⟨k+1,by omega,by go_num,by rw[Hn.out],hide (below_drewN j0.out _)⟩
      | ((try rw[<-a1]);(try rw[<-d1]);(repeat apply Exists.intro);refine⟨?_,rfl⟩;exact⟨k+1,by omega,by go_num,by rw[Hn.out],hide (below_drewN j0.out _)⟩)
     case measure=>simp[intOf];omega
    ·have f0:n.net.out i j f (k+1)=n.net.out i j f k:=by rw[Net.out,if_neg q0]
     have Hn:=hide f0;have:n.net.edge i k<0:=by omega
     generalize n.net.edge i k=ed at *;clear f0 q0 b3;go_wp2;go_roundw
     case rel =>
      first
      | exact⟨k+1,by omega,by go_num,by rw[Hn.out],j0⟩
      | ((repeat apply Exists.intro);refine⟨?_,rfl⟩;exact⟨k+1,by omega,by go_num,by rw[Hn.out],j0⟩)
     case measure=>simp[intOf];omega
   ·have U0:k=N:=by omega
    have R0:(N:Int)<=(k:Int):=by omega
    subst U0;have V0:=hide o0;clear o0;go_wp2;go_ret;exact⟨by rw[h0.out];rfl,V0.out⟩
section
variable {n:Net} {S:List Int->Prop} {C l:Nat} {xs:List Int} {k:Int} {B:Mat} {rn:Nat} {vs:List Value} {W W':World}
end
theorem wp_append_run {P:Program}{o:Oper}{a:Act}{w:World}{K:Act->World->Prop}{Q:Exit->Act->World->Prop}
 (hg:o.guard=none) (s x:Operand) (t:TypeId) (hop:o.op=Op.call { callee:=Callee.builtin Builtin.append,args:=#[s,x],argTypes:=#[t,t] })
 (sv xv:Value) (hs:a.eval s=sv) (hx:a.eval x=xv) (v':Value) (w':World) (hrun:(Builtin.append_ #[t,t] o.type #[sv,xv]).run P w=.ok v' w') (hK:K (a.put o.dst v') w'):Oper.wp P o a w K Q:=by
 have:=rC (ops:=#[]) (E:=False) (Q:=Q) hg s x t hop sv xv hs hx v' w' hrun hK;have hw:Region.wanted o (yielded #[] a.tmps)=true:=by simp[Region.wanted,hg]
 rw[if_pos hw]at this;exact this
theorem wG (w:World)(ty:TypeId)(g:Nat)(ad:Option Addr)(q:Nat):
 (Builtin.append_ #[32,32] ty #[.slice (some ⟨g,0,none⟩) 0 0,.slice ad 0 q]).run Tryz.prog w=.ok (.slice (some ⟨g,0,none⟩) 0 0) w:=by
 obtain⟨i1,d0,f0,g0,h0⟩:=info_parts Tryz.infoInt;cases ad <;> simp[Builtin.append_,run_underlying Tryz.underlying32,sizeOf,typeInfo,d0,Builtin.lenOf,Builtin.firstCells,storeCells,loadCells,loadCellsFrom]
theorem BP (a:Option Addr)(q:Nat)(w:World):
 Calls Tryz.prog 77 #[.slice a 0 q] w fun e w'=>∃ (a':Option Addr) (c:Nat),e=.returned (.slice a' 0 c)/\Below w.heap.size w w':=by
 have HB:=hide ((Below.refl w.heap.size w).alloc lR (.cells #[] 3));cases a with
 | none =>
  have d0:=Lib.run_eql_slice_nil (P:=Tryz.prog) w 32 3 none 0 q 0 0 Tryz.underlying32;go_enter Tryz.func77,Tryz.ntmps77;go_wp2;go_ret;exact⟨none,0,rfl,Below.refl _ _⟩
 | some ad =>
  have d0:=Lib.run_eql_slice_nil (P:=Tryz.prog) w 32 3 (some ad) 0 q 0 0 Tryz.underlying32;go_enter Tryz.func77,Tryz.ntmps77;go_wp2_with (at_builtin;refine Lib.wpList_append_run _ rfl _ _ _ _ rfl _ _ rfl rfl _ _ (wG _ _ _ _ _) ?_);go_ret;exact⟨_,_,rfl,HB.out⟩
theorem qR (a:Option Addr)(p q b o:Nat)(f:Nat->Int)(w:World)(h:Ints a p b o f w)(hp1:p<=100)(hb:0<p->b<w.heap.size):
 Calls Tryz.prog 77 #[.slice a p q] w fun e w'=>(∃ (a':Option Addr) (c b':Nat),e=.returned (.slice a' p c)/\Ints a' p b' 0 f w'/\(0<p->w.heap.size<=b'/\yB w' b'))/\Below w.heap.size w w':=by
 by_cases hp:0<p
 ·refine(MG a p q b o f w h hp hp1 (hb hp)).mono ?_;rintro e w' ⟨g,c,rfl,h1,h2,h3,h4⟩;exact⟨⟨some ⟨g,0,none⟩,c,g,rfl,⟨fun _=>rfl,fun i hi=>by rw[Nat.zero_add];exact h4 i hi,h.len⟩,fun _=>⟨h2,h3⟩⟩,h1⟩
 ·obtain rfl:p=0:=by omega
  refine(BP a q w).mono ?_;rintro e w' ⟨a',c,rfl,d0⟩;exact⟨⟨a',c,0,rfl,⟨fun h0=>absurd h0 (Nat.lt_irrefl _),fun i hi=>absurd hi nZ,h.len⟩,fun h0=>absurd h0 (Nat.lt_irrefl _)⟩,d0⟩
theorem gG (M:Nat->xB)(p i:Nat)(hi:i<p):((List.range p).map M).getD i zA=M i:=by
 simp[List.getD_eq_getElem?_getD,hi]
theorem TC.news {x:TC}{N:Nat}{w:World}(h:x.In N w)(j:Nat)(u:Value)(hu:(uA ((List.range x.bn).map x.M))[j]? = some u):w.cell? ⟨x.bb,x.bo+j,none⟩=some u:=by
 have hj:j<x.bn*3:=by
  have:=(List.getElem?_eq_some_iff.1 hu).1;rw[jD]at this;simpa using this
 have hq:j / 3<x.bn:=by omega
 obtain⟨m0,m1,m2⟩:=jH ((List.range x.bn).map x.M) (j / 3) (by simpa using hq);rw[gG x.M x.bn (j / 3) hq]at m0 m1 m2;have h3:j=j / 3*3\/j=j / 3*3+1\/j=j / 3*3+2:=by omega
 rcases h3 with e | e | e
 ·rw[e]at hu |-;rw[m0]at hu;cases hu;have:=h.c0 (j / 3) hq;exact this
 ·rw[e]at hu |-;rw[m1]at hu;cases hu;exact h.c1 (j / 3) hq
 ·rw[e]at hu |-;rw[m2]at hu;cases hu;exact h.c2 (j / 3) hq
theorem OH (w:World)(ty:TypeId)(g:Nat)(ad:Option Addr)(q:Nat):
 (Builtin.append_ #[29,29] ty #[.slice (some ⟨g,0,none⟩) 0 0,.slice ad 0 q]).run Tryz.prog w=.ok (.slice (some ⟨g,0,none⟩) 0 0) w:=by
 obtain⟨i0,d0,hq⟩:∃i,Tryz.prog.info? 59=some i/\(i.zero.map (fun z=>z.cells.size),i.size,i.bytes)=(some 3,3,32):=Option.map_eq_some_iff.1 Tryz.infoMail;cases ad <;> simp[Builtin.append_,run_underlying Tryz.underlying29,sizeOf,typeInfo,d0,Builtin.lenOf,Builtin.firstCells,storeCells,loadCells,loadCellsFrom]
theorem jG (l:List xB):∀u∈uA l,u.oneCell'=true:=fun u hu=>by
 simp only[uA,List.mem_flatMap]at hu;obtain⟨m,_,hu⟩:=hu;simp at hu;rcases hu with rfl | rfl | rfl <;> rfl
theorem NK (x:TC)(w:World)(h:x.In w.heap.size w)(hl:x.bn<=120):
 Calls Tryz.prog 81 #[.slice x.ba x.bn x.bc] w fun e w'=>(∃v,e=.returned v/\w'.ownsRow w.heap.size 59 3 v ((List.range x.bn).map x.M).length (uA ((List.range x.bn).map x.M)))/\Below w.heap.size w w':=by
 obtain⟨i0,x0,hq⟩:∃i,Tryz.prog.info? 59=some i/\(i.zero.map (fun z=>z.cells.size),i.size,i.bytes)=(some 3,3,32):=Option.map_eq_some_iff.1 Tryz.infoMail;obtain⟨z,hz,y0⟩:∃z,i0.zero=some z/\z.cells.size=3:=by
  have:=congrArg Prod.fst hq;simpa [Option.map_eq_some_iff] using this
 have u0:i0.size=3:=congrArg (fun x=>x.2.1) hq;have v0:i0.bytes=32:=congrArg (fun x=>x.2.2) hq;have o0:Below w.heap.size w (w.alloc (.cells #[] 59)):=(Below.refl _ w).alloc lR _;have d0:World.ownsRow (w.alloc (.cells #[] 59)) w.heap.size 59 3 (.slice (some ⟨w.heap.size,0,none⟩) 0 0) 0 [] :=
  World.ownsRow_made w #[] 0 (base:=w.heap.size) (e:=59) (size:=3) lR zL (by simp)
 obtain⟨ba,bn,bc,bb,bo,M⟩:=x;have B0:bn<=120:=hl;have s0:=hide o0;have h0:=hide d0;by_cases hp:0<bn
 ·obtain rfl:ba=some ⟨bb,bo,none⟩:=h.ba hp;have f0:∀j u,(uA ((List.range bn).map M))[j]? = some u->(w.alloc (.cells #[] 59)).cell? ((⟨bb,bo,none⟩:Addr).add j)=some u:=fun j u hu=>by
   rw[Go.WideShapes.add_plain];exact TC.news (h.below o0 lR) j u hu
  have p0:(uA ((List.range bn).map M)).length=bn*3:=by rw[jD];simp
  have j0:=Lib.run_eql_slice_nil (P:=Tryz.prog) w 29 59 (some ⟨bb,bo,none⟩) bn bc 0 0 Tryz.underlying29;have k0:=hide f0;have q0:=hide (jG ((List.range bn).map M));have w0:Hid (((List.range bn).map M).length=bn):=hide (by simp);show Calls Tryz.prog _ #[.slice (some ⟨bb,bo,none⟩) bn bc] w fun e w'=>(∃v,e=.returned v/\w'.ownsRow w.heap.size 59 3 v ((List.range bn).map M).length (uA ((List.range bn).map M)))/\Below w.heap.size w w';generalize (List.range bn).map M=l at *;clear h o0 d0 f0 hq hl;go_enter Tryz.func81,Tryz.ntmps81;go_wp2_with (at_builtin;refine wpList_append_lies _ rfl _ _ _ rfl w.heap.size 59 i0 z 3 32 Tryz.underlying29 x0 hz u0 v0 y0 (by decide) _ 0 [] rfl h0.out ⟨bb,bo,none⟩ bn bc (uA l) rfl p0 k0.out q0.out hp ?c3 ?c4 ?c5 _ rfl ?_)
  all_goals try (case c3=>unfold maxLen;omega)
  all_goals try (case c4=>omega)
  all_goals try (case c5=>simp)
  intro g c w' m0 g0 z0 A0;have hB:Below w.heap.size w w':=s0.out.grown g0 (by simp) (fun k hk=>by cases hk;exact lR);have HF:Hid (w'.ownsRow w.heap.size 59 3 (.slice (some ⟨g,0,none⟩) bn c) l.length (uA l)):=hide (by
   rw[w0.out];simpa using m0)
  have HB:=hide hB;clear m0 g0 z0 A0 hB;go_wp2;go_ret;exact⟨⟨_,rfl,HF.out⟩,HB.out⟩
 ·obtain rfl:bn=0:=by omega
  clear h o0 d0 hq hl;show Calls Tryz.prog _ #[.slice ba 0 bc] w fun e w'=>(∃v,e=.returned v/\w'.ownsRow w.heap.size 59 3 v 0 [])/\Below w.heap.size w w';cases ba with
  | none =>
   have j0:=Lib.run_eql_slice_nil (P:=Tryz.prog) w 29 59 none 0 bc 0 0 Tryz.underlying29;go_enter Tryz.func81,Tryz.ntmps81;go_wp2;go_ret;exact⟨⟨_,rfl,World.ownsRow_nil _ _ _ _⟩,Below.refl _ _⟩
  | some ad =>
   have j0:=Lib.run_eql_slice_nil (P:=Tryz.prog) w 29 59 (some ad) 0 bc 0 0 Tryz.underlying29;go_enter Tryz.func81,Tryz.ntmps81;go_wp2_with (at_builtin;refine Lib.wpList_append_run _ rfl _ _ _ _ rfl _ _ rfl rfl _ _ (OH _ _ _ _ _) ?_);go_ret;exact⟨⟨_,rfl,h0.out⟩,s0.out⟩
structure NF (lo T N:Nat) (x:Mat) (vt:Array Value) (k:Nat) (W:World):Prop where
 blk:Blk W T vt 32
 size:vt.size=N
 row:∀r,r<k->∃ (a:Option Addr) (c b:Nat),vt[r]? = some (.slice a (x.t.L r) c)/\Ints a (x.t.L r) b 0 (x.t.Z r) W/\(0<x.t.L r->lo<=b/\yB W b/\b≠T)
theorem NF.below {lo T N:Nat}{x:Mat}{vt:Array Value}{k:Nat}{W W':World}(h:NF lo T N x vt k W)(hb:Below W.heap.size W W'):NF lo T N x vt k W' :=
 ⟨h.blk.below hb h.blk.lt,h.size,fun r hr=>by
  obtain⟨a,c,b,h1,h2,h3⟩:=h.row r hr;exact⟨a,c,b,h1,h2.below hb (fun h0=>(h3 h0).2.1.lt),fun h0=>⟨(h3 h0).1,(h3 h0).2.1.grown hb,(h3 h0).2.2⟩⟩⟩
theorem Ints.setOther {a:Option Addr}{l b o:Nat}{f:Nat->Int}{W:World}{T j:Nat}{u:Value}(h:Ints a l b o f W)(hne:0<l->b≠T):Ints a l b o f (W.setCell ⟨T,j,none⟩ u) :=
 ⟨h.addr,fun i hi=>by rw[qA (hne (by omega))];exact h.cell i hi,h.len⟩
theorem NF.put {lo T N:Nat}{x:Mat}{vt:Array Value}{k:Nat}{W:World}(h:NF lo T N x vt k W)(hk:k<N){a:Option Addr}{c b:Nat}(hi:Ints a (x.t.L k) b 0 (x.t.Z k) W)(hb:0<x.t.L k->lo<=b/\yB W b/\b≠T):
 NF lo T N x (vt.setIfInBounds k (.slice a (x.t.L k) c)) (k+1) (W.setCell ⟨T,k,none⟩ (.slice a (x.t.L k) c)) :=
 ⟨h.blk.set _ _,by simpa using h.size,fun r hr=>by
  by_cases e:r=k
  ·subst e;exact⟨a,c,b,Array.getElem?_setIfInBounds_self_of_lt (by rw[h.size];exact hk),hi.setOther (fun h0=>(hb h0).2.2),fun h0=>⟨(hb h0).1,(hb h0).2.1.set _ _,(hb h0).2.2⟩⟩
  ·obtain⟨a',c',b',h1,h2,h3⟩:=h.row r (by omega);exact⟨a',c',b',by rw[Array.getElem?_setIfInBounds_ne (by omega)];exact h1,h2.setOther (fun h0=>(h3 h0).2.2),fun h0=>⟨(h3 h0).1,(h3 h0).2.1.set _ _,(h3 h0).2.2⟩⟩⟩
theorem kR (x:Mat)(N:Nat)(w:World)(h:x.In w.heap.size w)(hl:x.t.len=N)(hw:∀r,r<N->x.t.L r<=100)(hN:N<=100):
 Calls Tryz.prog 40 #[x.val] w fun e w'=>(∃T vt,e=.returned (.slice (some ⟨T,0,none⟩) N N)/\w.heap.size<=T/\NF w.heap.size T N x vt N w')/\Below w.heap.size w w':=by
 obtain⟨i2,s0,u0,v0,w0⟩:=info_parts Tryz.infoInts;have:∀u:World,(Instr.makeSlice 22 (.int .i64 (N:Int)) (.int .i64 (N:Int))).run Tryz.prog u=.ok (.slice (some ⟨u.heap.size,0,none⟩) N N) (u.alloc (.cells (madeCells #[.slice none 0 0] N) 32)):=fun u=>by
  have h:=run_make (P:=Tryz.prog) u 22 32 i2 (.slice none 0 0) Tryz.underlying22 s0 u0 .i64 .i64 (N:Int) (N:Int) (by omega) (Int.le_refl _) (by rw[w0];omega) (by omega);simpa [v0,Value.cells] using h
 have H:=hide h;have HW:=hide hw;have HL:=hide hl;simp only[Mat.val,hl];clear h hw hl;go_enter Tryz.func40,Tryz.ntmps40;go_wp2_with fail
 go_loopw [4,5,11] (fun _ _ q wr=>∃k:Nat,k<=N/\q=.int .i64 k/\Hid (Below w.heap.size w wr)/\Hid (∃vt,NF w.heap.size w.heap.size N x vt k wr)) (fun _ _ q _=>N-(intOf q).toNat)
 case atStart=>exact⟨0,zL,rfl,hide ((Below.refl _ _).alloc lR _),hide ⟨_,Blk.new w _ _,size_madeCells _ _,fun r hr=>absurd hr nZ⟩⟩
 case round =>
  obtain⟨k,hk,rfl,HB,HM⟩:=hrel;by_cases f0:k<N
  ·have g0:k<x.t.len:=by rw[HL.out];exact f0
   have hI:=H.out.below HB.out lR;have o0:=hI.ga (by omega);have:=hI.row k g0;have j0:Ints (x.A k) (x.t.L k) (x.RB k) (x.RO k) (x.t.Z k) wr:=hI.ints g0;have HC:=hide (qR (x.A k) (x.t.L k) (x.C k) (x.RB k) (x.RO k) (x.t.Z k) wr j0 (HW.out k f0) (fun h0=>Nat.lt_of_lt_of_le (hI.addr k g0 h0).2 HB.out.size));have:(k:Int)<(N:Int):=by omega
   obtain⟨vt,hM⟩:=HM.out;clear HM j0 hI;go_wp2_with fail;go_at_call 77;refine HC.out.mono ?_;rintro e w2 ⟨⟨a',c',b',rfl,hz,hg⟩,i0⟩;have d0:=hM.below i0;have o1:=d0.blk.cell k;have p0:k<vt.size:=by rw[hM.size];exact f0
   rw[Array.getElem?_eq_getElem p0]at o1;have:=d0.blk.frozen k;have k0:Hid (∃vt,NF w.heap.size w.heap.size N x vt (k+1) (w2.setCell ⟨w.heap.size,k,none⟩ (.slice a' (x.t.L k) c'))) :=
    hide ⟨_,d0.put f0 hz (fun h0=>by have h1:=hg h0;have:=h1.1;have:=HB.out.size;have:=hM.blk.lt;exact⟨by omega,h1.2,by omega⟩)⟩
   have m0:=hide ((HB.out.trans (i0.mono HB.out.size)).setCell (p:=⟨w.heap.size,k,none⟩) lR (.slice a' (x.t.L k) c'));clear hM d0 hz hg i0 HB HC;go_wp2;go_roundw
   case rel =>
    first
    | exact⟨k+1,by omega,by go_num,m0,k0⟩
    | ((try rw[<-o0]);(repeat apply Exists.intro);refine⟨?_,rfl⟩;exact⟨k+1,by omega,by go_num,m0,k0⟩)
   case measure=>simp[intOf];omega
  ·have q0:k=N:=by omega
   subst q0;obtain⟨vt,hM⟩:=HM.out;have HF:=hide hM;clear hM HM;go_wp2;go_ret;exact⟨⟨_,_,rfl,lR,HF.out⟩,HB.out⟩
theorem XR (base P N i:Nat)(e:Eng)(Bv:Value)(y:Lay)(w:World)(hL:Live base P N e Bv y w)(hi:i<e.bag.length)(hm:e.bag.length<120):
 Calls Tryz.prog 114 #[.pointer (some ⟨P,0,none⟩),.int .i64 i] w fun r w'=>r=.returned (.int .i64 0)/\(∃Bv',Live base P N (e.twice i) Bv' y w')/\Below base w w':=by
 have j0:base<=w.heap.size:=Nat.le_of_lt (Nat.lt_of_le_of_lt hL.lp hL.head.lt);obtain⟨g,cap,p0,m0,m1,m2⟩:=hL.mail hi;obtain⟨g',d0,W4,f0,h0,i0,q0⟩:=oO w base Bv e.bag (e.bag.getD i zA) hL.bag (by omega) j0 29;have g0:=hL.setBag i0 h0 (fun q hq=>by
  have:q=g':=by simpa [Value.ownBlock] using hq.symm
  subst this;exact q0)
 have HF:=hide (And.intro (Exists.intro (p:=fun Bv'=>Live base P N (e.twice i) Bv' y (W4.setCell ⟨P,1,none⟩ (.slice (some ⟨g',0,none⟩) (e.bag.length+1) d0))) _ g0) ((nA i0 (fun q hq=>(hL.bag.lt q hq).1) j0).setCell (p:=⟨P,1,none⟩) hL.lp (.slice (some ⟨g',0,none⟩) (e.bag.length+1) d0)));have hP:Bv.ownBlock≠some P:=fun e1=>(hL.bv P e1).1 rfl;have k0:Blk W4 P #[.slice (some ⟨y.G,0,none⟩) N y.gc,Bv] 31:=hL.head.kept i0 (fun e1=>hP e1.symm);have p1:=hL.head.cell 1;have s0:∀o,(w.alloc o).cell? ⟨P,1,none⟩=some Bv:=fun o=>by have:=(hL.head.alloc o).cell 1;simpa using this
 have p4:=k0.cell 1;have pf:=k0.frozen 1;have o0:g<w.heap.size:=(hL.bag.lt g (by rw[p0];rfl)).2;have n0:∀o,(w.alloc o).cell? ⟨g,i*3,none⟩=some (.int .i64 (e.bag.getD i zA).F):=fun o=>by rw[((Below.refl w.heap.size w).alloc lR o).cell (p:=⟨g,i*3,none⟩) o0];exact m0
 simp at p1 p4;rw[p0]at p1 s0 p4 f0;generalize e.bag.getD i zA=m at *;generalize e.bag.length=len at *;have R1:=hide f0;have u0:(i:Int)<(len:Int):=by omega
 have v0:¬ (120:Int)<=(len:Int):=by omega
 clear f0 hL h0 i0 q0 g0 p0 k0 hP j0;go_enter Tryz.func114,Tryz.ntmps114;go_wp2
 go_region_law (refine rC rfl (.tmp 15) (.tmp 23) 29 rfl (.slice (some ⟨g,0,none⟩) len cap) (.slice (some ⟨w.heap.size,0,none⟩) 1 1) (by simp[Act.eval]) (by simp[Act.eval]) (.slice (some ⟨g',0,none⟩) (len+1) d0) W4 R1.out ?_)
 all_goals
  go_wp2;go_ret;exact⟨rfl,HF.out⟩
theorem eO (args:Array Value)(W:World):(callFunc 146 args).run Tryz.prog W=.ok (.enter 146 args) W:=by rfl
theorem RQ (b6 b3 Tb Tc N v j db dn tc:Nat)(ta:Option Addr)(s D:Int)(told:Bool)(W:World)(hs:2<=s)(hs2:s<=24)(hN:N<=6)(hN0:0<N)
 (h6:W.cell? ⟨b6,0,none⟩=some (.slice (some ⟨Tb,0,none⟩) N Tc)) (h3:W.cell? ⟨b3,0,none⟩=some (.int .i64 s)) (hv:v<N) (hj:j<N)
 (ht:W.cell? ⟨Tb,v,none⟩=some (.slice ta (if told=true then N else 0) tc)) (hd:told=true->ta=some ⟨db,dn,none⟩/\W.cell? ⟨db,dn+j,none⟩=some (.int .i64 D)) :
 Calls Tryz.prog 146 #[.int .i64 v,.int .i64 j,.pointer (some ⟨b6,0,none⟩),.pointer (some ⟨b3,0,none⟩)] W fun e w'=>e=.returned (.int .i64 (if told=true then D else s-1))/\∃m,w'=W.drewN m:=by
 have:(v:Int)<(N:Int):=by omega
 have:(j:Int)<(N:Int):=by omega
 cases told with
 | true =>
  obtain⟨e1,e2⟩:=hd rfl;subst e1;simp only[if_true]at ht |-;have:((N:Int) == 0)=false:=by simp;omega
  go_enter Tryz.func146,Tryz.ntmps146;go_wp2;go_ret;exact⟨rfl,0,rfl⟩
 | false =>
  simp only[Bool.false_eq_true,if_false]at ht |-;clear hd;go_enter Tryz.func146,Tryz.ntmps146;go_wp2;go_ret;exact⟨rfl,0,rfl⟩
structure FL (base P N:Nat) (e:Eng) (Bv:Value) (y:Lay) (w1 W:World):Prop where
 live:Live base P N e Bv y W
 below:Below w1.heap.size w1 W
theorem FL.keep {base P N:Nat}{e:Eng}{Bv:Value}{y:Lay}{w1 W W':World}(h:FL base P N e Bv y w1 W)(hb:Below W.heap.size W W'):FL base P N e Bv y w1 W':=⟨h.live.below hb,h.below.trans (hb.mono h.below.size)⟩
def gI (vs:List Value) (N:Nat) (f:Nat->Int) (w1:World) (k:Nat) (v:Value) (W:World):Prop :=
 if k=8 then ∃g:Nat,v=.slice (some ⟨g,0,none⟩) N N/\w1.heap.size<=g/\yB W g/\∀j,j<N->W.cell? ⟨g,j,none⟩=some (.int .i64 (f j))
 else vs[k]? = some v
theorem BN {vs:List Value}{N:Nat}{f:Nat->Int}{w1:World}{k:Nat}{v:Value}{W W':World}(hb:Below W.heap.size W W')(h:gI vs N f w1 k v W):gI vs N f w1 k v W':=by
 unfold gI at h |-;split
 ·next e =>
  rw[if_pos e]at h;obtain⟨g,h1,h2,h3,h4⟩:=h;exact⟨g,h1,h2,h3.grown hb,fun j hj=>by rw[hb.cell (p:=⟨g,j,none⟩) h3.lt];exact h4 j hj⟩
 ·next e =>
  rw[if_neg e]at h;exact h
theorem vC {vs:List Value}{N:Nat}{f:Nat->Int}{w1:World}{k:Nat}{v u:Value}{W:World}(h:gI vs N f w1 k v W)(hk:k≠8)(hu:vs[k]? = some u):v=u:=by
 unfold gI at h;rw[if_neg hk,hu]at h;exact(Option.some.inj h).symm
def Kept (y:Lay) (P N:Nat) (Bv:Value) (w w':World):Prop:=∀b,y.Off P N Bv w b->w'.heap[b]? = w.heap[b]?
theorem Kept.blk {y:Lay}{P N:Nat}{Bv:Value}{w w':World}(h:Kept y P N Bv w w'){b:Nat}{cs:Array Value}{t:TypeId}(ho:y.Off P N Bv w b)(hb:Blk w b cs t):Blk w' b cs t:=by
 have:=h b ho;unfold Blk at hb |-;rw[this];exact hb
theorem oG (n:dA)(base P N at_:Nat)(e:Eng)(Bv:Value)(y:Lay)(w:World)(h:n.In base w)(hck:n.net.check=0)(hN:n.nodes=N)(hL:Live base P N e Bv y w)(hfit:e.Fit n.net)(hat:at_<N):
 Calls Tryz.prog 135 #[n.val,.pointer (some ⟨P,0,none⟩),.int .i64 at_] w fun r w'=>r=.returned (.tuple #[])/\(∃y',Live base P N (e.look n.net at_) Bv y' w'/\y'.G=y.G/\y'.Tb=y.Tb/\y'.lo=y.lo)/\Below base w w'/\Kept y P N Bv w w':=by
 have g:=Net.good_of_check hck;have B0:2<=n.a.size:=g.law.good.lo;have C0:n.a.size<=24:=g.law.good.hi;have K0:=g.hi;have o0:n.net.N=N:=by show n.nodes.toNat=N;omega
 have D0:N<=6:=by have:n.net.nodes=n.nodes:=rfl;omega
 have y0:base<=w.heap.size:=Nat.le_of_lt (Nat.lt_of_le_of_lt hL.lp hL.head.lt);have d0:n.cells=#[.int .i64 n.a.size,.slice n.a.B.ga n.a.B.t.len n.a.B.cap,.slice n.a.E.ga n.a.E.t.len n.a.E.cap,.int .i64 N,.slice n.la n.ln n.lc]:=by simp only[dA.cells,Mat.val,hN]
 have x0:=hL.head.cell 0;have x1:=hL.rtrs.cell (at_*2+1);rw[hL.r1 at_ hat]at x1;simp at x0;have L0:(at_:Int)<(N:Int):=by omega
 obtain⟨W1,i0⟩:∃W1,W1=(w.alloc (.cells n.cells 27)).alloc (.cells #[.slice (some ⟨y.Tb at_,0,none⟩) N (y.Tc at_)] 22):=⟨_,rfl⟩;have p0:Below w.heap.size w W1:=by rw[i0];exact((Below.refl _ w).alloc lR _).alloc (by simp) _
 have b3:Blk W1 w.heap.size n.cells 27:=by rw[i0];exact(Blk.new w _ _).alloc _
 have b6:Blk W1 (w.heap.size+1) #[.slice (some ⟨y.Tb at_,0,none⟩) N (y.Tc at_)] 22:=by rw[i0];exact Blk.new' (by simp)
 have z0:=hide (hL.below p0);have E0:∀o,(w.alloc o).cell? ⟨P,0,none⟩=some (.slice (some ⟨y.G,0,none⟩) N y.gc):=fun o=>by have:=(hL.head.alloc o).cell 0;simpa using this
 have F0:∀o,(w.alloc o).cell? ⟨y.G,at_*2+1,none⟩=some (.slice (some ⟨y.Tb at_,0,none⟩) N (y.Tc at_)):=fun o=>by rw[(hL.rtrs.alloc o).cell];exact hL.r1 at_ hat
 have H:=hide h;have g0:=hide p0;have j0:=hide b3;have q0:=hide b6;have f0:=hide d0;have k0:=hide y0;have s0:=hide hfit;rw[d0]at i0;simp only[dA.val,d0];clear h hL p0 b3 b6 d0 hfit hN y0 x0 x1;go_enter Tryz.func135,Tryz.ntmps135;go_wp2;rw[<-i0];clear i0 E0 F0;have u0:=hide (fun (W:World) (hG:FL base P N e Bv y W1 W)=>zN 146 #[.pointer (some ⟨w.heap.size+1,0,none⟩),.pointer (some ⟨w.heap.size,0,none⟩)] n at_ (fun j v=>e.has n.net at_ v j) W
  (((H.out.below g0.out k0.out).below hG.below (Nat.le_trans k0.out g0.out.size)).mono (Nat.le_trans (Nat.le_trans k0.out g0.out.size) hG.below.size)) hck (fun j hj=>s0.out.has g (by rw[o0];exact hat) hj) eO (fun v j W' hv hj hb=>by
   rw[o0]at hv hj;have m0:=hG.live.below hb;have q6:=((q0.out.below hG.below q0.out.lt).below hb (Nat.lt_of_lt_of_le q0.out.lt hG.below.size)).cell 0;have q3:=((j0.out.below hG.below j0.out.lt).below hb (Nat.lt_of_lt_of_le j0.out.lt hG.below.size)).cell 0;have qt:=(m0.tolds at_ hat).cell v;rw[m0.t0 at_ hat v hv]at qt;exact RQ (w.heap.size+1) w.heap.size (y.Tb at_) (y.Tc at_) N v j (y.db at_ v) (y.dn at_ v) (y.tc at_ v) (y.ta at_ v) n.a.size (e.D at_ v j) (e.told at_ v) W' B0 C0 D0 (by omega) (by simpa using q6) (by simpa [dA.cells] using q3) hv hj qt (fun ht=>⟨(m0.rows at_ hat v hv ht).1,(m0.rows at_ hat v hv ht).2.2 j hj⟩)))
 rw[o0]at u0;simp only[dA.val,f0.out]at u0;refine KA 11 _ (FL base P N e Bv y W1)
  (gI [.pointer (some ⟨P,0,none⟩),.pointer (some ⟨P,0,none⟩),.pointer (some ⟨P,0,none⟩),.slice (some ⟨y.G,0,none⟩) N y.gc,.int .i64 at_,n.val,.int .i64 at_,.func (.func 146) #[] #[.pointer (some ⟨w.heap.size+1,0,none⟩),.pointer (some ⟨w.heap.size,0,none⟩)],undef,.pointer (some ⟨y.G,at_*2,none⟩),.pointer (some ⟨y.G,at_*2,none⟩)] N (fun j=>n.net.route at_ j (fun k=>e.has n.net at_ k j)) W1)
  (fun _ W=>(∃y',Live base P N (e.look n.net at_) Bv y' W/\y'.G=y.G/\y'.Tb=y.Tb/\y'.lo=y.lo)/\Below base w W/\Kept y P N Bv w W) (fun _ _ _=>True) (by kernel_rfl) (by kernel_rfl) (by kernel_rfl) (by kernel_rfl) (by kernel_rfl) rfl (FL.keep ⟨z0.out,Below.refl _ _⟩ ⟨rfl,rfl,rfl,lR,fun _ _=>rfl⟩) ⟨?_,?_,?_,?_,?_,?_,?_,?_,?_,?_,?_,trivial⟩ ?_ trivial ?_
 rotate_right
 ·intro t W hG _;have HG:=hide hG;clear hG;simp only[fill,Act.put,sX,sY,sU];go_end0;exact⟨rfl,HG.out.1,HG.out.2⟩
 rotate_right
 ·intro t W hG hE _ K hK;have G0:=vC (hE 10 (by omega)) (by decide) rfl;have h8:∃g:Nat,t 8=.slice (some ⟨g,0,none⟩) N N/\W1.heap.size<=g/\yB W g/\∀j,j<N->W.cell? ⟨g,j,none⟩=some (.int .i64 (n.net.route at_ j (fun k=>e.has n.net at_ k j))):=hE 8 (by omega);simp only[fill,Act.put,sX,sY,sU,G0]at hK |-;rw[if_pos (by rfl)];obtain⟨gg,e8,M0,A0,I0⟩:=h8;have c1:=hG.live.rtrs.cell (at_*2);rw[hG.live.r0 at_ hat]at c1;have cf:=hG.live.rtrs.frozen (at_*2);have h0:=z0.out;have v0:y.Off P N Bv W gg:=⟨by have:=h0.head.lt;omega,by have:=h0.rtrs.lt;omega,fun k hk=>by have:=(h0.tolds k hk).lt;omega,fun hv=>by have:=(h0.bag.lt _ hv).2;omega,A0.lt,by have:=h0.ylo;have:=h0.head.lt;omega⟩;have H0:(∃y',Live base P N (e.look n.net at_) Bv y' (W.setCell ⟨y.G,at_*2,none⟩ (.slice (some ⟨gg,0,none⟩) N N))/\y'.G=y.G/\y'.Tb=y.Tb/\y'.lo=y.lo)/\Below base w (W.setCell ⟨y.G,at_*2,none⟩ (.slice (some ⟨gg,0,none⟩) N N))/\Kept y P N Bv w (W.setCell ⟨y.G,at_*2,none⟩ (.slice (some ⟨gg,0,none⟩) N N)):=by
   have w0:=hG.live.setRoutes (c:=N) hat (fun j=>n.net.route at_ j (fun k=>e.has n.net at_ k j)) v0 A0 I0;have he:(e.look n.net at_)={ e with R:=fun r=>if r=at_ then (fun j=>n.net.route at_ j (fun k=>e.has n.net at_ k j)) else e.R r }:=by
    unfold Eng.look;congr 1;funext r j;by_cases e1:r=at_
    ·rw[if_pos e1,if_pos e1]
    ·rw[if_neg e1,if_neg e1]
   rw[he];refine⟨⟨_,w0,rfl,rfl,rfl⟩,(((g0.out.mono k0.out).trans (hG.below.mono (Nat.le_trans k0.out g0.out.size))).setCell (p:=⟨y.G,at_*2,none⟩) hG.live.lg _),fun b hb=>?_⟩;rw[Below.heap_setCell _ _ _ _ hb.g,hG.below.block b (Nat.lt_of_lt_of_le hb.lt g0.out.size),g0.out.block b hb.lt]
  simp only[e8]at hK |-;go_simp;exact hK undef _ H0
 all_goals intro t W hG hp ht K hK
 all_goals clear ht
 all_goals simp only[fill,Act.put,sX,sY,sU]at hK |-
 all_goals rw[if_pos (by rfl)]
 ·go_simp;exact hK _ W hG rfl (fun _ _ _ h=>h)
 ·have e0:=vC (hp 0 (by decide)) (by decide) rfl;simp only[e0]at hK |-;go_simp;exact hK _ W hG rfl (fun _ _ _ h=>h)
 ·have e1:=vC (hp 1 (by decide)) (by decide) rfl;simp only[e1]at hK |-;go_simp;exact hK _ W hG rfl (fun _ _ _ h=>h)
 ·have e2:=vC (hp 2 (by decide)) (by decide) rfl;have c0:=hG.live.head.cell 0;simp at c0;simp only[e2]at hK |-;go_simp;exact hK _ W hG rfl (fun _ _ _ h=>h)
 ·go_simp;exact hK _ W hG rfl (fun _ _ _ h=>h)
 ·have bN:=j0.out.below hG.below j0.out.lt;have x0:=bN.cell 0;have x1:=bN.cell 1;have x2:=bN.cell 2;have x3:=bN.cell 3;have x4:=bN.cell 4;simp[f0.out]at x0 x1 x2 x3 x4;go_simp;exact hK _ W hG (by show some n.val=_;rw[dA.val,f0.out]) (fun _ _ _ h=>h)
 ·go_simp;exact hK _ W hG rfl (fun _ _ _ h=>h)
 ·go_simp;exact hK _ W hG rfl (fun _ _ _ h=>h)
 ·have e5:=vC (hp 5 (by decide)) (by decide) rfl;have e6:=vC (hp 6 (by decide)) (by decide) rfl;have e7:=vC (hp 7 (by decide)) (by decide) rfl;rw[dA.val,f0.out]at e5;simp only[e5,e6,e7]at hK |-;go_simp;go_at_call 76;refine(u0.out W hG).mono ?_;rintro r W' ⟨rfl,hb,J0,hz⟩;go_simp;exact hK _ W' (hG.keep hb) ⟨W.heap.size+1,rfl,by have:=hG.below.size;omega,J0,hz⟩ (fun _ _ _ h=>BN hb h)
 ·have e3:=vC (hp 3 (by decide)) (by decide) rfl;have e4:=vC (hp 4 (by decide)) (by decide) rfl;simp only[e3,e4]at hK |-;go_simp;exact hK _ W hG rfl (fun _ _ _ h=>h)
 ·have e9:=vC (hp 9 (by decide)) (by decide) rfl;simp only[e9]at hK |-;go_simp;exact hK _ W hG rfl (fun _ _ _ h=>h)
theorem QN (n:dA)(base P N at_:Nat)(e:Eng)(Bv:Value)(y:Lay)(w:World)(h:n.In base w)(hck:n.net.check=0)(hN:n.nodes=N)(hL:Live base P N e Bv y w)(hfit:e.Fit n.net)(hat:at_<N):
 Calls Tryz.prog 135 #[n.val,.pointer (some ⟨P,0,none⟩),.int .i64 at_] w fun r w'=>r=.returned (.tuple #[])/\(∃y',Live base P N (e.look n.net at_) Bv y' w')/\Below base w w':=by
 refine(oG n base P N at_ e Bv y w h hck hN hL hfit hat).mono ?_;rintro r w' ⟨h1,⟨y',h2,_⟩,h3,_⟩;exact⟨h1,⟨y',h2⟩,h3⟩
theorem wO (base P N i:Nat)(e:Eng)(Bv:Value)(y:Lay)(w:World)(hL:Live base P N e Bv y w)(hm:120<=e.bag.length)(hm2:e.bag.length<=200):
 Calls Tryz.prog 114 #[.pointer (some ⟨P,0,none⟩),.int .i64 i] w fun r w'=>r=.returned (.int .i64 2)/\Live base P N e Bv y w'/\Below base w w':=by
 obtain⟨g,cap,d0⟩:∃g cap,Bv=.slice (some ⟨g,0,none⟩) e.bag.length cap:=by
  rcases Go.Joins.ownsRow_forms hL.bag with ⟨_,e0⟩ | ⟨g,cap,e1⟩
  ·omega
  ·exact⟨g,cap,e1⟩
 have p1:=hL.head.cell 1;simp at p1;rw[d0]at p1;have HF:=hide (And.intro hL (Below.refl base w));generalize e.bag.length=len at *;have:(120:Int)<=(len:Int):=by omega
 clear hL d0;go_enter Tryz.func114,Tryz.ntmps114;go_wp2;go_ret;exact⟨rfl,HF.out⟩
theorem KJ {N k:Nat}(h:k<N):(madeCells #[.slice none 0 0] N)[k]? = some (.slice none 0 0):=by
 simp[madeCells,h,Nat.mod_one]
theorem nJ (n:dA)(ra:Option Addr)(rl rc N:Nat)(w:World)(hN:n.nodes=N)(hN6:N<=6):
 Calls Tryz.prog 63 #[n.val,.slice ra rl rc] w fun r w'=>(∃T,r=.returned (.agg #[.slice ra rl rc,.slice (some ⟨T,0,none⟩) N N])/\w.heap.size<=T/\Blk w' T (madeCells #[.slice none 0 0] N) 32)/\Below w.heap.size w w':=by
 obtain⟨i2,i0,j0,k0,m0⟩:=info_parts Tryz.infoInts;have:∀u:World,(Instr.makeSlice 22 (.int .i64 (N:Int)) (.int .i64 (N:Int))).run Tryz.prog u=.ok (.slice (some ⟨u.heap.size,0,none⟩) N N) (u.alloc (.cells (madeCells #[.slice none 0 0] N) 32)):=fun u=>by
  have h:=run_make (P:=Tryz.prog) u 22 32 i2 (.slice none 0 0) Tryz.underlying22 i0 j0 .i64 .i64 (N:Int) (N:Int) (by omega) (Int.le_refl _) (by rw[m0];omega) (by omega);simpa [k0,Value.cells] using h
 obtain⟨W1,g0⟩:∃W1,W1=((w.alloc (.cells n.cells 27)).alloc (.cells #[.slice ra rl rc,.slice (some ⟨w.heap.size+1+1,0,none⟩) N N] 57)).alloc (.cells (madeCells #[.slice none 0 0] N) 32):=⟨_,rfl⟩;have h0:Below w.heap.size w W1:=by rw[g0];exact(((Below.refl _ w).alloc lR _).alloc (by simp) _).alloc (by simp;omega) _
 have b2:Blk W1 (w.heap.size+1) #[.slice ra rl rc,.slice (some ⟨w.heap.size+1+1,0,none⟩) N N] 57:=by rw[g0];exact(Blk.new' (by simp)).alloc _
 have b3:Blk W1 (w.heap.size+1+1) (madeCells #[.slice none 0 0] N) 32:=by rw[g0];exact Blk.new' (by simp)
 have d0:=b2.cell 0;have d1:=b2.cell 1;simp at d0 d1;have f0:n.cells=#[.int .i64 n.a.size,.slice n.a.B.ga n.a.B.t.len n.a.B.cap,.slice n.a.E.ga n.a.E.t.len n.a.E.cap,.int .i64 N,.slice n.la n.ln n.lc]:=by simp only[dA.cells,Mat.val,hN]
 rw[f0]at g0;rw[dA.val,f0];have HF:=hide (And.intro b3 h0);have o0:=hide g0;generalize hmc:madeCells #[.slice none 0 0] N=mc at *;clear h0 b2 b3 g0 f0 hN i0 j0 k0 m0;go_enter Tryz.func63,Tryz.ntmps63;go_wp2;rw[<-o0.out];exact bodyPost_ret (v:=.agg #[.slice ra rl rc,.slice (some ⟨w.heap.size+1+1,0,none⟩) N N]) (by simp[results,Tryz.results63,go_sem,d0,d1]) rfl ⟨⟨_,rfl,by omega,HF.out.1⟩,HF.out.2⟩
theorem Live.setRouter {base P N:Nat}{e:Eng}{Bv:Value}{y:Lay}{W:World}(h:Live base P N e Bv y W){i b c T tc:Nat}{vts:Array Value}(hi:i<N)(f:Nat->Int)(ho:y.Off P N Bv W b)(hs:yB W b)(hc:∀j,j<N->W.cell? ⟨b,j,none⟩=some (.int .i64 (f j)))
 (hT:Blk W T vts 32) (hv:∀k,k<N->vts[k]? = some (.slice none 0 0)) (hoT:y.Off P N Bv W T) (hbT:b≠T) (hlo:base<=T) (hr:∀r,r<N->y.rb r≠T) (hd:∀r k,r<N->k<N->e.told r k=true->y.db r k≠T) :
 ∃y',Live base P N (e.restart i f) Bv y' ((W.setCell ⟨y.G,i*2,none⟩ (.slice (some ⟨b,0,none⟩) N c)).setCell ⟨y.G,i*2+1,none⟩ (.slice (some ⟨T,0,none⟩) N tc)):=by
 obtain⟨W2,h0⟩:∃W2,W2=(W.setCell ⟨y.G,i*2,none⟩ (.slice (some ⟨b,0,none⟩) N c)).setCell ⟨y.G,i*2+1,none⟩ (.slice (some ⟨T,0,none⟩) N tc):=⟨_,rfl⟩;have o0:∀r,r<N->r*2+1<y.vs.size:=fun r hr=>(Array.getElem?_eq_some_iff.1 (h.r1 r hr)).1;have q0:W2.heap.size=W.heap.size:=by rw[h0];simp
 have f0:∀q j,q≠y.G->W2.cell? ⟨q,j,none⟩=W.cell? ⟨q,j,none⟩:=fun q j hq=>by rw[h0,qA hq,qA hq]
 have i0:∀q cs t,q≠y.G->Blk W q cs t->Blk W2 q cs t:=fun q cs t hq hb=>by rw[h0];exact(hb.other hq _ _).other hq _ _
 obtain⟨y',d0⟩:∃y':Lay,y'={ y with vs:=(y.vs.setIfInBounds (i*2) (.slice (some ⟨b,0,none⟩) N c)).setIfInBounds (i*2+1) (.slice (some ⟨T,0,none⟩) N tc),rb:=fun r=>if r=i then b else y.rb r,rc:=fun r=>if r=i then c else y.rc r,Tb:=fun r=>if r=i then T else y.Tb r,Tc:=fun r=>if r=i then tc else y.Tc r,vt:=fun r=>if r=i then vts else y.vt r,ta:=fun r q=>if r=i then none else y.ta r q,tc:=fun r q=>if r=i then 0 else y.tc r q }:=⟨_,rfl⟩;have j0:∀k,y'.Tb k=if k=i then T else y.Tb k:=fun k=>by rw[d0]
 have hG:y'.G=y.G:=by rw[d0]
 have m0:y'.lo=y.lo:=by rw[d0]
 have k0:∀q,y.Off P N Bv W q->q≠T->y'.Off P N Bv W2 q:=fun q hq hqT=>⟨hq.p,by rw[hG];exact hq.g,fun k hk=>by rw[j0];split;exact hqT;exact hq.t k hk,hq.v,by rw[q0];exact hq.lt,by rw[m0];exact hq.lo⟩;rw[<-h0];refine⟨y',?_,?_,fun r hr'=>?_,fun r hr'=>?_,fun r hr'=>?_,fun r hr' k hk=>?_,fun r hr'=>?_,fun r hr' k hk ht=>?_,?_,h.lp,by rw[hG];exact h.lg,fun r hr'=>?_,by rw[hG];exact h.pg,fun r hr'=>?_,fun r hr'=>?_,fun r k hr' hk hne=>?_,fun g hg=>?_,by rw[m0];exact h.ylo,fun r hr'=>(by rw[d0,h0];show yB _ (if r=i then b else y.rb r);split;exact(hs.set _ _).set _ _;exact((h.sr r hr').set _ _).set _ _),fun r hr' k hk ht=>by
  have g0:(if r=i then false else e.told r k)=true:=ht;have e1:¬ r=i:=fun e1=>by rw[if_pos e1]at g0;cases g0
  rw[if_neg e1]at g0;rw[d0,h0];exact((h.sd r hr' k hk g0).set _ _).set _ _⟩
 ·have:=i0 P _ _ h.pg h.head;rw[d0];exact this
 ·have:=(h.rtrs.set (i*2) (.slice (some ⟨b,0,none⟩) N c)).set (i*2+1) (.slice (some ⟨T,0,none⟩) N tc);rw[d0,h0];exact this
 ·rw[d0];show ((y.vs.setIfInBounds (i*2) _).setIfInBounds (i*2+1) _)[r*2]? = some (.slice (some ⟨if r=i then b else y.rb r,0,none⟩) N (if r=i then c else y.rc r));rw[Array.getElem?_setIfInBounds_ne (by omega)];by_cases e1:r=i
  ·subst e1;have:=o0 r hr';rw[if_pos rfl,if_pos rfl,Array.getElem?_setIfInBounds_self_of_lt (by omega)]
  ·rw[if_neg e1,if_neg e1,Array.getElem?_setIfInBounds_ne (by omega)];exact h.r0 r hr'
 ·rw[d0];show ((y.vs.setIfInBounds (i*2) _).setIfInBounds (i*2+1) _)[r*2+1]? = some (.slice (some ⟨if r=i then T else y.Tb r,0,none⟩) N (if r=i then tc else y.Tc r));by_cases e1:r=i
  ·subst e1;have:=o0 r hr';rw[if_pos rfl,if_pos rfl,Array.getElem?_setIfInBounds_self_of_lt (by simp;omega)]
  ·rw[if_neg e1,if_neg e1,Array.getElem?_setIfInBounds_ne (by omega),Array.getElem?_setIfInBounds_ne (by omega)];exact h.r1 r hr'
 ·rw[d0];show Blk W2 (if r=i then T else y.Tb r) (if r=i then vts else y.vt r) _;by_cases e1:r=i
  ·rw[if_pos e1,if_pos e1];exact i0 T _ _ hoT.g hT
  ·rw[if_neg e1,if_neg e1];exact i0 _ _ _ (Ne.symm (h.gt r hr')) (h.tolds r hr')
 ·rw[d0];show (if r=i then vts else y.vt r)[k]? = some (.slice (if r=i then none else y.ta r k) (if (if r=i then false else e.told r k)=true then N else 0) (if r=i then 0 else y.tc r k));by_cases e1:r=i
  ·simp only[if_pos e1];exact hv k hk
  ·simp only[if_neg e1];exact h.t0 r hr' k hk
 ·have s0:y'.rb r=if r=i then b else y.rb r:=by rw[d0]
  rw[s0];show Lay.Off _ P N Bv _ _/\∀j,j<N->World.cell? _ ⟨if r=i then b else y.rb r,j,none⟩=some (.int .i64 ((if r=i then f else e.R r) j));by_cases e1:r=i
  ·rw[if_pos e1,if_pos e1];exact⟨k0 b ho hbT,fun j hj=>by rw[f0 _ _ ho.g];exact hc j hj⟩
  ·rw[if_neg e1,if_neg e1];exact⟨k0 _ (h.routes r hr').1 (hr r hr'),fun j hj=>by rw[f0 _ _ (h.routes r hr').1.g];exact(h.routes r hr').2 j hj⟩
 ·have g0:(if r=i then false else e.told r k)=true:=ht;by_cases e1:r=i
  ·rw[if_pos e1]at g0;cases g0
  ·rw[if_neg e1]at g0;have e2:y'.ta r k=y.ta r k:=by rw[d0];exact if_neg e1
   have e3:y'.db r k=y.db r k:=by rw[d0]
   have e4:y'.dn r k=y.dn r k:=by rw[d0]
   rw[e2,e3,e4];obtain⟨h1,h2,h3⟩:=h.rows r hr' k hk g0;exact⟨h1,k0 _ h2 (hd r k hr' hk g0),fun j hj=>by rw[f0 _ _ h2.g];exact h3 j hj⟩
 ·have p0:Bv.ownBlock≠some y.G:=fun e1=>(h.bv _ e1).2.1 rfl;rw[h0];exact ownsRow_setCell_other (ownsRow_setCell_other h.bag p0 _) p0 _
 ·rw[j0];split
  ·exact hlo
  ·exact h.lt r hr'
 ·rw[j0];split
  ·exact Ne.symm hoT.p
  ·exact h.pt r hr'
 ·rw[j0,hG];split
  ·exact Ne.symm hoT.g
  ·exact h.gt r hr'
 ·rw[j0,j0];by_cases e1:r=i
  ·rw[if_pos e1,if_neg (by omega)];exact hoT.t k hk
  ·rw[if_neg e1];by_cases e2:k=i
   ·rw[if_pos e2];exact Ne.symm (hoT.t r hr')
   ·rw[if_neg e2];exact h.tt r k hr' hk hne
 ·obtain⟨h1,h2,h3⟩:=h.bv g hg;refine⟨h1,by rw[hG];exact h2,fun r hr'=>?_⟩;rw[j0];split
  ·intro e1;exact hoT.v (by rw[<-e1];exact hg)
  ·exact h3 r hr'
end Go.Proofs.YtjhkadffaephmacGreat
