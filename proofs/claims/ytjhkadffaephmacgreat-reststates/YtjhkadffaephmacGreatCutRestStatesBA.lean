import Derived.Test.YtjhkadffaephmacGreatCutRestStatesAJ
namespace Go.Proofs.YtjhkadffaephmacGreat
set_option maxHeartbeats 16000000
set_option maxRecDepth 100000
open Go.RowKit
structure aH (lo ob:Nat) (g c:Nat->Nat) (p n:Nat) (Z:Nat->Nat->Int) (i k:Nat) (W:World):Prop where
 out:Blk W ob (aI g c p n (i+1)) 32
 base:lo<=ob
 rows:∀r,r<i->lo<=g r/\yB W (g r)/\g r≠ob/\g r≠g i/\∀j,j<p->W.cell? ⟨g r,j,none⟩=some (.int .i64 (Z r j))
 cur:Blk W (g i) (UC (Z i) p k) 3
 own:lo<=g i/\g i≠ob
 room:c i=p
theorem YC.row {lo ob:Nat}{g c:Nat->Nat}{p n:Nat}{Z:Nat->Nat->Int}{i:Nat}{W:World}(h:YC lo ob g c p n Z i W)(hlo:lo<=W.heap.size):
 aH lo ob (QG g i W.heap.size) (QG c i p) p n Z i 0 ((W.alloc (.cells (madeCells #[.int .i64 0] p) 3)).setCell ⟨ob,i,none⟩ (.slice (some ⟨W.heap.size,0,none⟩) p p)) where
 out:=by have:=(h.out.alloc (.cells (madeCells #[.int .i64 0] p) 3)).set i (.slice (some ⟨W.heap.size,0,none⟩) p p);rw[qN]at this;exact this
 base:=h.base
 rows:=fun r hr=>by
  rw[eH g _ (by omega),qD];obtain⟨h1,h2,h3,h4⟩:=h.rows r hr;refine⟨h1,(h2.grown ((Below.refl _ W).alloc lR _)).set _ _,h3,by have:=h2.lt;omega,fun j hj=>?_⟩;rw[qA h3,((Below.refl _ W).alloc lR _).cell (p:=⟨g r,j,none⟩) h2.lt];exact h4 j hj
 cur:=by
  rw[qD,bG (Z i) p];exact(Blk.new W _ _).other (by have:=h.out.lt;omega) _ _
 own:=by rw[qD];exact⟨hlo,by have:=h.out.lt;omega⟩
 room:=qD _ _ _
theorem aH.below {lo ob:Nat}{g c:Nat->Nat}{p n i k:Nat}{Z:Nat->Nat->Int}{W W':World}(h:aH lo ob g c p n Z i k W)(hb:Below W.heap.size W W'):aH lo ob g c p n Z i k W' where
 out:=h.out.below hb h.out.lt
 base:=h.base
 rows:=fun r hr=>by
  obtain⟨h1,h2,h3,h4,h5⟩:=h.rows r hr;exact⟨h1,h2.grown hb,h3,h4,fun j hj=>by rw[hb.cell (p:=⟨g r,j,none⟩) h2.lt];exact h5 j hj⟩
 cur:=h.cur.below hb h.cur.lt
 own:=h.own
 room:=h.room
theorem aH.put {lo ob:Nat}{g c:Nat->Nat}{p n i k:Nat}{Z:Nat->Nat->Int}{W:World}(h:aH lo ob g c p n Z i k W):
 aH lo ob g c p n Z i (k+1) (W.setCell ⟨g i,k,none⟩ (.int .i64 (Z i k))) where
 out:=h.out.other (Ne.symm h.own.2) _ _
 base:=h.base
 rows:=fun r hr=>by
  obtain⟨h1,h2,h3,h4,h5⟩:=h.rows r hr;exact⟨h1,h2.set _ _,h3,h4,fun j hj=>by rw[qA h4];exact h5 j hj⟩
 cur:=by have:=h.cur.set k (.int .i64 (Z i k));rw[fH]at this;exact this
 own:=h.own
 room:=h.room
theorem aH.done {lo ob:Nat}{g c:Nat->Nat}{p n i:Nat}{Z:Nat->Nat->Int}{W:World}(h:aH lo ob g c p n Z i p W):YC lo ob g c p n Z (i+1) W where
 out:=h.out
 base:=h.base
 rows:=fun r hr=>by
  by_cases e:r=i
  ·subst e;exact⟨h.own.1,⟨_,h.cur⟩,h.own.2,fun j hj=>by rw[h.cur.cell j,FD hj,if_pos hj]⟩
  ·obtain⟨h1,h2,h3,_,h5⟩:=h.rows r (by omega);exact⟨h1,h2,h3,h5⟩
def oC (vs:List Value) (k:Nat) (v:Value) (_:World):Prop:=vs[k]? = some v
theorem aA {vs:List Value}{k:Nat}{v u:Value}{w:World}(h:oC vs k v w)(hu:vs[k]? = some u):v=u:=by
 unfold oC at h;rw[h]at hu;exact Option.some.inj hu
structure rO (lo:Nat) (w1:World) (N:Nat) (Z:Nat->Nat->Int) (g c:Nat->Nat) (i k:Nat) (W:World):Prop where
 below:Below w1.heap.size w1 W
 made:aH lo w1.heap.size g c N N Z i k W
theorem rO.keep {lo:Nat}{w1:World}{N:Nat}{Z:Nat->Nat->Int}{g c:Nat->Nat}{i k:Nat}{W W':World}(h:rO lo w1 N Z g c i k W)(hb:Below W.heap.size W W'):rO lo w1 N Z g c i k W' :=
 ⟨h.below.trans (hb.mono h.below.size),h.made.below hb⟩
theorem VJ (fid:Nat)(cap:Array Value)(N:Nat)(Z:Nat->Nat->Int)(w:World)(hN0:1<=N)(hN6:N<=6)
 (hcf:∀ (args:Array Value) (W:World),(callFunc fid args).run Tryz.prog W=.ok (.enter fid args) W)
 (hat:∀ (i j:Nat) (W:World),i<N->j<N->Below w.heap.size w W->Calls Tryz.prog fid (#[.int .i64 i,.int .i64 j] ++ cap) W fun e w'=>e=.returned (.int .i64 (Z i j))/\Below W.heap.size W w') :
 Calls Tryz.prog 46 #[.int .i64 N,.func (.func fid) #[] cap] w fun e w'=>(∃m:Mat,e=.returned m.val/\nC N w.heap.size Z m w')/\Below w.heap.size w w':=by
 obtain⟨i1,v0,w0,x0,y0⟩:=info_parts Tryz.infoInt;obtain⟨i2,z0,A0,B0,C0⟩:=info_parts Tryz.infoInts;have k0:∀u:World,(Instr.makeSlice 22 (.int .i64 (N:Int)) (.int .i64 (N:Int))).run Tryz.prog u=.ok (.slice (some ⟨u.heap.size,0,none⟩) N N) (u.alloc (.cells (madeCells #[.slice none 0 0] N) 32)):=fun u=>by
  have h:=run_make (P:=Tryz.prog) u 22 32 i2 (.slice none 0 0) Tryz.underlying22 z0 A0 .i64 .i64 (N:Int) (N:Int) (by omega) (Int.le_refl _) (by rw[C0];omega) (by omega);simpa [B0,Value.cells] using h
 have m0:∀u:World,(Instr.makeSlice 32 (.int .i64 (N:Int)) (.int .i64 (N:Int))).run Tryz.prog u=.ok (.slice (some ⟨u.heap.size,0,none⟩) N N) (u.alloc (.cells (madeCells #[.int .i64 0] N) 3)):=fun u=>by
  have h:=run_make (P:=Tryz.prog) u 32 3 i1 (.int .i64 0) Tryz.underlying32 v0 w0 .i64 .i64 (N:Int) (N:Int) (by omega) (Int.le_refl _) (by rw[y0];omega) (by omega);simpa [x0,Value.cells] using h
 have HO:=hide hat;clear hat;go_enter Tryz.func46,Tryz.ntmps46;go_wp2_with fail
 go_loopw [6,7,12] (fun _ _ q wr=>∃k:Nat,k<=N/\q=.int .i64 k/\Hid (Below w.heap.size w wr)/\Hid (∃g c:Nat->Nat,YC w.heap.size w.heap.size g c N N Z k wr)) (fun _ _ q _=>N-(intOf q).toNat)
 case atStart=>exact⟨0,zL,rfl,hide ((Below.refl _ _).alloc lR _),hide ⟨_,_,YC.start w w.heap.size N N Z (by omega)⟩⟩
 case round =>
  obtain⟨i,hi,rfl,HB,HM⟩:=hrel;by_cases d0:i<N
  ·obtain⟨g,c,hM⟩:=HM.out;have p0:=HB.out.size;have f0:=hM.row (by omega);have o0:∀o,(wr.alloc o).cell? ⟨w.heap.size,i,none⟩=some (.slice none 0 0):=fun o=>by
    have:=(hM.out.alloc o).cell i;rw[pF d0,if_neg (Nat.lt_irrefl _)]at this;exact this
   have of:∀o,(wr.alloc o).frozen? ⟨w.heap.size,i,none⟩=false:=fun o=>(hM.out.alloc o).frozen i;have D0:(i:Int)<(N:Int):=by omega
   have h0:=f0.out.cell i;rw[pF d0,if_pos (by omega),qD,qD]at h0;have HR:Hid (rO w.heap.size w N Z (QG g i wr.heap.size) (QG c i N) i 0 ((wr.alloc (.cells (madeCells #[.int .i64 0] N) 3)).setCell ⟨w.heap.size,i,none⟩ (.slice (some ⟨wr.heap.size,0,none⟩) N N))) :=
    hide ⟨(HB.out.alloc HB.out.size _).setCell (p:=⟨w.heap.size,i,none⟩) lR _,f0⟩
   have Hg:Hid (QG g i wr.heap.size i=wr.heap.size):=hide (qD _ _ _);generalize QG g i wr.heap.size=g' at *;generalize QG c i N=c' at *;clear hM f0 HM;go_wp2_with fail;obtain⟨wq,g0⟩:∃wq,wq=wr.heap.size:=⟨_,rfl⟩;clear o0 of h0;rw[<-g0]at Hg;simp only[<-g0]at *;clear g0
   go_loopw [7,25] (fun _ q wx=>∃k:Nat,k<=N/\q=.int .i64 k/\Hid (rO w.heap.size w N Z g' c' i k wx)) (fun _ q _=>N-(intOf q).toNat)
   case atStart=>exact⟨0,zL,rfl,HR⟩
   case round =>
    obtain⟨k,hk,rfl,HJ⟩:=hrel;by_cases j0:k<N
    ·have E0:(k:Int)<(N:Int):=by omega
     go_wp2_with fail;refine KA 10 _ (rO w.heap.size w N Z g' c' i k)
      (oC [.slice (some ⟨w.heap.size,0,none⟩) N N,.int .i64 i,.pointer (some ⟨w.heap.size,i,none⟩),.slice (some ⟨g' i,0,none⟩) N N,.int .i64 k,.func (.func fid) #[] cap,.int .i64 i,.int .i64 k,.int .i64 (Z i k),.pointer (some ⟨g' i,k,none⟩)])
      (fun _ W=>rO w.heap.size w N Z g' c' i (k+1) W) (fun _ _ _=>True) (by kernel_rfl) (by kernel_rfl) (by kernel_rfl) (by kernel_rfl) (by kernel_rfl) rfl (HJ.out.keep ⟨rfl,rfl,rfl,lR,fun _ _=>rfl⟩) ⟨?_,?_,?_,?_,?_,?_,?_,?_,?_,?_,trivial⟩ ?_ trivial ?_
     rotate_right
     ·intro t W hG _;have HG:=hide hG;clear hG;simp only[fill,Act.put,sX,sY,sU];go_wp2;go_roundw
      case rel =>
       first
       | exact⟨k+1,by omega,by go_num,HG⟩
       | ((repeat apply Exists.intro);refine⟨?_,rfl⟩;exact⟨k+1,by omega,by go_num,HG⟩)
      case measure=>simp[intOf];omega
     rotate_right
     ·intro t W hG hE _ K hK;have e8:=aA (hE 8 (by omega)) rfl;have e9:=aA (hE 9 (by omega)) rfl;have c1:=hG.made.cur.cell k;rw[FD j0,if_neg (Nat.lt_irrefl _)]at c1;have cf:=hG.made.cur.frozen k;have q0:rO w.heap.size w N Z g' c' i (k+1) (W.setCell ⟨g' i,k,none⟩ (.int .i64 (Z i k))):=⟨hG.below.setCell (p:=⟨g' i,k,none⟩) (by rw[Hg.out];exact p0) _,hG.made.put⟩;simp only[fill,Act.put,sX,sY,sU,e8,e9]at hK |-;rw[if_pos (by rfl)];go_simp;exact hK undef _ q0
     all_goals intro t W hG hp _ K hK
     all_goals simp only[fill,Act.put,sX,sY,sU]at hK |-
     all_goals rw[if_pos (by rfl)]
     ·go_simp;exact hK _ W hG rfl (fun _ _ _ h=>h)
     ·go_simp;exact hK _ W hG rfl (fun _ _ _ h=>h)
     ·have e0:=aA (hp 0 (by decide)) rfl;have e1:=aA (hp 1 (by decide)) rfl;simp only[e0,e1]at hK |-;go_simp;exact hK _ W hG rfl (fun _ _ _ h=>h)
     ·have e2:=aA (hp 2 (by decide)) rfl;have c1:=hG.made.out.cell i;rw[pF d0,if_pos (by omega),hG.made.room]at c1;simp only[e2]at hK |-;go_simp;exact hK _ W hG rfl (fun _ _ _ h=>h)
     ·go_simp;exact hK _ W hG rfl (fun _ _ _ h=>h)
     ·go_simp;exact hK _ W hG rfl (fun _ _ _ h=>h)
     ·go_simp;exact hK _ W hG rfl (fun _ _ _ h=>h)
     ·go_simp;exact hK _ W hG rfl (fun _ _ _ h=>h)
     ·have e5:=aA (hp 5 (by decide)) rfl;have e6:=aA (hp 6 (by decide)) rfl;have e7:=aA (hp 7 (by decide)) rfl;simp only[e5,e6,e7]at hK |-;go_simp;refine(HO.out i k W d0 j0 hG.below).mono ?_;rintro e W' ⟨rfl,hb⟩;go_simp;exact hK _ W' (hG.keep hb) rfl (fun _ _ _ h=>h)
     ·have e3:=aA (hp 3 (by decide)) rfl;have e4:=aA (hp 4 (by decide)) rfl;simp only[e3,e4]at hK |-;go_simp;exact hK _ W hG rfl (fun _ _ _ h=>h)
    ·have s0:k=N:=by omega
     subst s0;have HD:Hid (∃g c:Nat->Nat,YC w.heap.size w.heap.size g c k k Z (i+1) wr):=hide ⟨_,_,HJ.out.made.done⟩;have i0:=hide HJ.out.below;go_wp2;go_roundw
     case rel =>
      first
      | exact⟨i+1,by omega,by go_num,i0,HD⟩
      | ((repeat apply Exists.intro);refine⟨?_,rfl⟩;exact⟨i+1,by omega,by go_num,i0,HD⟩)
     case measure=>simp[intOf];omega
  ·have u0:i=N:=by omega
   subst u0;obtain⟨g,c,hM⟩:=HM.out;obtain⟨m,e1,e2,e3,e4⟩:=hM.mat (by omega) (by omega);have HF:Hid (nC i w.heap.size Z m wr):=hide ⟨e2,e3,e4⟩;have He:=hide e1;clear hM e1 e2 e3 e4 HM;go_wp2;go_ret;exact⟨⟨m,congrArg Ending.returned He.out,HF.out⟩,HB.out⟩
theorem sM (args:Array Value)(W:World):(callFunc 59 args).run Tryz.prog W=.ok (.enter 59 args) W:=by rfl
theorem NP (n:dA)(i j bx:Nat)(w:World)(h0:2<=n.a.size)(h1:n.a.size<=24)(hb:Blk w bx n.cells 27):
 Calls Tryz.prog 59 #[.int .i64 i,.int .i64 j,.pointer (some ⟨bx,0,none⟩)] w fun e w'=>e=.returned (.int .i64 (n.net.begin i j))/\Below w.heap.size w w':=by
 have HO:=hide (eQ n i j w h0 h1);have x0:=hb.cell 0;have x1:=hb.cell 1;have x2:=hb.cell 2;have x3:=hb.cell 3;have x4:=hb.cell 4;simp[dA.cells,Mat.val]at x0 x1 x2 x3 x4;simp only[dA.val,dA.cells,Mat.val]at HO;clear hb h0 h1;go_enter Tryz.func59,Tryz.ntmps59;go_wp2_with fail;go_at_call 60;refine HO.out.mono ?_;rintro e w1 ⟨rfl,d0⟩;have HB:=hide d0;clear d0;go_wp2;go_ret;exact⟨rfl,HB.out⟩
theorem BI (n:dA)(w:World)(h:n.In w.heap.size w)(hck:n.net.check=0):
 Calls Tryz.prog 22 #[n.val] w fun e w'=>(∃m:Mat,e=.returned (.tuple #[m.val,.int .i64 0])/\nC n.net.N w.heap.size n.net.begin m w')/\Below w.heap.size w w':=by
 have g:=Net.good_of_check hck;have lo:=g.lo;have p0:=g.hi;have q0:2<=n.a.size:=g.law.good.lo;have s0:n.a.size<=24:=g.law.good.hi;obtain⟨N,hN⟩:∃N:Nat,n.nodes=N:=⟨n.nodes.toNat,by have:n.net.nodes=n.nodes:=rfl;omega⟩;have i0:n.net.N=N:=by show n.nodes.toNat=N;omega
 have u0:N<=6:=by have:n.net.nodes=n.nodes:=rfl;omega
 have v0:1<=N:=by have:n.net.nodes=n.nodes:=rfl;omega
 have j0:Below w.heap.size w (w.alloc (.cells n.cells 27)):=(Below.refl _ w).alloc lR _;have HC:=hide (zD n _ (h.grown j0));rw[hck]at HC;have d0:n.cells=#[.int .i64 n.a.size,.slice n.a.B.ga n.a.B.t.len n.a.B.cap,.slice n.a.E.ga n.a.E.t.len n.a.E.cap,.int .i64 N,.slice n.la n.ln n.lc]:=by simp only[dA.cells,Mat.val,hN]
 have HO:=hide (fun i j bx W (hb:Blk W bx n.cells 27)=>NP n i j bx W q0 s0 hb);have w0:=hide i0;simp only[dA.val,d0]at HC |-;have f0:=hide d0;clear hN d0 h hck i0 lo p0 g j0;go_enter Tryz.func22,Tryz.ntmps22;go_wp2_with fail;go_at_call 24;refine HC.out.mono ?_;rintro e w1 ⟨rfl,h0⟩;have b1:=(Blk.new w n.cells 27).below (W':=w1) (by rw[f0.out];exact h0) (by simp);have k0:Below w.heap.size w w1:=((Below.refl _ w).alloc lR _).trans (h0.mono (by simp));have x3:=b1.cell 3;simp[f0.out]at x3;have m0:=hide (VJ 59 #[.pointer (some ⟨w.heap.size,0,none⟩)] N n.net.begin w1 v0 u0 sM (fun i j W _ _ hb=>HO.out i j w.heap.size W (b1.below hb b1.lt)));have g0:=hide k0;clear HC h0 b1 k0 HO;go_wp2_with fail;go_at_call 46;refine m0.out.mono ?_;rintro e w2 ⟨⟨m,rfl,hm⟩,o0⟩;have x0:=hide (g0.out.trans (o0.mono g0.out.size));have HF:Hid (nC n.net.N w.heap.size n.net.begin m w2):=hide (by rw[w0.out];exact⟨hm.1,hm.2.1,hm.2.2.1.mono g0.out.size,hm.2.2.2⟩);clear hm o0 m0;simp only[Mat.val];go_wp2;refine bodyPost_ret (v:=.tuple #[.slice m.ga m.t.len m.cap,.int .i64 0]) (by simp[results,Tryz.results22,go_sem]) rfl ⟨⟨m,rfl,HF.out⟩,x0.out⟩
theorem dM (n:dA)(w:World)(h:n.In w.heap.size w)(hck:n.net.check≠0):
 Calls Tryz.prog 22 #[n.val] w fun e w'=>e=.returned (.tuple #[.slice none 0 0,.int .i64 n.net.check])/\Below w.heap.size w w':=by
 have d0:Below w.heap.size w (w.alloc (.cells n.cells 27)):=(Below.refl _ w).alloc lR _;have HF:=hide (zD n _ (h.grown d0));generalize n.net.check=ft at *;have:(ft != 0)=true:=by simp[hck]
 clear hck h;simp only[dA.val,dA.cells,Mat.val]at *;go_enter Tryz.func22,Tryz.ntmps22;go_wp2_with fail;go_at_call 24;refine HF.out.mono ?_;rintro e w1 ⟨rfl,f0⟩;have HB:=hide (d0.trans (f0.mono d0.size));clear HF f0 d0;go_wp2;exact bodyPost_ret (v:=.tuple #[.slice none 0 0,.int .i64 ft]) (by simp[results,Tryz.results22,go_sem]) rfl ⟨rfl,HB.out⟩
theorem vat {vs:List Value}{l:List Nat}{t:Nat->Value}{W:World}(hp:∀j∈l,oC vs j (t j) W)(j:Nat)(hj:l.contains j=true):t j=vs.getD j undef:=by
 have h1:vs[j]? = some (t j):=hp j (List.contains_iff_mem.1 hj);simp[List.getD_eq_getElem?_getD,h1]
theorem Net.same_tab {n:Net}{x y:Nat->Nat->Int}:Tab.same ⟨n.N,fun _=>n.N,x⟩ ⟨n.N,fun _=>n.N,y⟩=n.same x y:=by
 rw[Bool.eq_iff_iff,Tab.same_iff,Net.same_iff];exact⟨fun h i j hi hj=>(h.2 i hi).2 j hj,fun h=>⟨rfl,fun i hi=>⟨rfl,fun j hj=>h i j hi hj⟩⟩⟩
theorem nC.is {n:Net}{lo:Nat}{Z:Nat->Nat->Int}{m:Mat}{W:World}(h:nC n.N lo Z m W)(hs:n.State Z):n.Is m.t:=by
 rw[h.1];exact Net.Is.mk' hs
theorem nC.grown {N lo:Nat}{Z:Nat->Nat->Int}{m:Mat}{W W':World}(h:nC N lo Z m W)(hb:Below W.heap.size W W'):nC N lo Z m W':=⟨h.1,h.2.1.grown hb,h.2.2.1,h.2.2.2.grown hb⟩
theorem nC.mono {N lo lo':Nat}{Z:Nat->Nat->Int}{m:Mat}{W:World}(h:nC N lo Z m W)(hl:lo'<=lo):nC N lo' Z m W:=⟨h.1,h.2.1,h.2.2.1.mono hl,h.2.2.2⟩
def Net.Left (n:Net) (M:Nat) (X:Nat->Nat->Int) (k:Nat) (Y:Nat->Nat->Int):Prop:=n.settle M X=((n.settle (M-k) Y).1,(n.settle (M-k) Y).2+k)
theorem Net.Left.next {n:Net}{M k:Nat}{X Y:Nat->Nat->Int}(h:n.Left M X k Y)(hk:k<M)(hs:n.same Y (n.round Y)=false):n.Left M X (k+1) (n.round Y):=by
 unfold Net.Left at *;rw[show M-k=(M-(k+1))+1 by omega,Net.settle,if_neg (by simp[hs])]at h;rw[h];simp only[Prod.mk.injEq,true_and];omega
theorem Net.Left.stop {n:Net}{M k:Nat}{X Y:Nat->Nat->Int}(h:n.Left M X k Y)(hs:k=M\/n.same Y (n.round Y)=true):n.settle M X=(Y,k):=by
 unfold Net.Left at h;rw[h];rcases hs with e | e
 ·rw[show M-k=0 by omega,Net.settle];simp
 ·cases M-k with
  | zero=>rw[Net.settle];simp
  | succ q=>rw[Net.settle,if_pos e];simp
theorem yK (f1 f2:Nat)(cap1 cap2:Array Value)(n:Net)(g:n.Good)(M lo:Nat)(m0:Mat)(X:Nat->Nat->Int)(w:World)(hm0:nC n.N lo X m0 w)(hX:n.State X)(hM:M<=1000)
 (hcf1:∀ (args:Array Value) (W:World),(callFunc f1 args).run Tryz.prog W=.ok (.enter f1 args) W)
 (hcf2:∀ (args:Array Value) (W:World),(callFunc f2 args).run Tryz.prog W=.ok (.enter f2 args) W)
 (hr:∀ (m:Mat) (Y:Nat->Nat->Int) (W:World),Below w.heap.size w W->nC n.N lo Y m W->n.State Y->Calls Tryz.prog f1 (#[m.val] ++ cap1) W fun e w'=>(∃m2:Mat,e=.returned m2.val/\nC n.N lo (n.round Y) m2 w')/\Below W.heap.size W w')
 (hsm:∀ (m m2:Mat) (W:World),m.In W.heap.size W->m2.In W.heap.size W->Calls Tryz.prog f2 (#[m.val,m2.val] ++ cap2) W fun e w'=>e=.returned (.bool (m.t.same m2.t))/\∃q,w'=W.drewN q) :
 Calls Tryz.prog 39 #[m0.val,.int .i64 M,.func (.func f1) #[] cap1,.func (.func f2) #[] cap2] w fun e w'=>(∃m:Mat,e=.returned (.tuple #[m.val,.int .i64 ((n.settle M X).2:Nat)])/\nC n.N lo (n.settle M X).1 m w')/\Below w.heap.size w w':=by
 have s0:=hide hr;have d0:=hide hsm;have z0:=hide (fun (Y:Nat->Nat->Int) (hs:n.State Y)=>hs.round g);have HX:=hide hX;have A0:=hide hm0;simp only[Mat.val]at s0 d0 |-;clear hr hsm hX hm0 g;go_enter Tryz.func39,Tryz.ntmps39;go_wp2_with fail
 go_loopw [0,10,11,13] (fun s c _ q wr=>∃ (k:Nat) (m:Mat) (Y:Nat->Nat->Int),k<=M/\q=.int .i64 k/\c=.int .i64 k/\s=.slice m.ga m.t.len m.cap/\Hid (nC n.N lo Y m wr)/\Hid (n.State Y)/\Hid (n.Left M X k Y)/\Hid (Below w.heap.size w wr)) (fun _ _ _ q _=>M-(intOf q).toNat)
 case atStart=>exact⟨0,m0,X,zL,rfl,rfl,rfl,A0,HX,hide rfl,hide (Below.refl _ _)⟩
 case round =>
  obtain⟨k,m,Y,hk,rfl,rfl,rfl,HM,HY,HL,HB⟩:=hrel;by_cases D0:k<M
  ·have B0:(k:Int)<(M:Int):=by omega
   have u0:=hide (s0.out m Y wr HB.out HM.out HY.out);go_wp2_with fail;refine u0.out.mono ?_;rintro e w3 ⟨⟨m2,rfl,p0⟩,q0⟩;have i0:=hide p0;have j0:=hide (HM.out.grown q0);have h0:Hid (m.t.same m2.t=n.same Y (n.round Y)):=hide (by rw[HM.out.1,p0.1];exact Net.same_tab);have k0:=hide (HB.out.trans (q0.mono HB.out.size));have o0:=hide (d0.out m m2 w3 j0.out.2.1 i0.out.2.1);clear p0 q0 u0 HB;go_wp2_with fail;refine o0.out.mono ?_;rintro e w4 ⟨rfl,q,rfl⟩;cases hs:n.same Y (n.round Y) with
   | true =>
    have f0:m.t.same m2.t=true:=h0.out.trans hs;have g0:=hide (HL.out.stop (Or.inr hs));rw[f0];clear hs f0 h0 HL o0;go_wp2;have e2:(n.settle M X).2=k:=by rw[g0.out]
    have e3:(n.settle M X).1=Y:=by rw[g0.out]
    refine bodyPost_ret (v:=.tuple #[.slice m.ga m.t.len m.cap,.int .i64 k]) (by simp[results,Tryz.results39,go_sem]) rfl ⟨⟨m,by rw[e2],?_⟩,below_drewN k0.out _⟩;rw[e3];exact j0.out.grown (below_drewN (Below.refl _ _) _)
   | false =>
    have f0:m.t.same m2.t=false:=h0.out.trans hs;have v0:=hide (HL.out.next D0 hs);have w0:=hide (z0.out Y HY.out);have x0:Hid (nC n.N lo (n.round Y) m2 (w3.drewN q)):=hide (i0.out.grown (below_drewN (Below.refl _ _) _));have y0:=hide (below_drewN k0.out q);rw[f0];clear hs f0 h0 HL o0 HM j0 i0 k0;go_wp2;go_roundw
    case rel =>
     first
     | exact⟨k+1,m2,_,by omega,by go_num,by go_num,rfl,x0,w0,v0,y0⟩
     | ((repeat apply Exists.intro);refine⟨?_,rfl⟩;exact⟨k+1,m2,_,by omega,by go_num,by go_num,rfl,x0,w0,v0,y0⟩)
    case measure=>simp[intOf];omega
  ·have C0:k=M:=by omega
   have g0:=hide (HL.out.stop (Or.inl C0));have B0:(M:Int)<=(k:Int):=by omega
   clear HL;go_wp2;have e2:(n.settle M X).2=k:=by rw[g0.out]
   have e3:(n.settle M X).1=Y:=by rw[g0.out]
   refine bodyPost_ret (v:=.tuple #[.slice m.ga m.t.len m.cap,.int .i64 k]) (by simp[results,Tryz.results39,go_sem]) rfl ⟨⟨m,by rw[e2],?_⟩,HB.out⟩;rw[e3];exact HM.out
theorem TK (args:Array Value)(W:World):(callFunc 41 args).run Tryz.prog W=.ok (.enter 41 args) W:=by rfl
theorem KP (args:Array Value)(W:World):(callFunc 42 args).run Tryz.prog W=.ok (.enter 42 args) W:=by rfl
theorem UM (n:dA)(x:Mat)(bx:Nat)(w:World)(h:n.In w.heap.size w)(hx:x.In w.heap.size w)(hck:n.net.check=0)(his:n.net.Is x.t)(hb:Blk w bx n.cells 27):
 Calls Tryz.prog 41 #[x.val,.pointer (some ⟨bx,0,none⟩)] w fun e w'=>(∃m:Mat,e=.returned m.val/\nC n.net.N w.heap.size (n.net.round x.t.Z) m w')/\Below w.heap.size w w':=by
 have HO:=hide (tL n x w h hx hck his);have x0:=hb.cell 0;have x1:=hb.cell 1;have x2:=hb.cell 2;have x3:=hb.cell 3;have x4:=hb.cell 4;simp[dA.cells,Mat.val]at x0 x1 x2 x3 x4;simp only[dA.val,dA.cells,Mat.val]at HO |-;clear hb h hx hck his;go_enter Tryz.func41,Tryz.ntmps41;go_wp2_with fail;go_at_call 38;refine HO.out.mono ?_;rintro e w1 ⟨⟨m,rfl,hm⟩,d0⟩;have HB:=hide d0;have HM:=hide hm;clear d0 hm HO;go_wp2;go_ret;exact⟨⟨m,rfl,HM.out⟩,HB.out⟩
theorem vH (n:dA)(x:Mat)(M:Nat)(w:World)(h:n.In w.heap.size w)(hx:x.In w.heap.size w)(hf:n.net.fit x.t=0)(hM:M<=1000):
 Calls Tryz.prog 12 #[n.val,x.val,.int .i64 M] w fun e w'=>(∃m:Mat,e=.returned (.tuple #[m.val,.int .i64 ((n.net.settle M x.t.Z).2:Nat),.int .i64 0])/\nC n.net.N w.heap.size (n.net.settle M x.t.Z).1 m w')/\Below w.heap.size w w':=by
 have d0:Below w.heap.size w (w.alloc (.cells n.cells 27)):=(Below.refl _ w).alloc lR _;have b0:=Blk.new w n.cells 27;have HF:=hide (BF n x _ (h.grown d0) (hx.grown d0));rw[hf]at HF;obtain⟨hc,hi⟩:=Net.is_of_fit hf;have g:=Net.good_of_check hc;have:n.net.N<=6:=by have:=g.hi;unfold Net.N;omega
 have i0:=hide (fun W (hb:Below w.heap.size w W)=>kT x n.net.N W (hx.grown hb) hi.len hi.wide (by omega));have j0:=hide (fun (m0:Mat) (W:World) (hb:Below w.heap.size w W) (b:Blk W w.heap.size n.cells 27) (h0:nC n.net.N w.heap.size x.t.Z m0 W) =>
  yK 41 42 #[.pointer (some ⟨w.heap.size,0,none⟩)] #[] n.net g M w.heap.size m0 x.t.Z W h0 hi.state hM TK KP (fun m Y W' hb' hm hs=>by
   have hB:=hb.trans (hb'.mono hb.size);refine(UM n m w.heap.size W' (h.grown hB) hm.2.1 hc (hm.is hs) (b.below hb' b.lt)).mono ?_;rintro e w2 ⟨⟨m2,rfl,u0⟩,g0⟩;have e1:m.t.Z=Y:=by rw[hm.1]
   rw[e1]at u0;exact⟨⟨m2,rfl,u0.mono hB.size⟩,g0⟩) (fun m m2 W' h1 h2=>nS m m2 W'.heap.size W' h1 h2))
 clear hf hc hi h hx g;simp only[dA.val,dA.cells,Mat.val]at HF i0 j0 |-;simp only[dA.cells,Mat.val]at b0 d0;go_enter Tryz.func12,Tryz.ntmps12;go_wp2_with fail;go_at_call 37;refine HF.out.mono ?_;rintro e w1 ⟨rfl,p0⟩;have f0:=d0.trans (p0.mono d0.size);have b1:=b0.below p0 b0.lt;have q0:=hide (i0.out w1 f0);have:(M:Int)<=1000:=by omega
 clear HF i0 b0 p0 d0;go_wp2_with fail;go_at_call 40;refine q0.out.mono ?_;rintro e w2 ⟨⟨m0,rfl,h0⟩,g0⟩;have k0:=f0.trans (g0.mono f0.size);have b2:=b1.below g0 b1.lt;have s0:=hide (j0.out m0 w2 k0 b2 (h0.mono f0.size));have o0:=hide k0;clear h0 g0 q0 k0 f0 b1 b2 j0;go_wp2_with fail;go_at_call 39;refine s0.out.mono ?_;rintro e w3 ⟨⟨m,rfl,hm⟩,v0⟩;have HM:=hide hm;have w0:=hide (o0.out.trans (v0.mono o0.out.size));clear hm v0 s0 o0;go_wp2;exact bodyPost_ret (v:=.tuple #[.slice m.ga m.t.len m.cap,.int .i64 ((n.net.settle M x.t.Z).2:Nat),.int .i64 0]) (by simp[results,Tryz.results12,go_sem]) rfl ⟨⟨m,rfl,HM.out⟩,w0.out⟩
def Net.settleE (n:Net) (t:Tab) (most:Int):Int:=if n.fit t≠0 then n.fit t else if most<0\/1000<most then 3 else 0
theorem EK (n:dA)(x:Mat)(most:Int)(w:World)(h:n.In w.heap.size w)(hx:x.In w.heap.size w)(hf:n.net.settleE x.t most≠0):
 Calls Tryz.prog 12 #[n.val,x.val,.int .i64 most] w fun e w'=>e=.returned (.tuple #[.slice none 0 0,.int .i64 0,.int .i64 (n.net.settleE x.t most)])/\Below w.heap.size w w':=by
 have d0:Below w.heap.size w (w.alloc (.cells n.cells 27)):=(Below.refl _ w).alloc lR _;have HF:=hide (BF n x _ (h.grown d0) (hx.grown d0));have Hd:Hid (n.net.settleE x.t most=if n.net.fit x.t≠0 then n.net.fit x.t else if most<0\/1000<most then 3 else 0):=hide rfl;generalize n.net.fit x.t=ft at *;simp only[dA.val,dA.cells,Mat.val]at *;by_cases g0:ft=0
 ·subst g0;have i0:most<0\/1000<most:=by
   apply Classical.byContradiction;intro hn;rw[Hd.out]at hf;simp[hn]at hf
  have He:Hid (n.net.settleE x.t most=3):=hide (by rw[Hd.out];simp[i0]);clear Hd hf h hx;by_cases h0:most<0
  ·clear i0;go_enter Tryz.func12,Tryz.ntmps12;go_wp2_with fail;go_at_call 37;refine HF.out.mono ?_;rintro e w1 ⟨rfl,f0⟩;have HB:=hide (d0.trans (f0.mono d0.size));clear HF f0 d0;go_wp2;exact bodyPost_ret (v:=.tuple #[.slice none 0 0,.int .i64 0,.int .i64 3]) (by simp[results,Tryz.results12,go_sem]) rfl ⟨by rw[He.out],HB.out⟩
  ·have:1000<most:=by omega
   clear i0;go_enter Tryz.func12,Tryz.ntmps12;go_wp2_with fail;go_at_call 37;refine HF.out.mono ?_;rintro e w1 ⟨rfl,f0⟩;have HB:=hide (d0.trans (f0.mono d0.size));clear HF f0 d0;go_wp2;exact bodyPost_ret (v:=.tuple #[.slice none 0 0,.int .i64 0,.int .i64 3]) (by simp[results,Tryz.results12,go_sem]) rfl ⟨by rw[He.out],HB.out⟩
 ·have He:Hid (n.net.settleE x.t most=ft):=hide (by rw[Hd.out];simp[g0]);have:(ft != 0)=true:=by simp[g0]
  clear Hd hf h hx g0;go_enter Tryz.func12,Tryz.ntmps12;go_wp2_with fail;go_at_call 37;refine HF.out.mono ?_;rintro e w1 ⟨rfl,f0⟩;have HB:=hide (d0.trans (f0.mono d0.size));clear HF f0 d0;go_wp2;exact bodyPost_ret (v:=.tuple #[.slice none 0 0,.int .i64 0,.int .i64 ft]) (by simp[results,Tryz.results12,go_sem]) rfl ⟨by rw[He.out],HB.out⟩
def BC (T:Nat->Int) (p:Nat->Bool):Nat->Int
 | 0=>-1
 | l+1=>if (p l && (BC T p l == -1 || decide (T l<BC T p l)))=true then T l else BC T p l
theorem DI {T:Nat->Int}{p:Nat->Bool}:∀ {k:Nat},(∀l,l<k->0<=T l)->(BC T p k = -1/\∀l,l<k->p l=false)\/∃l,l<k/\p l=true/\BC T p k=T l/\∀j,j<k->p j=true->T l<=T j
 | 0,_=>Or.inl ⟨rfl,fun l hl=>absurd hl nZ⟩
 | k+1,h=>by
  have hk:=h k (by omega);rw[BC];rcases DI (p:=p) (k:=k) (fun l hl=>h l (by omega)) with ⟨e,hn⟩ | ⟨l,hl,hp,e,hm⟩
  ·rw[e];by_cases hpk:p k=true
   ·right;rw[if_pos (by simp[hpk])];refine⟨k,by omega,hpk,rfl,fun j hj hpj=>?_⟩;by_cases e1:j=k
    ·subst e1;exact Int.le_refl _
    ·rw[hn j (by omega)]at hpj;cases hpj
   ·left;rw[if_neg (by simp[hpk])];refine⟨rfl,fun j hj=>?_⟩;by_cases e1:j=k
    ·subst e1;simpa using hpk
    ·exact hn j (by omega)
  ·right;have hl0:=h l (by omega);rw[e];by_cases hpk:p k=true
   ·by_cases hlt:T k<T l
    ·rw[if_pos (by simp[hpk,hlt])];refine⟨k,by omega,hpk,rfl,fun j hj hpj=>?_⟩;by_cases e1:j=k
     ·subst e1;exact Int.le_refl _
     ·have:=hm j (by omega) hpj;omega
    ·rw[if_neg (by simp[hpk];omega)];refine⟨l,by omega,hp,rfl,fun j hj hpj=>?_⟩;by_cases e1:j=k
     ·subst e1;omega
     ·exact hm j (by omega) hpj
   ·rw[if_neg (by simp[hpk])];refine⟨l,by omega,hp,rfl,fun j hj hpj=>?_⟩;by_cases e1:j=k
    ·subst e1;exact absurd hpj hpk
    ·exact hm j (by omega) hpj
theorem Net.leastT_next {n:Net}(hck:n.check=0){x:Nat->Nat->Int}(hx:n.State x){i j:Nat}(hj:j<n.N)(hne:i≠j)(hv:n.round x i j≠n.a.size-1):
 BC n.T (fun l=>n.F l == (i:Int) && n.a.E.get (n.E l) (x (n.T l).toNat j) == n.round x i j) n.ln=n.next x i j:=by
 have g:=Net.good_of_check hck;have hT:∀l,l<n.ln->0<=n.T l:=fun l hl=>(g.link l hl).2.2.1;obtain⟨k,e1,hk,e2,e3,e4⟩:=n.next_some g hx hj hne hv;rw[e1];obtain⟨l0,g0,f1,f2,f3⟩:=n.link_edge e2;have d0:(n.F l0 == (i:Int) && n.a.E.get (n.E l0) (x (n.T l0).toNat j) == n.round x i j)=true:=by
  rw[f1,f2,f3,Int.toNat_natCast,e3];simp
 rcases DI (p:=fun l=>n.F l == (i:Int) && n.a.E.get (n.E l) (x (n.T l).toNat j) == n.round x i j) hT with ⟨_,hn⟩ | ⟨l,hl,hp,e,hm⟩
 ·have:=hn l0 g0;rw[d0]at this;cases this
 ·rw[e];have h1:=hm l0 g0 d0;rw[f2]at h1;simp only[Bool.and_eq_true,beq_iff_eq]at hp;have h0:=hT l hl;have f0:n.edge i ((n.T l).toNat:Nat)=n.E l:=by
   rw[<-hp.1,show (((n.T l).toNat:Nat):Int)=n.T l by omega];exact n.edge_link hck hl
  apply Classical.byContradiction;intro hc;exact e4 (n.T l).toNat (by omega) (by rw[f0];exact(g.link l hl).2.2.2.2.1) (by rw[f0];exact hp.2)
theorem EN (fid:Nat)(cap:Array Value)(n:dA)(p:Nat->Bool)(w:World)(h:n.In w.heap.size w)(hck:n.net.check=0)
 (hcf:∀ (args:Array Value) (W:World),(callFunc fid args).run Tryz.prog W=.ok (.enter fid args) W)
 (hat:∀ (i:Nat) (W:World),i<n.ln->Below w.heap.size w W->Calls Tryz.prog fid (#[.agg #[.int .i64 (n.F i),.int .i64 (n.T i),.int .i64 (n.E i)]] ++ cap) W fun e w'=>e=.returned (.bool (p i))/\Below W.heap.size W w') :
 Calls Tryz.prog 48 #[n.val,.func (.func fid) #[] cap] w fun e w'=>e=.returned (.int .i64 (BC n.T p n.ln))/\Below w.heap.size w w':=by
 have k0:=h.len;unfold maxLen at k0;have g:=Net.good_of_check hck;have HT:Hid (∀l,l<n.ln->0<=n.T l/\n.T l<10):=hide (fun l hl=>by
  have:=g.link l hl;have:=g.hi;have:n.net.T l=n.T l:=rfl;omega)
 obtain⟨W1,h0⟩:∃W1,W1=w.alloc (.cells n.cells 27):=⟨_,rfl⟩;have p0:Below w.heap.size w W1:=by rw[h0];exact(Below.refl _ w).alloc lR _
 have b1:Blk W1 w.heap.size n.cells 27:=by rw[h0];exact Blk.new w _ _
 have x4:=b1.cell 4;simp[dA.cells,Mat.val]at x4;have HA:=hide hat;have H:=hide h;have q0:=hide p0;rw[h0]at x4;simp only[dA.val,dA.cells,Mat.val]at h0 x4 |-;clear hat h g hck p0 b1;go_enter Tryz.func48,Tryz.ntmps48;go_wp2_with fail;rw[<-h0];clear h0 x4
 go_loopw [5,7,11] (fun s _ q wr=>∃k:Nat,k<=n.ln/\q=.int .i64 k/\s=.int .i64 (BC n.T p k)/\Hid (Below W1.heap.size W1 wr)) (fun _ _ q _=>n.ln-(intOf q).toNat)
 case atStart=>exact⟨0,zL,rfl,rfl,hide (Below.refl _ _)⟩
 case round =>
  obtain⟨k,hk,rfl,rfl,HB⟩:=hrel;have g0:=q0.out.trans (HB.out.mono q0.out.size);by_cases i0:k<n.ln
  ·have:(k:Int)<(n.ln:Int):=by omega
   have hI:=H.out.below g0 lR;have j0:=H.out.la (by omega);have:=hI.f k i0;have:=hI.t k i0;have:=hI.e k i0;have:=HT.out k i0;have HC:=hide (HA.out k (wr.alloc (.cells #[.int .i64 (n.F k),.int .i64 (n.T k),.int .i64 (n.E k)] 81)) i0 (g0.alloc g0.size _));have s0:=hide (HB.out.alloc HB.out.size (.cells #[.int .i64 (n.F k),.int .i64 (n.T k),.int .i64 (n.E k)] 81));have u0:=hide (Blk.new wr #[.int .i64 (n.F k),.int .i64 (n.T k),.int .i64 (n.E k)] 81);have d0:Hid (BC n.T p (k+1)=if (p k && (BC n.T p k == -1 || decide (n.T k<BC n.T p k)))=true then n.T k else BC n.T p k):=hide rfl;generalize BC n.T p k=cur at *;clear hI g0;go_wp2_with fail;refine HC.out.mono ?_;rintro e w2 ⟨rfl,o0⟩;have f0:=hide (s0.out.trans (o0.mono s0.out.size));have bL:=u0.out.below o0 u0.out.lt;have d1:=bL.cell 1;simp at d1;clear o0 HC bL;by_cases hp:p k=true
   ·by_cases hc:cur = -1
    ·subst hc;have Hn:Hid (BC n.T p (k+1)=n.T k):=hide (by rw[d0.out,hp];simp);rw[hp];clear hp d0;go_wp2;go_roundw
     case rel =>
      first
      | exact⟨k+1,by omega,by go_num,by rw[Hn.out],f0⟩
      | ((try rw[<-j0]);(repeat apply Exists.intro);refine⟨?_,rfl⟩;exact⟨k+1,by omega,by go_num,by rw[Hn.out],f0⟩)
     case measure=>simp[intOf];omega
    ·have v0:(cur == -1)=false:=by simp[hc]
     by_cases hl:n.T k<cur
     ·have Hn:Hid (BC n.T p (k+1)=n.T k):=hide (by rw[d0.out,hp];simp[hl]);rw[hp];clear hp d0 hc;go_wp2;go_roundw
      case rel =>
       first
       | exact⟨k+1,by omega,by go_num,by rw[Hn.out],f0⟩
       | ((try rw[<-j0]);(repeat apply Exists.intro);refine⟨?_,rfl⟩;exact⟨k+1,by omega,by go_num,by rw[Hn.out],f0⟩)
      case measure=>simp[intOf];omega
     ·have:cur<=n.T k:=by omega
      have Hn:Hid (BC n.T p (k+1)=cur):=hide (by rw[d0.out,hp,v0];simp[hl]);rw[hp];clear hp d0 hc hl;go_wp2;go_roundw
      case rel =>
       first
       | exact⟨k+1,by omega,by go_num,by rw[Hn.out],f0⟩
       | ((try rw[<-j0]);(repeat apply Exists.intro);refine⟨?_,rfl⟩;exact⟨k+1,by omega,by go_num,by rw[Hn.out],f0⟩)
      case measure=>simp[intOf];omega
   ·have m0:p k=false:=by simpa using hp
    have Hn:Hid (BC n.T p (k+1)=cur):=hide (by rw[d0.out,m0];simp);rw[m0];clear hp m0 d0;go_wp2;go_roundw
    case rel =>
     first
     | exact⟨k+1,by omega,by go_num,by rw[Hn.out],f0⟩
     | ((try rw[<-j0]);(repeat apply Exists.intro);refine⟨?_,rfl⟩;exact⟨k+1,by omega,by go_num,by rw[Hn.out],f0⟩)
    case measure=>simp[intOf];omega
  ·have w0:k=n.ln:=by omega
   subst w0;have x0:=hide g0;clear g0;go_wp2;go_ret;exact⟨rfl,x0.out⟩
end Go.Proofs.YtjhkadffaephmacGreat

namespace Go.Proofs.YtjhkadffaephmacGreat
set_option maxHeartbeats 16000000
set_option maxRecDepth 100000
open Go
section
variable {P:Program} {ops:Array Oper} {Q:Exit->Act->World->Prop} {md:Region.Mode}
def QH (P:Program) (md:Region.Mode) (ops:Array Oper) (Q:Exit->Act->World->Prop) (c:Nat->Nat) (G:World->Prop) (E:Nat->Value->World->Prop) (a0:Act):List Oper->Nat->Prop
 | [],_=>True
 | o :: os,i=>(∀ (t:Nat->Value) (w:World),G w->(∀j∈waits md o,(c j=i\/ops.size<=c j)->E j (t j) w)->(∀k o',ops[k]? = some o'->i∈waits md o'->t k=first ops.toList a0 k) ->
  ∀K:Act->World->Prop,(∀v w',G w'->E i v w'->(∀j u,j≠i->c j≠i->E j u w->E j u w')->K ((fill ops.toList 0 t a0).put o.dst v) w') ->
   if Region.wanted o (yielded ops (fill ops.toList 0 t a0).tmps)=true then Oper.wp P o (fill ops.toList 0 t a0) w K Q else K ((fill ops.toList 0 t a0).put o.dst undef) w) /\
  QH P md ops Q c G E a0 os (i+1)
structure GU (md:Region.Mode) (ops:Array Oper) (a0:Act) (c:Nat->Nat) (G:World->Prop) (E:Nat->Value->World->Prop) (d:Nat->Bool) (t:Nat->Value) (w:World):Prop where
 shut:Shut md ops d
 first:∀k,d k=false->t k=first ops.toList a0 k
 held:G w
 left:∀k,d k=true->(ops.size<=c k\/d (c k)=false)->E k (t k) w
theorem GH {c:Nat->Nat}{G:World->Prop}{E:Nat->Value->World->Prop}{a0:Act}:∀ (os:List Oper) (i:Nat),(∀j o,os[j]? = some o->ops[i+j]? = some o)->QH P md ops Q c G E a0 os i->UF P md ops Q (GU md ops a0 c G E) a0 os i
 | [],_,_,_=>trivial
 | o :: os,i,hos,h=>by
  have ho:ops[i]? = some o:=by simpa using hos 0 o rfl
  have hi:i<ops.size:=(Array.getElem?_eq_some_iff.1 ho).1;refine⟨fun d t w hI hd hp K hK=>?_,GH os (i+1) (fun j o' hj=>by rw[show i+1+j=i+(j+1) by omega];exact hos (j+1) o' (by simpa using hj)) h.2⟩;refine h.1 t w hI.held (fun j hj hc=>hI.left j (hp j hj) (hc.elim (fun e=>Or.inr (by rw[e];exact hd)) Or.inl)) (fun k o' hk hw=>hI.first k (by
   cases e:d k with
   | false=>rfl
   | true =>
    have:=hI.shut k o' hk e i hw;rw[hd]at this;cases this)) K (fun v w' hG hE hkeep=>hK v w' ⟨hI.shut.upd ho hp,fun k hk=>?_,hG,fun k hk hc=>?_⟩)
  ·have e:k≠i:=fun e=>by subst e;simp[NA]at hk
   rw[MB t v e];exact hI.first k (by simpa [NA,e] using hk)
  by_cases e:k=i
  ·subst e;rw[upd_same];exact hE
  ·rw[MB t v e];have d0:d k=true:=by simpa [NA,e] using hk
   by_cases ec:c k=i
   ·rcases hc with hc | hc
    ·omega
    ·rw[ec]at hc;simp[NA]at hc
   ·refine hkeep k (t k) e ec (hI.left k d0 ?_);rcases hc with hc | hc
    ·exact Or.inl hc
    ·exact Or.inr (by simpa [NA,ec] using hc)
theorem lJ {id:Nat}{a:Act}{w:World}(c:Nat->Nat)(G:World->Prop)(E:Nat->Value->World->Prop)(hm:P.follows .mixedOrders=true)
 (hap:uC ops.toList=true) (hb:WB .any ops.toList 0=true) (hG:G w.drew)
 (hs:QH P .any ops Q c G E a ops.toList 0)
 (hend:∀ (t:Nat->Value) (w:World),G w->(∀i,i<ops.size->ops.size<=c i->E i (t i) w)->Q .normal (fill ops.toList 0 t a) w) :
 (Code.region id ops true).wp P Q a w:=by
 refine wp_region_any hm ?_;have hz:(fun i=>(Array.replicate ops.size false).getD i false)=fun _=>false:=by
  funext i;by_cases hi:i<ops.size
  ·simp[hi]
  ·simp[hi]
 have:=uE (md:=.any) (I:=GU .any ops a c G E) hap hb (GH ops.toList 0 (fun j o hj=>by simpa using hj) hs) (fun _ t w hI hall=>hend t w hI.held (fun i hi hc=>hI.left i (hall i hi) (Or.inl hc))) ops.size (Array.replicate ops.size false) (first ops.toList a) w.drew (by simp) (by simp)
  (by rw[hz];exact⟨fun i o _ h=>by simp at h,fun _ _=>rfl,hG,fun _ h=>by cases h⟩)
 rw[lD]at this;exact this
theorem uH {G:World->Prop}{E:Nat->Value->World->Prop}{a0:Act}:∀ (os:List Oper) (i:Nat),MF P md ops Q G E a0 os i->QH P md ops Q (fun _=>ops.size) G E a0 os i
 | [],_,_=>trivial
 | _ :: os,i,h=>⟨fun t w hG hp _ K hK=>h.1 t w hG (fun j hj=>hp j hj (Or.inr lR)) K (fun v w' hG' hE hk=>hK v w' hG' hE (fun j u hj _ hu=>hk j u hj hu)),uH os (i+1) h.2⟩
theorem EA {id:Nat}{a:Act}{w:World}(G:World->Prop)(E:Nat->Value->World->Prop)(hm:P.follows .mixedOrders=true)
 (hap:uC ops.toList=true) (hb:WB .any ops.toList 0=true) (hG:G w.drew)
 (hs:MF P .any ops Q G E a ops.toList 0)
 (hend:∀ (t:Nat->Value) (w:World),G w->(∀i,i<ops.size->E i (t i) w)->Q .normal (fill ops.toList 0 t a) w) :
 (Code.region id ops true).wp P Q a w :=
 lJ (fun _=>ops.size) G E hm hap hb hG (uH ops.toList 0 hs) (fun t w hG hE=>hend t w hG (fun i hi=>hE i hi lR))
end
end Go.Proofs.YtjhkadffaephmacGreat
