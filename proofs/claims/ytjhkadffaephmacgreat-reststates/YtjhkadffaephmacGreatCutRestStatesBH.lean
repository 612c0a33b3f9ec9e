import Derived.Test.YtjhkadffaephmacGreatCutRestStatesBG
import Derived.Laws.BitsAllLaws
namespace Go.Proofs.YtjhkadffaephmacGreat
set_option maxHeartbeats 16000000
set_option maxRecDepth 100000
open Go.RowKit
def nP:Mat:=⟨none,0,0,0,fun _=>none,fun _=>0,fun _=>0,fun _=>0,⟨0,fun _=>0,fun _ _=>0⟩⟩
theorem aJ (k:Nat)(w:World):nP.In k w where
 ga:=fun h=>absurd h nZ
 gb:=fun h=>absurd h nZ
 row:=fun _ h=>absurd h nZ
 addr:=fun _ h=>absurd h nZ
 cell:=fun _ h=>absurd h nZ
 len:=zL
 lens:=fun _ h=>absurd h nZ
theorem IG (k:Nat):nP.From k:=⟨fun h=>absurd h nZ,fun _ h=>absurd h nZ⟩
theorem GG (W:World):nP.Soft W:=fun _ h=>absurd h nZ
structure OE (N lo:Nat) (Z:Nat->Nat->Int) (E:Int) (m:Mat) (W:World):Prop where
 mem:m.In W.heap.size W
 own:m.From lo
 ok:E=0->m.t=⟨N,fun _=>N,Z⟩
 bad:E≠0->m.t.len=0
 soft:m.Soft W
theorem OE.grown {N lo:Nat}{Z:Nat->Nat->Int}{E:Int}{m:Mat}{W W':World}(h:OE N lo Z E m W)(hb:Below W.heap.size W W'):OE N lo Z E m W':=⟨h.mem.grown hb,h.own,h.ok,h.bad,h.soft.grown hb⟩
theorem FK (n:dA)(x:Mat)(most:Int)(w:World)(h:n.In w.heap.size w)(hx:x.In w.heap.size w):
 Calls Tryz.prog 12 #[n.val,x.val,.int .i64 most] w fun e w'=>(∃ (m:Mat) (c:Nat),e=.returned (.tuple #[m.val,.int .i64 c,.int .i64 (n.net.settleE x.t most)]) /\
  OE n.net.N w.heap.size (n.net.settle most.toNat x.t.Z).1 (n.net.settleE x.t most) m w'/\(n.net.settleE x.t most=0->c=(n.net.settle most.toNat x.t.Z).2)/\(n.net.settleE x.t most≠0->c=0))/\Below w.heap.size w w':=by
 by_cases hE:n.net.settleE x.t most=0
 ·have hf:n.net.fit x.t=0:=by
   apply Classical.byContradiction;intro hn;unfold Net.settleE at hE;rw[if_pos hn]at hE;exact hn hE
  have hm:0<=most/\most<=1000:=by
   apply Classical.byContradiction;intro hn;unfold Net.settleE at hE;rw[if_neg (by simp[hf]),if_pos (by omega)]at hE;cases hE
  have hc:(most.toNat:Int)=most:=by omega
  have:=vH n x most.toNat w h hx hf (by omega);rw[hc]at this;refine this.mono ?_;rintro e w' ⟨⟨m,rfl,hm⟩,hb⟩;rw[hE];exact⟨⟨m,_,rfl,⟨hm.2.1,hm.2.2.1,fun _=>hm.1,fun h=>absurd rfl h,hm.2.2.2⟩,fun _=>rfl,fun h=>absurd rfl h⟩,hb⟩
 ·refine(EK n x most w h hx hE).mono ?_;rintro e w' ⟨rfl,hb⟩;exact⟨⟨nP,0,rfl,⟨aJ _ _,IG _,fun h=>absurd h hE,fun _=>rfl,GG _⟩,fun h=>absurd h hE,fun _=>rfl⟩,hb⟩
theorem ZL (n:dA)(x:Mat)(w:World)(h:n.In w.heap.size w)(hx:x.In w.heap.size w):
 Calls Tryz.prog 11 #[n.val,x.val] w fun e w'=>(∃m:Mat,e=.returned (.tuple #[m.val,.int .i64 (n.net.fit x.t)])/\OE n.net.N w.heap.size (n.net.round x.t.Z) (n.net.fit x.t) m w')/\Below w.heap.size w w':=by
 by_cases hE:n.net.fit x.t=0
 ·refine(zI n x w h hx hE).mono ?_;rintro e w' ⟨⟨m,rfl,hm⟩,hb⟩;rw[hE];exact⟨⟨m,rfl,hm.2.1,hm.2.2.1,fun _=>hm.1,fun h=>absurd rfl h,hm.2.2.2⟩,hb⟩
 ·refine(wH n x w h hx hE).mono ?_;rintro e w' ⟨rfl,hb⟩;exact⟨⟨nP,rfl,aJ _ _,IG _,fun h=>absurd h hE,fun _=>rfl,GG _⟩,hb⟩
theorem fM (n:dA)(w:World)(h:n.In w.heap.size w):
 Calls Tryz.prog 22 #[n.val] w fun e w'=>(∃m:Mat,e=.returned (.tuple #[m.val,.int .i64 n.net.check])/\OE n.net.N w.heap.size n.net.begin n.net.check m w')/\Below w.heap.size w w':=by
 by_cases hE:n.net.check=0
 ·refine(BI n w h hE).mono ?_;rintro e w' ⟨⟨m,rfl,hm⟩,hb⟩;rw[hE];exact⟨⟨m,rfl,hm.2.1,hm.2.2.1,fun _=>hm.1,fun h=>absurd rfl h,hm.2.2.2⟩,hb⟩
 ·refine(dM n w h hE).mono ?_;rintro e w' ⟨rfl,hb⟩;exact⟨⟨nP,rfl,aJ _ _,IG _,fun h=>absurd h hE,fun _=>rfl,GG _⟩,hb⟩
structure Tch (lo:Nat) (W W':World):Prop where
 below:Below lo W W'
 cell:∀b i,b<W.heap.size->W'.cell? ⟨b,i,none⟩=W.cell? ⟨b,i,none⟩\/∃z z',W.cell? ⟨b,i,none⟩=some (.int .i64 z)/\W'.cell? ⟨b,i,none⟩=some (.int .i64 z')
 lies:∀b,yB W b->yB W' b
 rest:∀b cs t,Blk W b cs t->t≠3->Blk W' b cs t
theorem Tch.trans {lo:Nat}{W W' W'':World}(h:Tch lo W W')(k:Tch lo W' W''):Tch lo W W'' where
 below:=h.below.trans k.below
 cell:=fun b i hb=>by
  rcases h.cell b i hb with e | ⟨z,z',e1,e2⟩
  ·rcases k.cell b i (Nat.lt_of_lt_of_le hb h.below.size) with e' | ⟨y,y',e1',e2'⟩
   ·exact Or.inl (e'.trans e)
   ·exact Or.inr ⟨y,y',by rw[<-e];exact e1',e2'⟩
  ·rcases k.cell b i (Nat.lt_of_lt_of_le hb h.below.size) with e' | ⟨y,y',e1',e2'⟩
   ·exact Or.inr ⟨z,z',e1,by rw[e'];exact e2⟩
   ·exact Or.inr ⟨z,y',e1,e2'⟩
 lies:=fun b hb=>k.lies b (h.lies b hb)
 rest:=fun b cs t hb ht=>k.rest b cs t (h.rest b cs t hb ht) ht
theorem Tch.of_below {lo:Nat}{W W':World}(hb:Below W.heap.size W W')(hl:lo<=W.heap.size):Tch lo W W' where
 below:=hb.mono hl
 cell:=fun b i h=>Or.inl (hb.cell (p:=⟨b,i,none⟩) h)
 lies:=fun _ h=>h.grown hb
 rest:=fun _ _ _ h _=>h.below hb h.lt
theorem Tch.refl {lo:Nat}(W:World)(hl:lo<=W.heap.size):Tch lo W W:=Tch.of_below (Below.refl _ W) hl
theorem Tch.set {lo b i:Nat}{z z':Int}{W:World}(hl:yB W b)(hlo:lo<=b)(hc:W.cell? ⟨b,i,none⟩=some (.int .i64 z)):Tch lo W (W.setCell ⟨b,i,none⟩ (.int .i64 z')):=by
 obtain⟨cs,hk⟩:=hl;have hi:i<cs.size:=by
  rw[hk.cell i]at hc;exact(Array.getElem?_eq_some_iff.1 hc).1
 refine⟨(Below.refl lo W).setCell (p:=⟨b,i,none⟩) hlo _,fun q j _=>?_,fun q h=>h.set _ _,fun q cs' t hq ht=>hq.other (eB hq hk ht) _ _⟩;by_cases e:q=b
 ·subst e;by_cases e2:j=i
  ·subst e2;exact Or.inr ⟨z,z',hc,by rw[(hk.set j (.int .i64 z')).cell j,Array.getElem?_setIfInBounds_self_of_lt hi]⟩
  ·exact Or.inl (by rw[(hk.set i (.int .i64 z')).cell j,Array.getElem?_setIfInBounds_ne (fun h=>e2 h.symm),hk.cell j])
 ·exact Or.inl (qA e _)
structure Mat.Sh (m:Mat) (W:World):Prop where
 ga:0<m.t.len->m.ga=some ⟨m.gb,m.go,none⟩
 gb:0<m.t.len->m.gb<W.heap.size
 row:∀r,r<m.t.len->W.cell? ⟨m.gb,m.go+r,none⟩=some (.slice (m.A r) (m.t.L r) (m.C r))
 addr:∀r,r<m.t.len->0<m.t.L r->m.A r=some ⟨m.RB r,m.RO r,none⟩/\yB W (m.RB r)
 cell:∀r,r<m.t.len->∀c,c<m.t.L r->∃z,W.cell? ⟨m.RB r,m.RO r+c,none⟩=some (.int .i64 z)
 len:m.t.len<=maxLen
 lens:∀r,r<m.t.len->m.t.L r<=maxLen
theorem Mat.Sh.of {m:Mat}{W:World}(h:m.In W.heap.size W)(hs:m.Soft W):m.Sh W :=
 ⟨h.ga,h.gb,h.row,fun r hr h0=>⟨(h.addr r hr h0).1,hs r hr h0⟩,fun r hr c hc=>⟨_,h.cell r hr c hc⟩,h.len,h.lens⟩
theorem Mat.Sh.tch {m:Mat}{lo:Nat}{W W':World}(h:m.Sh W)(ht:Tch lo W W'):m.Sh W':=by
 refine⟨h.ga,fun h0=>Nat.lt_of_lt_of_le (h.gb h0) ht.below.size,fun r hr=>?_,fun r hr h0=>⟨(h.addr r hr h0).1,ht.lies _ (h.addr r hr h0).2⟩,fun r hr c hc=>?_,h.len,h.lens⟩
 ·have h1:=h.row r hr;rcases ht.cell m.gb (m.go+r) (h.gb (by omega)) with e | ⟨z,z',e1,_⟩
  ·rw[e];exact h1
  ·rw[h1]at e1;cases e1
 ·obtain⟨y,h1⟩:=h.cell r hr c hc;rcases ht.cell (m.RB r) (m.RO r+c) (h.addr r hr (by omega)).2.lt with e | ⟨z,z',_,e2⟩
  ·exact⟨y,by rw[e];exact h1⟩
  ·exact⟨z',e2⟩
theorem EO (x:Mat)(lo:Nat)(w:World)(h:x.Sh w)(hf:x.From lo)(hlo:lo<=w.heap.size):
 Calls Tryz.prog 21 #[x.val] w fun r w'=>(∃v,r=.returned v)/\Tch lo w w':=by
 have hl:=h.len;unfold maxLen at hl;obtain⟨N,hN⟩:∃N,N=x.t.len:=⟨_,rfl⟩;have H:=hide h;have HF:=hide hf;have h0:Hid (Tch lo w w):=hide (Tch.refl w hlo);have HN:=hide hN;rw[<-hN]at hl;simp only[Mat.val,<-hN];obtain⟨ga,i0⟩:∃ga,ga=x.ga:=⟨_,rfl⟩;have m0:=hide i0;rw[<-i0];clear h hf hN i0 hlo;go_enter Tryz.func21,Tryz.ntmps21;go_wp2_with fail
 go_loopw [2,3] (fun q _ wr=>∃k:Nat,k<=N/\q=.int .i64 k/\Hid (Tch lo w wr)) (fun q _ _=>N-(intOf q).toNat)
 case atStart=>exact⟨0,zL,rfl,h0⟩
 case round =>
  obtain⟨k,hk,rfl,HT⟩:=hrel;by_cases f0:k<N
  ·have:(k:Int)<(N:Int):=by omega
   have j0:=H.out.lens k (by rw[<-HN.out];exact f0);unfold maxLen at j0;obtain⟨L,hL⟩:∃L,L=x.t.L k:=⟨_,rfl⟩;rw[<-hL]at j0;have HL:=hide hL;have hg:=H.out.ga (by rw[<-HN.out];omega);rw[<-m0.out]at hg;subst hg;clear hL;go_wp2_with fail
   go_loopw [3] (fun q wx=>∃j:Nat,j<=L/\q=.int .i64 j/\Hid (Tch lo w wx)) (fun q _=>L-(intOf q).toNat)
   case atStart=>exact⟨0,zL,rfl,HT⟩
   case round =>
    obtain⟨j,hj,rfl,HX⟩:=hrel;have hS:=H.out.tch HX.out;have d0:=hS.row k (by rw[<-HN.out];exact f0);rw[<-HL.out]at d0;by_cases q0:j<L
    ·have:(j:Int)<(L:Int):=by omega
     have g0:=hS.addr k (by rw[<-HN.out];exact f0) (by rw[<-HL.out];omega);rw[g0.1]at d0;obtain⟨z,hc⟩:=hS.cell k (by rw[<-HN.out];exact f0) j (by rw[<-HL.out];exact q0);have:=g0.2.frozen (x.RO k+j);have k0:Hid (Tch lo w (wr.setCell ⟨x.RB k,x.RO k+j,none⟩ (.int .i64 (-7)))):=hide (HX.out.trans (Tch.set g0.2 (HF.out.rows k (by rw[<-HN.out];exact f0) (by rw[<-HL.out];omega)) hc));clear hS g0 HX HT h0;go_wp2;go_roundw
     case rel =>
      first
      | exact⟨j+1,by omega,by go_num,k0⟩
      | ((repeat apply Exists.intro);refine⟨?_,rfl⟩;exact⟨j+1,by omega,by go_num,k0⟩)
     case measure=>simp[intOf];omega
    ·have o0:j=L:=by omega
     subst o0;clear hS HT h0;go_wp2;go_roundw
     case rel =>
      first
      | exact⟨k+1,by omega,by go_num,HX⟩
      | ((repeat apply Exists.intro);refine⟨?_,rfl⟩;exact⟨k+1,by omega,by go_num,HX⟩)
     case measure=>simp[intOf];omega
  ·have p0:k=N:=by omega
   subst p0;go_wp2;go_end0;exact⟨⟨_,rfl⟩,HT.out⟩
theorem bytes_of_row {w:World}{base:Nat}{l:List UInt8}{g cap n:Nat}(h:w.ownsRow base 5 1 (.slice (some ⟨g,0,none⟩) n cap) n (DC l)):Bytes (some ⟨g,0,none⟩) l g 0 w where
 addr:=fun _=>rfl
 cell:=fun i hi=>by
  have hl:=h.1;rw[cK]at hl;have:=h.cellAt i (by omega);rw[dK hi]at this;simpa using this
def Pkt.part (p:Pkt) (k:Nat):List UInt8:=[83,u8 p.F,u8 p.T,u8 p.n] ++ (List.range k).map fun i=>u8 (p.R i)
theorem Pkt.part_succ (p:Pkt)(k:Nat):p.part (k+1)=p.part k ++ [u8 (p.R k)]:=by
 simp[Pkt.part,List.range_succ]
theorem Pkt.part_len (p:Pkt)(k:Nat):(p.part k).length=4+k:=by simp[Pkt.part];omega
theorem iL (p:lC)(w:World)(h:p.In w.heap.size w):
 Calls Tryz.prog 136 #[p.val] w fun e w'=>e=.returned (.tuple #[txt p.pkt.text,.int .i64 p.pkt.err])/\Below w.heap.size w w':=by
 have D0:Below w.heap.size w (w.alloc (.cells p.cells 92)):=(Below.refl _ w).alloc lR _;have b0:=Blk.new w p.cells 92;have h1:=MH;have HC:=hide (dF 147 #[] p.ra p.n p.rc p.rb p.ro p.R (fun i=>!inB (p.R i)) _ (h.grown D0).ints (h.grown D0).lt MH (fun i W hi hB=>by
  refine(dH (p.R i) W).mono ?_;rintro e w' ⟨rfl,rfl⟩;exact⟨rfl,Below.refl _ _⟩))
 have q0:=p.pkt.routes_any;have e1:p.pkt.n=p.n:=rfl;have e2:p.pkt.R=p.R:=rfl;rw[e1,e2]at q0;rw[q0]at HC;have U0:=h.small;have H:=hide h;have HF:Hid (p.pkt.inRange=(inB p.F && inB p.T && p.pkt.routesIn)):=hide rfl;have g0:Hid (p.pkt.inRange=false->p.pkt.err=3/\p.pkt.text=[]):=hide (fun e=>by
  have:p.pkt.err=3:=by unfold Pkt.err;rw[if_pos e]
  exact⟨this,by unfold Pkt.text;rw[this];rfl⟩)
 have y0:=hide D0;clear h q0 e1 e2 D0;simp only[lC.val,lC.cells]at *;go_enter Tryz.func136,Tryz.ntmps136;go_wp2_with fail;refine(dH _ _).mono ?_;rintro e w1 ⟨rfl,rfl⟩;by_cases hF:inB p.F=true
 ·rw[hF];go_wp2_with fail;refine(dH _ _).mono ?_;rintro e w1 ⟨rfl,rfl⟩;by_cases hT:inB p.T=true
  ·rw[hT];go_wp2_with fail;go_at_call 106;refine HC.out.mono ?_;rintro e w2 ⟨rfl,B0⟩;have s0:=y0.out.trans (B0.mono y0.out.size);have b2:=b0.below B0 b0.lt;have x0:=b2.cell 0;have x1:=b2.cell 1;have x2:=b2.cell 2;simp at x0 x1 x2;by_cases hR:p.pkt.routesIn=true
   ·rw[hR];have E0:p.pkt.inRange=true:=by rw[HF.out,hF,hT,hR];rfl
    by_cases hn:60<p.n+6
    ·have d0:Hid (p.pkt.err=2/\p.pkt.text=[]):=hide (by
      have:p.pkt.err=2:=by unfold Pkt.err;rw[if_neg (by simp[E0]),if_pos (show 60<p.pkt.n+6 from hn)]
      exact⟨this,by unfold Pkt.text;rw[this];rfl⟩)
     have V0:(60:Int)<4+(p.n:Int)+2:=by omega
     have u0:=hide s0;clear hn E0 hF hT hR s0 B0 HC HF g0 b0 b2;go_wp2;go_ret2;exact⟨by rw[d0.out.1,d0.out.2];rfl,u0.out⟩
    ·have K0:Hid (p.pkt.err=0):=hide (Pkt.err_of E0 (show p.pkt.n+6<=60 by show p.n+6<=60;omega));have V0:¬ (60:Int)<4+(p.n:Int)+2:=by omega
     have W0:0<=p.F/\p.F<=250:=by unfold inB at hF;simpa using hF
     have X0:0<=p.T/\p.T<=250:=by unfold inB at hT;simpa using hT
     have L0:=hide (Pkt.routesIn_iff.1 hR);have m0:Hid (DC (p.pkt.part 0)=[.int .u8 83,.int .u8 p.F,.int .u8 p.T,.int .u8 (p.n:Int)]):=hide (by
      show [Value.int .u8 83,.int .u8 ((u8 p.F).toNat:Int),.int .u8 ((u8 p.T).toNat:Int),.int .u8 ((u8 (p.n:Int)).toNat:Int)]=_;rw[xC W0.1 (by omega),xC X0.1 (by omega),xC (by omega) (by omega)])
     have Y0:p.n<=54:=by omega
     have M0:(p.n:Int)<=54:=by omega
     have y2:∀o,(w2.alloc o).cell? ⟨w.heap.size,2,none⟩=some (.slice p.ra p.n p.rc):=fun o=>(b2.alloc o).cell 2;obtain⟨i0,P0,Q0,R0,S0⟩:=info_parts Tryz.infoByte;have u0:=hide s0;have HI:=hide (H.out.grown s0);clear hF hT hR E0 s0 B0 HC HF g0 b0 y0 H;go_wp2
     go_loopw [5,7,45] (fun v _ q wr=>∃k:Nat,k<=p.n/\q=.int .i64 k/\Hid (wr.ownsRow w2.heap.size 5 1 v (4+k) (DC (p.pkt.part k)))/\Hid (Below w2.heap.size w2 wr)) (fun _ _ q _=>p.n-(intOf q).toNat)
     case atStart =>
      refine⟨0,zL,rfl,hide ⟨by rw[cK,Pkt.part_len],Or.inr ⟨w2.heap.size,4,_,rfl,lR,heap_alloc_new _ _,lR,by decide,rfl,?_⟩⟩,hide ((Below.refl _ _).alloc lR _)⟩;rw[m0.out];rfl
     case round =>
      obtain⟨k,hk,rfl,f0,HB⟩:=hrel;by_cases T0:k<p.n
      ·have hI:=HI.out.below HB.out lR;have ha:=hI.ints.addr (by omega);have hc:=hI.ints.cell k T0;have F0:=L0.out k T0;have G0:0<=p.R k:=F0.1;have Z0:p.R k<=250:=F0.2;have Hv:Hid (DC [u8 (p.R k)]=[.int .u8 (p.R k)]):=hide (by
        show [Value.int .u8 ((u8 (p.R k)).toNat:Int)]=_;rw[xC G0 (by omega)])
       have i1:(k:Int)<(p.n:Int):=by omega
       clear hI F0;go_wp2_with (at_builtin;refine wpList_append_lies _ rfl _ _ _ rfl w2.heap.size 5 i0 _ 1 1 Tryz.underlying96 P0 Q0 R0 S0 rfl (by decide) _ (4+k) _ rfl (f0.out.alloc _) ⟨wr.heap.size,0,none⟩ 1 1 [.int .u8 (p.R k)] rfl rfl ?c1 ?c2 (by decide) ?c3 ?c4 ?c5 _ rfl ?_)
       all_goals try (case c1=>exact World.news_of_block (Blk.new' (by simp)))
       all_goals try (case c2=>simp[Value.oneCell'])
       all_goals try (case c3=>unfold maxLen;omega)
       all_goals try (case c4=>omega)
       all_goals try (case c5=>have:=HB.out.size;simp;omega)
       intro g' cap w4 h0 j0 v0 w0;have z0:=hide ((HB.out.alloc HB.out.size (.cells #[.int .u8 (p.R k)] 5)).trans (nA j0 (fun g hg=>(f0.out.lt g hg).1) (by have:=HB.out.size;simp;omega)));have o0:Hid (w4.ownsRow w2.heap.size 5 1 (.slice (some ⟨g',0,none⟩) (4+k+1) cap) (4+(k+1)) (DC (p.pkt.part (k+1)))):=hide (by
        rw[Pkt.part_succ,VG,show p.pkt.R k=p.R k from rfl,Hv.out];exact h0)
       clear h0 j0 v0 w0 HB f0;go_wp2;go_roundw
       case rel =>
        first
        | exact⟨k+1,by omega,by go_num,o0,z0⟩
        | ((try rw[<-ha]);(repeat apply Exists.intro);refine⟨?_,rfl⟩;exact⟨k+1,by omega,by go_num,o0,z0⟩)
       case measure=>simp[intOf];omega
      ·have d1:k=p.n:=by omega
       subst d1;rw[show p.pkt.part p.n=p.pkt.body from rfl]at f0;rcases Go.Joins.ownsRow_forms f0.out with ⟨rfl,e0⟩ | ⟨gb,cap,rfl⟩
       ·omega
       have f1:p.pkt.body.length=4+p.n:=by rw[Pkt.body_length,Nat.add_comm];rfl
       have HS:=hide (TT (some ⟨gb,0,none⟩) p.pkt.body cap gb 0 wr (bytes_of_row f0.out) (by omega));rw[f1]at HS;have hs:=CE p.pkt.body;have k0:Hid (p.pkt.bytes=p.pkt.body ++ [UInt8.ofNat (sumOf p.pkt.body / 256),UInt8.ofNat (sumOf p.pkt.body % 256)]):=hide rfl;generalize sumOf p.pkt.body=s at *;go_wp2_with fail;go_at_call 148;refine HS.out.mono ?_;rintro e w3 ⟨rfl,rfl⟩;have N0:(s:Int) / 256<256:=by omega
       have j1:0<=(s:Int) / 256:=by omega
       go_wp2_with (at_builtin;refine wpList_append_lies _ rfl _ _ _ rfl w2.heap.size 5 i0 _ 1 1 Tryz.underlying96 P0 Q0 R0 S0 rfl (by decide) _ (4+p.n) _ rfl (f0.out.alloc _) ⟨w3.heap.size,0,none⟩ 2 2 [.int .u8 ((s:Int) / 256),.int .u8 ((s:Int) % 256)] rfl rfl ?c1 ?c2 (by decide) ?c3 ?c4 ?c5 _ rfl ?_)
       all_goals try (case c1=>exact World.news_of_block (Blk.new' (by simp)))
       all_goals try (case c2=>simp[Value.oneCell'])
       all_goals try (case c3=>unfold maxLen;omega)
       all_goals try (case c4=>omega)
       all_goals try (case c5=>have:=HB.out.size;simp;omega)
       intro g' C0 w4 h0 j0 v0 w0;have z0:=hide ((HB.out.alloc HB.out.size (.cells #[.int .u8 ((s:Int) / 256),.int .u8 ((s:Int) % 256)] 5)).trans (nA j0 (fun g hg=>(f0.out.lt g hg).1) (by have:=HB.out.size;simp;omega)));have g1:=hide (u0.out.trans (z0.out.mono u0.out.size));have p0:w4.ownsRow w2.heap.size 5 1 (.slice (some ⟨g',0,none⟩) (4+p.n+2) C0) (4+p.n+2) (DC p.pkt.bytes):=by
        have e2:DC [UInt8.ofNat (s / 256),UInt8.ofNat (s % 256)]=[.int .u8 ((s:Int) / 256),.int .u8 ((s:Int) % 256)]:=by
         show [Value.int .u8 ((UInt8.ofNat (s / 256)).toNat:Int),.int .u8 ((UInt8.ofNat (s % 256)).toNat:Int)]=_;rw[UInt8.toNat_ofNat',UInt8.toNat_ofNat',Nat.mod_eq_of_lt (by omega),Nat.mod_eq_of_lt (by omega)];rfl
        rw[k0.out,VG,e2];exact h0
       have O0:p.pkt.bytes.length=4+p.n+2:=by rw[Pkt.bytes_length];show p.n+6=_;omega
       have A0:=run_convert_bytes_back (P:=Tryz.prog) w4 96 9 5 ⟨g',0,none⟩ C0 p.pkt.bytes Tryz.underlying96 Tryz.underlying5 Tryz.underlying9 (fun j hj=>by rw[Go.WideShapes.add_plain];exact(bytes_of_row p0).cell j hj);rw[O0]at A0;have d0:Hid (p.pkt.err=0/\p.pkt.text=p.pkt.bytes):=hide ⟨K0.out,by unfold Pkt.text;rw[if_pos K0.out]⟩;clear h0 j0 v0 w0 HB f0 p0 z0 u0 HI L0 m0 k0 O0;go_wp2;go_ret2;exact⟨by rw[d0.out.1,d0.out.2];rfl,g1.out⟩
   ·have H0:p.pkt.routesIn=false:=by simpa using hR
    have d0:=hide (g0.out (by rw[HF.out,H0,Bool.and_false]));rw[H0];have u0:=hide s0;clear hF hT hR H0 s0 B0 HC HF g0 b0 b2;go_wp2;go_ret2;exact⟨by rw[d0.out.1,d0.out.2];rfl,u0.out⟩
  ·have I0:inB p.T=false:=by simpa using hT
   have d0:=hide (g0.out (by rw[HF.out,I0,Bool.and_false,Bool.false_and]));rw[I0];clear hF hT I0 HC HF g0;go_wp2;go_ret2;exact⟨by rw[d0.out.1,d0.out.2];rfl,y0.out⟩
 ·have J0:inB p.F=false:=by simpa using hF
  have d0:=hide (g0.out (by rw[HF.out,J0,Bool.false_and,Bool.false_and]));rw[J0];clear hF J0 HC HF g0;go_wp2;go_ret2;exact⟨by rw[d0.out.1,d0.out.2];rfl,y0.out⟩
theorem JJ:∀ (l:List xB) (i:Nat) (b:List UInt8),i<l.length->uA (l.set i { l.getD i zA with b:=b })=(uA l).set (i*3+2) (.string ⟨b.toArray⟩)
 | [],i,b,h=>absurd h nZ
 | m :: l,0,b,_=>rfl
 | m :: l,i+1,b,h=>by
  have ih:=JJ l i b (by simpa using h);have e:uA (m :: l)=.int .i64 m.F :: .int .i64 m.T :: .string ⟨m.b.toArray⟩ :: uA l:=rfl;have e2:uA ((m :: l).set (i+1) { (m :: l).getD (i+1) zA with b:=b })=.int .i64 m.F :: .int .i64 m.T :: .string ⟨m.b.toArray⟩ :: uA (l.set i { l.getD i zA with b:=b }):=rfl;rw[e,e2,ih,show (i+1)*3+2=(i*3+2)+1+1+1 by omega];rfl
theorem Live.setMail {base P N:Nat}{e:Eng}{Bv:Value}{y:Lay}{W:World}(h:Live base P N e Bv y W){i g cap:Nat}(hi:i<e.bag.length)(hBv:Bv=.slice (some ⟨g,0,none⟩) e.bag.length cap)(b:List UInt8):
 Live base P N { e with bag:=e.bag.set i { e.bag.getD i zA with b:=b } } Bv y (W.setCell ⟨g,i*3+2,none⟩ (.string ⟨b.toArray⟩)):=by
 have d0:Bv.ownBlock=some g:=by rw[hBv];rfl
 obtain⟨j0,k0,m0⟩:=h.bv g d0;have i0:(W.setCell ⟨g,i*3+2,none⟩ (.string ⟨b.toArray⟩)).heap.size=W.heap.size:=by simp
 have f0:∀q,y.Off P N Bv W q->y.Off P N Bv (W.setCell ⟨g,i*3+2,none⟩ (.string ⟨b.toArray⟩)) q:=fun q hq=>⟨hq.p,hq.g,hq.t,hq.v,by rw[i0];exact hq.lt,hq.lo⟩;have g0:∀q,y.Off P N Bv W q->q≠g:=fun q hq e1=>hq.v (by rw[e1];exact d0);refine⟨h.head.other (Ne.symm j0) _ _,h.rtrs.other (Ne.symm k0) _ _,h.r0,h.r1,fun r hr=>(h.tolds r hr).other (Ne.symm (m0 r hr)) _ _,h.t0,fun r hr=>?_,fun r hr k hk ht=>?_,?_,h.lp,h.lg,h.lt,h.pg,h.pt,h.gt,h.tt,h.bv,h.ylo,fun r hr=>(h.sr r hr).set _ _,fun r hr k hk ht=>(h.sd r hr k hk ht).set _ _⟩
 ·obtain⟨h1,h2⟩:=h.routes r hr;exact⟨f0 _ h1,fun j hj=>by rw[qA (g0 _ h1)];exact h2 j hj⟩
 ·obtain⟨h1,h2,h3⟩:=h.rows r hr k hk ht;exact⟨h1,f0 _ h2,fun j hj=>by rw[qA (g0 _ h2)];exact h3 j hj⟩
 ·show World.ownsRow _ base 59 3 Bv (e.bag.set i _).length (uA (e.bag.set i _));rw[JJ e.bag i b hi,List.length_set];obtain⟨o0,p0⟩:=h.bag;rcases p0 with ⟨h0,_⟩ | ⟨g',cap',cur,e1,hbase,hb,hn,hm,hcs,htk⟩
  ·rw[hBv]at h0;cases h0
  ·rw[hBv]at e1;obtain⟨rfl,rfl⟩:g=g'/\cap=cap':=by simpa using e1
   refine⟨by rw[List.length_set];exact o0,Or.inr ⟨g,cap,_,by rw[hBv],hbase,Blk.set hb (i*3+2) (.string ⟨b.toArray⟩),hn,hm,by simpa using hcs,?_⟩⟩;rw[Array.toList_setIfInBounds,List.take_set,htk]
theorem bK (w:World)(l:List UInt8):∃ (cb:Nat) (W1:World),(∀u,u=w->(convert 9 96 (.string ⟨l.toArray⟩)).run Tryz.prog u=.ok (.slice (some ⟨w.heap.size,0,none⟩) l.length cb) W1)/\Below w.heap.size w W1/\W1.heap.size=w.heap.size+1 /\
 (∀j (hj:j<l.length),W1.cell? ⟨w.heap.size,j,none⟩=some (.int .u8 (l[j].toNat:Int))/\W1.frozen? ⟨w.heap.size,j,none⟩=false):=by
 have d0:(ByteArray.mk l.toArray).size=l.length:=by simp[ByteArray.size]
 have hr:=run_bytes_of_string (P:=Tryz.prog) w 9 96 5 ⟨l.toArray⟩ Tryz.underlying9 Tryz.underlying96 Tryz.underlying5;rw[d0]at hr;refine⟨_,_,fun u hu=>by rw[hu];exact hr,(show Below w.heap.size w w.drew from ⟨rfl,rfl,rfl,lR,fun _ _=>rfl⟩).trans ((Below.refl _ w.drew).alloc lR _),by show (w.heap.push _).size=_;simp,fun j hj=>⟨?_,?_⟩⟩
 ·have:=World.cell?_alloc_mark w.drew (bytesRow ⟨l.toArray⟩ (grownCap w l.length 0 5)) 5 ((bytesRow ⟨l.toArray⟩ (grownCap w l.length 0 5)).size,(bytesRow ⟨l.toArray⟩ (grownCap w l.length 0 5)).size+1) j;refine this.trans ?_;rw[bytesRow_at ⟨l.toArray⟩ _ j (by simpa using hj)];simp
 ·have:=World.frozen?_alloc_mark w.drew (bytesRow ⟨l.toArray⟩ (grownCap w l.length 0 5)) 5 (bytesRow ⟨l.toArray⟩ (grownCap w l.length 0 5)).size ((bytesRow ⟨l.toArray⟩ (grownCap w l.length 0 5)).size+1) j;refine this.trans ?_;have h2:l.length<=(bytesRow ⟨l.toArray⟩ (grownCap w l.length 0 5)).size:=by
   unfold bytesRow;simp
  simp;omega
theorem CO (x:UInt8){c:Int}(h1:1<=c)(h2:c<=255):bits .xor .u8 (x.toNat:Int) c=((x ^^^ u8 c).toNat:Int):=by
 obtain⟨k,rfl⟩:∃k:Nat,c=k:=⟨c.toNat,by omega⟩;rw[u8_xor_nat x.toNat k x.toNat_lt (by omega),UInt8.toNat_xor];have:=xC (x:=(k:Int)) (by omega) (by omega);have:(u8 (k:Int)).toNat=k:=by omega
 rw[this]
theorem rQ (base P N i:Nat)(b c:Int)(e:Eng)(Bv:Value)(y:Lay)(w:World)(hL:Live base P N e Bv y w)(hi:i<e.bag.length)(_hlen:(e.bag.getD i zA).b.length<=60)(_hm:e.bag.length<=200)
 (hbad:(b<0\/((e.bag.getD i zA).b.length:Int)<=b)\/(c<1\/255<c)) :
 Calls Tryz.prog 116 #[.pointer (some ⟨P,0,none⟩),.int .i64 i,.int .i64 b,.int .i64 c] w fun r w'=>r=.returned (.int .i64 3)/\Live base P N e Bv y w'/\Below base w w':=by
 have f0:base<=w.heap.size:=Nat.le_of_lt (Nat.lt_of_le_of_lt hL.lp hL.head.lt);obtain⟨g,cap,g0,m0,m1,m2⟩:=hL.mail hi;obtain⟨cb,W1,h0,d0,o0,k0⟩:=bK w (e.bag.getD i zA).b;have HF:=hide (And.intro (hL.below d0) (d0.mono f0));have p1:=hL.head.cell 1;simp at p1;rw[g0]at p1;have HS:=hide (fun W=>XB b ((e.bag.getD i zA).b.length:Int) W);generalize (e.bag.getD i zA).b=l at *;generalize e.bag.length=len at *;have:(i:Int)<(len:Int):=by omega
 have j0:=h0 w rfl;obtain⟨L,i0⟩:∃L,L=l.length:=⟨_,rfl⟩;rw[<-i0]at j0 HS hbad _hlen;clear hL g0 f0 d0 k0 h0 i0 m0 m1;go_enter Tryz.func116,Tryz.ntmps116;go_wp2_with fail;go_at_call 90;refine(HS.out _).mono ?_;rintro r w2 ⟨rfl,rfl⟩;by_cases h1:b<0\/(L:Int)<=b
 ·have hv:(decide (0<=b) && decide (b<(L:Int)))=false:=by simp;omega
  rw[hv];clear hbad h1 hv HS;go_wp2;go_ret;exact⟨rfl,HF.out⟩
 have hv:(decide (0<=b) && decide (b<(L:Int)))=true:=by simp;omega
 rw[hv];by_cases h2:c<1
 ·clear hbad h1 hv HS;go_wp2;go_ret;exact⟨rfl,HF.out⟩
 have:255<c:=by omega
 have:¬ c<1:=h2;clear hbad h1 hv HS;go_wp2;go_ret;exact⟨rfl,HF.out⟩
theorem ZR (base P N i pl:Nat)(c:Int)(e:Eng)(Bv:Value)(y:Lay)(w:World)(hL:Live base P N e Bv y w)(hi:i<e.bag.length)(_hlen:(e.bag.getD i zA).b.length<=60)(_hm:e.bag.length<=200)(hpl:pl<(e.bag.getD i zA).b.length)(hc1:1<=c)(hc2:c<=255):
 Calls Tryz.prog 116 #[.pointer (some ⟨P,0,none⟩),.int .i64 i,.int .i64 pl,.int .i64 c] w fun r w'=>r=.returned (.int .i64 0)/\Live base P N (e.spoil i pl (u8 c)) Bv y w'/\Below base w w':=by
 have y0:base<=w.heap.size:=Nat.le_of_lt (Nat.lt_of_le_of_lt hL.lp hL.head.lt);obtain⟨g,cap,i0,m0,m1,m2⟩:=hL.mail hi;obtain⟨cb,W1,w0,B0,H0,k0⟩:=bK w (e.bag.getD i zA).b;obtain⟨l,hl⟩:∃l,l=(e.bag.getD i zA).b:=⟨_,rfl⟩;rw[<-hl]at w0 k0 hpl _hlen m2;obtain⟨x,hx⟩:∃x:UInt8,x=l[pl]:=⟨_,rfl⟩;obtain⟨xx,x0⟩:∃xx,xx=x ^^^ u8 c:=⟨_,rfl⟩;obtain⟨b2,q0⟩:∃b2,b2=l.set pl xx:=⟨_,rfl⟩;obtain⟨W2,u0⟩:∃W2,W2=W1.setCell ⟨w.heap.size,pl,none⟩ (.int .u8 (xx.toNat:Int)):=⟨_,rfl⟩;have j0:Below w.heap.size w W2:=by rw[u0];exact B0.setCell (p:=⟨w.heap.size,pl,none⟩) lR _
 have g0:Below w.heap.size w W2.drew:=⟨j0.os,j0.tape,j0.output,j0.size,j0.block⟩;have o0:=hL.below g0;have z0:b2.length=l.length:=by rw[q0,List.length_set]
 have f0:=run_convert_bytes_back (P:=Tryz.prog) W2.drew 96 9 5 ⟨w.heap.size,0,none⟩ cb b2 Tryz.underlying96 Tryz.underlying5 Tryz.underlying9 (fun j hj=>by
  rw[Go.WideShapes.add_plain,Nat.zero_add];show W2.cell? ⟨w.heap.size,j,none⟩=_;rw[u0];by_cases ej:j=pl
  ·subst ej;rw[World.cell?_setCell_same _ _ _ (k0 j (by omega)).1];simp[q0]
  ·rw[World.cell?_setCell_other _ _ _ _ (fun e3=>ej (by cases e3;rfl))];rw[(k0 j (by omega)).1];simp only[q0,List.getElem_set_ne (Ne.symm ej)])
 rw[z0]at f0;have d0:=o0.setMail hi i0 b2;have he:({ e with bag:=e.bag.set i { e.bag.getD i zA with b:=b2 } }:Eng)=e.spoil i pl (u8 c):=by
  unfold Eng.spoil xB.spoil;have D0:l.getD pl 0=x:=by rw[hx,List.getD_eq_getElem?_getD,List.getElem?_eq_getElem hpl];rfl
  rw[<-hl,q0,D0,x0]
 rw[he]at d0;obtain⟨W3,v0⟩:∃W3,W3=W2.drew.setCell ⟨g,i*3+2,none⟩ (.string ⟨b2.toArray⟩):=⟨_,rfl⟩;rw[<-v0]at d0;have A0:=(hL.bag.lt g (by rw[i0];rfl));have HF:=hide (And.intro d0 (show Below base w W3 by rw[v0];exact(g0.mono y0).setCell (p:=⟨g,i*3+2,none⟩) A0.1 _));have p1:=hL.head.cell 1;have z1:=o0.head.cell 1;simp at p1 z1;rw[i0]at p1 z1;have y1:=hL.mail hi;obtain⟨_,_,hq,_,_,k2⟩:=o0.mail hi;rw[i0]at hq;obtain⟨rfl,rfl⟩:g=_/\cap=_:=by simpa using hq
 have:W2.drew.frozen? ⟨g,i*3+2,none⟩=false:=by
  obtain⟨_,I0⟩:=o0.bag;rcases I0 with ⟨h0,_⟩ | ⟨g',cap',cur,e1,hbase,hb,_⟩
  ·rw[i0]at h0;cases h0
  ·rw[i0]at e1;obtain⟨rfl,rfl⟩:g=g'/\cap=cap':=by simpa using e1
   exact Blk.frozen hb _
 have HS:=hide (fun W=>XB (pl:Int) (l.length:Int) W);have hv:(decide (0<=(pl:Int)) && decide ((pl:Int)<(l.length:Int)))=true:=by simp;omega
 rw[hv]at HS;have s0:=(CO x hc1 hc2);rw[<-x0]at s0;have:IntKind.u8.wrap c=c:=wrap_u8 (by omega) (by omega);have p0:=(k0 pl hpl).1;have:=(k0 pl hpl).2;rw[<-hx]at p0;have:=x.toNat_lt;have E0:=w0 w rfl;have F0:=hide u0;have G0:=hide v0;generalize e.bag.length=len at *;have:(i:Int)<(len:Int):=by omega
 obtain⟨L,C0⟩:∃L,L=l.length:=⟨_,rfl⟩;rw[<-C0]at E0 HS hpl _hlen f0;have:(pl:Int)<(L:Int):=by omega
 have:¬ c<1:=by omega
 have:¬ 255<c:=by omega
 have HB:=hide s0;clear hL i0 y0 B0 w0 k0 C0 m0 m1 hl hx x0 q0 u0 j0 g0 o0 z0 d0 he v0 A0 y1 hq hv s0 H0;go_enter Tryz.func116,Tryz.ntmps116;go_wp2_with fail;go_at_call 90;refine(HS.out _).mono ?_;rintro r w2 ⟨rfl,rfl⟩;have s0:=HB.out;have:=xx.toNat_lt;go_wp2;rw[<-F0.out];refine KA 9 _ (fun W=>W=W2.drew) (oC [.pointer (some ⟨P,0,none⟩),.pointer (some ⟨P,0,none⟩),.pointer (some ⟨P,1,none⟩),.slice (some ⟨g,0,none⟩) len cap,.int .i64 (i:Int),.slice (some ⟨w.heap.size,0,none⟩) L cb,.string ⟨b2.toArray⟩,.pointer (some ⟨g,i*3,none⟩),.pointer (some ⟨g,i*3+2,none⟩)]) (fun _ W=>W=W3) (fun _ _ _=>True) (by kernel_rfl) (by kernel_rfl) (by kernel_rfl) (by kernel_rfl) (by kernel_rfl) rfl rfl ⟨?_,?_,?_,?_,?_,?_,?_,?_,?_,trivial⟩ ?_ trivial ?_;rotate_right
 ·intro t W hG _;simp only[fill,Act.put,sX,sY,sU];subst hG;go_wp2;go_ret;exact⟨rfl,HF.out⟩
 rotate_right
 ·intro t W hG hE _ K hK;have e6:=aA (hE 6 (by omega)) rfl;have e8:=aA (hE 8 (by omega)) rfl;subst hG;simp only[fill,Act.put,sX,sY,sU,e6,e8]at hK |-;rw[if_pos (by rfl)];go_simp;exact hK undef _ G0.out.symm
 all_goals intro t W hG hp ht K hK
 all_goals clear ht
 all_goals subst hG
 all_goals simp only[fill,Act.put,sX,sY,sU]at hK |-
 all_goals try simp(disch:=first | rfl | decide) only[vat hp,List.getD_cons_succ,List.getD_cons_zero]at hK |-
 all_goals (rw[if_pos (by rfl)];go_simp;exact hK _ _ rfl rfl (fun _ _ _ h=>h))
end Go.Proofs.YtjhkadffaephmacGreat
