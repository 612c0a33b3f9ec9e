import Derived.Test.YtjhkadffaephmacGreatCutRestStatesBJ
namespace Go.Proofs.YtjhkadffaephmacGreat
set_option maxHeartbeats 16000000
set_option maxRecDepth 100000
open Go.RowKit
theorem PP (n:dA)(v:EvM)(base P N:Nat)(e:Eng)(Bv:Value)(y:Lay)(w:World)(h:n.In base w)(hck:n.net.check=0)(hN:n.nodes=N)(hL:Live base P N e Bv y w)(hfit:e.Fit n.net)(_hv:v.In base w)(hk:v.kind=2\/v.kind=3\/v.kind=4\/v.kind=5):
 Calls Tryz.prog 83 #[n.val,.pointer (some ⟨P,0,none⟩),v.val] w fun r w'=>wC base P N (e.stepErr n.net v.ev) (if e.stepErr n.net v.ev=0 then e.step n.net v.ev else e) w r w':=by
 obtain⟨U0,V0,E0,F0⟩:=SA hck hN;obtain⟨kind,loc,b,c,ra,rl,rc,rb,ro,f⟩:=v;have G0:base<=w.heap.size:=Nat.le_of_lt (Nat.lt_of_le_of_lt hL.lp hL.head.lt);have g0:n.cells=#[.int .i64 n.a.size,.slice n.a.B.ga n.a.B.t.len n.a.B.cap,.slice n.a.E.ga n.a.E.t.len n.a.E.cap,.int .i64 N,.slice n.la n.ln n.lc]:=by simp only[dA.cells,Mat.val,hN]
 obtain⟨W1,A0⟩:∃W1,W1=(w.alloc (.cells n.cells 27)).alloc (.cells #[.int .i64 kind,.int .i64 loc,.int .i64 b,.int .i64 c,.slice ra rl rc] 34):=⟨_,rfl⟩;have B0:Below w.heap.size w W1:=by rw[A0];exact((Below.refl _ w).alloc lR _).alloc (by simp) _
 have H0:=B0.mono G0;have N0:=hL.below B0;have h1:=h.below H0 lR;have b3:Blk W1 w.heap.size n.cells 27:=by rw[A0];exact(Blk.new w _ _).alloc _
 have b5:Blk W1 (w.heap.size+1) #[.int .i64 kind,.int .i64 loc,.int .i64 b,.int .i64 c,.slice ra rl rc] 34:=by rw[A0];exact Blk.new' (by simp)
 obtain⟨ba,bc,J0⟩:∃ba bc,Bv=.slice ba e.bag.length bc:=by
  rcases Go.Joins.ownsRow_forms hL.bag with ⟨e0,e1⟩ | ⟨g,cap,e1⟩
  ·exact⟨none,0,by rw[e0,e1]⟩
  ·exact⟨_,_,e1⟩
 have O0:Hid (FT base P N n ⟨kind,loc,b,c,ra,rl,rc,rb,ro,f⟩ w.heap.size (w.heap.size+1) e Bv y W1 W1):=hide ⟨N0,b3,b5,Below.refl _ _⟩;have P0:Hid (∀W,Below W1.heap.size W1 W->Below base w W/\n.In base W):=hide (fun W hb=>⟨H0.trans (hb.mono (Nat.le_trans G0 B0.size)),h.below (H0.trans (hb.mono (Nat.le_trans G0 B0.size))) lR⟩);have u0:e.bag.length<=120:=hfit.many;have i0:=hide hfit;obtain⟨len,z0⟩:∃len,len=e.bag.length:=⟨_,rfl⟩;rw[<-z0]at J0 u0;have S0:=hide J0;have y0:=hide z0;have HS:=hide (fun W=>XB loc (len:Int) W);obtain⟨bb,K0⟩:∃bb,bb=(decide (0<=loc) && decide (loc<(len:Int))):=⟨_,rfl⟩;rw[<-K0]at HS;have Q0:=hide K0;rw[g0]at A0;have T0:=hide A0;have HN:=hide hN;have o0:=hide g0;obtain⟨er,L0⟩:∃er,er=e.stepErr n.net (EvM.ev ⟨kind,loc,b,c,ra,rl,rc,rb,ro,f⟩):=⟨_,rfl⟩;obtain⟨e2,M0⟩:∃e2,e2=(if e.stepErr n.net (EvM.ev ⟨kind,loc,b,c,ra,rl,rc,rb,ro,f⟩)=0 then e.step n.net (EvM.ev ⟨kind,loc,b,c,ra,rl,rc,rb,ro,f⟩) else e):=⟨_,rfl⟩;rw[<-M0,<-L0];have j0:=hide L0;have k0:=hide M0;clear L0 M0;rw[dA.val,EvM.val,EvM.cells,g0];have R0:kind=2\/kind=3\/kind=4\/kind=5:=hk;clear h hL _hv hk G0 g0 B0 H0 N0 h1 b3 b5 A0 hfit hN J0 z0 K0;go_enter Tryz.func83,Tryz.ntmps83;go_wp2;rw[<-T0.out];refine EA (fun W=>FT base P N n ⟨kind,loc,b,c,ra,rl,rc,rb,ro,f⟩ w.heap.size (w.heap.size+1) e Bv y W1 W) (oC [.pointer (some ⟨w.heap.size+1,1,none⟩),.int .i64 loc,.pointer (some ⟨P,0,none⟩),.pointer (some ⟨P,0,none⟩),.pointer (some ⟨P,1,none⟩),.slice ba len bc,.int .i64 (len:Int),.bool bb,.bool (!bb)]) (by kernel_rfl) (by kernel_rfl) (by kernel_rfl) (O0.out.keep ⟨rfl,rfl,rfl,lR,fun _ _=>rfl⟩) ⟨?_,?_,?_,?_,?_,?_,?_,?_,?_,trivial⟩ ?_;rotate_right
 ·intro t W hG hE;have e8:=aA (hE 8 (by decide)) rfl;have m0:=hide hG;clear hE hG;simp only[fill,Act.put,sX,sY,sU,e8];clear e8;have I0:=P0.out W m0.out.below;have c0:=m0.out.ev.cell 0;have c1:=m0.out.ev.cell 1;have c2:=m0.out.ev.cell 2;have c3:=m0.out.ev.cell 3;have x0:=m0.out.net.cell 0;have x1:=m0.out.net.cell 1;have x2:=m0.out.net.cell 2;have x3:=m0.out.net.cell 3;have x4:=m0.out.net.cell 4;simp only[o0.out]at x0 x1 x2 x3 x4;simp only[EvM.cells]at c0 c1 c2 c3;simp at x0 x1 x2 x3 x4 c0 c1 c2 c3;have v0:=hide I0.1;have C0:=hide I0.2;have w0:=hide m0.out.live;clear I0 m0 O0 P0 HS;cases bb with
  | false =>
   have hl:loc<0\/(len:Int)<=loc:=by have:=Q0.out;simp at this;omega
   have h0:e.stepErr n.net (EvM.ev ⟨kind,loc,b,c,ra,rl,rc,rb,ro,f⟩)=5:=by
    have D0:=y0.out;unfold Eng.stepErr EvM.ev;simp only[];rw[if_neg (by omega),if_pos (by omega),if_pos (by omega)]
   have H2:Hid (wC base P N er e2 w (.returned (.int .i64 5)) W):=hide ⟨by rw[j0.out,h0],⟨Bv,y,by rw[k0.out,h0,if_neg (by decide)];exact w0.out⟩,v0.out⟩;clear h0 hl R0 x0 x1 x2 x3 x4 c0 c1 c2 c3 F0 E0;go_wp2
   first
   | exact H2.out
   | (go_ret;exact H2.out)
  | true =>
   have hl:0<=loc/\loc<(len:Int):=by have:=Q0.out;simp at this;omega
   obtain⟨i,rfl⟩:∃i:Nat,loc=i:=⟨loc.toNat,by omega⟩;have hi:i<e.bag.length:=by have:=y0.out;omega
   have D0:=y0.out;rcases R0 with rfl | rfl | rfl | rfl
   ·have h0:e.stepErr n.net (EvM.ev ⟨2,(i:Int),b,c,ra,rl,rc,rb,ro,f⟩)=0:=by
     unfold Eng.stepErr EvM.ev;simp only[];rw[if_neg (by omega),if_pos (by omega),if_neg (by omega)];rfl
    have p0:e.step n.net (EvM.ev ⟨2,(i:Int),b,c,ra,rl,rc,rb,ro,f⟩)=e.deliver n.net i:=by
     unfold Eng.step EvM.ev;rfl
    have HC:=hide (VN n base P N i e Bv y W C0.out hck HN.out w0.out i0.out hi);rw[dA.val,o0.out]at HC;have d0:er=0:=j0.out.trans h0;have f0:e2=e.deliver n.net i:=by rw[k0.out,h0,p0,if_pos rfl]
    clear h0 p0 hl F0 E0 C0 i0 D0 j0 k0;have j0:=hide d0;have k0:=hide f0;clear d0 f0;go_wp2_with fail;go_at_call 113;refine HC.out.mono ?_;rintro r w3 ⟨rfl,q0,s0⟩;have H2:Hid (wC base P N er e2 w (.returned (.int .i64 0)) w3):=hide ⟨by rw[j0.out],by rw[k0.out];exact q0,v0.out.trans s0⟩;clear q0 s0 HC w0 v0;go_wp2
    first
    | exact H2.out
    | (go_ret;exact H2.out)
   ·have h0:e.stepErr n.net (EvM.ev ⟨3,(i:Int),b,c,ra,rl,rc,rb,ro,f⟩)=if 120<=e.bag.length then 2 else 0:=by
     unfold Eng.stepErr EvM.ev;simp only[];rw[if_neg (by omega),if_pos (by omega),if_neg (by omega)];rfl
    have p0:e.step n.net (EvM.ev ⟨3,(i:Int),b,c,ra,rl,rc,rb,ro,f⟩)=e.twice i:=by
     unfold Eng.step EvM.ev;rfl
    have HC:=hide (nQ i w0.out hi (by omega));have he:(if ((if 120<=e.bag.length then 2 else 0:Int))=0 then e.twice i else e)=(if 120<=e.bag.length then e else e.twice i):=by
     by_cases hq:120<=e.bag.length
     ·rw[if_pos hq,if_pos hq];rfl
     ·rw[if_neg hq,if_neg hq];rfl
    have d0:er=if 120<=e.bag.length then 2 else 0:=j0.out.trans h0;have f0:e2=(if 120<=e.bag.length then e else e.twice i):=by rw[k0.out,h0,p0];exact he
    rw[<-d0,<-f0]at HC;clear he h0 p0 hl F0 E0 w0 C0 i0 D0 d0 f0 j0 k0;go_wp2_with fail;go_at_call 114;refine HC.out.mono ?_;rintro r w3 ⟨rfl,q0,s0⟩;have H2:Hid (wC base P N er e2 w (.returned (.int .i64 er)) w3):=hide ⟨rfl,q0,v0.out.trans s0⟩;clear q0 s0 HC v0;go_wp2
    first
    | exact H2.out
    | (go_ret;exact H2.out)
   ·have h0:e.stepErr n.net (EvM.ev ⟨4,(i:Int),b,c,ra,rl,rc,rb,ro,f⟩)=0:=by
     unfold Eng.stepErr EvM.ev;simp only[];rw[if_neg (by omega),if_pos (by omega),if_neg (by omega)];rfl
    have p0:e.step n.net (EvM.ev ⟨4,(i:Int),b,c,ra,rl,rc,rb,ro,f⟩)=e.without i:=by
     unfold Eng.step EvM.ev;rfl
    have HC:=hide (NS base P N i e Bv y W w0.out hi (by omega));have d0:er=0:=j0.out.trans h0;have f0:e2=e.without i:=by rw[k0.out,h0,p0,if_pos rfl]
    clear h0 p0 hl F0 E0 C0 i0 D0 j0 k0;have j0:=hide d0;have k0:=hide f0;clear d0 f0;go_wp2_with fail;go_at_call 115;refine HC.out.mono ?_;rintro r w3 ⟨rfl,⟨B3,q0⟩,s0,_⟩;have H2:Hid (wC base P N er e2 w (.returned (.int .i64 0)) w3):=hide ⟨by rw[j0.out],by rw[k0.out];exact⟨B3,y,q0⟩,v0.out.trans s0⟩;clear q0 s0 HC w0 v0;go_wp2
    first
    | exact H2.out
    | (go_ret;exact H2.out)
   ·have h0:e.stepErr n.net (EvM.ev ⟨5,(i:Int),b,c,ra,rl,rc,rb,ro,f⟩)=if (b<0\/((e.bag.getD i zA).b.length:Int)<=b)\/(c<1\/255<c) then 3 else 0:=by
     unfold Eng.stepErr EvM.ev;simp only[];rw[if_neg (by omega),if_pos (by omega),if_neg (by omega)];rfl
    have p0:e.step n.net (EvM.ev ⟨5,(i:Int),b,c,ra,rl,rc,rb,ro,f⟩)=e.spoil i b.toNat (u8 c):=by
     unfold Eng.step EvM.ev;rfl
    have HC:=hide (sQ i b c w0.out hi (by omega) (i0.out.mail _ (UD hi)).2.2);have he:(if ((if (b<0\/((e.bag.getD i zA).b.length:Int)<=b)\/(c<1\/255<c) then 3 else 0:Int))=0 then e.spoil i b.toNat (u8 c) else e)=(if (b<0\/((e.bag.getD i zA).b.length:Int)<=b)\/(c<1\/255<c) then e else e.spoil i b.toNat (u8 c)):=by
     by_cases hq:(b<0\/((e.bag.getD i zA).b.length:Int)<=b)\/(c<1\/255<c)
     ·rw[if_pos hq,if_pos hq];rfl
     ·rw[if_neg hq,if_neg hq];rfl
    have d0:er=if (b<0\/((e.bag.getD i zA).b.length:Int)<=b)\/(c<1\/255<c) then 3 else 0:=j0.out.trans h0;have f0:e2=(if (b<0\/((e.bag.getD i zA).b.length:Int)<=b)\/(c<1\/255<c) then e else e.spoil i b.toNat (u8 c)):=by rw[k0.out,h0,p0];exact he
    rw[<-d0,<-f0]at HC;clear he h0 p0 hl F0 E0 w0 C0 i0 D0 d0 f0 j0 k0;go_wp2_with fail;go_at_call 116;refine HC.out.mono ?_;rintro r w3 ⟨rfl,q0,s0⟩;have H2:Hid (wC base P N er e2 w (.returned (.int .i64 er)) w3):=hide ⟨rfl,q0,v0.out.trans s0⟩;clear q0 s0 HC v0;go_wp2
    first
    | exact H2.out
    | (go_ret;exact H2.out)
 all_goals intro t W hG hp K hK
 all_goals simp only[fill,Act.put,sX,sY,sU]at hK |-
 ·rw[if_pos (by rfl)];go_simp;exact hK _ _ hG rfl (fun _ _ _ h=>h)
 ·have e0:=aA (hp 0 (by decide)) rfl;have c1:=hG.ev.cell 1;simp[EvM.cells]at c1;simp only[e0]at hK |-;rw[if_pos (by rfl)];go_simp;exact hK _ _ hG rfl (fun _ _ _ h=>h)
 ·rw[if_pos (by rfl)];go_simp;exact hK _ _ hG rfl (fun _ _ _ h=>h)
 ·have e2:=aA (hp 2 (by decide)) rfl;simp only[e2]at hK |-;rw[if_pos (by rfl)];go_simp;exact hK _ _ hG rfl (fun _ _ _ h=>h)
 ·have e3:=aA (hp 3 (by decide)) rfl;simp only[e3]at hK |-;rw[if_pos (by rfl)];go_simp;exact hK _ _ hG rfl (fun _ _ _ h=>h)
 ·have e4:=aA (hp 4 (by decide)) rfl;have p1:=hG.live.head.cell 1;simp at p1;rw[S0.out]at p1;simp only[e4]at hK |-;rw[if_pos (by rfl)];go_simp;exact hK _ _ hG rfl (fun _ _ _ h=>h)
 ·have e5:=aA (hp 5 (by decide)) rfl;simp only[e5]at hK |-;rw[if_pos (by rfl)];go_simp;exact hK _ _ hG rfl (fun _ _ _ h=>h)
 ·have e1:=aA (hp 1 (by decide)) rfl;have e6:=aA (hp 6 (by decide)) rfl;simp only[e1,e6]at hK |-;rw[if_pos (by rfl)];go_simp;go_at_call 90;refine(HS.out _).mono ?_;rintro r w2 ⟨rfl,rfl⟩;go_simp;exact hK _ _ hG rfl (fun _ _ _ h=>h)
 ·have e7:=aA (hp 7 (by decide)) rfl;simp only[e7]at hK |-;rw[if_pos (by rfl)];go_simp;exact hK _ _ hG rfl (fun _ _ _ h=>h)
theorem sP (n:dA)(v:EvM)(base P N:Nat)(e:Eng)(Bv:Value)(y:Lay)(w:World)(h:n.In base w)(hck:n.net.check=0)(hN:n.nodes=N)(hL:Live base P N e Bv y w)(hfit:e.Fit n.net)(hv:v.In base w):
 Calls Tryz.prog 44 #[n.val,.pointer (some ⟨P,0,none⟩),v.val] w fun r w'=>wC base P N (e.stepErr n.net v.ev) (if e.stepErr n.net v.ev=0 then e.step n.net v.ev else e) w r w':=by
 obtain⟨D0,E0,B0,C0⟩:=SA hck hN;obtain⟨kind,loc,b,c,ra,rl,rc,rb,ro,f⟩:=v;have s0:base<=w.heap.size:=Nat.le_of_lt (Nat.lt_of_le_of_lt hL.lp hL.head.lt);have h0:n.cells=#[.int .i64 n.a.size,.slice n.a.B.ga n.a.B.t.len n.a.B.cap,.slice n.a.E.ga n.a.E.t.len n.a.E.cap,.int .i64 N,.slice n.la n.ln n.lc]:=by simp only[dA.cells,Mat.val,hN]
 obtain⟨W1,o0⟩:∃W1,W1=(w.alloc (.cells n.cells 27)).alloc (.cells #[.int .i64 kind,.int .i64 loc,.int .i64 b,.int .i64 c,.slice ra rl rc] 34):=⟨_,rfl⟩;have p0:Below w.heap.size w W1:=by rw[o0];exact((Below.refl _ w).alloc lR _).alloc (by simp) _
 have m0:=p0.mono s0;have q0:=hL.below p0;have h1:=h.below m0 lR;have z0:=(hv.below m0 lR).mono (Nat.le_trans s0 p0.size);have b3:Blk W1 w.heap.size n.cells 27:=by rw[o0];exact(Blk.new w _ _).alloc _
 have b5:Blk W1 (w.heap.size+1) #[.int .i64 kind,.int .i64 loc,.int .i64 b,.int .i64 c,.slice ra rl rc] 34:=by rw[o0];exact Blk.new' (by simp)
 have j0:=hide (fun hk=>OP n ⟨kind,loc,b,c,ra,rl,rc,rb,ro,f⟩ base P N e Bv y W1 h1 hck hN q0 hfit (hv.below m0 lR) hk);have i0:=hide (fun hk=>PP n ⟨kind,loc,b,c,ra,rl,rc,rb,ro,f⟩ base P N e Bv y W1 h1 hck hN q0 hfit (hv.below m0 lR) hk);obtain⟨er,x0⟩:∃er,er=e.stepErr n.net (EvM.ev ⟨kind,loc,b,c,ra,rl,rc,rb,ro,f⟩):=⟨_,rfl⟩;obtain⟨e2,y0⟩:∃e2,e2=(if e.stepErr n.net (EvM.ev ⟨kind,loc,b,c,ra,rl,rc,rb,ro,f⟩)=0 then e.step n.net (EvM.ev ⟨kind,loc,b,c,ra,rl,rc,rb,ro,f⟩) else e):=⟨_,rfl⟩;rw[<-y0,<-x0]at j0 i0 |-;simp only[dA.val,EvM.val,EvM.cells,h0]at j0 i0 |-;have g0:=hide m0;have k0:=hide q0;rw[h0]at o0;rw[o0]at j0 i0 g0 k0;have u0:=hide x0;have v0:=hide y0;clear h hL hv s0 h0 p0 m0 q0 h1 z0 b3 b5 o0 hfit hN x0 y0 hck B0 C0;by_cases hx:kind<1\/7<kind
 ·have w0:e.stepErr n.net (EvM.ev ⟨kind,loc,b,c,ra,rl,rc,rb,ro,f⟩)=7:=by
   unfold Eng.stepErr EvM.ev;simp only[];rw[if_pos hx]
  have H2:=hide (show wC base P N er e2 w (.returned (.int .i64 7)) _ from ⟨by rw[u0.out,w0],⟨Bv,y,by rw[v0.out,w0,if_neg (by decide)];exact k0.out⟩,g0.out⟩);have:(kind == 1)=false:=by simp;omega
  have:(kind == 2)=false:=by simp;omega
  have:(kind == 3)=false:=by simp;omega
  have:(kind == 4)=false:=by simp;omega
  have:(kind == 5)=false:=by simp;omega
  have:(kind == 6)=false:=by simp;omega
  have:(kind == 7)=false:=by simp;omega
  clear w0 hx j0 i0 u0 v0;go_enter Tryz.func44,Tryz.ntmps44;go_wp2
  first
  | exact H2.out
  | (go_ret;exact H2.out)
 have A0:kind=1\/kind=6\/kind=7\/kind=2\/kind=3\/kind=4\/kind=5:=by omega
 clear hx u0 v0;rcases A0 with rfl | rfl | rfl | rfl | rfl | rfl | rfl
 ·have HC:=hide (j0.out (by omega));clear j0 i0;go_enter Tryz.func44,Tryz.ntmps44;go_wp2_with fail;go_at_call 82;refine HC.out.mono ?_;rintro r w3 ⟨rfl,d0,f0⟩;have H2:Hid (wC base P N er e2 w (.returned (.int .i64 er)) w3):=hide ⟨rfl,d0,g0.out.trans f0⟩;clear d0 f0 HC g0 k0;go_wp2
  first
  | exact H2.out
  | (go_ret;exact H2.out)
 ·have HC:=hide (j0.out (by omega));clear j0 i0;go_enter Tryz.func44,Tryz.ntmps44;go_wp2_with fail;go_at_call 82;refine HC.out.mono ?_;rintro r w3 ⟨rfl,d0,f0⟩;have H2:Hid (wC base P N er e2 w (.returned (.int .i64 er)) w3):=hide ⟨rfl,d0,g0.out.trans f0⟩;clear d0 f0 HC g0 k0;go_wp2
  first
  | exact H2.out
  | (go_ret;exact H2.out)
 ·have HC:=hide (j0.out (by omega));clear j0 i0;go_enter Tryz.func44,Tryz.ntmps44;go_wp2_with fail;go_at_call 82;refine HC.out.mono ?_;rintro r w3 ⟨rfl,d0,f0⟩;have H2:Hid (wC base P N er e2 w (.returned (.int .i64 er)) w3):=hide ⟨rfl,d0,g0.out.trans f0⟩;clear d0 f0 HC g0 k0;go_wp2
  first
  | exact H2.out
  | (go_ret;exact H2.out)
 ·have HC:=hide (i0.out (by omega));clear j0 i0;go_enter Tryz.func44,Tryz.ntmps44;go_wp2_with fail;go_at_call 83;refine HC.out.mono ?_;rintro r w3 ⟨rfl,d0,f0⟩;have H2:Hid (wC base P N er e2 w (.returned (.int .i64 er)) w3):=hide ⟨rfl,d0,g0.out.trans f0⟩;clear d0 f0 HC g0 k0;go_wp2
  first
  | exact H2.out
  | (go_ret;exact H2.out)
 ·have HC:=hide (i0.out (by omega));clear j0 i0;go_enter Tryz.func44,Tryz.ntmps44;go_wp2_with fail;go_at_call 83;refine HC.out.mono ?_;rintro r w3 ⟨rfl,d0,f0⟩;have H2:Hid (wC base P N er e2 w (.returned (.int .i64 er)) w3):=hide ⟨rfl,d0,g0.out.trans f0⟩;clear d0 f0 HC g0 k0;go_wp2
  first
  | exact H2.out
  | (go_ret;exact H2.out)
 ·have HC:=hide (i0.out (by omega));clear j0 i0;go_enter Tryz.func44,Tryz.ntmps44;go_wp2_with fail;go_at_call 83;refine HC.out.mono ?_;rintro r w3 ⟨rfl,d0,f0⟩;have H2:Hid (wC base P N er e2 w (.returned (.int .i64 er)) w3):=hide ⟨rfl,d0,g0.out.trans f0⟩;clear d0 f0 HC g0 k0;go_wp2
  first
  | exact H2.out
  | (go_ret;exact H2.out)
 ·have HC:=hide (i0.out (by omega));clear j0 i0;go_enter Tryz.func44,Tryz.ntmps44;go_wp2_with fail;go_at_call 83;refine HC.out.mono ?_;rintro r w3 ⟨rfl,d0,f0⟩;have H2:Hid (wC base P N er e2 w (.returned (.int .i64 er)) w3):=hide ⟨rfl,d0,g0.out.trans f0⟩;clear d0 f0 HC g0 k0;go_wp2
  first
  | exact H2.out
  | (go_ret;exact H2.out)
theorem Live.setRes {base P N:Nat}{e:Eng}{Bv:Value}{y:Lay}{W:World}(h:Live base P N e Bv y W)(hN0:0<N){q:Nat}{t:TypeId}(hq:q<base)(hb:Blk W q #[.slice none 0 0,.slice none 0 0] t)(u v:Value):
 Live base P N e Bv y ((W.setCell ⟨q,0,none⟩ u).setCell ⟨q,1,none⟩ v):=by
 obtain⟨W2,g0⟩:∃W2,W2=(W.setCell ⟨q,0,none⟩ u).setCell ⟨q,1,none⟩ v:=⟨_,rfl⟩;have k0:W2.heap.size=W.heap.size:=by rw[g0];simp
 have i0:∀b o z,W.cell? ⟨b,o,none⟩=some (.int .i64 z)->b≠q:=fun b o z hc e1=>by
  subst e1;rw[hb.cell o]at hc;rcases o with _ | _ | o
  ·simp at hc
  ·simp at hc
  ·simp at hc
 have d0:∀b o,b≠q->W2.cell? ⟨b,o,none⟩=W.cell? ⟨b,o,none⟩:=fun b o hne=>by rw[g0,qA hne,qA hne]
 have f0:∀b cs t,b≠q->Blk W b cs t->Blk W2 b cs t:=fun b cs t hne hk=>by rw[g0];exact(hk.other hne _ _).other hne _ _
 have h0:∀b,y.Off P N Bv W b->y.Off P N Bv W2 b:=fun b ho=>⟨ho.p,ho.g,ho.t,ho.v,by rw[k0];exact ho.lt,ho.lo⟩;have:=h.lp;have:=h.lg;have j0:Bv.ownBlock≠some q:=fun e1=>by have:=(h.bag.lt q e1).1;omega
 rw[<-g0];refine⟨f0 _ _ _ (by omega) h.head,f0 _ _ _ (by omega) h.rtrs,h.r0,h.r1,fun i hi=>f0 _ _ _ (by have:=h.lt i hi;omega) (h.tolds i hi),h.t0,fun i hi=>?_,fun i hi k hk ht=>?_,?_,h.lp,h.lg,h.lt,h.pg,h.pt,h.gt,h.tt,h.bv,h.ylo,fun r hr=>(by rw[g0];exact((h.sr r hr).set _ _).set _ _),fun r hr k hk ht=>(by rw[g0];exact((h.sd r hr k hk ht).set _ _).set _ _)⟩
 ·obtain⟨h1,h2⟩:=h.routes i hi;exact⟨h0 _ h1,fun j hj=>by rw[d0 _ _ (i0 _ _ _ (h2 0 hN0))];exact h2 j hj⟩
 ·obtain⟨h1,h2,h3⟩:=h.rows i hi k hk ht;exact⟨h1,h0 _ h2,fun j hj=>by rw[d0 _ _ (i0 _ _ _ (h3 0 hN0))];exact h3 j hj⟩
 ·rw[g0];exact ownsRow_setCell_other (ownsRow_setCell_other h.bag j0 _) j0 _
def YI:Value:=.agg #[.slice none 0 0,.slice none 0 0]
def gJ (n:Net) (x:iA) (v:Ev) (w:World) (r:Ending) (w':World):Prop :=
 Below w.heap.size w w' /\
 ((x.err n≠0/\r=.returned (.tuple #[YI,.int .i64 (x.err n)])) \/
  (x.err n=0/\x.eng.stepErr n v≠0/\r=.returned (.tuple #[YI,.int .i64 (x.eng.stepErr n v)])) \/
  (x.err n=0/\x.eng.stepErr n v=0/\∃m:iA,r=.returned (.tuple #[m.val,.int .i64 0])/\m.In w'.heap.size w'/\m.eng=x.eng.step n v/\m.err n=0/\m.From w.heap.size/\m.Apart w'/\m.Soft w'))
theorem JM (n:dA)(x:iA)(v:EvM)(w:World)(h:n.In w.heap.size w)(hx:x.In w.heap.size w)(hv:v.In w.heap.size w):
 Calls Tryz.prog 13 #[n.val,x.val,v.val] w fun r w'=>gJ n.net x v.ev w r w':=by
 obtain⟨W1,k0⟩:∃W1,W1=(((w.alloc (.cells n.cells 27)).alloc (.cells x.cells 31)).alloc (.cells v.cells 34)).alloc (.cells #[.slice none 0 0,.slice none 0 0] 31):=⟨_,rfl⟩;have K0:Below w.heap.size w W1:=by rw[k0];exact((((Below.refl _ w).alloc lR _).alloc (by simp) _).alloc (by simp;omega) _).alloc (by simp;omega) _
 have b3:Blk W1 w.heap.size n.cells 27:=by rw[k0];exact(((Blk.new w _ _).alloc _).alloc _).alloc _
 have b4:Blk W1 (w.heap.size+1) x.cells 31:=by rw[k0];exact((show Blk _ (w.heap.size+1) x.cells 31 from Blk.new' (by simp)).alloc _).alloc _
 have b5:Blk W1 (w.heap.size+1+1) v.cells 34:=by rw[k0];exact(show Blk _ (w.heap.size+1+1) v.cells 34 from Blk.new' (by simp)).alloc _
 have b6:Blk W1 (w.heap.size+1+1+1) #[.slice none 0 0,.slice none 0 0] 31:=by rw[k0];exact Blk.new' (by simp)
 have G0:=hide (TF n x W1 (h.grown K0) (hx.grown K0));have H:=hide h;have Hx:=hide hx;have Hv:=hide hv;have d1:=hide K0;have R0:=hide b3;have g1:=hide b4;have S0:=hide b5;have A0:=hide b6;simp only[dA.val,dA.cells,Mat.val,iA.val,iA.cells,EvM.val,EvM.cells]at k0 G0 |-;rw[k0]at G0;have L1:=hide k0;clear h hx hv K0 b3 b4 b5 b6 k0;go_enter Tryz.func13,Tryz.ntmps13;go_wp2_with fail;go_at_call 26;refine G0.out.mono ?_;rw[<-L1.out];rintro r W2 ⟨rfl,C0⟩;have c6:=A0.out.below C0 A0.out.lt;have m0:=hide (d1.out.trans (C0.mono d1.out.size));by_cases u0:x.err n.net=0;rotate_left
 ·have s0:=c6.cell 0;have s1:=c6.cell 1;have f0:=c6.frozen 0;have f1:=c6.frozen 1;have c7:=(c6.set 0 (.slice none 0 0)).set 1 (.slice none 0 0);have e0:=c7.cell 0;have e1:=c7.cell 1;simp at s0 s1 e0 e1;have M1:(x.err n.net == 0)=false:=by simpa using u0
  have HF:Hid (gJ n.net x v.ev w (.returned (.tuple #[.agg #[.slice none 0 0,.slice none 0 0],.int .i64 (x.err n.net)])) ((W2.setCell ⟨w.heap.size+1+1+1,0,none⟩ (.slice none 0 0)).setCell ⟨w.heap.size+1+1+1,1,none⟩ (.slice none 0 0))):=hide ⟨(m0.out.setCell (p:=⟨w.heap.size+1+1+1,0,none⟩) (by show w.heap.size<=w.heap.size+1+1+1;omega) _).setCell (p:=⟨w.heap.size+1+1+1,1,none⟩) (by show w.heap.size<=w.heap.size+1+1+1;omega) _,Or.inl ⟨u0,rfl⟩⟩;generalize x.err n.net=er at *;clear c6 c7 C0 G0 u0;go_wp2;exact bodyPost_ret (v:=.tuple #[.agg #[.slice none 0 0,.slice none 0 0],.int .i64 er]) (by simp[results,Tryz.results13,go_sem,e0,e1]) rfl HF.out
 have h0:n.net.check=0:=by
  have:=u0;unfold iA.err at this;split at this
  ·next h1=>exact absurd this h1
  ·next h1=>omega
 obtain⟨N,hN⟩:∃N:Nat,n.nodes=N:=⟨n.nodes.toNat,by have:=(Net.good_of_check h0).lo;have:n.net.nodes=n.nodes:=rfl;omega⟩;obtain⟨W0,y1,Q1,z1⟩:=SA h0 hN;have HR:=hide (iA.right u0 z1);have T0:=hide (zP x N W2 (Hx.out.grown m0.out) HR.out.gn W0 y1 HR.out.bn HR.out.rl HR.out.tl HR.out.ll);have c4:=g1.out.below C0 g1.out.lt;have q0:=c4.cell 0;have q1:=c4.cell 1;simp[iA.cells]at q0 q1;simp only[iA.val,iA.cells]at T0;rw[u0];have g0:=hide C0;have i1:=hide u0;clear C0 G0 c4 c6 u0;go_wp2_with fail;go_at_call 43;refine T0.out.mono ?_;rintro r W3 ⟨mid,Bv,y,rfl,i0,z0,A1,B1,D0⟩;obtain⟨ba,bc,X0⟩:=QA z0;obtain⟨W4,E0⟩:∃W4,W4=W3.alloc (.cells #[.slice (some ⟨y.G,0,none⟩) N y.gc,Bv] 31):=⟨_,rfl⟩;have j1:Below W3.heap.size W3 W4:=by rw[E0];exact(Below.refl _ W3).alloc lR _
 have w0:=D0.trans (j1.mono D0.size);have o0:Live W2.heap.size W3.heap.size N x.eng Bv y W4:=by rw[E0];exact i0.live z0 A1 D0.size B1
 have j0:=m0.out.trans (w0.mono m0.out.size);have k1:=(H.out.below j0 lR).mono m0.out.size;have o1:=(Hv.out.below j0 lR).mono m0.out.size;have B0:=hide (sP n v W2.heap.size W3.heap.size N x.eng Bv y W4 k1 h0 hN o0 HR.out.fit o1);have c3:=(R0.out.below g0.out R0.out.lt).below D0 (Nat.lt_of_lt_of_le R0.out.lt g0.out.size);have c5:=(S0.out.below g0.out S0.out.lt).below D0 (Nat.lt_of_lt_of_le S0.out.lt g0.out.size);have c6:=(A0.out.below g0.out A0.out.lt).below w0 (Nat.lt_of_lt_of_le A0.out.lt g0.out.size);have x0:∀o,(W3.alloc o).cell? ⟨w.heap.size,0,none⟩=some (.int .i64 n.a.size):=fun o=>by have:=(c3.alloc o).cell 0;simpa [dA.cells] using this
 have x1:∀o,(W3.alloc o).cell? ⟨w.heap.size,1,none⟩=some (.slice n.a.B.ga n.a.B.t.len n.a.B.cap):=fun o=>by have:=(c3.alloc o).cell 1;simpa [dA.cells,Mat.val] using this
 have x2:∀o,(W3.alloc o).cell? ⟨w.heap.size,2,none⟩=some (.slice n.a.E.ga n.a.E.t.len n.a.E.cap):=fun o=>by have:=(c3.alloc o).cell 2;simpa [dA.cells,Mat.val] using this
 have x3:∀o,(W3.alloc o).cell? ⟨w.heap.size,3,none⟩=some (.int .i64 n.nodes):=fun o=>by have:=(c3.alloc o).cell 3;simpa [dA.cells] using this
 have x4:∀o,(W3.alloc o).cell? ⟨w.heap.size,4,none⟩=some (.slice n.la n.ln n.lc):=fun o=>by have:=(c3.alloc o).cell 4;simpa [dA.cells] using this
 have v0:∀o,(W3.alloc o).cell? ⟨w.heap.size+1+1,0,none⟩=some (.int .i64 v.kind):=fun o=>by have:=(c5.alloc o).cell 0;simpa [EvM.cells] using this
 have v1:∀o,(W3.alloc o).cell? ⟨w.heap.size+1+1,1,none⟩=some (.int .i64 v.loc):=fun o=>by have:=(c5.alloc o).cell 1;simpa [EvM.cells] using this
 have v2:∀o,(W3.alloc o).cell? ⟨w.heap.size+1+1,2,none⟩=some (.int .i64 v.b):=fun o=>by have:=(c5.alloc o).cell 2;simpa [EvM.cells] using this
 have v3:∀o,(W3.alloc o).cell? ⟨w.heap.size+1+1,3,none⟩=some (.int .i64 v.c):=fun o=>by have:=(c5.alloc o).cell 3;simpa [EvM.cells] using this
 have v4:∀o,(W3.alloc o).cell? ⟨w.heap.size+1+1,4,none⟩=some (.slice v.ra v.rl v.rc):=fun o=>by have:=(c5.alloc o).cell 4;simpa [EvM.cells] using this
 obtain⟨er,Y0⟩:∃er,er=x.eng.stepErr n.net v.ev:=⟨_,rfl⟩;obtain⟨e2,Z0⟩:∃e2,e2=(if x.eng.stepErr n.net v.ev=0 then x.eng.step n.net v.ev else x.eng):=⟨_,rfl⟩;rw[<-Z0,<-Y0]at B0;simp only[dA.val,dA.cells,Mat.val,EvM.val,EvM.cells]at B0;have L0:=hide Y0;have t1:=hide Z0;have N1:=hide c6;have U0:=hide j0;have V0:=hide g0.out.size;have O1:=hide A0.out.lt;rw[X0]at E0;rw[E0]at B0;rw[X0];have P1:=hide E0;have HN:=hide hN;have H0:=hide h0;clear Y0 Z0 c3 c5 c6 j0 w0 j1 o0 k1 o1 E0 X0 i0 z0 A1 B1 D0 T0 q0 q1 hN h0 z1 Q1;go_wp2_with fail;go_at_call 44;refine B0.out.mono ?_;rw[<-P1.out];rintro r W5 ⟨rfl,⟨O0,y5,F0⟩,P0⟩;have y0:w.heap.size+1+1+1<W2.heap.size:=Nat.lt_of_lt_of_le O1.out V0.out;have c6:=N1.out.below P0 y0;have M0:=U0.out.trans (P0.mono m0.out.size);have s0:=c6.cell 0;have s1:=c6.cell 1;have f0:=c6.frozen 0;have f1:=c6.frozen 1;simp at s0 s1;by_cases hz:er=0;rotate_left
 ·have c7:=(c6.set 0 (.slice none 0 0)).set 1 (.slice none 0 0);have e0:=c7.cell 0;have e1:=c7.cell 1;simp at e0 e1;have M1:(er == 0)=false:=by simpa using hz
  have HF:Hid (gJ n.net x v.ev w (.returned (.tuple #[.agg #[.slice none 0 0,.slice none 0 0],.int .i64 er])) ((W5.setCell ⟨w.heap.size+1+1+1,0,none⟩ (.slice none 0 0)).setCell ⟨w.heap.size+1+1+1,1,none⟩ (.slice none 0 0))):=hide ⟨(M0.setCell (p:=⟨w.heap.size+1+1+1,0,none⟩) (by show w.heap.size<=w.heap.size+1+1+1;omega) _).setCell (p:=⟨w.heap.size+1+1+1,1,none⟩) (by show w.heap.size<=w.heap.size+1+1+1;omega) _,Or.inr (Or.inl ⟨i1.out,by rw[<-L0.out];exact hz,by rw[<-L0.out];rfl⟩)⟩;clear c6 c7 P0 B0 hz M0 F0 x0 x1 x2 x3 x4 v0 v1 v2 v3 v4;go_wp2;exact bodyPost_ret (v:=.tuple #[.agg #[.slice none 0 0,.slice none 0 0],.int .i64 er]) (by simp[results,Tryz.results13,go_sem,e0,e1]) rfl HF.out
 have N0:x.eng.stepErr n.net v.ev=0:=L0.out.symm.trans hz;have he:e2=x.eng.step n.net v.ev:=by rw[t1.out,if_pos N0]
 have d0:e2.Fit n.net:=by rw[he];exact HR.out.fit.step (Net.good_of_check H0.out) N0
 obtain⟨R1,S1,I0⟩:=QA F0.bag;have p0:=F0.head.cell 0;have p1:=F0.head.cell 1;simp at p0 p1;have c7:=(c6.set 0 (.slice (some ⟨y5.G,0,none⟩) N y5.gc)).set 1 O0;have e0:=c7.cell 0;have e1:=c7.cell 1;simp at e0 e1;have u1:=F0.setRes W0 y0 c6 (.slice (some ⟨y5.G,0,none⟩) N y5.gc) O0;obtain⟨m,C1,J0,Q0,D1,E1,F1,G1,H1,I1,J1,K1⟩:=u1.outF W0 y1 d0.many (fun m hm=>(d0.mail m hm).2.2);have w1:m.err n.net=0:=iA.of_right ⟨H0.out,D1,E1,F1,fun i hi q hq=>by rw[Q0];exact G1 i hi q hq,by rw[H1];exact d0.many,by rw[Q0];exact d0⟩ (by have h3:n.net.nodes=n.nodes:=rfl;rw[h3];exact HN.out);have HF:Hid (gJ n.net x v.ev w (.returned (.tuple #[.agg #[.slice (some ⟨y5.G,0,none⟩) N y5.gc,O0],.int .i64 0])) ((W5.setCell ⟨w.heap.size+1+1+1,0,none⟩ (.slice (some ⟨y5.G,0,none⟩) N y5.gc)).setCell ⟨w.heap.size+1+1+1,1,none⟩ O0)):=hide ⟨(M0.setCell (p:=⟨w.heap.size+1+1+1,0,none⟩) (by show w.heap.size<=w.heap.size+1+1+1;omega) _).setCell (p:=⟨w.heap.size+1+1+1,1,none⟩) (by show w.heap.size<=w.heap.size+1+1+1;omega) _,Or.inr (Or.inr ⟨i1.out,N0,m,by rw[iA.val,C1],J0,by rw[Q0];exact he,w1,I1.mono m0.out.size,J1,K1⟩)⟩;rw[I0]at p1 e0 e1 HF;rw[hz];clear c6 c7 P0 B0 M0 F0 u1 C1 J0 Q0 D1 E1 F1 G1 H1 I1 J1 K1 w1 d0 he N0 I0 x0 x1 x2 x3 x4 v0 v1 v2 v3 v4 L0 t1 hz y0;go_wp2;exact bodyPost_ret (v:=.tuple #[.agg #[.slice (some ⟨y5.G,0,none⟩) N y5.gc,.slice R1 e2.bag.length S1],.int .i64 0]) (by simp[results,Tryz.results13,go_sem,e0,e1]) rfl HF.out
end Go.Proofs.YtjhkadffaephmacGreat
