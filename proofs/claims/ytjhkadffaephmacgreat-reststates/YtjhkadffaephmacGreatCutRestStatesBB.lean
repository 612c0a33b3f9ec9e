import Derived.Test.YtjhkadffaephmacGreatCutRestStatesBA
namespace Go.Proofs.YtjhkadffaephmacGreat
set_option maxHeartbeats 16000000
set_option maxRecDepth 100000
open Go.RowKit
theorem PK (args:Array Value)(W:World):(callFunc 49 args).run Tryz.prog W=.ok (.enter 49 args) W:=by rfl
theorem IM (n:dA)(x m:Mat)(k i j N bi bn bx bj bm lo:Nat)(w:World)(hlo:lo<=w.heap.size)(h:n.In lo w)(hx:x.In lo w)(hm:m.In lo w)(hck:n.net.check=0)(hN:n.nodes=N)(hk:k<n.ln)(hi:i<N)(hj:j<N)(hix:n.net.Is x.t)(him:n.net.Is m.t)
 (ci:w.cell? ⟨bi,0,none⟩=some (.int .i64 i)) (li:bi<w.heap.size) (cn:Blk w bn n.cells 27) (cx:w.cell? ⟨bx,0,none⟩=some x.val) (lx:bx<w.heap.size) (cj:w.cell? ⟨bj,0,none⟩=some (.int .i64 j)) (lj:bj<w.heap.size) (cm:w.cell? ⟨bm,0,none⟩=some m.val) (lm:bm<w.heap.size) :
 Calls Tryz.prog 49 #[.agg #[.int .i64 (n.F k),.int .i64 (n.T k),.int .i64 (n.E k)],.pointer (some ⟨bi,0,none⟩),.pointer (some ⟨bn,0,none⟩),.pointer (some ⟨bx,0,none⟩),.pointer (some ⟨bj,0,none⟩),.pointer (some ⟨bm,0,none⟩)] w fun e w'=>e=.returned (.bool (n.F k == (i:Int) && n.net.a.E.get (n.E k) (x.t.Z (n.T k).toNat j) == m.t.Z i j))/\Below w.heap.size w w':=by
 have g:=Net.good_of_check hck;have gl:=g.link k hk;have m0:n.net.N=N:=by show n.nodes.toNat=N;omega
 have o0:n.net.nodes=n.nodes:=rfl;obtain⟨kt,g0⟩:∃kt:Nat,n.T k=kt:=⟨(n.T k).toNat,by have:=gl.2.2.1;have e:n.net.T k=n.T k:=rfl;omega⟩;obtain⟨ke,h0⟩:∃ke:Nat,n.E k=ke:=⟨(n.E k).toNat,by have:=gl.2.2.2.2.1;have e:n.net.E k=n.E k:=rfl;omega⟩;have p0:kt<N:=by have:=gl.2.2.2.1;have e:n.net.T k=n.T k:=rfl;omega
 have d0:(ke:Int)<n.a.E.t.len:=by have:=gl.2.2.2.2.2;have e:n.net.E k=n.E k:=rfl;have e2:n.net.a.E.len=n.a.E.t.len:=rfl;omega
 obtain⟨xv,i0⟩:∃xv:Nat,x.t.Z kt j=xv:=⟨(x.t.Z kt j).toNat,by have:=(hix.state kt j (by omega) (by omega)).1;omega⟩;have j0:(xv:Int)<n.a.size:=by have:=(hix.state kt j (by omega) (by omega)).2;rw[i0]at this;exact this
 have hB:∀o,Below w.heap.size w (w.alloc o):=fun o=>(Below.refl w.heap.size w).alloc lR o;have hA:∀o,n.In lo (w.alloc o):=fun o=>h.below (hB o) hlo;obtain⟨a1,_,_,a4⟩:=h.edgeAt g d0 j0;have a2:∀o,(w.alloc o).cell? ⟨n.a.E.gb,n.a.E.go+ke,none⟩=some (.slice (some ⟨n.a.E.RB ke,n.a.E.RO ke,none⟩) (n.a.E.t.L ke) (n.a.E.C ke)):=fun o=>((hA o).edgeAt g d0 j0).2.1;have a3:∀o,(w.alloc o).cell? ⟨n.a.E.RB ke,n.a.E.RO ke+xv,none⟩=some (.int .i64 (n.net.a.E.get ke xv)):=fun o=>((hA o).edgeAt g d0 j0).2.2.1;have q0:=hix.len;have s0:=him.len;have u0:=hix.wide kt (by omega);have v0:=him.wide i (by omega);obtain⟨p1,_,_⟩:=hx.at (r:=kt) (c:=j) (by omega) (by omega);obtain⟨q1,_,_⟩:=hm.at (r:=i) (c:=j) (by omega) (by omega);have p2:∀o,(w.alloc o).cell? ⟨x.gb,x.go+kt,none⟩=some (.slice (some ⟨x.RB kt,x.RO kt,none⟩) (x.t.L kt) (x.C kt)):=fun o=>((hx.below (hB o) hlo).at (r:=kt) (c:=j) (by omega) (by omega)).2.1;have p3:∀o,(w.alloc o).cell? ⟨x.RB kt,x.RO kt+j,none⟩=some (.int .i64 (xv:Int)):=fun o=>by rw[<-i0];exact((hx.below (hB o) hlo).at (r:=kt) (c:=j) (by omega) (by omega)).2.2
 have q2:∀o,(w.alloc o).cell? ⟨m.gb,m.go+i,none⟩=some (.slice (some ⟨m.RB i,m.RO i,none⟩) (m.t.L i) (m.C i)):=fun o=>((hm.below (hB o) hlo).at (r:=i) (c:=j) (by omega) (by omega)).2.1;have q3:∀o,(w.alloc o).cell? ⟨m.RB i,m.RO i+j,none⟩=some (.int .i64 (m.t.Z i j)):=fun o=>((hm.below (hB o) hlo).at (r:=i) (c:=j) (by omega) (by omega)).2.2;have ca:∀ {a:Nat} {v:Value},a<w.heap.size->w.cell? ⟨a,0,none⟩=some v->∀o,(w.alloc o).cell? ⟨a,0,none⟩=some v:=fun {a v} hl hv o=>by rw[(hB o).cell (p:=⟨a,0,none⟩) hl];exact hv
 have yi:=ca li ci;have yx:=ca lx cx;have yj:=ca lj cj;have ym:=ca lm cm;rw[Mat.val,p1]at yx;rw[Mat.val,q1]at ym;have yn:∀o,(w.alloc o).cell? ⟨bn,2,none⟩=some (.slice (some ⟨n.a.E.gb,n.a.E.go,none⟩) n.a.E.t.len n.a.E.cap):=fun o=>by
  have:=(cn.alloc o).cell 2;simpa [dA.cells,Mat.val,a1] using this
 have r1:(i:Int)<(m.t.len:Int):=by omega
 have r2:(j:Int)<(m.t.L i:Int):=by omega
 have r3:(kt:Int)<(x.t.len:Int):=by omega
 have r4:(j:Int)<(x.t.L kt:Int):=by omega
 have HB:Hid (∀o q,Below w.heap.size w ((w.alloc o).drewN q)):=hide (fun o q=>below_drewN (hB o) q);have f0:Hid ((n.F k == (i:Int) && n.net.a.E.get (n.E k) (x.t.Z (n.T k).toNat j) == m.t.Z i j)=(n.F k == (i:Int) && n.net.a.E.get ke xv == m.t.Z i j)):=hide (by rw[h0,g0,Int.toNat_natCast,i0]);rw[g0,h0];rw[g0,h0]at f0;generalize n.F k=kf at *;generalize n.net.a.E.get ke xv=ev at *;generalize m.t.Z i j=mv at *;clear hck g gl m0 o0 g0 h0 i0 hB hA a1 p1 q1 ca ci cx cj cm cn h hx hm hix him q0 s0 u0 v0;by_cases hF:kf=i
 ·have h':(kf == (i:Int))=true:=by simp[hF]
  clear hF;go_enter Tryz.func49,Tryz.ntmps49;go_wp2;refine EA (fun W=>W=(w.alloc (.cells #[.int .i64 kf,.int .i64 (kt:Int),.int .i64 (ke:Int)] 81)).drew) (oC [.pointer (some ⟨w.heap.size,0,none⟩),.int .i64 kf,.int .i64 i,.bool true,.bool true,.pointer (some ⟨bn,0,none⟩),.pointer (some ⟨bn,2,none⟩),.slice (some ⟨n.a.E.gb,n.a.E.go,none⟩) n.a.E.t.len n.a.E.cap,.pointer (some ⟨w.heap.size,2,none⟩),.int .i64 ke,.pointer (some ⟨n.a.E.gb,n.a.E.go+ke,none⟩),.slice (some ⟨n.a.E.RB ke,n.a.E.RO ke,none⟩) (n.a.E.t.L ke) (n.a.E.C ke),.slice (some ⟨x.gb,x.go,none⟩) x.t.len x.cap,.pointer (some ⟨w.heap.size,1,none⟩),.int .i64 kt,.pointer (some ⟨x.gb,x.go+kt,none⟩),.slice (some ⟨x.RB kt,x.RO kt,none⟩) (x.t.L kt) (x.C kt),.int .i64 j,.pointer (some ⟨x.RB kt,x.RO kt+j,none⟩),.int .i64 xv,.pointer (some ⟨n.a.E.RB ke,n.a.E.RO ke+xv,none⟩),.int .i64 ev,.slice (some ⟨m.gb,m.go,none⟩) m.t.len m.cap,.int .i64 i,.pointer (some ⟨m.gb,m.go+i,none⟩),.slice (some ⟨m.RB i,m.RO i,none⟩) (m.t.L i) (m.C i),.int .i64 j,.pointer (some ⟨m.RB i,m.RO i+j,none⟩),.int .i64 mv,.bool (ev == mv),.bool (ev == mv),.bool (ev == mv)]) (by kernel_rfl) (by kernel_rfl) (by kernel_rfl) rfl ⟨?_,?_,?_,?_,?_,?_,?_,?_,?_,?_,?_,?_,?_,?_,?_,?_,?_,?_,?_,?_,?_,?_,?_,?_,?_,?_,?_,?_,?_,?_,?_,?_,trivial⟩ ?_;rotate_right
  ·intro t W hG hE;have k0:=aA (hE 31 (by decide)) rfl;subst hG;clear hE;simp only[fill,Act.put,sX,sY,sU,k0];go_wp2;go_ret;exact⟨by rw[f0.out,h'];rfl,HB.out _ 1⟩
  all_goals intro t W hG hp K hK
  all_goals subst hG
  all_goals simp only[fill,Act.put,sX,sY,sU]at hK |-
  all_goals try simp(disch:=first | rfl | decide) only[vat hp,List.getD_cons_succ,List.getD_cons_zero]at hK |-
  all_goals (rw[if_pos (by rfl)];go_simp;exact hK _ _ rfl rfl (fun _ _ _ h=>h))
 ·have h':(kf == (i:Int))=false:=by simp[hF]
  clear hF;go_enter Tryz.func49,Tryz.ntmps49;go_wp2;refine EA (fun W=>W=(w.alloc (.cells #[.int .i64 kf,.int .i64 (kt:Int),.int .i64 (ke:Int)] 81)).drew) (oC [.pointer (some ⟨w.heap.size,0,none⟩),.int .i64 kf,.int .i64 i,.bool false,.bool false,undef,undef,undef,undef,undef,undef,undef,undef,undef,undef,undef,undef,undef,undef,undef,undef,undef,undef,undef,undef,undef,undef,undef,undef,undef,.bool false,.bool false]) (by kernel_rfl) (by kernel_rfl) (by kernel_rfl) rfl ⟨?_,?_,?_,?_,?_,?_,?_,?_,?_,?_,?_,?_,?_,?_,?_,?_,?_,?_,?_,?_,?_,?_,?_,?_,?_,?_,?_,?_,?_,?_,?_,?_,trivial⟩ ?_;rotate_right
  ·intro t W hG hE;have k0:=aA (hE 31 (by decide)) rfl;subst hG;clear hE;simp only[fill,Act.put,sX,sY,sU,k0];go_wp2;go_ret;exact⟨by rw[f0.out,h'];rfl,HB.out _ 1⟩
  all_goals intro t W hG hp K hK
  all_goals subst hG
  all_goals simp only[fill,Act.put,sX,sY,sU]at hK |-
  all_goals try simp(disch:=first | rfl | decide) only[vat hp,List.getD_cons_succ,List.getD_cons_zero]at hK |-
  all_goals first
   | (rw[if_pos (by rfl)];go_simp;exact hK _ _ rfl rfl (fun _ _ _ h=>h))
   | (rw[if_neg (by intro hh;exact absurd (show false=true from hh) (by decide))];exact hK undef _ rfl rfl (fun _ _ _ h=>h))
theorem pM (args:Array Value)(W:World):(callFunc 47 args).run Tryz.prog W=.ok (.enter 47 args) W:=by rfl
theorem yO (n:dA)(x m:Mat)(i j N bn bx bm:Nat)(w:World)(h:n.In w.heap.size w)(hx:x.In w.heap.size w)(hm:m.In w.heap.size w)(hck:n.net.check=0)(hN:n.nodes=N)(hi:i<N)(hj:j<N)(hix:n.net.Is x.t)(him:n.net.Is m.t)(hmr:m.t.Z i j=n.net.round x.t.Z i j)
 (cn:Blk w bn n.cells 27) (cx:w.cell? ⟨bx,0,none⟩=some x.val) (lx:bx<w.heap.size) (cm:w.cell? ⟨bm,0,none⟩=some m.val) (lm:bm<w.heap.size) :
 Calls Tryz.prog 47 #[.int .i64 i,.int .i64 j,.pointer (some ⟨bm,0,none⟩),.pointer (some ⟨bn,0,none⟩),.pointer (some ⟨bx,0,none⟩)] w fun e w'=>e=.returned (.int .i64 (n.net.next x.t.Z i j))/\Below w.heap.size w w':=by
 have g:=Net.good_of_check hck;have E0:2<=n.a.size:=g.law.good.lo;have F0:n.a.size<=24:=g.law.good.hi;have x0:n.net.N=N:=by show n.nodes.toNat=N;omega
 obtain⟨W2,j0⟩:∃W2,W2=(w.alloc (.cells #[.int .i64 (i:Int)] 3)).alloc (.cells #[.int .i64 (j:Int)] 3):=⟨_,rfl⟩;have f0:Below w.heap.size w W2:=by rw[j0];exact((Below.refl _ w).alloc lR _).alloc (by simp) _
 have bI:Blk W2 w.heap.size #[.int .i64 (i:Int)] 3:=by rw[j0];exact(Blk.new w _ _).alloc _
 have bJ:Blk W2 (w.heap.size+1) #[.int .i64 (j:Int)] 3:=by rw[j0];exact Blk.new' (by simp)
 have y0:=him.len;have A0:=him.wide i (by omega);obtain⟨q1,q2,q3⟩:=(hm.below f0 lR).at (r:=i) (c:=j) (by omega) (by omega);have ca:∀ {a:Nat} {v:Value},a<w.heap.size->w.cell? ⟨a,0,none⟩=some v->W2.cell? ⟨a,0,none⟩=some v:=fun {a v} hl hv=>by rw[f0.cell (p:=⟨a,0,none⟩) hl];exact hv
 have ym:=ca lm cm;rw[Mat.val,q1]at ym;have yi:=bI.cell 0;have yj:=bJ.cell 0;simp at yi yj;have bN:=cn.below f0 cn.lt;have z0:=bN.cell 0;have z1:=bN.cell 1;have z2:=bN.cell 2;have z3:=bN.cell 3;have z4:=bN.cell 4;simp[dA.cells,Mat.val]at z0 z1 z2 z3 z4;have r1:(i:Int)<(m.t.len:Int):=by omega
 have r2:(j:Int)<(m.t.L i:Int):=by omega
 have k0:Below w.heap.size w W2.drew:=below_drewN f0 1;have o0:Blk W2.drew w.heap.size #[.int .i64 (i:Int)] 3:=bI.below (below_drewN (Below.refl _ _) 1) bI.lt;have p0:Blk W2.drew (w.heap.size+1) #[.int .i64 (j:Int)] 3:=bJ.below (below_drewN (Below.refl _ _) 1) bJ.lt;have m0:Hid (i≠j->m.t.Z i j≠n.a.size-1->Calls Tryz.prog 48 #[n.val,.func (.func 49) #[] #[.pointer (some ⟨w.heap.size,0,none⟩),.pointer (some ⟨bn,0,none⟩),.pointer (some ⟨bx,0,none⟩),.pointer (some ⟨w.heap.size+1,0,none⟩),.pointer (some ⟨bm,0,none⟩)]] W2.drew fun e w'=>e=.returned (.int .i64 (n.net.next x.t.Z i j))/\Below W2.drew.heap.size W2.drew w'):=hide (fun he hv=>by
  have hl:=EN 49 #[.pointer (some ⟨w.heap.size,0,none⟩),.pointer (some ⟨bn,0,none⟩),.pointer (some ⟨bx,0,none⟩),.pointer (some ⟨w.heap.size+1,0,none⟩),.pointer (some ⟨bm,0,none⟩)] n (fun l=>n.F l == (i:Int) && n.net.a.E.get (n.E l) (x.t.Z (n.T l).toNat j) == m.t.Z i j) W2.drew (h.grown k0) hck PK (fun l W hl hb=>by
   have hB:Below w.heap.size w W:=k0.trans (hb.mono k0.size);have s0:=o0.below hb o0.lt;have u0:=p0.below hb p0.lt;exact IM n x m l i j N w.heap.size bn bx (w.heap.size+1) bm w.heap.size W hB.size (h.below hB lR) (hx.below hB lR) (hm.below hB lR) hck hN hl hi hj hix him (by have:=s0.cell 0;simpa using this) s0.lt (cn.below hB cn.lt) (by rw[hB.cell (p:=⟨bx,0,none⟩) lx];exact cx) (Nat.lt_of_lt_of_le lx hB.size) (by have:=u0.cell 0;simpa using this) u0.lt (by rw[hB.cell (p:=⟨bm,0,none⟩) lm];exact cm) (Nat.lt_of_lt_of_le lm hB.size))
  have v0:=n.net.leastT_next hck hix.state (i:=i) (j:=j) (by omega) he (by rw[<-hmr];exact hv);rw[<-hmr]at v0;have q0:BC n.T (fun l=>n.F l == (i:Int) && n.net.a.E.get (n.E l) (x.t.Z (n.T l).toNat j) == m.t.Z i j) n.ln=n.net.next x.t.Z i j:=v0;rw[q0]at hl;exact hl)
 have B0:Hid (m.t.Z i j=n.net.round x.t.Z i j):=hide hmr;have g0:=hide f0;generalize m.t.Z i j=mv at *;simp only[dA.val,dA.cells,Mat.val,hN]at m0;rw[j0]at m0 g0 yi yj ym z0 z1 z2 z3 z4 q2 q3;clear hck g x0 h hx hm hix him y0 A0 hmr q1 ca bI bJ o0 p0 bN f0 k0 j0 cx cm cn;by_cases he:i=j
 ·have h':((i:Int) == (j:Int))=true:=by simp[he]
  have d0:Hid (n.net.next x.t.Z i j = -1):=hide (n.net.next_none (Or.inl he));clear he;go_enter Tryz.func47,Tryz.ntmps47;go_wp2;refine EA (fun W=>W=((w.alloc (.cells #[.int .i64 (i:Int)] 3)).alloc (.cells #[.int .i64 (j:Int)] 3)).drew) (oC [.int .i64 i,.int .i64 j,.bool true,.bool true,undef,undef,undef,undef,undef,undef,undef,undef,undef,undef,undef,undef,.bool true]) (by kernel_rfl) (by kernel_rfl) (by kernel_rfl) rfl ⟨?_,?_,?_,?_,?_,?_,?_,?_,?_,?_,?_,?_,?_,?_,?_,?_,?_,trivial⟩ ?_;rotate_right
  ·intro t W hG hE;have h0:=aA (hE 16 (by decide)) rfl;subst hG;clear hE;simp only[fill,Act.put,sX,sY,sU,h0];clear h0;go_wp2;go_ret;exact⟨by rw[d0.out];rfl,below_drewN g0.out 1⟩
  all_goals intro t W hG hp K hK
  all_goals subst hG
  all_goals simp only[fill,Act.put,sX,sY,sU]at hK |-
  all_goals try simp(disch:=first | rfl | decide) only[vat hp,List.getD_cons_succ,List.getD_cons_zero]at hK |-
  all_goals first
   | (rw[if_pos (by rfl)];go_simp;exact hK _ _ rfl rfl (fun _ _ _ h=>h))
   | (rw[if_neg (by intro hh;exact absurd (show false=true from hh) (by decide))];exact hK undef _ rfl rfl (fun _ _ _ h=>h))
 ·have h':((i:Int) == (j:Int))=false:=by simp;omega
  go_enter Tryz.func47,Tryz.ntmps47;go_wp2;refine EA (fun W=>W=((w.alloc (.cells #[.int .i64 (i:Int)] 3)).alloc (.cells #[.int .i64 (j:Int)] 3)).drew) (oC [.int .i64 i,.int .i64 j,.bool false,.bool false,.slice (some ⟨m.gb,m.go,none⟩) m.t.len m.cap,.int .i64 i,.pointer (some ⟨m.gb,m.go+i,none⟩),.slice (some ⟨m.RB i,m.RO i,none⟩) (m.t.L i) (m.C i),.int .i64 j,.pointer (some ⟨m.RB i,m.RO i+j,none⟩),.int .i64 mv,.pointer (some ⟨bn,0,none⟩),.pointer (some ⟨bn,0,none⟩),.int .i64 n.a.size,.int .i64 (n.a.size-1),.bool (mv == n.a.size-1),.bool (mv == n.a.size-1)]) (by kernel_rfl) (by kernel_rfl) (by kernel_rfl) rfl ⟨?_,?_,?_,?_,?_,?_,?_,?_,?_,?_,?_,?_,?_,?_,?_,?_,?_,trivial⟩ ?_;rotate_right
  ·intro t W hG hE;have h0:=aA (hE 16 (by decide)) rfl;subst hG;clear hE;simp only[fill,Act.put,sX,sY,sU,h0];clear h0;by_cases hv:mv=n.a.size-1
   ·have i0:(mv == n.a.size-1)=true:=by simp[hv]
    have d0:Hid (n.net.next x.t.Z i j = -1):=hide (n.net.next_none (Or.inr (by rw[<-B0.out];exact hv)));rw[i0];clear hv i0;go_wp2;go_ret;exact⟨by rw[d0.out];rfl,below_drewN g0.out 1⟩
   ·have i0:(mv == n.a.size-1)=false:=by simp[hv]
    have HL:=hide (m0.out he hv);rw[i0];clear hv i0 m0;go_wp2_with fail;go_at_call 48;refine HL.out.mono ?_;rintro e w2 ⟨rfl,w0⟩;have C0:=hide ((below_drewN g0.out 1).trans (w0.mono (below_drewN g0.out 1).size));clear w0 HL;go_wp2;go_ret;exact⟨rfl,C0.out⟩
  all_goals intro t W hG hp K hK
  all_goals subst hG
  all_goals simp only[fill,Act.put,sX,sY,sU]at hK |-
  rotate_left 14
  ·have e3:=aA (hp 3 (by decide)) rfl;have D0:=aA (hp 13 (by decide)) rfl;have G0:IntKind.i64.wrap (n.a.size-1)=n.a.size-1:=by simp[IntKind.wrap,IntKind.bits,IntKind.signed];omega
   simp only[e3,D0]at hK |-;rw[if_pos (by rfl)];go_simp;exact hK _ _ rfl rfl (fun _ _ _ h=>h)
  all_goals try simp(disch:=first | rfl | decide) only[vat hp,List.getD_cons_succ,List.getD_cons_zero]at hK |-
  all_goals (rw[if_pos (by rfl)];go_simp;exact hK _ _ rfl rfl (fun _ _ _ h=>h))
theorem vK (n:dA)(x:Mat)(w:World)(h:n.In w.heap.size w)(hx:x.In w.heap.size w)(hf:n.net.fit x.t=0):
 Calls Tryz.prog 15 #[n.val,x.val] w fun e w'=>(∃t:Mat,e=.returned (.tuple #[t.val,.int .i64 0])/\nC n.net.N w.heap.size (n.net.next x.t.Z) t w')/\Below w.heap.size w w':=by
 obtain⟨hc,p0⟩:=Net.is_of_fit hf;have g:=Net.good_of_check hc;have lo:=g.lo;have y0:=g.hi;obtain⟨N,hN⟩:∃N:Nat,n.nodes=N:=⟨n.nodes.toNat,by have:n.net.nodes=n.nodes:=rfl;omega⟩;have k0:n.net.N=N:=by show n.nodes.toNat=N;omega
 have z0:N<=6:=by have:n.net.nodes=n.nodes:=rfl;omega
 have A0:1<=N:=by have:n.net.nodes=n.nodes:=rfl;omega
 obtain⟨W1,f0⟩:∃W1,W1=(w.alloc (.cells n.cells 27)).alloc (.cells #[x.val] 22):=⟨_,rfl⟩;have h0:Below w.heap.size w W1:=by rw[f0];exact((Below.refl _ w).alloc lR _).alloc (by simp) _
 have bn:Blk W1 w.heap.size n.cells 27:=by rw[f0];exact(Blk.new w _ _).alloc _
 have bx:Blk W1 (w.heap.size+1) #[x.val] 22:=by rw[f0];exact Blk.new' (by simp)
 have d0:n.cells=#[.int .i64 n.a.size,.slice n.a.B.ga n.a.B.t.len n.a.B.cap,.slice n.a.E.ga n.a.E.t.len n.a.E.cap,.int .i64 N,.slice n.la n.ln n.lc]:=by simp only[dA.cells,Mat.val,hN]
 have HR:=hide (zI n x W1 (h.grown h0) (hx.grown h0) hf);have B0:=hide (p0.state.round g);have HT:=hide (fun (i j:Nat) (m:Mat) (bm:Nat) (W:World) (hW:Below W1.heap.size W1 W) (hm:nC n.net.N W1.heap.size (n.net.round x.t.Z) m W) (hi:i<N) (hj:j<N) (cm:W.cell? ⟨bm,0,none⟩=some m.val) (lm:bm<W.heap.size) =>
  yO n x m i j N w.heap.size (w.heap.size+1) bm W ((h.grown h0).grown hW) ((hx.grown h0).grown hW) hm.2.1 hc hN hi hj p0 (hm.is B0.out) (by rw[hm.1]) (bn.below hW bn.lt) (by have:=(bx.below hW bx.lt).cell 0;simpa using this) (Nat.lt_of_lt_of_le bx.lt hW.size) cm lm)
 have q0:=hide h0;have s0:=hide bn;have u0:=hide k0;rw[k0]at HR;rw[d0]at f0;have g0:=hide d0;rw[f0]at HR;simp only[dA.val,d0,Mat.val]at HR f0 |-;have b0:=bn.cell 0;have b1:=bn.cell 1;have b2:=bn.cell 2;have b3:=bn.cell 3;have b4:=bn.cell 4;have x0:=bx.cell 0;simp[d0,Mat.val]at b0 b1 b2 b3 b4 x0;rw[f0]at b0 b1 b2 b3 b4 x0;clear h hx hf hc p0 g lo y0 hN k0 h0 bn bx d0;go_enter Tryz.func15,Tryz.ntmps15;go_wp2_with fail;go_at_call 11;refine HR.out.mono ?_;rintro e w1 ⟨⟨m,rfl,hm⟩,j0⟩;rw[<-f0]at j0;rw[<-f0]at hm;have i0:=j0.alloc j0.size (.cells #[m.val] 22);have bN:=s0.out.below i0 s0.out.lt;have c3:=bN.cell 3;simp[g0.out]at c3;have v0:nC n.net.N W1.heap.size (n.net.round x.t.Z) m w1:=by rw[u0.out];exact hm
 have m0:=hide (VJ 47 #[.pointer (some ⟨w1.heap.size,0,none⟩),.pointer (some ⟨w.heap.size,0,none⟩),.pointer (some ⟨w.heap.size+1,0,none⟩)] N (n.net.next x.t.Z) (w1.alloc (.cells #[m.val] 22)) A0 z0 pM (fun i j W hi hj hb=>by
  have C0:=(v0.grown ((Below.refl _ w1).alloc lR (.cells #[m.val] 22))).grown hb;have bM:=(Blk.new w1 #[m.val] 22).below hb (by simp);exact HT.out i j m w1.heap.size W (i0.trans (hb.mono i0.size)) C0 hi hj (by have:=bM.cell 0;simpa using this) bM.lt))
 have o0:=hide (q0.out.trans (i0.mono q0.out.size));clear HR j0 hm v0 i0 bN HT b0 b1 b2 b3 b4 x0 f0;simp only[Mat.val]at m0 c3;go_wp2_with fail;go_at_call 46;refine m0.out.mono ?_;rintro e w2 ⟨⟨t,rfl,ht⟩,w0⟩;have D0:=hide (o0.out.trans (w0.mono o0.out.size));have HF:Hid (nC n.net.N w.heap.size (n.net.next x.t.Z) t w2):=hide (by rw[u0.out];exact⟨ht.1,ht.2.1,ht.2.2.1.mono o0.out.size,ht.2.2.2⟩);clear ht w0 m0;go_wp2;refine bodyPost_ret (v:=.tuple #[.slice t.ga t.t.len t.cap,.int .i64 0]) (by simp[results,Tryz.results15,go_sem]) rfl ⟨⟨t,rfl,HF.out⟩,D0.out⟩
theorem pJ (n:dA)(x:Mat)(w:World)(h:n.In w.heap.size w)(hx:x.In w.heap.size w)(hf:n.net.fit x.t≠0):
 Calls Tryz.prog 15 #[n.val,x.val] w fun e w'=>e=.returned (.tuple #[.slice none 0 0,.int .i64 (n.net.fit x.t)])/\Below w.heap.size w w':=by
 obtain⟨W1,f0⟩:∃W1,W1=(w.alloc (.cells n.cells 27)).alloc (.cells #[x.val] 22):=⟨_,rfl⟩;have g0:Below w.heap.size w W1:=by rw[f0];exact((Below.refl _ w).alloc lR _).alloc (by simp) _
 have bn:Blk W1 w.heap.size n.cells 27:=by rw[f0];exact(Blk.new w _ _).alloc _
 have bx:Blk W1 (w.heap.size+1) #[x.val] 22:=by rw[f0];exact Blk.new' (by simp)
 have HR:=hide (wH n x W1 (h.grown g0) (hx.grown g0) hf);have d0:=hide g0;have b0:=bn.cell 0;have b1:=bn.cell 1;have b2:=bn.cell 2;have b3:=bn.cell 3;have b4:=bn.cell 4;have x0:=bx.cell 0;simp[dA.cells,Mat.val]at b0 b1 b2 b3 b4 x0;generalize n.net.fit x.t=ft at *;have:(ft != 0)=true:=by simp[hf]
 rw[f0]at HR d0 b0 b1 b2 b3 b4 x0;simp only[dA.val,dA.cells,Mat.val]at HR d0 b0 b1 b2 b3 b4 x0 |-;clear h hx hf g0 bn bx f0;go_enter Tryz.func15,Tryz.ntmps15;go_wp2_with fail;go_at_call 11;refine HR.out.mono ?_;rintro e w1 ⟨rfl,i0⟩;have h0:=d0.out.trans (i0.mono d0.out.size);have HB:=hide (h0.alloc h0.size (.cells #[.slice none 0 0] 22));clear HR i0 h0 d0;go_wp2;exact bodyPost_ret (v:=.tuple #[.slice none 0 0,.int .i64 ft]) (by simp[results,Tryz.results15,go_sem]) rfl ⟨rfl,HB.out⟩
def digit (many s n t i:Nat):Nat:=if t<=i/\i<many then n / s ^ (many-1-i) % s else 0
def nD (l:Int) (many s n e:Nat):Brk:=⟨l,digit many s n 0 0,digit many s n 0 1,digit many s n 0 2,e⟩
def zB (l:Int) (many s ed n e:Nat):List Brk:=((List.range n).flatMap fun k=>(List.range ed).map fun j=>nD l many s k j) ++ (List.range e).map fun j=>nD l many s n j
theorem GI (l:Int)(many s ed n e:Nat):zB l many s ed n (e+1)=zB l many s ed n e ++ [nD l many s n e]:=by
 simp[zB,List.range_succ]
theorem mH (l:Int)(many s ed n:Nat):zB l many s ed n ed=zB l many s ed (n+1) 0:=by
 simp[zB,List.range_succ,List.flatMap_append]
theorem fT (l:Int)(many s ed:Nat):zB l many s ed 0 0=[]:=by simp[zB]
theorem xP {l:Int}{many s ed n e N:Nat}(hn:n<N)(he:e<=ed):zB l many s ed n e <+: zB l many s ed N 0:=by
 have h1:zB l many s ed n e <+: zB l many s ed (n+1) 0:=by
  rw[<-mH];unfold zB;refine(List.prefix_append_right_inj _).2 ?_;have:List.range ed=List.range e ++ (List.range (ed-e)).map (e + ·):=by
   have:=@List.range_add e (ed-e);rwa [show e+(ed-e)=ed by omega]at this
  rw[this,List.map_append];exact List.prefix_append _ _
 refine h1.trans ?_;have h2:∀k,zB l many s ed k 0 <+: zB l many s ed (k+1) 0:=fun k=>by
  rw[<-mH];unfold zB;simp
 exact fG h2 hn
theorem ZH {β:Type}(m k:Nat)(f:Nat->List β):(List.range (m*k)).flatMap f=(List.range m).flatMap fun i=>(List.range k).flatMap fun j=>f (i*k+j):=by
 induction m with
 | zero=>simp
 | succ m ih =>
  rw[Nat.succ_mul,List.range_add,List.flatMap_append,ih,List.range_succ,List.flatMap_append];simp[List.flatMap_map]
theorem AC {α β:Type}{l:List α}{f g:α->List β}(h:∀x∈l,f x=g x):l.flatMap f=l.flatMap g:=by
 rw[List.flatMap_def,List.flatMap_def,List.map_congr_left h]
theorem WU (l:Int)(s ed:Nat):zB l 0 s ed 1 0=VA l 1 1 ed 1:=by
 simp[zB,VA,bD,VC,MC,nD,digit,List.range_succ]
theorem VU (l:Int)(s ed:Nat):zB l 1 s ed s 0=VA l 1 1 ed s:=by
 simp only[zB,VA,bD,VC,MC,List.range_zero,List.map_nil,List.append_nil];refine AC fun x hx=>?_;have d0:x<s:=List.mem_range.1 hx;simp[nD,digit,List.range_succ,Nat.mod_eq_of_lt d0]
theorem UU (l:Int)(s ed:Nat):zB l 2 s ed (s*s) 0=VA l s 1 ed s:=by
 simp only[zB,VA,bD,VC,MC,List.range_zero,List.map_nil,List.append_nil];rw[ZH];refine AC fun x hx=>AC fun y hy=>?_;have f0:x<s:=List.mem_range.1 hx;have d0:y<s:=List.mem_range.1 hy;have h1:(x*s+y) % s=y:=by rw[Nat.mul_add_mod_self_right];exact Nat.mod_eq_of_lt d0
 have h2:(x*s+y) / s=x:=by rw[Nat.mul_comm,Nat.mul_add_div (by omega),Nat.div_eq_of_lt d0,Nat.add_zero]
 simp[nD,digit,List.range_succ,h1,h2,Nat.mod_eq_of_lt f0]
theorem TU (l:Int)(s ed:Nat):zB l 3 s ed (s*s*s) 0=VA l s s ed s:=by
 simp only[zB,VA,bD,VC,MC,List.range_zero,List.map_nil,List.append_nil];rw[ZH,ZH];refine AC fun x hx=>AC fun y hy=>AC fun z hz=>?_;have g0:x<s:=List.mem_range.1 hx;have d0:y<s:=List.mem_range.1 hy;have f0:z<s:=List.mem_range.1 hz;have h1:((x*s+y)*s+z) % s=z:=by rw[Nat.mul_add_mod_self_right];exact Nat.mod_eq_of_lt f0
 have h2:((x*s+y)*s+z) / s=x*s+y:=by rw[Nat.mul_comm,Nat.mul_add_div (by omega),Nat.div_eq_of_lt f0,Nat.add_zero]
 have h3:(x*s+y) % s=y:=by rw[Nat.mul_add_mod_self_right];exact Nat.mod_eq_of_lt d0
 have h4:(x*s+y) / s=x:=by rw[Nat.mul_comm,Nat.mul_add_div (by omega),Nat.div_eq_of_lt d0,Nat.add_zero]
 have h5:((x*s+y)*s+z) / s ^ 2=x:=by rw[Nat.pow_two,<-Nat.div_div_eq_div_mul,h2,h4]
 simp[nD,digit,h1,h2,h3,h5,Nat.mod_eq_of_lt g0]
theorem kU {a:Alg}{l:Int}{s many ed:Nat}(hs:a.size=s)(hm:IA l=many)(he:(if mD l then a.E.len else 1)=ed):zB l many s ed (s ^ many) 0=a.casesOf l:=by
 have hE:(rD a l).toNat=ed:=by
  unfold rD;rw[<-he];cases mD l <;> simp
 unfold Alg.casesOf QD PD OD;rw[hE,hs,hm];have hc:many=0\/many=1\/many=2\/many=3:=by have:=nE l;omega
 rcases hc with rfl | rfl | rfl | rfl
 ·exact WU l s ed
 ·simpa using VU l s ed
 ·rw[show s ^ 2=s*s from Nat.pow_two s];simpa using UU l s ed
 ·rw[show s ^ 3=s*s*s by rw[Nat.pow_succ,Nat.pow_two]];simpa using TU l s ed
theorem SL (l:Int)(l0:1<=l)(l1:l<=9)(w:World):
 Calls Tryz.prog 131 #[.int .i64 l] w fun e w'=>e=.returned (.tuple #[.int .i64 (IA l),.bool (mD l)])/\w'=w:=by
 have hc:l=1\/l=2\/l=3\/l=4\/l=5\/l=6\/l=7\/l=8\/l=9:=by omega
 rcases hc with rfl | rfl | rfl | rfl | rfl | rfl | rfl | rfl | rfl
 all_goals
  go_enter Tryz.func131,Tryz.ntmps131;go_wp2;go_ret2;exact⟨rfl,rfl⟩
theorem tC {a:xA}{w:World}(h:a.In w.heap.size w)(o1 o2:Obj):a.In w.heap.size ((w.alloc o1).alloc o2):=bC h lR o1 o2 0
theorem UB {a:xA}(g:a.alg.Good){n:Nat}{W:World}(h:a.In n W)(r s:Nat)(hr:(r:Int)<a.size)(hs:(s:Int)<a.size):
 ∃q:Nat,(q:Int)<a.size/\a.alg.B.get r s=q/\(r:Int)<(a.B.t.len:Int)/\(s:Int)<(a.B.t.L r:Int) /\
  W.cell? ⟨a.B.gb,a.B.go+r,none⟩=some (.slice (some ⟨a.B.RB r,a.B.RO r,none⟩) (a.B.t.L r) (a.B.C r))/\W.cell? ⟨a.B.RB r,a.B.RO r+s,none⟩=some (.int .i64 q):=by
 have:(a.B.t.len:Int)=a.size:=g.bl;have f0:r<a.B.t.len:=by omega
 have:(a.B.t.L r:Int)=a.size:=g.bw r f0;have h0:s<a.B.t.L r:=by omega
 have hz:0<=a.B.t.Z r s/\a.B.t.Z r s<a.size:=g.bz r f0 s h0;obtain⟨q,hq⟩:=Int.eq_ofNat_of_zero_le hz.1;have g0:=h.B.row r f0;rw[(h.B.addr r f0 (by omega)).1]at g0;have d0:=h.B.cell r f0 s h0;rw[hq]at d0;exact⟨q,by omega,by show a.B.t.Z r s=q;omega,by omega,by omega,g0,d0⟩
theorem edge_at {a:xA}(g:a.alg.Good){n:Nat}{W:World}(h:a.In n W)(r s:Nat)(hr:(r:Int)<a.E.t.len)(hs:(s:Int)<a.size):
 ∃q:Nat,(q:Int)<a.size/\a.alg.E.get r s=q/\(s:Int)<(a.E.t.L r:Int) /\
  W.cell? ⟨a.E.gb,a.E.go+r,none⟩=some (.slice (some ⟨a.E.RB r,a.E.RO r,none⟩) (a.E.t.L r) (a.E.C r))/\W.cell? ⟨a.E.RB r,a.E.RO r+s,none⟩=some (.int .i64 q):=by
 have f0:r<a.E.t.len:=by omega
 have:(a.E.t.L r:Int)=a.size:=g.ew r f0;have h0:s<a.E.t.L r:=by omega
 have hz:0<=a.E.t.Z r s/\a.E.t.Z r s<a.size:=g.ez r f0 s h0;obtain⟨q,hq⟩:=Int.eq_ofNat_of_zero_le hz.1;have g0:=h.E.row r f0;rw[(h.E.addr r f0 (by omega)).1]at g0;have d0:=h.E.cell r f0 s h0;rw[hq]at d0;exact⟨q,by omega,by show a.E.t.Z r s=q;omega,by omega,g0,d0⟩
end Go.Proofs.YtjhkadffaephmacGreat
