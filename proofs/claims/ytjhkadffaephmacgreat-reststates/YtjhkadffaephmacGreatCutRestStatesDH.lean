import Derived.Test.YtjhkadffaephmacGreatCutRestStatesCE
namespace Go.Proofs.YtjhkadffaephmacGreat
set_option maxHeartbeats 16000000
set_option maxRecDepth 100000
open Go.RowKit
def kC.noneTo (x:kC) (s:Int) (i:Nat):Bool:=(List.range i).any fun r=>!(x.r r).sound s
def BB.noneIn (r:BB) (s:Int) (k:Nat):Bool:=!jB r.rl r.R s || (List.range k).any fun q=>!jB (r.T.t.L q) (r.T.t.Z q) s
theorem BB.noneIn_succ (r:BB)(s:Int)(k:Nat):r.noneIn s (k+1)=(r.noneIn s k || !jB (r.T.t.L k) (r.T.t.Z k) s):=by
 unfold BB.noneIn;rw[List.range_succ,List.any_append,Bool.or_assoc];simp
theorem BB.sound_none (r:BB)(s:Int):r.sound s = !r.noneIn s r.T.t.len:=by
 unfold BB.sound BB.noneIn;rw[Bool.not_or,Bool.not_not,List.not_any_eq_all_not];simp
theorem kC.noneTo_succ (x:kC)(s:Int)(i:Nat):x.noneTo s (i+1)=(x.noneTo s i || (x.r i).noneIn s (x.r i).T.t.len):=by
 unfold kC.noneTo;rw[List.range_succ,List.any_append,List.any_cons,List.any_nil,Bool.or_false,BB.sound_none,Bool.not_not]
theorem Net.row_five (n:Net)(l:Nat)(f:Nat->Int)(h:(l:Int)=n.nodes):(n.row l f == 5) = !jB l f n.a.size:=by
 unfold Net.row;rw[if_neg (by omega)];show (((if jB l f n.a.size=false then (5:Int) else 0)) == 5)=_;cases jB l f n.a.size <;> simp
theorem BB.shaped_of (r:BB){N:Nat}(h1:r.rl=N)(h2:r.T.t.len=N)(h3:∀q,q<N->r.T.t.L q=0\/r.T.t.L q=N):r.shaped (N:Int)=true:=by
 unfold BB.shaped;simp only[Bool.and_eq_true,beq_iff_eq,List.all_eq_true,List.mem_range];refine⟨⟨by rw[h1],by rw[h2]⟩,fun q hq=>?_⟩;rcases h3 q (by omega) with e | e <;> simp[e]
theorem BB.not_shaped (r:BB){N:Nat}(h:r.rl≠N\/r.T.t.len≠N\/∃q,q<r.T.t.len/\r.T.t.L q≠0/\r.T.t.L q≠N):r.shaped (N:Int)=false:=by
 cases hs:r.shaped (N:Int) with
 | false=>rfl
 | true =>
  unfold BB.shaped at hs;simp only[Bool.and_eq_true,beq_iff_eq,List.all_eq_true,List.mem_range]at hs;obtain⟨⟨h1,h2⟩,h3⟩:=hs;rcases h with h | h | ⟨q,hq,h4,h5⟩
  ·exact absurd (by omega) h
  ·exact absurd (by omega) h
  ·have:=h3 q hq;simp at this;omega
section
variable {x:iA} {n:Net} {N:Nat}
theorem iA.err_one (hc:n.check=0)(h:(x.rs.gn:Int)≠n.nodes\/∃i,i<x.rs.gn/\(x.rs.r i).shaped n.nodes=false):x.err n=1:=by
 have h1:x.rs.err n=1:=by
  unfold kC.err;rw[if_pos];rcases h with h | ⟨i,hi,h⟩
  ·exact Or.inl h
  ·refine Or.inr ?_;rw[List.any_eq_true];exact⟨i,by simpa using hi,by rw[h];rfl⟩
 unfold iA.err;rw[if_neg (by omega),h1,if_pos (by decide)]
theorem iA.err_bag (hc:n.check=0)(hg:(x.rs.gn:Int)=n.nodes)(hs:∀i,i<x.rs.gn->(x.rs.r i).shaped n.nodes=true):x.err n=if x.rs.noneTo n.a.size x.rs.gn=true then 5 else x.bag.err n:=by
 have h1:((List.range x.rs.gn).any fun i=>!(x.rs.r i).shaped n.nodes)=false:=by
  rw[List.any_eq_false];intro i hi;rw[hs i (by simpa using hi)];decide
 have h2:¬ ((x.rs.gn:Int)≠n.nodes\/((List.range x.rs.gn).any fun i=>!(x.rs.r i).shaped n.nodes)=true):=by
  rintro(h2 | h2)
  ·exact h2 hg
  ·rw[h1]at h2;cases h2
 have h3:¬ n.check≠0:=by omega
 unfold iA.err kC.err;rw[if_neg h3,if_neg h2];show (if (if x.rs.noneTo n.a.size x.rs.gn=true then (5:Int) else 0)≠0 then (if x.rs.noneTo n.a.size x.rs.gn=true then (5:Int) else 0) else x.bag.err n)=_;split <;> simp
end
structure ChG (w:World) (n:dA) (x:iA) (W:World):Prop where
 below:Below w.heap.size w W
 bn:Blk W w.heap.size n.cells 27
 bx:Blk W (w.heap.size+1) x.cells 31
theorem ChG.keep {w:World}{n:dA}{x:iA}{W W':World}(h:ChG w n x W)(hb:Below W.heap.size W W'):ChG w n x W':=⟨h.below.trans (hb.mono h.below.size),h.bn.below hb h.bn.lt,h.bx.below hb h.bx.lt⟩
theorem yQ (n:dA)(x:iA)(w:World)(h:n.In w.heap.size w)(hc:n.net.check≠0):
 Calls Tryz.prog 9 #[n.val,x.val] w fun e w'=>e=.returned (.int .i64 (x.err n.net))/\Below w.heap.size w w':=by
 obtain⟨W0,f0⟩:∃W0,W0=(w.alloc (.cells n.cells 27)).alloc (.cells x.cells 31):=⟨_,rfl⟩;have g0:Below w.heap.size w W0:=by rw[f0];exact((Below.refl _ w).alloc lR _).alloc (by simp) _
 have HC:=hide (gH n W0 (h.grown g0));have h0:=hide g0;have d0:Hid (x.err n.net=n.net.check):=hide (by unfold iA.err;rw[if_pos hc]);rw[f0]at HC;have i0:=hide f0;simp only[dA.val,dA.cells,Mat.val,iA.val,iA.cells]at HC i0 |-;have:(n.net.check == 0)=false:=by simpa using hc
 clear h g0 f0;go_enter Tryz.func9,Tryz.ntmps9;go_wp2_with fail;go_at_call 30;refine HC.out.mono ?_;rw[<-i0.out];rintro r W1 ⟨rfl,j0⟩;have HF:=hide (And.intro d0.out (h0.out.trans (j0.mono h0.out.size)));generalize n.net.check=er at *;clear j0 HC d0;go_wp2;go_ret;exact⟨by rw[HF.out.1];rfl,HF.out.2⟩
theorem xQ (n:dA)(x:iA)(N:Nat)(w:World)(h:n.In w.heap.size w)(hx:x.In w.heap.size w)(hc:n.net.check=0)(hN:n.nodes=N):
 Calls Tryz.prog 9 #[n.val,x.val] w fun e w'=>e=.returned (.int .i64 (x.err n.net))/\Below w.heap.size w w':=by
 obtain⟨T2,o3,i3,U2⟩:=SA hc hN;have X2:2<=n.a.size:=(Net.good_of_check hc).law.good.lo;have M1:n.a.size<=24:=(Net.good_of_check hc).law.good.hi;obtain⟨W0,j1⟩:∃W0,W0=(w.alloc (.cells n.cells 27)).alloc (.cells x.cells 31):=⟨_,rfl⟩;have N1:Below w.heap.size w W0:=by rw[j1];exact((Below.refl _ w).alloc lR _).alloc (by simp) _
 have y2:Hid (ChG w n x W0):=hide ⟨N1,by rw[j1];exact(Blk.new w _ _).alloc _,by rw[j1];exact Blk.new' (by simp)⟩;have HC:=hide (gH n W0 (h.grown N1));rw[hc]at HC;have O1:=hide (fun a l c b o f (W:World) hi hb=>WH n a l c b o f W hi hb X2 M1);have o1:=hide (fun (i:Int) (W:World)=>aC n i W (by omega) (by omega));have y1:n.cells=#[.int .i64 n.a.size,.slice n.a.B.ga n.a.B.t.len n.a.B.cap,.slice n.a.E.ga n.a.E.t.len n.a.E.cap,.int .i64 N,.slice n.la n.ln n.lc]:=by simp only[dA.cells,Mat.val,hN]
 have z1:x.cells=#[.slice x.rs.ga x.rs.gn x.rs.gc,.slice x.bag.ba x.bag.bn x.bag.bc]:=rfl;have Y2:=hx.rs.len;have Z2:=hx.bag.len;unfold maxLen at Y2 Z2;rw[y1,z1]at j1;simp only[dA.val,iA.val,y1,z1,hN]at HC O1 o1 |-;rw[j1]at HC;have z2:=hide j1;have Hx:=hide hx;have Hc:=hide hc;have Y0:=hide U2;have o0:=hide y1;have O0:=hide z1;clear h hx hc hN i3 U2 N1 j1 y1 z1;go_enter Tryz.func9,Tryz.ntmps9;go_wp2_with fail;go_at_call 30;refine HC.out.mono ?_;rw[<-z2.out];rintro r W1 ⟨rfl,V2⟩;have M0:=hide (y2.out.keep V2);clear V2 HC y2 z2;have n0:=M0.out.bn.cell 0;have n1:=M0.out.bn.cell 1;have n2:=M0.out.bn.cell 2;have n3:=M0.out.bn.cell 3;have n4:=M0.out.bn.cell 4;rw[o0.out]at n0 n1 n2 n3 n4;simp at n0 n1 n2 n3 n4;have x0:=M0.out.bx.cell 0;have x1:=M0.out.bx.cell 1;rw[O0.out]at x0 x1;simp at x0 x1;by_cases v2:x.rs.gn=N;rotate_left
 ·have A1:((x.rs.gn:Int) == (N:Int))=false:=by simp;omega
  have Hf:Hid (x.err n.net=1):=hide (iA.err_one Hc.out (Or.inl (by rw[Y0.out];omega)));have HB:=hide M0.out.below;clear v2;go_wp2;go_ret;exact⟨by rw[Hf.out];rfl,HB.out⟩
 have q1:=hide v2;rw[v2]at x0;have P1:Hid (x.rs.ga=some ⟨x.rs.gb,x.rs.go,none⟩):=hide (Hx.out.rs.ga (by omega));rw[P1.out]at x0;go_wp2_with fail;clear n0 n1 n2 n3 n4 x0 x1
 go_loopw [6,7,8,9] (fun b q _ _ wr=>∃i:Nat,i<=N/\q=.int .i64 i/\b=.bool (x.rs.noneTo n.a.size i)/\Hid (∀r,r<i->(x.rs.r r).shaped (N:Int)=true)/\Hid (ChG w n x wr)) (fun _ q _ _ _=>N-(intOf q).toNat)
 case atStart=>exact⟨0,zL,rfl,rfl,hide (fun r hr=>absurd hr nZ),M0⟩
 case round =>
  obtain⟨i,hi,hq,hb,m2,i0⟩:=hrel;subst hq;subst hb;clear M0;have n0:=i0.out.bn.cell 0;have n1:=i0.out.bn.cell 1;have n2:=i0.out.bn.cell 2;have n3:=i0.out.bn.cell 3;have n4:=i0.out.bn.cell 4;rw[o0.out]at n0 n1 n2 n3 n4;simp at n0 n1 n2 n3 n4;have x0:=i0.out.bx.cell 0;have x1:=i0.out.bx.cell 1;rw[O0.out]at x0 x1;simp at x0 x1;rw[q1.out,P1.out]at x0;by_cases w2:i<N
  ·have Q1:(i:Int)<(N:Int):=by omega
   have s1:i<x.rs.gn:=by rw[q1.out];exact w2
   have B1:=Hx.out.below i0.out.below lR;have t1:=B1.rs.r i s1;have c0:=B1.rs.c0 i s1;have c1:=B1.rs.c1 i s1;obtain⟨rr,o2⟩:∃rr,rr=x.rs.r i:=⟨_,rfl⟩;have R1:=t1.T.len;have S1:=t1.ints.len;unfold maxLen at R1 S1;rw[<-o2]at c0 c1 R1 S1 t1;have T1:=hide o2;have a3:=hide t1;obtain⟨nb,p2⟩:∃nb,nb=x.rs.noneTo n.a.size i:=⟨_,rfl⟩;rw[<-p2];have A2:=hide p2;have b3:=hide s1;clear s1 B1 t1 o2 p2;have A0:Hid ((rr.rl≠N\/rr.T.t.len≠N\/∃q,q<rr.T.t.len/\rr.T.t.L q≠0/\rr.T.t.L q≠N)->x.err n.net=1):=hide (fun hh=>iA.err_one Hc.out (Or.inr ⟨i,b3.out,by rw[Y0.out,<-T1.out];exact rr.not_shaped hh⟩));have B2:∀o,(wr.alloc o).cell? ⟨w.heap.size,0,none⟩=some (.int .i64 n.a.size):=fun o=>by have:=(i0.out.bn.alloc o).cell 0;rw[o0.out]at this;simpa using this
   have C2:∀o,(wr.alloc o).cell? ⟨w.heap.size,1,none⟩=some (.slice n.a.B.ga n.a.B.t.len n.a.B.cap):=fun o=>by have:=(i0.out.bn.alloc o).cell 1;rw[o0.out]at this;simpa using this
   have D2:∀o,(wr.alloc o).cell? ⟨w.heap.size,2,none⟩=some (.slice n.a.E.ga n.a.E.t.len n.a.E.cap):=fun o=>by have:=(i0.out.bn.alloc o).cell 2;rw[o0.out]at this;simpa using this
   have E2:∀o,(wr.alloc o).cell? ⟨w.heap.size,3,none⟩=some (.int .i64 (N:Int)):=fun o=>by have:=(i0.out.bn.alloc o).cell 3;rw[o0.out]at this;simpa using this
   have F2:∀o,(wr.alloc o).cell? ⟨w.heap.size,4,none⟩=some (.slice n.la n.ln n.lc):=fun o=>by have:=(i0.out.bn.alloc o).cell 4;rw[o0.out]at this;simpa using this
   by_cases h1:rr.T.t.len=N;rotate_left
   ·have A1:((rr.T.t.len:Int) == (N:Int))=false:=by simp;omega
    have Hf:=hide (A0.out (Or.inr (Or.inl h1)));have HB:=hide (i0.out.below);have U1:Hid (∀o,Below w.heap.size w (wr.alloc o)):=hide (fun o=>HB.out.alloc HB.out.size o);clear h1 A0;go_wp2;go_ret;exact⟨by rw[Hf.out];rfl,U1.out _⟩
   by_cases h2:rr.rl=N;rotate_left
   ·have A1:((rr.rl:Int) == (N:Int))=false:=by simp;omega
    have Hf:=hide (A0.out (Or.inl h2));have U1:Hid (∀o,Below w.heap.size w (wr.alloc o)):=hide (fun o=>i0.out.below.alloc i0.out.below.size o);rw[h1]at c1;clear h1 h2 A0;go_wp2;go_ret;exact⟨by rw[Hf.out];rfl,U1.out _⟩
   rw[h1]at c1;rw[h2]at c0;have H1:=hide h1;have H2:=hide h2;obtain⟨W3,I1⟩:∃W3,W3=wr.alloc (.cells #[.slice rr.ra N rr.rc,.slice rr.T.ga N rr.T.cap] 57):=⟨_,rfl⟩;have V1:Below wr.heap.size wr W3:=by rw[I1];exact(Below.refl _ wr).alloc lR _
   have C1:=hide (i0.out.keep V1);obtain⟨q8,q2⟩:∃q8,q8=wr.heap.size:=⟨_,rfl⟩;have G2:Hid (Blk W3 q8 #[.slice rr.ra N rr.rc,.slice rr.T.ga N rr.T.cap] 57):=hide (by rw[I1];exact Blk.new' q2);have j3:Hid (∃W4,Below W3.heap.size W3 W4/\ChG w n x W4):=hide ⟨W3,Below.refl _ _,C1.out⟩;have B0:=hide (a3.out.below V1 i0.out.below.size);have D1:=hide (O1.out rr.ra N rr.rc rr.rb rr.ro rr.R W3 (by have:=B0.out.ints;rwa [H2.out]at this) (fun h0=>Nat.lt_of_lt_of_le (B0.out.lt (by rw[H2.out];exact h0)) C1.out.below.size));have C0:Hid ((n.net.row N rr.R == 5) = !jB N rr.R n.a.size):=hide (n.net.row_five N rr.R Y0.out.symm);have X1:=hide I1;have I2:=hide q2;clear h1 h2 V1 I1 q2 R1 S1;rw[X1.out]at D1;cases nb
   case' true =>
    have Y1:Hid (true=(x.rs.noneTo n.a.size i || rr.noneIn n.a.size 0)):=hide (by rw[<-A2.out];rfl);go_wp2_with fail;rw[<-X1.out,<-I2.out];have f1:Hid (Below W3.heap.size W3 W3):=hide (Below.refl _ _);clear B2 C2 D2 E2 F2 c0 c1 x0 x1 n0 n1 n2 n3 n4 D1 C0 i0
   case' false =>
    go_wp2_with fail;go_at_call 32;refine D1.out.mono ?_;rw[<-X1.out,<-I2.out];rintro r W4 ⟨rfl,W2⟩;have Y1:Hid ((n.net.row N rr.R == 5)=(x.rs.noneTo n.a.size i || rr.noneIn n.a.size 0)):=hide (by rw[<-A2.out,C0.out];unfold BB.noneIn;rw[H2.out];simp);have f1:=hide W2;clear B2 C2 D2 E2 F2 c0 c1 x0 x1 n0 n1 n2 n3 n4 D1 C0 i0 W2;generalize n.net.row N rr.R=rw0 at *;go_wp2_with fail
   all_goals
    go_loopw [6,9] (fun b q wr=>∃k:Nat,k<=N/\q=.int .i64 k/\b=.bool (x.rs.noneTo n.a.size i || rr.noneIn n.a.size k)/\Hid (∀q,q<k->rr.T.t.L q=0\/rr.T.t.L q=N)/\Hid (Below W3.heap.size W3 wr)) (fun _ q _=>N-(intOf q).toNat)
    case atStart=>exact⟨0,zL,rfl,by rw[<-Y1.out],hide (fun q hq=>absurd hq nZ),f1⟩
    case round =>
     clear Y1 f1;obtain⟨k,hk,hq,hb,HL,N0⟩:=hrel;subst hq;subst hb;have d0:=hide (C1.out.keep N0.out);have n0:=d0.out.bn.cell 0;have n1:=d0.out.bn.cell 1;have n2:=d0.out.bn.cell 2;have n3:=d0.out.bn.cell 3;have n4:=d0.out.bn.cell 4;rw[o0.out]at n0 n1 n2 n3 n4;simp at n0 n1 n2 n3 n4;by_cases L0:k<N
     ·have p1:(k:Int)<(N:Int):=by omega
      have Z1:Hid (∀W,Below wr.heap.size wr W->rr.In w.heap.size W):=hide (fun W hb=>B0.out.below (N0.out.trans (hb.mono N0.out.size)) C1.out.below.size);have D0:Hid (rr.T.ga=some ⟨rr.T.gb,rr.T.go,none⟩):=hide (B0.out.T.ga (by rw[H1.out];exact T2));have q0:Hid (Blk wr q8 #[.slice rr.ra N rr.rc,.slice (some ⟨rr.T.gb,rr.T.go,none⟩) N rr.T.cap] 57):=hide (by have:=G2.out.below N0.out G2.out.lt;rwa [D0.out]at this);obtain⟨lk,J1⟩:∃lk,lk=rr.T.t.L k:=⟨_,rfl⟩;have E0:=hide J1;have j0:Hid (∀W,Below wr.heap.size wr W->W.cell? ⟨rr.T.gb,rr.T.go+k,none⟩=some (.slice (rr.T.A k) lk (rr.T.C k))):=hide (fun W hb=>by rw[E0.out];exact(Z1.out W hb).T.row k (by rw[H1.out];exact L0));have J2:=B0.out.T.lens k (by rw[H1.out];exact L0);unfold maxLen at J2;rw[<-J1]at J2;obtain⟨fb,r2⟩:∃fb,fb=(x.rs.noneTo n.a.size i || rr.noneIn n.a.size k):=⟨_,rfl⟩;have k0:Hid ((x.rs.noneTo n.a.size i || rr.noneIn n.a.size (k+1))=(fb || !jB lk (rr.T.t.Z k) n.a.size)):=hide (by rw[BB.noneIn_succ,<-Bool.or_assoc,<-r2,J1]);rw[<-r2];clear r2 J1;by_cases K1:lk=0
      ·subst K1;have P0:Hid (∀q,q<k+1->rr.T.t.L q=0\/rr.T.t.L q=N):=hide (fun q hq=>by
        by_cases e:q=k
        ·rw[e];exact Or.inl E0.out.symm
        ·exact HL.out q (by omega))
       have Hz:Hid ((x.rs.noneTo n.a.size i || rr.noneIn n.a.size (k+1))=fb):=hide (by rw[k0.out];simp[jB]);clear E0 HL k0;go_wp2_with fail;clear n0 n1 n2 n3 n4;refine EA (fun W=>Below wr.heap.size wr W) (oC [.pointer (some ⟨q8,1,none⟩),.slice (some ⟨rr.T.gb,rr.T.go,none⟩) N rr.T.cap,.int .i64 (k:Int),.pointer (some ⟨rr.T.gb,rr.T.go+k,none⟩),.slice (rr.T.A k) 0 (rr.T.C k),.int .i64 0,.bool false,.bool false,undef,undef,undef,undef,undef,undef,undef,undef,undef,.bool false]) (by kernel_rfl) (by kernel_rfl) (by kernel_rfl) (⟨rfl,rfl,rfl,lR,fun _ _=>rfl⟩) ⟨?_,?_,?_,?_,?_,?_,?_,?_,?_,?_,?_,?_,?_,?_,?_,?_,?_,?_,trivial⟩ ?_;rotate_right
       ·intro t W hG hE;have s0:=aA (hE 17 (by decide)) rfl;have f0:=hide hG;clear hE hG;simp only[fill,Act.put,sX,sY,sU,s0];clear s0;obtain⟨g0,K0⟩:∃g0,g0=W:=⟨_,rfl⟩;rw[<-K0]at f0 |-;clear K0;have m0:=hide (N0.out.trans (f0.out.mono N0.out.size));have u1:=hide (d0.out.keep f0.out);have v0:=hide (q0.out.below f0.out q0.out.lt);have w0:=hide (fun W (hb:Below g0.heap.size g0 W)=>j0.out W (f0.out.trans (hb.mono f0.out.size)));clear f0;go_wp2_with fail;clear N0 d0 q0 j0;cases fb with
        | true =>
         have Hn:Hid ((x.rs.noneTo n.a.size i || rr.noneIn n.a.size (k+1))=true):=hide (by rw[Hz.out]);refine KA 20 _ (fun W=>Below g0.heap.size g0 W) (oC [.bool true,.bool true,undef,undef,undef,undef,undef,undef,undef,undef,undef,undef,undef,undef,undef,undef,undef,undef,undef,.bool true]) (fun v W=>v=.bool true/\Below g0.heap.size g0 W) (fun _ _ _=>True) (by kernel_rfl) (by kernel_rfl) (by kernel_rfl) (by kernel_rfl) (by kernel_rfl) rfl (show Below g0.heap.size g0 g0.drew from ⟨rfl,rfl,rfl,lR,fun _ _=>rfl⟩) ⟨?_,?_,?_,?_,?_,?_,?_,?_,?_,?_,?_,?_,?_,?_,?_,?_,?_,?_,?_,?_,trivial⟩ ?_ trivial ?_;rotate_right
         ·intro t W hG _;have F0:=hG.1;have f0:=hide hG.2;clear hG;simp only[fill,Act.put,sX,sY,sU,F0];clear F0;have G0:=hide (m0.out.trans (f0.out.mono m0.out.size));clear f0;go_wp2;go_roundw
          case rel =>
           first
           | exact⟨k+1,by omega,by go_num,by rw[Hn.out],P0,G0⟩
           | ((try rw[<-D0.out]);(repeat apply Exists.intro);refine⟨?_,rfl⟩;exact⟨k+1,by omega,by go_num,by rw[Hn.out],P0,G0⟩)
          case measure=>simp[intOf];omega
         rotate_right
         ·intro t W hG hE _ K hK;have u0:=aA (hE 19 (by omega)) rfl;simp only[fill,Act.put,sX,sY,sU,u0]at hK |-;rw[if_pos (by rfl)];go_simp;exact hK _ _ ⟨rfl,hG⟩
         all_goals intro t W hG hp ht K hK
         all_goals have H0:t 20=.bool true:=ht 20 (by decide)
         all_goals clear ht
         all_goals simp only[fill,Act.put,sX,sY,sU,H0]at hK |-
         all_goals clear H0
         ·rw[if_pos (by rfl)];go_simp;exact hK _ _ hG rfl (fun _ _ _ h=>h)
         ·have e0:=aA (hp 0 (by decide)) rfl;simp only[e0]at hK |-;rw[if_pos (by rfl)];go_simp;exact hK _ _ hG rfl (fun _ _ _ h=>h)
         ·have e1:=aA (hp 1 (by decide)) rfl;simp only[e1]at hK |-;rw[if_neg (by intro hh;exact absurd (show false=true from hh) (by decide))];exact hK undef _ hG rfl (fun _ _ _ h=>h)
         ·have e1:=aA (hp 1 (by decide)) rfl;simp only[e1]at hK |-;rw[if_neg (by intro hh;exact absurd (show false=true from hh) (by decide))];exact hK undef _ hG rfl (fun _ _ _ h=>h)
         ·have e1:=aA (hp 1 (by decide)) rfl;simp only[e1]at hK |-;rw[if_neg (by intro hh;exact absurd (show false=true from hh) (by decide))];exact hK undef _ hG rfl (fun _ _ _ h=>h)
         ·have e1:=aA (hp 1 (by decide)) rfl;simp only[e1]at hK |-;rw[if_neg (by intro hh;exact absurd (show false=true from hh) (by decide))];exact hK undef _ hG rfl (fun _ _ _ h=>h)
         ·have e1:=aA (hp 1 (by decide)) rfl;simp only[e1]at hK |-;rw[if_neg (by intro hh;exact absurd (show false=true from hh) (by decide))];exact hK undef _ hG rfl (fun _ _ _ h=>h)
         ·have e1:=aA (hp 1 (by decide)) rfl;simp only[e1]at hK |-;rw[if_neg (by intro hh;exact absurd (show false=true from hh) (by decide))];exact hK undef _ hG rfl (fun _ _ _ h=>h)
         ·have e1:=aA (hp 1 (by decide)) rfl;simp only[e1]at hK |-;rw[if_neg (by intro hh;exact absurd (show false=true from hh) (by decide))];exact hK undef _ hG rfl (fun _ _ _ h=>h)
         ·have e1:=aA (hp 1 (by decide)) rfl;simp only[e1]at hK |-;rw[if_neg (by intro hh;exact absurd (show false=true from hh) (by decide))];exact hK undef _ hG rfl (fun _ _ _ h=>h)
         ·have e9:=aA (hp 9 (by decide)) rfl;simp only[e9]at hK |-;rw[if_neg (by intro hh;exact absurd (show false=true from hh) (by decide))];exact hK undef _ hG rfl (fun _ _ _ h=>h)
         ·have e9:=aA (hp 9 (by decide)) rfl;simp only[e9]at hK |-;rw[if_neg (by intro hh;exact absurd (show false=true from hh) (by decide))];exact hK undef _ hG rfl (fun _ _ _ h=>h)
         ·have e9:=aA (hp 9 (by decide)) rfl;simp only[e9]at hK |-;rw[if_neg (by intro hh;exact absurd (show false=true from hh) (by decide))];exact hK undef _ hG rfl (fun _ _ _ h=>h)
         ·have e9:=aA (hp 9 (by decide)) rfl;simp only[e9]at hK |-;rw[if_neg (by intro hh;exact absurd (show false=true from hh) (by decide))];exact hK undef _ hG rfl (fun _ _ _ h=>h)
         ·have e9:=aA (hp 9 (by decide)) rfl;simp only[e9]at hK |-;rw[if_neg (by intro hh;exact absurd (show false=true from hh) (by decide))];exact hK undef _ hG rfl (fun _ _ _ h=>h)
         ·have e9:=aA (hp 9 (by decide)) rfl;simp only[e9]at hK |-;rw[if_neg (by intro hh;exact absurd (show false=true from hh) (by decide))];exact hK undef _ hG rfl (fun _ _ _ h=>h)
         ·have e9:=aA (hp 9 (by decide)) rfl;simp only[e9]at hK |-;rw[if_neg (by intro hh;exact absurd (show false=true from hh) (by decide))];exact hK undef _ hG rfl (fun _ _ _ h=>h)
         ·have e9:=aA (hp 9 (by decide)) rfl;simp only[e9]at hK |-;rw[if_neg (by intro hh;exact absurd (show false=true from hh) (by decide))];exact hK undef _ hG rfl (fun _ _ _ h=>h)
         ·have e1:=aA (hp 1 (by decide)) rfl;simp only[e1]at hK |-;rw[if_neg (by intro hh;exact absurd (show false=true from hh) (by decide))];exact hK undef _ hG rfl (fun _ _ _ h=>h)
         ·have e1:=aA (hp 1 (by decide)) rfl;have z0:=aA (hp 18 (by decide)) rfl;simp only[e1,z0]at hK |-;rw[if_pos (by rfl)];go_simp;exact hK _ _ hG rfl (fun _ _ _ h=>h)
        | false =>
         have Hn:Hid ((x.rs.noneTo n.a.size i || rr.noneIn n.a.size (k+1))=false):=hide (by rw[Hz.out]);refine KA 20 _ (fun W=>Below g0.heap.size g0 W) (oC [.bool false,.bool false,.pointer (some ⟨q8,1,none⟩),.slice (some ⟨rr.T.gb,rr.T.go,none⟩) N rr.T.cap,.int .i64 (k:Int),.pointer (some ⟨rr.T.gb,rr.T.go+k,none⟩),.slice (rr.T.A k) 0 (rr.T.C k),.int .i64 0,.bool false,.bool false,undef,undef,undef,undef,undef,undef,undef,undef,.bool false,.bool false]) (fun v W=>v=.bool false/\Below g0.heap.size g0 W) (fun _ _ _=>True) (by kernel_rfl) (by kernel_rfl) (by kernel_rfl) (by kernel_rfl) (by kernel_rfl) rfl (show Below g0.heap.size g0 g0.drew from ⟨rfl,rfl,rfl,lR,fun _ _=>rfl⟩) ⟨?_,?_,?_,?_,?_,?_,?_,?_,?_,?_,?_,?_,?_,?_,?_,?_,?_,?_,?_,?_,trivial⟩ ?_ trivial ?_;rotate_right
         ·intro t W hG _;have F0:=hG.1;have f0:=hide hG.2;clear hG;simp only[fill,Act.put,sX,sY,sU,F0];clear F0;have G0:=hide (m0.out.trans (f0.out.mono m0.out.size));clear f0;go_wp2;go_roundw
          case rel =>
           first
           | exact⟨k+1,by omega,by go_num,by rw[Hn.out],P0,G0⟩
           | ((try rw[<-D0.out]);(repeat apply Exists.intro);refine⟨?_,rfl⟩;exact⟨k+1,by omega,by go_num,by rw[Hn.out],P0,G0⟩)
          case measure=>simp[intOf];omega
         rotate_right
         ·intro t W hG hE _ K hK;have u0:=aA (hE 19 (by omega)) rfl;simp only[fill,Act.put,sX,sY,sU,u0]at hK |-;rw[if_pos (by rfl)];go_simp;exact hK _ _ ⟨rfl,hG⟩
         all_goals intro t W hG hp ht K hK
         all_goals have H0:t 20=.bool false:=ht 20 (by decide)
         all_goals clear ht
         all_goals simp only[fill,Act.put,sX,sY,sU,H0]at hK |-
         all_goals clear H0
         ·rw[if_pos (by rfl)];go_simp;exact hK _ _ hG rfl (fun _ _ _ h=>h)
         ·have e0:=aA (hp 0 (by decide)) rfl;simp only[e0]at hK |-;rw[if_pos (by rfl)];go_simp;exact hK _ _ hG rfl (fun _ _ _ h=>h)
         ·have e1:=aA (hp 1 (by decide)) rfl;simp only[e1]at hK |-;rw[if_pos (by rfl)];go_simp;exact hK _ _ hG rfl (fun _ _ _ h=>h)
         ·have e1:=aA (hp 1 (by decide)) rfl;have e2:=aA (hp 2 (by decide)) rfl;have cx:=(v0.out.below hG v0.out.lt).cell 1;simp at cx;simp only[e1,e2]at hK |-;rw[if_pos (by rfl)];go_simp;exact hK _ _ hG rfl (fun _ _ _ h=>h)
         ·have e1:=aA (hp 1 (by decide)) rfl;simp only[e1]at hK |-;rw[if_pos (by rfl)];go_simp;exact hK _ _ hG rfl (fun _ _ _ h=>h)
         ·have e1:=aA (hp 1 (by decide)) rfl;have e3:=aA (hp 3 (by decide)) rfl;have e4:=aA (hp 4 (by decide)) rfl;simp only[e1,e3,e4]at hK |-;rw[if_pos (by rfl)];go_simp;exact hK _ _ hG rfl (fun _ _ _ h=>h)
         ·have e1:=aA (hp 1 (by decide)) rfl;have e5:=aA (hp 5 (by decide)) rfl;have cx:=w0.out W hG;simp only[e1,e5]at hK |-;rw[if_pos (by rfl)];go_simp;exact hK _ _ hG rfl (fun _ _ _ h=>h)
         ·have e1:=aA (hp 1 (by decide)) rfl;have e6:=aA (hp 6 (by decide)) rfl;simp only[e1,e6]at hK |-;rw[if_pos (by rfl)];go_simp;exact hK _ _ hG rfl (fun _ _ _ h=>h)
         ·have e1:=aA (hp 1 (by decide)) rfl;have e7:=aA (hp 7 (by decide)) rfl;simp only[e1,e7]at hK |-;rw[if_pos (by rfl)];go_simp;exact hK _ _ hG rfl (fun _ _ _ h=>h)
         ·have e1:=aA (hp 1 (by decide)) rfl;have e8:=aA (hp 8 (by decide)) rfl;simp only[e1,e8]at hK |-;rw[if_pos (by rfl)];go_simp;exact hK _ _ hG rfl (fun _ _ _ h=>h)
         ·have e9:=aA (hp 9 (by decide)) rfl;simp only[e9]at hK |-;rw[if_neg (by intro hh;exact absurd (show false=true from hh) (by decide))];exact hK undef _ hG rfl (fun _ _ _ h=>h)
         ·have e9:=aA (hp 9 (by decide)) rfl;simp only[e9]at hK |-;rw[if_neg (by intro hh;exact absurd (show false=true from hh) (by decide))];exact hK undef _ hG rfl (fun _ _ _ h=>h)
         ·have e9:=aA (hp 9 (by decide)) rfl;simp only[e9]at hK |-;rw[if_neg (by intro hh;exact absurd (show false=true from hh) (by decide))];exact hK undef _ hG rfl (fun _ _ _ h=>h)
         ·have e9:=aA (hp 9 (by decide)) rfl;simp only[e9]at hK |-;rw[if_neg (by intro hh;exact absurd (show false=true from hh) (by decide))];exact hK undef _ hG rfl (fun _ _ _ h=>h)
         ·have e9:=aA (hp 9 (by decide)) rfl;simp only[e9]at hK |-;rw[if_neg (by intro hh;exact absurd (show false=true from hh) (by decide))];exact hK undef _ hG rfl (fun _ _ _ h=>h)
         ·have e9:=aA (hp 9 (by decide)) rfl;simp only[e9]at hK |-;rw[if_neg (by intro hh;exact absurd (show false=true from hh) (by decide))];exact hK undef _ hG rfl (fun _ _ _ h=>h)
         ·have e9:=aA (hp 9 (by decide)) rfl;simp only[e9]at hK |-;rw[if_neg (by intro hh;exact absurd (show false=true from hh) (by decide))];exact hK undef _ hG rfl (fun _ _ _ h=>h)
         ·have e9:=aA (hp 9 (by decide)) rfl;simp only[e9]at hK |-;rw[if_neg (by intro hh;exact absurd (show false=true from hh) (by decide))];exact hK undef _ hG rfl (fun _ _ _ h=>h)
         ·have e1:=aA (hp 1 (by decide)) rfl;have e9:=aA (hp 9 (by decide)) rfl;have s0:=aA (hp 17 (by decide)) rfl;simp only[e1,e9,s0]at hK |-;rw[if_pos (by rfl)];go_simp;exact hK _ _ hG rfl (fun _ _ _ h=>h)
         ·have e1:=aA (hp 1 (by decide)) rfl;have z0:=aA (hp 18 (by decide)) rfl;simp only[e1,z0]at hK |-;rw[if_pos (by rfl)];go_simp;exact hK _ _ hG rfl (fun _ _ _ h=>h)
       all_goals intro t W hG hp K hK
       all_goals simp only[fill,Act.put,sX,sY,sU]at hK |-
       ·rw[if_pos (by rfl)];go_simp;exact hK _ _ hG rfl (fun _ _ _ h=>h)
       ·have e0:=aA (hp 0 (by decide)) rfl;have cx:=(q0.out.below hG q0.out.lt).cell 1;simp at cx;simp only[e0]at hK |-;rw[if_pos (by rfl)];go_simp;exact hK _ _ hG rfl (fun _ _ _ h=>h)
       ·rw[if_pos (by rfl)];go_simp;exact hK _ _ hG rfl (fun _ _ _ h=>h)
       ·have e1:=aA (hp 1 (by decide)) rfl;have e2:=aA (hp 2 (by decide)) rfl;simp only[e1,e2]at hK |-;rw[if_pos (by rfl)];go_simp;exact hK _ _ hG rfl (fun _ _ _ h=>h)
       ·have e3:=aA (hp 3 (by decide)) rfl;have cx:=j0.out W hG;simp only[e3]at hK |-;rw[if_pos (by rfl)];go_simp;exact hK _ _ hG rfl (fun _ _ _ h=>h)
       ·have e4:=aA (hp 4 (by decide)) rfl;simp only[e4]at hK |-;rw[if_pos (by rfl)];go_simp;exact hK _ _ hG rfl (fun _ _ _ h=>h)
       ·have e5:=aA (hp 5 (by decide)) rfl;simp only[e5]at hK |-;rw[if_pos (by rfl)];go_simp;exact hK _ _ hG rfl (fun _ _ _ h=>h)
       ·have e6:=aA (hp 6 (by decide)) rfl;simp only[e6]at hK |-;rw[if_pos (by rfl)];go_simp;exact hK _ _ hG rfl (fun _ _ _ h=>h)
       ·have e7:=aA (hp 7 (by decide)) rfl;simp only[e7]at hK |-;rw[if_neg (by intro hh;exact absurd (show false=true from hh) (by decide))];exact hK undef _ hG rfl (fun _ _ _ h=>h)
       ·have e7:=aA (hp 7 (by decide)) rfl;simp only[e7]at hK |-;rw[if_neg (by intro hh;exact absurd (show false=true from hh) (by decide))];exact hK undef _ hG rfl (fun _ _ _ h=>h)
       ·have e7:=aA (hp 7 (by decide)) rfl;simp only[e7]at hK |-;rw[if_neg (by intro hh;exact absurd (show false=true from hh) (by decide))];exact hK undef _ hG rfl (fun _ _ _ h=>h)
       ·have e7:=aA (hp 7 (by decide)) rfl;simp only[e7]at hK |-;rw[if_neg (by intro hh;exact absurd (show false=true from hh) (by decide))];exact hK undef _ hG rfl (fun _ _ _ h=>h)
       ·have e7:=aA (hp 7 (by decide)) rfl;simp only[e7]at hK |-;rw[if_neg (by intro hh;exact absurd (show false=true from hh) (by decide))];exact hK undef _ hG rfl (fun _ _ _ h=>h)
       ·have e7:=aA (hp 7 (by decide)) rfl;simp only[e7]at hK |-;rw[if_neg (by intro hh;exact absurd (show false=true from hh) (by decide))];exact hK undef _ hG rfl (fun _ _ _ h=>h)
       ·have e7:=aA (hp 7 (by decide)) rfl;simp only[e7]at hK |-;rw[if_neg (by intro hh;exact absurd (show false=true from hh) (by decide))];exact hK undef _ hG rfl (fun _ _ _ h=>h)
       ·have e7:=aA (hp 7 (by decide)) rfl;simp only[e7]at hK |-;rw[if_neg (by intro hh;exact absurd (show false=true from hh) (by decide))];exact hK undef _ hG rfl (fun _ _ _ h=>h)
       ·have e7:=aA (hp 7 (by decide)) rfl;simp only[e7]at hK |-;rw[if_neg (by intro hh;exact absurd (show false=true from hh) (by decide))];exact hK undef _ hG rfl (fun _ _ _ h=>h)
       ·have e7:=aA (hp 7 (by decide)) rfl;have I0:=aA (hp 16 (by decide)) rfl;simp only[e7,I0]at hK |-;rw[if_pos (by rfl)];go_simp;exact hK _ _ hG rfl (fun _ _ _ h=>h)
      by_cases L1:lk=N;rotate_left
      ·have d3:(0:Int)<(lk:Int):=by omega
       have A1:((lk:Int) == (N:Int))=false:=by simp;omega
       have Hf:=hide (A0.out (Or.inr (Or.inr ⟨k,by rw[H1.out];exact L0,by rw[<-E0.out];exact K1,by rw[<-E0.out];exact L1⟩)));clear K1 L1 E0 HL k0;go_wp2_with fail;clear n0 n1 n2 n3 n4;refine EA (fun W=>Below wr.heap.size wr W) (oC [.pointer (some ⟨q8,1,none⟩),.slice (some ⟨rr.T.gb,rr.T.go,none⟩) N rr.T.cap,.int .i64 (k:Int),.pointer (some ⟨rr.T.gb,rr.T.go+k,none⟩),.slice (rr.T.A k) lk (rr.T.C k),.int .i64 (lk:Int),.bool true,.bool true,.pointer (some ⟨q8,1,none⟩),.slice (some ⟨rr.T.gb,rr.T.go,none⟩) N rr.T.cap,.int .i64 (k:Int),.pointer (some ⟨rr.T.gb,rr.T.go+k,none⟩),.slice (rr.T.A k) lk (rr.T.C k),.int .i64 (lk:Int),.pointer (some ⟨w.heap.size,3,none⟩),.int .i64 (N:Int),.bool true,.bool true]) (by kernel_rfl) (by kernel_rfl) (by kernel_rfl) (⟨rfl,rfl,rfl,lR,fun _ _=>rfl⟩) ⟨?_,?_,?_,?_,?_,?_,?_,?_,?_,?_,?_,?_,?_,?_,?_,?_,?_,?_,trivial⟩ ?_;rotate_right
       ·intro t W hG hE;have s0:=aA (hE 17 (by decide)) rfl;have f0:=hide hG;clear hE hG;simp only[fill,Act.put,sX,sY,sU,s0];clear s0;have HB:=hide (d0.out.keep f0.out).below;go_wp2;go_ret;exact⟨by rw[Hf.out];rfl,HB.out⟩
       all_goals intro t W hG hp K hK
       all_goals simp only[fill,Act.put,sX,sY,sU]at hK |-
       ·rw[if_pos (by rfl)];go_simp;exact hK _ _ hG rfl (fun _ _ _ h=>h)
       ·have e0:=aA (hp 0 (by decide)) rfl;have cx:=(q0.out.below hG q0.out.lt).cell 1;simp at cx;simp only[e0]at hK |-;rw[if_pos (by rfl)];go_simp;exact hK _ _ hG rfl (fun _ _ _ h=>h)
       ·rw[if_pos (by rfl)];go_simp;exact hK _ _ hG rfl (fun _ _ _ h=>h)
       ·have e1:=aA (hp 1 (by decide)) rfl;have e2:=aA (hp 2 (by decide)) rfl;simp only[e1,e2]at hK |-;rw[if_pos (by rfl)];go_simp;exact hK _ _ hG rfl (fun _ _ _ h=>h)
       ·have e3:=aA (hp 3 (by decide)) rfl;have cx:=j0.out W hG;simp only[e3]at hK |-;rw[if_pos (by rfl)];go_simp;exact hK _ _ hG rfl (fun _ _ _ h=>h)
       ·have e4:=aA (hp 4 (by decide)) rfl;simp only[e4]at hK |-;rw[if_pos (by rfl)];go_simp;exact hK _ _ hG rfl (fun _ _ _ h=>h)
       ·have e5:=aA (hp 5 (by decide)) rfl;simp only[e5]at hK |-;rw[if_pos (by rfl)];have k3:decide (0<lk)=true:=decide_eq_true (by omega);go_simp;exact hK _ _ hG rfl (fun _ _ _ h=>h)
       ·have e6:=aA (hp 6 (by decide)) rfl;simp only[e6]at hK |-;rw[if_pos (by rfl)];go_simp;exact hK _ _ hG rfl (fun _ _ _ h=>h)
       ·have e7:=aA (hp 7 (by decide)) rfl;simp only[e7]at hK |-;rw[if_pos (by rfl)];go_simp;exact hK _ _ hG rfl (fun _ _ _ h=>h)
       ·have e7:=aA (hp 7 (by decide)) rfl;have e8:=aA (hp 8 (by decide)) rfl;have cx:=(q0.out.below hG q0.out.lt).cell 1;simp at cx;simp only[e7,e8]at hK |-;rw[if_pos (by rfl)];go_simp;exact hK _ _ hG rfl (fun _ _ _ h=>h)
       ·have e7:=aA (hp 7 (by decide)) rfl;simp only[e7]at hK |-;rw[if_pos (by rfl)];go_simp;exact hK _ _ hG rfl (fun _ _ _ h=>h)
       ·have e7:=aA (hp 7 (by decide)) rfl;have e9:=aA (hp 9 (by decide)) rfl;have Q0:=aA (hp 10 (by decide)) rfl;simp only[e7,e9,Q0]at hK |-;rw[if_pos (by rfl)];go_simp;exact hK _ _ hG rfl (fun _ _ _ h=>h)
       ·have e7:=aA (hp 7 (by decide)) rfl;have R0:=aA (hp 11 (by decide)) rfl;have cx:=j0.out W hG;simp only[e7,R0]at hK |-;rw[if_pos (by rfl)];go_simp;exact hK _ _ hG rfl (fun _ _ _ h=>h)
       ·have e7:=aA (hp 7 (by decide)) rfl;have S0:=aA (hp 12 (by decide)) rfl;simp only[e7,S0]at hK |-;rw[if_pos (by rfl)];go_simp;exact hK _ _ hG rfl (fun _ _ _ h=>h)
       ·have e7:=aA (hp 7 (by decide)) rfl;simp only[e7]at hK |-;rw[if_pos (by rfl)];go_simp;exact hK _ _ hG rfl (fun _ _ _ h=>h)
       ·have e7:=aA (hp 7 (by decide)) rfl;have T0:=aA (hp 14 (by decide)) rfl;have cx:=(d0.out.keep hG).bn.cell 3;rw[o0.out]at cx;simp at cx;simp only[e7,T0]at hK |-;rw[if_pos (by rfl)];go_simp;exact hK _ _ hG rfl (fun _ _ _ h=>h)
       ·have e7:=aA (hp 7 (by decide)) rfl;have U0:=aA (hp 13 (by decide)) rfl;have V0:=aA (hp 15 (by decide)) rfl;simp only[e7,U0,V0]at hK |-;rw[if_pos (by rfl)];have a2:((lk:Int) != (N:Int))=true:=by rw[bne,A1];rfl
        go_simp
        first | exact hK _ _ hG rfl (fun _ _ _ h=>h) | exact hK _ _ hG (by rw[a2];rfl) (fun _ _ _ h=>h)
       ·have e7:=aA (hp 7 (by decide)) rfl;have I0:=aA (hp 16 (by decide)) rfl;simp only[e7,I0]at hK |-;rw[if_pos (by rfl)];go_simp;exact hK _ _ hG rfl (fun _ _ _ h=>h)
      have d3:(0:Int)<(N:Int):=by omega
      rw[L1]at k0 j0 E0;have P0:Hid (∀q,q<k+1->rr.T.t.L q=0\/rr.T.t.L q=N):=hide (fun q hq=>by
       by_cases e:q=k
       ·rw[e];exact Or.inr E0.out.symm
       ·exact HL.out q (by omega))
      obtain⟨rv,t2⟩:∃rv,rv=n.net.row N (rr.T.t.Z k):=⟨_,rfl⟩;have b2:Hid ((rv == 5) = !jB N (rr.T.t.Z k) n.a.size):=hide (by rw[t2];exact n.net.row_five N _ Y0.out.symm);have d2:=hide (fun W (hb:Below wr.heap.size wr W)=>O1.out (rr.T.A k) N (rr.T.C k) (rr.T.RB k) (rr.T.RO k) (rr.T.t.Z k) W (by have:=(Z1.out W hb).T.ints (r:=k) (by rw[H1.out];exact L0);rwa [<-E0.out]at this) (fun _=>Nat.lt_of_lt_of_le ((Z1.out W hb).T.addr k (by rw[H1.out];exact L0) (by rw[<-E0.out];exact T2)).2 (d0.out.keep hb).below.size));rw[<-t2]at d2;clear K1 L1 E0 HL t2;go_wp2_with fail;clear n0 n1 n2 n3 n4;refine EA (fun W=>Below wr.heap.size wr W) (oC [.pointer (some ⟨q8,1,none⟩),.slice (some ⟨rr.T.gb,rr.T.go,none⟩) N rr.T.cap,.int .i64 (k:Int),.pointer (some ⟨rr.T.gb,rr.T.go+k,none⟩),.slice (rr.T.A k) N (rr.T.C k),.int .i64 (N:Int),.bool true,.bool true,.pointer (some ⟨q8,1,none⟩),.slice (some ⟨rr.T.gb,rr.T.go,none⟩) N rr.T.cap,.int .i64 (k:Int),.pointer (some ⟨rr.T.gb,rr.T.go+k,none⟩),.slice (rr.T.A k) N (rr.T.C k),.int .i64 (N:Int),.pointer (some ⟨w.heap.size,3,none⟩),.int .i64 (N:Int),.bool false,.bool false]) (by kernel_rfl) (by kernel_rfl) (by kernel_rfl) (⟨rfl,rfl,rfl,lR,fun _ _=>rfl⟩) ⟨?_,?_,?_,?_,?_,?_,?_,?_,?_,?_,?_,?_,?_,?_,?_,?_,?_,?_,trivial⟩ ?_;rotate_right
      ·intro t W hG hE;have s0:=aA (hE 17 (by decide)) rfl;have f0:=hide hG;clear hE hG;simp only[fill,Act.put,sX,sY,sU,s0];clear s0;obtain⟨g0,K0⟩:∃g0,g0=W:=⟨_,rfl⟩;rw[<-K0]at f0 |-;clear K0;have m0:=hide (N0.out.trans (f0.out.mono N0.out.size));have u1:=hide (d0.out.keep f0.out);have v0:=hide (q0.out.below f0.out q0.out.lt);have w0:=hide (fun W (hb:Below g0.heap.size g0 W)=>j0.out W (f0.out.trans (hb.mono f0.out.size)));have f2:=hide (fun W (hb:Below g0.heap.size g0 W)=>d2.out W (f0.out.trans (hb.mono f0.out.size)));clear f0;go_wp2_with fail;clear N0 d0 q0 j0 d2;cases fb with
       | true =>
        have Hn:Hid ((x.rs.noneTo n.a.size i || rr.noneIn n.a.size (k+1))=true):=hide (by rw[k0.out,Bool.true_or]);refine KA 20 _ (fun W=>Below g0.heap.size g0 W) (oC [.bool true,.bool true,undef,undef,undef,undef,undef,undef,undef,undef,undef,undef,undef,undef,undef,undef,undef,undef,undef,.bool true]) (fun v W=>v=.bool true/\Below g0.heap.size g0 W) (fun _ _ _=>True) (by kernel_rfl) (by kernel_rfl) (by kernel_rfl) (by kernel_rfl) (by kernel_rfl) rfl (show Below g0.heap.size g0 g0.drew from ⟨rfl,rfl,rfl,lR,fun _ _=>rfl⟩) ⟨?_,?_,?_,?_,?_,?_,?_,?_,?_,?_,?_,?_,?_,?_,?_,?_,?_,?_,?_,?_,trivial⟩ ?_ trivial ?_;rotate_right
        ·intro t W hG _;have F0:=hG.1;have f0:=hide hG.2;clear hG;simp only[fill,Act.put,sX,sY,sU,F0];clear F0;have G0:=hide (m0.out.trans (f0.out.mono m0.out.size));clear f0;go_wp2;go_roundw
         case rel =>
          first
          | exact⟨k+1,by omega,by go_num,by rw[Hn.out],P0,G0⟩
          | ((try rw[<-D0.out]);(repeat apply Exists.intro);refine⟨?_,rfl⟩;exact⟨k+1,by omega,by go_num,by rw[Hn.out],P0,G0⟩)
         case measure=>simp[intOf];omega
        rotate_right
        ·intro t W hG hE _ K hK;have u0:=aA (hE 19 (by omega)) rfl;simp only[fill,Act.put,sX,sY,sU,u0]at hK |-;rw[if_pos (by rfl)];go_simp;exact hK _ _ ⟨rfl,hG⟩
        all_goals intro t W hG hp ht K hK
        all_goals have H0:t 20=.bool true:=ht 20 (by decide)
        all_goals clear ht
        all_goals simp only[fill,Act.put,sX,sY,sU,H0]at hK |-
        all_goals clear H0
        ·rw[if_pos (by rfl)];go_simp;exact hK _ _ hG rfl (fun _ _ _ h=>h)
        ·have e0:=aA (hp 0 (by decide)) rfl;simp only[e0]at hK |-;rw[if_pos (by rfl)];go_simp;exact hK _ _ hG rfl (fun _ _ _ h=>h)
        ·have e1:=aA (hp 1 (by decide)) rfl;simp only[e1]at hK |-;rw[if_neg (by intro hh;exact absurd (show false=true from hh) (by decide))];exact hK undef _ hG rfl (fun _ _ _ h=>h)
        ·have e1:=aA (hp 1 (by decide)) rfl;simp only[e1]at hK |-;rw[if_neg (by intro hh;exact absurd (show false=true from hh) (by decide))];exact hK undef _ hG rfl (fun _ _ _ h=>h)
        ·have e1:=aA (hp 1 (by decide)) rfl;simp only[e1]at hK |-;rw[if_neg (by intro hh;exact absurd (show false=true from hh) (by decide))];exact hK undef _ hG rfl (fun _ _ _ h=>h)
        ·have e1:=aA (hp 1 (by decide)) rfl;simp only[e1]at hK |-;rw[if_neg (by intro hh;exact absurd (show false=true from hh) (by decide))];exact hK undef _ hG rfl (fun _ _ _ h=>h)
        ·have e1:=aA (hp 1 (by decide)) rfl;simp only[e1]at hK |-;rw[if_neg (by intro hh;exact absurd (show false=true from hh) (by decide))];exact hK undef _ hG rfl (fun _ _ _ h=>h)
        ·have e1:=aA (hp 1 (by decide)) rfl;simp only[e1]at hK |-;rw[if_neg (by intro hh;exact absurd (show false=true from hh) (by decide))];exact hK undef _ hG rfl (fun _ _ _ h=>h)
        ·have e1:=aA (hp 1 (by decide)) rfl;simp only[e1]at hK |-;rw[if_neg (by intro hh;exact absurd (show false=true from hh) (by decide))];exact hK undef _ hG rfl (fun _ _ _ h=>h)
        ·have e1:=aA (hp 1 (by decide)) rfl;simp only[e1]at hK |-;rw[if_neg (by intro hh;exact absurd (show false=true from hh) (by decide))];exact hK undef _ hG rfl (fun _ _ _ h=>h)
        ·have e9:=aA (hp 9 (by decide)) rfl;simp only[e9]at hK |-;rw[if_neg (by intro hh;exact absurd (show false=true from hh) (by decide))];exact hK undef _ hG rfl (fun _ _ _ h=>h)
        ·have e9:=aA (hp 9 (by decide)) rfl;simp only[e9]at hK |-;rw[if_neg (by intro hh;exact absurd (show false=true from hh) (by decide))];exact hK undef _ hG rfl (fun _ _ _ h=>h)
        ·have e9:=aA (hp 9 (by decide)) rfl;simp only[e9]at hK |-;rw[if_neg (by intro hh;exact absurd (show false=true from hh) (by decide))];exact hK undef _ hG rfl (fun _ _ _ h=>h)
        ·have e9:=aA (hp 9 (by decide)) rfl;simp only[e9]at hK |-;rw[if_neg (by intro hh;exact absurd (show false=true from hh) (by decide))];exact hK undef _ hG rfl (fun _ _ _ h=>h)
        ·have e9:=aA (hp 9 (by decide)) rfl;simp only[e9]at hK |-;rw[if_neg (by intro hh;exact absurd (show false=true from hh) (by decide))];exact hK undef _ hG rfl (fun _ _ _ h=>h)
        ·have e9:=aA (hp 9 (by decide)) rfl;simp only[e9]at hK |-;rw[if_neg (by intro hh;exact absurd (show false=true from hh) (by decide))];exact hK undef _ hG rfl (fun _ _ _ h=>h)
        ·have e9:=aA (hp 9 (by decide)) rfl;simp only[e9]at hK |-;rw[if_neg (by intro hh;exact absurd (show false=true from hh) (by decide))];exact hK undef _ hG rfl (fun _ _ _ h=>h)
        ·have e9:=aA (hp 9 (by decide)) rfl;simp only[e9]at hK |-;rw[if_neg (by intro hh;exact absurd (show false=true from hh) (by decide))];exact hK undef _ hG rfl (fun _ _ _ h=>h)
        ·have e1:=aA (hp 1 (by decide)) rfl;simp only[e1]at hK |-;rw[if_neg (by intro hh;exact absurd (show false=true from hh) (by decide))];exact hK undef _ hG rfl (fun _ _ _ h=>h)
        ·have e1:=aA (hp 1 (by decide)) rfl;have z0:=aA (hp 18 (by decide)) rfl;simp only[e1,z0]at hK |-;rw[if_pos (by rfl)];go_simp;exact hK _ _ hG rfl (fun _ _ _ h=>h)
       | false =>
        have Hn:Hid ((x.rs.noneTo n.a.size i || rr.noneIn n.a.size (k+1))=(rv == 5)):=hide (by rw[k0.out,Bool.false_or,<-b2.out]);refine KA 20 _ (fun W=>Below g0.heap.size g0 W) (oC [.bool false,.bool false,.pointer (some ⟨q8,1,none⟩),.slice (some ⟨rr.T.gb,rr.T.go,none⟩) N rr.T.cap,.int .i64 (k:Int),.pointer (some ⟨rr.T.gb,rr.T.go+k,none⟩),.slice (rr.T.A k) N (rr.T.C k),.int .i64 (N:Int),.bool true,.bool true,.agg #[.int .i64 n.a.size,.slice n.a.B.ga n.a.B.t.len n.a.B.cap,.slice n.a.E.ga n.a.E.t.len n.a.E.cap,.int .i64 (N:Int),.slice n.la n.ln n.lc],.pointer (some ⟨q8,1,none⟩),.slice (some ⟨rr.T.gb,rr.T.go,none⟩) N rr.T.cap,.int .i64 (k:Int),.pointer (some ⟨rr.T.gb,rr.T.go+k,none⟩),.slice (rr.T.A k) N (rr.T.C k),.int .i64 rv,.bool (rv == 5),.bool (rv == 5),.bool (rv == 5)]) (fun v W=>v=.bool (rv == 5)/\Below g0.heap.size g0 W) (fun _ _ _=>True) (by kernel_rfl) (by kernel_rfl) (by kernel_rfl) (by kernel_rfl) (by kernel_rfl) rfl (show Below g0.heap.size g0 g0.drew from ⟨rfl,rfl,rfl,lR,fun _ _=>rfl⟩) ⟨?_,?_,?_,?_,?_,?_,?_,?_,?_,?_,?_,?_,?_,?_,?_,?_,?_,?_,?_,?_,trivial⟩ ?_ trivial ?_;rotate_right
        ·intro t W hG _;have F0:=hG.1;have f0:=hide hG.2;clear hG;simp only[fill,Act.put,sX,sY,sU,F0];clear F0;have G0:=hide (m0.out.trans (f0.out.mono m0.out.size));clear f0;go_wp2;go_roundw
         case rel =>
          first
          | exact⟨k+1,by omega,by go_num,by rw[Hn.out],P0,G0⟩
          | ((try rw[<-D0.out]);(repeat apply Exists.intro);refine⟨?_,rfl⟩;exact⟨k+1,by omega,by go_num,by rw[Hn.out],P0,G0⟩)
         case measure=>simp[intOf];omega
        rotate_right
        ·intro t W hG hE _ K hK;have u0:=aA (hE 19 (by omega)) rfl;simp only[fill,Act.put,sX,sY,sU,u0]at hK |-;rw[if_pos (by rfl)];go_simp;exact hK _ _ ⟨rfl,hG⟩
        all_goals intro t W hG hp ht K hK
        all_goals have H0:t 20=.bool false:=ht 20 (by decide)
        all_goals clear ht
        all_goals simp only[fill,Act.put,sX,sY,sU,H0]at hK |-
        all_goals clear H0
        ·rw[if_pos (by rfl)];go_simp;exact hK _ _ hG rfl (fun _ _ _ h=>h)
        ·have e0:=aA (hp 0 (by decide)) rfl;simp only[e0]at hK |-;rw[if_pos (by rfl)];go_simp;exact hK _ _ hG rfl (fun _ _ _ h=>h)
        ·have e1:=aA (hp 1 (by decide)) rfl;simp only[e1]at hK |-;rw[if_pos (by rfl)];go_simp;exact hK _ _ hG rfl (fun _ _ _ h=>h)
        ·have e1:=aA (hp 1 (by decide)) rfl;have e2:=aA (hp 2 (by decide)) rfl;have cx:=(v0.out.below hG v0.out.lt).cell 1;simp at cx;simp only[e1,e2]at hK |-;rw[if_pos (by rfl)];go_simp;exact hK _ _ hG rfl (fun _ _ _ h=>h)
        ·have e1:=aA (hp 1 (by decide)) rfl;simp only[e1]at hK |-;rw[if_pos (by rfl)];go_simp;exact hK _ _ hG rfl (fun _ _ _ h=>h)
        ·have e1:=aA (hp 1 (by decide)) rfl;have e3:=aA (hp 3 (by decide)) rfl;have e4:=aA (hp 4 (by decide)) rfl;simp only[e1,e3,e4]at hK |-;rw[if_pos (by rfl)];go_simp;exact hK _ _ hG rfl (fun _ _ _ h=>h)
        ·have e1:=aA (hp 1 (by decide)) rfl;have e5:=aA (hp 5 (by decide)) rfl;have cx:=w0.out W hG;simp only[e1,e5]at hK |-;rw[if_pos (by rfl)];go_simp;exact hK _ _ hG rfl (fun _ _ _ h=>h)
        ·have e1:=aA (hp 1 (by decide)) rfl;have e6:=aA (hp 6 (by decide)) rfl;simp only[e1,e6]at hK |-;rw[if_pos (by rfl)];go_simp;exact hK _ _ hG rfl (fun _ _ _ h=>h)
        ·have e1:=aA (hp 1 (by decide)) rfl;have e7:=aA (hp 7 (by decide)) rfl;simp only[e1,e7]at hK |-;rw[if_pos (by rfl)];go_simp;exact hK _ _ hG rfl (fun _ _ _ h=>h)
        ·have e1:=aA (hp 1 (by decide)) rfl;have e8:=aA (hp 8 (by decide)) rfl;simp only[e1,e8]at hK |-;rw[if_pos (by rfl)];go_simp;exact hK _ _ hG rfl (fun _ _ _ h=>h)
        ·have e9:=aA (hp 9 (by decide)) rfl;have cn:=(u1.out.keep hG).bn;have c0:=cn.cell 0;have c1:=cn.cell 1;have c2:=cn.cell 2;have c3:=cn.cell 3;have c4:=cn.cell 4;rw[o0.out]at c0 c1 c2 c3 c4;simp at c0 c1 c2 c3 c4;clear cn;simp only[e9]at hK |-;rw[if_pos (by rfl)];go_simp;exact hK _ _ hG rfl (fun _ _ _ h=>h)
        ·have e9:=aA (hp 9 (by decide)) rfl;simp only[e9]at hK |-;rw[if_pos (by rfl)];go_simp;exact hK _ _ hG rfl (fun _ _ _ h=>h)
        ·have e9:=aA (hp 9 (by decide)) rfl;have R0:=aA (hp 11 (by decide)) rfl;have cx:=(v0.out.below hG v0.out.lt).cell 1;simp at cx;simp only[e9,R0]at hK |-;rw[if_pos (by rfl)];go_simp;exact hK _ _ hG rfl (fun _ _ _ h=>h)
        ·have e9:=aA (hp 9 (by decide)) rfl;simp only[e9]at hK |-;rw[if_pos (by rfl)];go_simp;exact hK _ _ hG rfl (fun _ _ _ h=>h)
        ·have e9:=aA (hp 9 (by decide)) rfl;have S0:=aA (hp 12 (by decide)) rfl;have U0:=aA (hp 13 (by decide)) rfl;simp only[e9,S0,U0]at hK |-;rw[if_pos (by rfl)];go_simp;exact hK _ _ hG rfl (fun _ _ _ h=>h)
        ·have e9:=aA (hp 9 (by decide)) rfl;have T0:=aA (hp 14 (by decide)) rfl;have cx:=w0.out W hG;simp only[e9,T0]at hK |-;rw[if_pos (by rfl)];go_simp;exact hK _ _ hG rfl (fun _ _ _ h=>h)
        ·have e9:=aA (hp 9 (by decide)) rfl;have Q0:=aA (hp 10 (by decide)) rfl;have V0:=aA (hp 15 (by decide)) rfl;simp only[e9,Q0,V0]at hK |-;rw[if_pos (by rfl)];go_simp;go_at_call 32;refine(f2.out W hG).mono ?_;rintro r W' ⟨rfl,J0⟩;go_simp;exact hK _ W' (hG.trans (J0.mono hG.size)) rfl (fun _ _ _ h=>h)
        ·have e9:=aA (hp 9 (by decide)) rfl;have I0:=aA (hp 16 (by decide)) rfl;simp only[e9,I0]at hK |-;rw[if_pos (by rfl)];go_simp;exact hK _ _ hG rfl (fun _ _ _ h=>h)
        ·have e1:=aA (hp 1 (by decide)) rfl;have e9:=aA (hp 9 (by decide)) rfl;have s0:=aA (hp 17 (by decide)) rfl;simp only[e1,e9,s0]at hK |-;rw[if_pos (by rfl)];go_simp;exact hK _ _ hG rfl (fun _ _ _ h=>h)
        ·have e1:=aA (hp 1 (by decide)) rfl;have z0:=aA (hp 18 (by decide)) rfl;simp only[e1,z0]at hK |-;rw[if_pos (by rfl)];go_simp;exact hK _ _ hG rfl (fun _ _ _ h=>h)
      all_goals intro t W hG hp K hK
      all_goals simp only[fill,Act.put,sX,sY,sU]at hK |-
      ·rw[if_pos (by rfl)];go_simp;exact hK _ _ hG rfl (fun _ _ _ h=>h)
      ·have e0:=aA (hp 0 (by decide)) rfl;have cx:=(q0.out.below hG q0.out.lt).cell 1;simp at cx;simp only[e0]at hK |-;rw[if_pos (by rfl)];go_simp;exact hK _ _ hG rfl (fun _ _ _ h=>h)
      ·rw[if_pos (by rfl)];go_simp;exact hK _ _ hG rfl (fun _ _ _ h=>h)
      ·have e1:=aA (hp 1 (by decide)) rfl;have e2:=aA (hp 2 (by decide)) rfl;simp only[e1,e2]at hK |-;rw[if_pos (by rfl)];go_simp;exact hK _ _ hG rfl (fun _ _ _ h=>h)
      ·have e3:=aA (hp 3 (by decide)) rfl;have cx:=j0.out W hG;simp only[e3]at hK |-;rw[if_pos (by rfl)];go_simp;exact hK _ _ hG rfl (fun _ _ _ h=>h)
      ·have e4:=aA (hp 4 (by decide)) rfl;simp only[e4]at hK |-;rw[if_pos (by rfl)];go_simp;exact hK _ _ hG rfl (fun _ _ _ h=>h)
      ·have e5:=aA (hp 5 (by decide)) rfl;simp only[e5]at hK |-;rw[if_pos (by rfl)];go_simp;exact hK _ _ hG rfl (fun _ _ _ h=>h)
      ·have e6:=aA (hp 6 (by decide)) rfl;simp only[e6]at hK |-;rw[if_pos (by rfl)];go_simp;exact hK _ _ hG rfl (fun _ _ _ h=>h)
      ·have e7:=aA (hp 7 (by decide)) rfl;simp only[e7]at hK |-;rw[if_pos (by rfl)];go_simp;exact hK _ _ hG rfl (fun _ _ _ h=>h)
      ·have e7:=aA (hp 7 (by decide)) rfl;have e8:=aA (hp 8 (by decide)) rfl;have cx:=(q0.out.below hG q0.out.lt).cell 1;simp at cx;simp only[e7,e8]at hK |-;rw[if_pos (by rfl)];go_simp;exact hK _ _ hG rfl (fun _ _ _ h=>h)
      ·have e7:=aA (hp 7 (by decide)) rfl;simp only[e7]at hK |-;rw[if_pos (by rfl)];go_simp;exact hK _ _ hG rfl (fun _ _ _ h=>h)
      ·have e7:=aA (hp 7 (by decide)) rfl;have e9:=aA (hp 9 (by decide)) rfl;have Q0:=aA (hp 10 (by decide)) rfl;simp only[e7,e9,Q0]at hK |-;rw[if_pos (by rfl)];go_simp;exact hK _ _ hG rfl (fun _ _ _ h=>h)
      ·have e7:=aA (hp 7 (by decide)) rfl;have R0:=aA (hp 11 (by decide)) rfl;have cx:=j0.out W hG;simp only[e7,R0]at hK |-;rw[if_pos (by rfl)];go_simp;exact hK _ _ hG rfl (fun _ _ _ h=>h)
      ·have e7:=aA (hp 7 (by decide)) rfl;have S0:=aA (hp 12 (by decide)) rfl;simp only[e7,S0]at hK |-;rw[if_pos (by rfl)];go_simp;exact hK _ _ hG rfl (fun _ _ _ h=>h)
      ·have e7:=aA (hp 7 (by decide)) rfl;simp only[e7]at hK |-;rw[if_pos (by rfl)];go_simp;exact hK _ _ hG rfl (fun _ _ _ h=>h)
      ·have e7:=aA (hp 7 (by decide)) rfl;have T0:=aA (hp 14 (by decide)) rfl;have cx:=(d0.out.keep hG).bn.cell 3;rw[o0.out]at cx;simp at cx;simp only[e7,T0]at hK |-;rw[if_pos (by rfl)];go_simp;exact hK _ _ hG rfl (fun _ _ _ h=>h)
      ·have e7:=aA (hp 7 (by decide)) rfl;have U0:=aA (hp 13 (by decide)) rfl;have V0:=aA (hp 15 (by decide)) rfl;simp only[e7,U0,V0]at hK |-;rw[if_pos (by rfl)];go_simp;exact hK _ _ hG rfl (fun _ _ _ h=>h)
      ·have e7:=aA (hp 7 (by decide)) rfl;have I0:=aA (hp 16 (by decide)) rfl;simp only[e7,I0]at hK |-;rw[if_pos (by rfl)];go_simp;exact hK _ _ hG rfl (fun _ _ _ h=>h)
     ·have E1:k=N:=by omega
      have p1:¬ (k:Int)<(N:Int):=by omega
      have v1:Hid (∀r,r<i+1->(x.rs.r r).shaped (N:Int)=true):=hide (fun r hr=>by
       by_cases e:r=i
       ·rw[e,<-T1.out];exact rr.shaped_of H2.out H1.out (fun q hq=>HL.out q (by omega))
       ·exact m2.out r (by omega))
      have K2:Hid ((x.rs.noneTo n.a.size i || rr.noneIn n.a.size k)=x.rs.noneTo n.a.size (i+1)):=hide (by rw[kC.noneTo_succ,<-T1.out,H1.out,E1]);rw[K2.out];clear E1 HL K2;go_wp2;go_roundw
      case rel =>
       first
       | exact⟨i+1,by omega,by go_num,rfl,v1,d0⟩
       | ((try rw[<-P1.out]);(repeat apply Exists.intro);refine⟨?_,rfl⟩;exact⟨i+1,by omega,by go_num,rfl,v1,d0⟩)
      case measure=>simp[intOf];omega
  ·have F1:i=N:=by omega
   have Q1:¬ (i:Int)<(N:Int):=by omega
   have g1:Hid (x.err n.net=if x.rs.noneTo n.a.size N=true then 5 else x.bag.err n.net):=hide (by
    have h1:=iA.err_bag (x:=x) (n:=n.net) Hc.out (by rw[q1.out,Y0.out]) (fun r hr=>by rw[Y0.out];exact m2.out r (by rw[F1,<-q1.out];exact hr));rw[q1.out]at h1;exact h1)
   rw[F1];cases hnn2:x.rs.noneTo n.a.size N with
   | true =>
    have Hf:Hid (x.err n.net=5):=hide (by rw[g1.out,if_pos hnn2]);have HB:=hide i0.out.below;have g2:¬ (N:Int)<(N:Int):=by omega
    clear F1 Q1 w2 hnn2;go_wp2;go_ret;exact⟨by rw[Hf.out];rfl,HB.out⟩
   | false =>
    have X0:Hid (x.err n.net=x.bag.err n.net):=hide (by rw[g1.out,if_neg (by rw[hnn2];decide)]);have g2:¬ (N:Int)<(N:Int):=by omega
    clear F1 Q1 w2 hnn2 g1 m2;by_cases p0:120<x.bag.bn
    ·have f3:(120:Int)<(x.bag.bn:Int):=by omega
     have Hf:Hid (x.err n.net=2):=hide (by rw[X0.out];unfold TC.err;rw[if_pos p0]);have HB:=hide i0.out.below;clear p0;go_wp2;go_ret;exact⟨by rw[Hf.out];rfl,HB.out⟩
    have f3:¬ (120:Int)<(x.bag.bn:Int):=by omega
    have L2:x.bag.bn<=120:=by omega
    have i2:Hid ((∃q,q<x.bag.bn/\(!(decide (0<=(x.bag.M q).F) && decide ((x.bag.M q).F<(N:Int))) || !(decide (0<=(x.bag.M q).T) && decide ((x.bag.M q).T<(N:Int))))=true)->x.err n.net=5):=hide (fun ⟨q,hq,hh⟩=>by
     rw[X0.out];unfold TC.err;rw[if_neg p0,if_pos];rw[List.any_eq_true];exact⟨q,by simpa using hq,by rw[Y0.out];exact hh⟩)
    have M2:Hid ((∀q,q<x.bag.bn->(!(decide (0<=(x.bag.M q).F) && decide ((x.bag.M q).F<(N:Int))) || !(decide (0<=(x.bag.M q).T) && decide ((x.bag.M q).T<(N:Int))))=false)->x.err n.net=if ((List.range x.bag.bn).any fun i=>decide (60<(x.bag.M i).b.length))=true then 2 else 0):=hide (fun hh=>by
     rw[X0.out];unfold TC.err;rw[if_neg p0,if_neg];rw[Bool.not_eq_true,List.any_eq_false];intro q hq;rw[Y0.out,hh q (by simpa using hq)];decide)
    clear p0 X0;go_wp2_with fail;clear x0 x1 n0 n1 n2 n3 n4
    go_loopw [10] (fun q wr=>∃k:Nat,k<=x.bag.bn/\q=.int .i64 k/\Hid (∀q,q<k->(!(decide (0<=(x.bag.M q).F) && decide ((x.bag.M q).F<(N:Int))) || !(decide (0<=(x.bag.M q).T) && decide ((x.bag.M q).T<(N:Int))))=false)/\Hid (ChG w n x wr)) (fun q _=>x.bag.bn-(intOf q).toNat)
    case atStart=>exact⟨0,zL,rfl,hide (fun q hq=>absurd hq nZ),i0⟩
    case round =>
     obtain⟨k,hk,hq,d1,d0⟩:=hrel;subst hq;clear i0;have n0:=d0.out.bn.cell 0;have n1:=d0.out.bn.cell 1;have n2:=d0.out.bn.cell 2;have n3:=d0.out.bn.cell 3;have n4:=d0.out.bn.cell 4;rw[o0.out]at n0 n1 n2 n3 n4;simp at n0 n1 n2 n3 n4;have x0:=d0.out.bx.cell 0;have x1:=d0.out.bx.cell 1;rw[O0.out]at x0 x1;simp at x0 x1;by_cases L0:k<x.bag.bn
     ·have p1:(k:Int)<(x.bag.bn:Int):=by omega
      have N2:Hid (∀W,Below wr.heap.size wr W->x.bag.In w.heap.size W):=hide (fun W hb=>(Hx.out.below (d0.out.keep hb).below lR).bag);have i1:=Hx.out.bag.ba (by omega);rw[i1]at x1;have Z0:=hide i1;obtain⟨m,hm⟩:∃m,m=x.bag.M k:=⟨_,rfl⟩;have j2:Hid (∀W,Below wr.heap.size wr W->W.cell? ⟨x.bag.bb,x.bag.bo+k*3,none⟩=some (.int .i64 m.F)):=hide (fun W hb=>by rw[hm];exact(N2.out W hb).c0 k L0);have O2:Hid (∀W,Below wr.heap.size wr W->W.cell? ⟨x.bag.bb,x.bag.bo+k*3+1,none⟩=some (.int .i64 m.T)):=hide (fun W hb=>by rw[hm];exact(N2.out W hb).c1 k L0);have Hm:=hide hm;have l3:=hide L0;clear i1 hm;by_cases hF:0<=m.F/\m.F<(N:Int);rotate_left
      ·have G1:Hid ((decide (0<=m.F) && decide (m.F<=(N:Int)-1))=false):=hide (by simp;omega);have Hf:=hide (i2.out ⟨k,L0,by rw[<-Hm.out,show (decide (0<=m.F) && decide (m.F<(N:Int)))=false by simp;omega];rfl⟩);go_wp2_with fail;clear n0 n1 n2 n3 n4 x0 x1;refine EA (fun W=>Below wr.heap.size wr W) (oC [.agg #[.int .i64 n.a.size,.slice n.a.B.ga n.a.B.t.len n.a.B.cap,.slice n.a.E.ga n.a.E.t.len n.a.E.cap,.int .i64 (N:Int),.slice n.la n.ln n.lc],.pointer (some ⟨w.heap.size+1,1,none⟩),.slice (some ⟨x.bag.bb,x.bag.bo,none⟩) x.bag.bn x.bag.bc,.int .i64 (k:Int),.pointer (some ⟨x.bag.bb,x.bag.bo+k*3,none⟩),.pointer (some ⟨x.bag.bb,x.bag.bo+k*3,none⟩),.int .i64 m.F,.bool false,.bool true,.bool true,undef,undef,undef,undef,undef,undef,undef,undef,undef,.bool true]) (by kernel_rfl) (by kernel_rfl) (by kernel_rfl) (⟨rfl,rfl,rfl,lR,fun _ _=>rfl⟩) ⟨?_,?_,?_,?_,?_,?_,?_,?_,?_,?_,?_,?_,?_,?_,?_,?_,?_,?_,?_,?_,trivial⟩ ?_;rotate_right
       ·intro t W hG hE;have u0:=aA (hE 19 (by decide)) rfl;have f0:=hide hG;clear hE hG;simp only[fill,Act.put,sX,sY,sU,u0];clear u0;have HB:=hide (d0.out.keep f0.out).below;clear f0;go_wp2;go_ret;exact⟨by rw[Hf.out];rfl,HB.out⟩
       all_goals intro t W hG hp K hK
       all_goals simp only[fill,Act.put,sX,sY,sU]at hK |-
       ·have cn:=(d0.out.keep hG).bn;have c0:=cn.cell 0;have c1:=cn.cell 1;have c2:=cn.cell 2;have c3:=cn.cell 3;have c4:=cn.cell 4;rw[o0.out]at c0 c1 c2 c3 c4;simp at c0 c1 c2 c3 c4;clear cn;rw[if_pos (by rfl)];go_simp;exact hK _ _ hG rfl (fun _ _ _ h=>h)
       ·rw[if_pos (by rfl)];go_simp;exact hK _ _ hG rfl (fun _ _ _ h=>h)
       ·have e1:=aA (hp 1 (by decide)) rfl;have cx:=(d0.out.keep hG).bx.cell 1;rw[O0.out]at cx;simp at cx;rw[Z0.out]at cx;simp only[e1]at hK |-;rw[if_pos (by rfl)];go_simp;exact hK _ _ hG rfl (fun _ _ _ h=>h)
       ·rw[if_pos (by rfl)];go_simp;exact hK _ _ hG rfl (fun _ _ _ h=>h)
       ·have e2:=aA (hp 2 (by decide)) rfl;have e3:=aA (hp 3 (by decide)) rfl;simp only[e2,e3]at hK |-;rw[if_pos (by rfl)];go_simp;exact hK _ _ hG rfl (fun _ _ _ h=>h)
       ·have e4:=aA (hp 4 (by decide)) rfl;simp only[e4]at hK |-;rw[if_pos (by rfl)];go_simp;exact hK _ _ hG rfl (fun _ _ _ h=>h)
       ·have e5:=aA (hp 5 (by decide)) rfl;have cx:=j2.out W hG;simp only[e5]at hK |-;rw[if_pos (by rfl)];go_simp;exact hK _ _ hG rfl (fun _ _ _ h=>h)
       ·have e0:=aA (hp 0 (by decide)) rfl;have e6:=aA (hp 6 (by decide)) rfl;simp only[e0,e6]at hK |-;rw[if_pos (by rfl)];go_simp;go_at_call 33;refine(o1.out _ _).mono ?_;rintro e W' ⟨rfl,y0⟩;rw[G1.out];have J0:Below W.heap.size W W':=by rw[y0];exact(Below.refl _ W).alloc lR _
        clear y0;go_simp;exact hK _ W' (hG.trans (J0.mono hG.size)) rfl (fun _ _ _ h=>h)
       ·have e7:=aA (hp 7 (by decide)) rfl;simp only[e7]at hK |-;rw[if_pos (by rfl)];go_simp;exact hK _ _ hG rfl (fun _ _ _ h=>h)
       ·have e8:=aA (hp 8 (by decide)) rfl;simp only[e8]at hK |-;rw[if_pos (by rfl)];go_simp;exact hK _ _ hG rfl (fun _ _ _ h=>h)
       ·have e9:=aA (hp 9 (by decide)) rfl;simp only[e9]at hK |-;rw[if_neg (by intro hh;exact absurd (show false=true from hh) (by decide))];exact hK undef _ hG rfl (fun _ _ _ h=>h)
       ·have e9:=aA (hp 9 (by decide)) rfl;simp only[e9]at hK |-;rw[if_neg (by intro hh;exact absurd (show false=true from hh) (by decide))];exact hK undef _ hG rfl (fun _ _ _ h=>h)
       ·have e9:=aA (hp 9 (by decide)) rfl;simp only[e9]at hK |-;rw[if_neg (by intro hh;exact absurd (show false=true from hh) (by decide))];exact hK undef _ hG rfl (fun _ _ _ h=>h)
       ·have e9:=aA (hp 9 (by decide)) rfl;simp only[e9]at hK |-;rw[if_neg (by intro hh;exact absurd (show false=true from hh) (by decide))];exact hK undef _ hG rfl (fun _ _ _ h=>h)
       ·have e9:=aA (hp 9 (by decide)) rfl;simp only[e9]at hK |-;rw[if_neg (by intro hh;exact absurd (show false=true from hh) (by decide))];exact hK undef _ hG rfl (fun _ _ _ h=>h)
       ·have e9:=aA (hp 9 (by decide)) rfl;simp only[e9]at hK |-;rw[if_neg (by intro hh;exact absurd (show false=true from hh) (by decide))];exact hK undef _ hG rfl (fun _ _ _ h=>h)
       ·have e9:=aA (hp 9 (by decide)) rfl;simp only[e9]at hK |-;rw[if_neg (by intro hh;exact absurd (show false=true from hh) (by decide))];exact hK undef _ hG rfl (fun _ _ _ h=>h)
       ·have e9:=aA (hp 9 (by decide)) rfl;simp only[e9]at hK |-;rw[if_neg (by intro hh;exact absurd (show false=true from hh) (by decide))];exact hK undef _ hG rfl (fun _ _ _ h=>h)
       ·have e9:=aA (hp 9 (by decide)) rfl;simp only[e9]at hK |-;rw[if_neg (by intro hh;exact absurd (show false=true from hh) (by decide))];exact hK undef _ hG rfl (fun _ _ _ h=>h)
       ·have e9:=aA (hp 9 (by decide)) rfl;have z0:=aA (hp 18 (by decide)) rfl;simp only[e9,z0]at hK |-;rw[if_pos (by rfl)];go_simp;exact hK _ _ hG rfl (fun _ _ _ h=>h)
      have G1:Hid ((decide (0<=m.F) && decide (m.F<=(N:Int)-1))=true):=hide (by simp;omega);by_cases hT:0<=m.T/\m.T<(N:Int);rotate_left
      ·have l2:Hid ((decide (0<=m.T) && decide (m.T<=(N:Int)-1))=false):=hide (by simp;omega);have Hf:=hide (i2.out ⟨k,L0,by rw[<-Hm.out,show (decide (0<=m.T) && decide (m.T<(N:Int)))=false by simp;omega];simp⟩);go_wp2_with fail;clear n0 n1 n2 n3 n4 x0 x1;refine EA (fun W=>Below wr.heap.size wr W) (oC [.agg #[.int .i64 n.a.size,.slice n.a.B.ga n.a.B.t.len n.a.B.cap,.slice n.a.E.ga n.a.E.t.len n.a.E.cap,.int .i64 (N:Int),.slice n.la n.ln n.lc],.pointer (some ⟨w.heap.size+1,1,none⟩),.slice (some ⟨x.bag.bb,x.bag.bo,none⟩) x.bag.bn x.bag.bc,.int .i64 (k:Int),.pointer (some ⟨x.bag.bb,x.bag.bo+k*3,none⟩),.pointer (some ⟨x.bag.bb,x.bag.bo+k*3,none⟩),.int .i64 m.F,.bool true,.bool false,.bool false,.agg #[.int .i64 n.a.size,.slice n.a.B.ga n.a.B.t.len n.a.B.cap,.slice n.a.E.ga n.a.E.t.len n.a.E.cap,.int .i64 (N:Int),.slice n.la n.ln n.lc],.pointer (some ⟨w.heap.size+1,1,none⟩),.slice (some ⟨x.bag.bb,x.bag.bo,none⟩) x.bag.bn x.bag.bc,.int .i64 (k:Int),.pointer (some ⟨x.bag.bb,x.bag.bo+k*3,none⟩),.pointer (some ⟨x.bag.bb,x.bag.bo+k*3+1,none⟩),.int .i64 m.T,.bool false,.bool true,.bool true]) (by kernel_rfl) (by kernel_rfl) (by kernel_rfl) (⟨rfl,rfl,rfl,lR,fun _ _=>rfl⟩) ⟨?_,?_,?_,?_,?_,?_,?_,?_,?_,?_,?_,?_,?_,?_,?_,?_,?_,?_,?_,?_,trivial⟩ ?_;rotate_right
       ·intro t W hG hE;have u0:=aA (hE 19 (by decide)) rfl;have f0:=hide hG;clear hE hG;simp only[fill,Act.put,sX,sY,sU,u0];clear u0;have HB:=hide (d0.out.keep f0.out).below;clear f0;go_wp2;go_ret;exact⟨by rw[Hf.out];rfl,HB.out⟩
       all_goals intro t W hG hp K hK
       all_goals simp only[fill,Act.put,sX,sY,sU]at hK |-
       ·have cn:=(d0.out.keep hG).bn;have c0:=cn.cell 0;have c1:=cn.cell 1;have c2:=cn.cell 2;have c3:=cn.cell 3;have c4:=cn.cell 4;rw[o0.out]at c0 c1 c2 c3 c4;simp at c0 c1 c2 c3 c4;clear cn;rw[if_pos (by rfl)];go_simp;exact hK _ _ hG rfl (fun _ _ _ h=>h)
       ·rw[if_pos (by rfl)];go_simp;exact hK _ _ hG rfl (fun _ _ _ h=>h)
       ·have e1:=aA (hp 1 (by decide)) rfl;have cx:=(d0.out.keep hG).bx.cell 1;rw[O0.out]at cx;simp at cx;rw[Z0.out]at cx;simp only[e1]at hK |-;rw[if_pos (by rfl)];go_simp;exact hK _ _ hG rfl (fun _ _ _ h=>h)
       ·rw[if_pos (by rfl)];go_simp;exact hK _ _ hG rfl (fun _ _ _ h=>h)
       ·have e2:=aA (hp 2 (by decide)) rfl;have e3:=aA (hp 3 (by decide)) rfl;simp only[e2,e3]at hK |-;rw[if_pos (by rfl)];go_simp;exact hK _ _ hG rfl (fun _ _ _ h=>h)
       ·have e4:=aA (hp 4 (by decide)) rfl;simp only[e4]at hK |-;rw[if_pos (by rfl)];go_simp;exact hK _ _ hG rfl (fun _ _ _ h=>h)
       ·have e5:=aA (hp 5 (by decide)) rfl;have cx:=j2.out W hG;simp only[e5]at hK |-;rw[if_pos (by rfl)];go_simp;exact hK _ _ hG rfl (fun _ _ _ h=>h)
       ·have e0:=aA (hp 0 (by decide)) rfl;have e6:=aA (hp 6 (by decide)) rfl;simp only[e0,e6]at hK |-;rw[if_pos (by rfl)];go_simp;go_at_call 33;refine(o1.out _ _).mono ?_;rintro e W' ⟨rfl,y0⟩;rw[G1.out];have J0:Below W.heap.size W W':=by rw[y0];exact(Below.refl _ W).alloc lR _
        clear y0;go_simp;exact hK _ W' (hG.trans (J0.mono hG.size)) rfl (fun _ _ _ h=>h)
       ·have e7:=aA (hp 7 (by decide)) rfl;simp only[e7]at hK |-;rw[if_pos (by rfl)];go_simp;exact hK _ _ hG rfl (fun _ _ _ h=>h)
       ·have e8:=aA (hp 8 (by decide)) rfl;simp only[e8]at hK |-;rw[if_pos (by rfl)];go_simp;exact hK _ _ hG rfl (fun _ _ _ h=>h)
       ·have e9:=aA (hp 9 (by decide)) rfl;have cn:=(d0.out.keep hG).bn;have c0:=cn.cell 0;have c1:=cn.cell 1;have c2:=cn.cell 2;have c3:=cn.cell 3;have c4:=cn.cell 4;rw[o0.out]at c0 c1 c2 c3 c4;simp at c0 c1 c2 c3 c4;clear cn;simp only[e9]at hK |-;rw[if_pos (by rfl)];go_simp;exact hK _ _ hG rfl (fun _ _ _ h=>h)
       ·have e9:=aA (hp 9 (by decide)) rfl;simp only[e9]at hK |-;rw[if_pos (by rfl)];go_simp;exact hK _ _ hG rfl (fun _ _ _ h=>h)
       ·have e9:=aA (hp 9 (by decide)) rfl;have R0:=aA (hp 11 (by decide)) rfl;have cx:=(d0.out.keep hG).bx.cell 1;rw[O0.out]at cx;simp at cx;rw[Z0.out]at cx;simp only[e9,R0]at hK |-;rw[if_pos (by rfl)];go_simp;exact hK _ _ hG rfl (fun _ _ _ h=>h)
       ·have e9:=aA (hp 9 (by decide)) rfl;simp only[e9]at hK |-;rw[if_pos (by rfl)];go_simp;exact hK _ _ hG rfl (fun _ _ _ h=>h)
       ·have e9:=aA (hp 9 (by decide)) rfl;have S0:=aA (hp 12 (by decide)) rfl;have U0:=aA (hp 13 (by decide)) rfl;simp only[e9,S0,U0]at hK |-;rw[if_pos (by rfl)];go_simp;exact hK _ _ hG rfl (fun _ _ _ h=>h)
       ·have e9:=aA (hp 9 (by decide)) rfl;have T0:=aA (hp 14 (by decide)) rfl;simp only[e9,T0]at hK |-;rw[if_pos (by rfl)];go_simp;exact hK _ _ hG rfl (fun _ _ _ h=>h)
       ·have e9:=aA (hp 9 (by decide)) rfl;have V0:=aA (hp 15 (by decide)) rfl;have cx:=O2.out W hG;simp only[e9,V0]at hK |-;rw[if_pos (by rfl)];go_simp;exact hK _ _ hG rfl (fun _ _ _ h=>h)
       ·have e9:=aA (hp 9 (by decide)) rfl;have Q0:=aA (hp 10 (by decide)) rfl;have I0:=aA (hp 16 (by decide)) rfl;simp only[e9,Q0,I0]at hK |-;rw[if_pos (by rfl)];go_simp;go_at_call 33;refine(o1.out _ _).mono ?_;rintro e W' ⟨rfl,y0⟩;rw[l2.out];have J0:Below W.heap.size W W':=by rw[y0];exact(Below.refl _ W).alloc lR _
        clear y0;go_simp;exact hK _ W' (hG.trans (J0.mono hG.size)) rfl (fun _ _ _ h=>h)
       ·have e9:=aA (hp 9 (by decide)) rfl;have s0:=aA (hp 17 (by decide)) rfl;simp only[e9,s0]at hK |-;rw[if_pos (by rfl)];go_simp;exact hK _ _ hG rfl (fun _ _ _ h=>h)
       ·have e9:=aA (hp 9 (by decide)) rfl;have z0:=aA (hp 18 (by decide)) rfl;simp only[e9,z0]at hK |-;rw[if_pos (by rfl)];go_simp;exact hK _ _ hG rfl (fun _ _ _ h=>h)
      have l2:Hid ((decide (0<=m.T) && decide (m.T<=(N:Int)-1))=true):=hide (by simp;omega);have w1:Hid (∀q,q<k+1->(!(decide (0<=(x.bag.M q).F) && decide ((x.bag.M q).F<(N:Int))) || !(decide (0<=(x.bag.M q).T) && decide ((x.bag.M q).T<(N:Int))))=false):=hide (fun q hq=>by
       by_cases e:q=k
       ·rw[e,<-Hm.out];simp;omega
       ·exact d1.out q (by omega))
      go_wp2_with fail;clear n0 n1 n2 n3 n4 x0 x1;refine EA (fun W=>Below wr.heap.size wr W) (oC [.agg #[.int .i64 n.a.size,.slice n.a.B.ga n.a.B.t.len n.a.B.cap,.slice n.a.E.ga n.a.E.t.len n.a.E.cap,.int .i64 (N:Int),.slice n.la n.ln n.lc],.pointer (some ⟨w.heap.size+1,1,none⟩),.slice (some ⟨x.bag.bb,x.bag.bo,none⟩) x.bag.bn x.bag.bc,.int .i64 (k:Int),.pointer (some ⟨x.bag.bb,x.bag.bo+k*3,none⟩),.pointer (some ⟨x.bag.bb,x.bag.bo+k*3,none⟩),.int .i64 m.F,.bool true,.bool false,.bool false,.agg #[.int .i64 n.a.size,.slice n.a.B.ga n.a.B.t.len n.a.B.cap,.slice n.a.E.ga n.a.E.t.len n.a.E.cap,.int .i64 (N:Int),.slice n.la n.ln n.lc],.pointer (some ⟨w.heap.size+1,1,none⟩),.slice (some ⟨x.bag.bb,x.bag.bo,none⟩) x.bag.bn x.bag.bc,.int .i64 (k:Int),.pointer (some ⟨x.bag.bb,x.bag.bo+k*3,none⟩),.pointer (some ⟨x.bag.bb,x.bag.bo+k*3+1,none⟩),.int .i64 m.T,.bool true,.bool false,.bool false]) (by kernel_rfl) (by kernel_rfl) (by kernel_rfl) (⟨rfl,rfl,rfl,lR,fun _ _=>rfl⟩) ⟨?_,?_,?_,?_,?_,?_,?_,?_,?_,?_,?_,?_,?_,?_,?_,?_,?_,?_,?_,?_,trivial⟩ ?_;rotate_right
      ·intro t W hG hE;have u0:=aA (hE 19 (by decide)) rfl;have f0:=hide hG;clear hE hG;simp only[fill,Act.put,sX,sY,sU,u0];clear u0;have P2:=hide (d0.out.keep f0.out);clear f0;go_wp2;go_roundw
       case rel =>
        first
        | exact⟨k+1,by omega,by go_num,w1,P2⟩
        | ((try rw[<-Z0.out]);(repeat apply Exists.intro);refine⟨?_,rfl⟩;exact⟨k+1,by omega,by go_num,w1,P2⟩)
       case measure=>simp[intOf];omega
      all_goals intro t W hG hp K hK
      all_goals simp only[fill,Act.put,sX,sY,sU]at hK |-
      ·have cn:=(d0.out.keep hG).bn;have c0:=cn.cell 0;have c1:=cn.cell 1;have c2:=cn.cell 2;have c3:=cn.cell 3;have c4:=cn.cell 4;rw[o0.out]at c0 c1 c2 c3 c4;simp at c0 c1 c2 c3 c4;clear cn;rw[if_pos (by rfl)];go_simp;exact hK _ _ hG rfl (fun _ _ _ h=>h)
      ·rw[if_pos (by rfl)];go_simp;exact hK _ _ hG rfl (fun _ _ _ h=>h)
      ·have e1:=aA (hp 1 (by decide)) rfl;have cx:=(d0.out.keep hG).bx.cell 1;rw[O0.out]at cx;simp at cx;rw[Z0.out]at cx;simp only[e1]at hK |-;rw[if_pos (by rfl)];go_simp;exact hK _ _ hG rfl (fun _ _ _ h=>h)
      ·rw[if_pos (by rfl)];go_simp;exact hK _ _ hG rfl (fun _ _ _ h=>h)
      ·have e2:=aA (hp 2 (by decide)) rfl;have e3:=aA (hp 3 (by decide)) rfl;simp only[e2,e3]at hK |-;rw[if_pos (by rfl)];go_simp;exact hK _ _ hG rfl (fun _ _ _ h=>h)
      ·have e4:=aA (hp 4 (by decide)) rfl;simp only[e4]at hK |-;rw[if_pos (by rfl)];go_simp;exact hK _ _ hG rfl (fun _ _ _ h=>h)
      ·have e5:=aA (hp 5 (by decide)) rfl;have cx:=j2.out W hG;simp only[e5]at hK |-;rw[if_pos (by rfl)];go_simp;exact hK _ _ hG rfl (fun _ _ _ h=>h)
      ·have e0:=aA (hp 0 (by decide)) rfl;have e6:=aA (hp 6 (by decide)) rfl;simp only[e0,e6]at hK |-;rw[if_pos (by rfl)];go_simp;go_at_call 33;refine(o1.out _ _).mono ?_;rintro e W' ⟨rfl,y0⟩;rw[G1.out];have J0:Below W.heap.size W W':=by rw[y0];exact(Below.refl _ W).alloc lR _
       clear y0;go_simp;exact hK _ W' (hG.trans (J0.mono hG.size)) rfl (fun _ _ _ h=>h)
      ·have e7:=aA (hp 7 (by decide)) rfl;simp only[e7]at hK |-;rw[if_pos (by rfl)];go_simp;exact hK _ _ hG rfl (fun _ _ _ h=>h)
      ·have e8:=aA (hp 8 (by decide)) rfl;simp only[e8]at hK |-;rw[if_pos (by rfl)];go_simp;exact hK _ _ hG rfl (fun _ _ _ h=>h)
      ·have e9:=aA (hp 9 (by decide)) rfl;have cn:=(d0.out.keep hG).bn;have c0:=cn.cell 0;have c1:=cn.cell 1;have c2:=cn.cell 2;have c3:=cn.cell 3;have c4:=cn.cell 4;rw[o0.out]at c0 c1 c2 c3 c4;simp at c0 c1 c2 c3 c4;clear cn;simp only[e9]at hK |-;rw[if_pos (by rfl)];go_simp;exact hK _ _ hG rfl (fun _ _ _ h=>h)
      ·have e9:=aA (hp 9 (by decide)) rfl;simp only[e9]at hK |-;rw[if_pos (by rfl)];go_simp;exact hK _ _ hG rfl (fun _ _ _ h=>h)
      ·have e9:=aA (hp 9 (by decide)) rfl;have R0:=aA (hp 11 (by decide)) rfl;have cx:=(d0.out.keep hG).bx.cell 1;rw[O0.out]at cx;simp at cx;rw[Z0.out]at cx;simp only[e9,R0]at hK |-;rw[if_pos (by rfl)];go_simp;exact hK _ _ hG rfl (fun _ _ _ h=>h)
      ·have e9:=aA (hp 9 (by decide)) rfl;simp only[e9]at hK |-;rw[if_pos (by rfl)];go_simp;exact hK _ _ hG rfl (fun _ _ _ h=>h)
      ·have e9:=aA (hp 9 (by decide)) rfl;have S0:=aA (hp 12 (by decide)) rfl;have U0:=aA (hp 13 (by decide)) rfl;simp only[e9,S0,U0]at hK |-;rw[if_pos (by rfl)];go_simp;exact hK _ _ hG rfl (fun _ _ _ h=>h)
      ·have e9:=aA (hp 9 (by decide)) rfl;have T0:=aA (hp 14 (by decide)) rfl;simp only[e9,T0]at hK |-;rw[if_pos (by rfl)];go_simp;exact hK _ _ hG rfl (fun _ _ _ h=>h)
      ·have e9:=aA (hp 9 (by decide)) rfl;have V0:=aA (hp 15 (by decide)) rfl;have cx:=O2.out W hG;simp only[e9,V0]at hK |-;rw[if_pos (by rfl)];go_simp;exact hK _ _ hG rfl (fun _ _ _ h=>h)
      ·have e9:=aA (hp 9 (by decide)) rfl;have Q0:=aA (hp 10 (by decide)) rfl;have I0:=aA (hp 16 (by decide)) rfl;simp only[e9,Q0,I0]at hK |-;rw[if_pos (by rfl)];go_simp;go_at_call 33;refine(o1.out _ _).mono ?_;rintro e W' ⟨rfl,y0⟩;rw[l2.out];have J0:Below W.heap.size W W':=by rw[y0];exact(Below.refl _ W).alloc lR _
       clear y0;go_simp;exact hK _ W' (hG.trans (J0.mono hG.size)) rfl (fun _ _ _ h=>h)
      ·have e9:=aA (hp 9 (by decide)) rfl;have s0:=aA (hp 17 (by decide)) rfl;simp only[e9,s0]at hK |-;rw[if_pos (by rfl)];go_simp;exact hK _ _ hG rfl (fun _ _ _ h=>h)
      ·have e9:=aA (hp 9 (by decide)) rfl;have z0:=aA (hp 18 (by decide)) rfl;simp only[e9,z0]at hK |-;rw[if_pos (by rfl)];go_simp;exact hK _ _ hG rfl (fun _ _ _ h=>h)
     ·have E1:k=x.bag.bn:=by omega
      have p1:¬ (k:Int)<(x.bag.bn:Int):=by omega
      have Q2:=hide (M2.out (fun q hq=>d1.out q (by omega)));clear d1 i2 M2;go_wp2_with fail;clear n0 n1 n2 n3 n4 x0 x1
      go_loopw [11] (fun q wr=>∃k:Nat,k<=x.bag.bn/\q=.int .i64 k/\Hid (∀q,q<k->(x.bag.M q).b.length<=60)/\Hid (ChG w n x wr)) (fun q _=>x.bag.bn-(intOf q).toNat)
      case atStart=>exact⟨0,zL,rfl,hide (fun q hq=>absurd hq nZ),d0⟩
      case round =>
       clear d0 E1 p1;obtain⟨k2,p3,hq,d1,d0⟩:=hrel;subst hq;have n0:=d0.out.bn.cell 0;have n1:=d0.out.bn.cell 1;have n2:=d0.out.bn.cell 2;have n3:=d0.out.bn.cell 3;have n4:=d0.out.bn.cell 4;rw[o0.out]at n0 n1 n2 n3 n4;simp at n0 n1 n2 n3 n4;have x0:=d0.out.bx.cell 0;have x1:=d0.out.bx.cell 1;rw[O0.out]at x0 x1;simp at x0 x1;by_cases k1:k2<x.bag.bn
       ·have p1:(k2:Int)<(x.bag.bn:Int):=by omega
        have i1:=Hx.out.bag.ba (by omega);rw[i1]at x1;have Z0:=hide i1;have c2:=(Hx.out.below d0.out.below lR).bag.c2 k2 k1;have R2:=(Hx.out).bag.lens k2 k1;unfold maxLen at R2;obtain⟨s,hs⟩:∃s,s=ByteArray.mk (x.bag.M k2).b.toArray:=⟨_,rfl⟩;have g3:s.size=(x.bag.M k2).b.length:=by rw[hs];simp[ByteArray.size]
        rw[<-hs]at c2;obtain⟨ln,u2⟩:∃ln,ln=(x.bag.M k2).b.length:=⟨_,rfl⟩;rw[<-u2]at g3 R2;have S2:=hide u2;clear i1 hs u2;by_cases x2:60<ln
        ·have h3:(60:Int)<(ln:Int):=by omega
         have Hf:Hid (x.err n.net=2):=hide (by
          rw[Q2.out,if_pos];rw[List.any_eq_true];exact⟨k2,by simpa using k1,by rw[<-S2.out];simpa using x2⟩)
         have HB:=hide d0.out.below;clear x2;go_wp2;go_ret;exact⟨by rw[Hf.out];rfl,HB.out⟩
        ·have h3:¬ (60:Int)<(ln:Int):=by omega
         have w1:Hid (∀q,q<k2+1->(x.bag.M q).b.length<=60):=hide (fun q hq=>by
          by_cases e:q=k2
          ·rw[e,<-S2.out];omega
          ·exact d1.out q (by omega))
         clear x2 d1;go_wp2;go_roundw
         case rel =>
          first
          | exact⟨k2+1,by omega,by go_num,w1,d0⟩
          | ((try rw[<-Z0.out]);(repeat apply Exists.intro);refine⟨?_,rfl⟩;exact⟨k2+1,by omega,by go_num,w1,d0⟩)
         case measure=>simp[intOf];omega
       ·have p1:¬ (k2:Int)<(x.bag.bn:Int):=by omega
        have Hf:Hid (x.err n.net=0):=hide (by
         rw[Q2.out,if_neg];rw[Bool.not_eq_true,List.any_eq_false];intro q hq;have m3:q<x.bag.bn:=by simpa using hq
         have:=d1.out q (by omega);simpa using this)
        have HB:=hide d0.out.below;clear d1;go_wp2;go_ret;exact⟨by rw[Hf.out];rfl,HB.out⟩
theorem aP (n:dA)(x:iA)(w:World)(h:n.In w.heap.size w)(hx:x.In w.heap.size w):
 Calls Tryz.prog 9 #[n.val,x.val] w fun e w'=>e=.returned (.int .i64 (x.err n.net))/\Below w.heap.size w w':=by
 by_cases hc:n.net.check=0
 ·exact xQ n x n.nodes.toNat w h hx hc (by have:=(Net.good_of_check hc).lo;have:n.net.nodes=n.nodes:=rfl;omega)
 ·exact yQ n x w h hc
end Go.Proofs.YtjhkadffaephmacGreat
