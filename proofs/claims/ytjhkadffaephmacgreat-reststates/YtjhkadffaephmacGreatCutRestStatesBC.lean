import Derived.Test.YtjhkadffaephmacGreatCutRestStatesBB
import Derived.BigRegion
namespace Go.Proofs.YtjhkadffaephmacGreat
set_option maxHeartbeats 16000000
set_option maxRecDepth 100000
open Go.RowKit
theorem ZO (a:xA)(g:a.alg.Good)(x:Brk)(f:a.alg.Fits x)(w:World)(h:a.In w.heap.size w)(hl:x.law=1):
 Calls Tryz.prog 132 #[a.val,x.val] w fun e w'=>e=.returned (.bool (a.alg.holds x))/\Below w.heap.size w w':=by
 have:2<=a.size:=g.lo;have:a.size<=24:=g.hi;have p0:(a.B.t.len:Int)=a.size:=g.bl;have f0:=h.B.ga (by omega);have fa:x.a<a.size:=f.a_lt g;have fb:x.b<a.size:=f.b_lt g;have fc:x.c<a.size:=f.c_lt g;have g0:=f.a0;have h0:=f.b0;have i0:=f.c0;have j0:=f.e0;obtain⟨l,xa,xb,xc,xe⟩:=x;simp only at hl fa fb fc g0 h0 i0 j0;subst hl;obtain⟨i,rfl⟩:=Int.eq_ofNat_of_zero_le g0;obtain⟨j,rfl⟩:=Int.eq_ofNat_of_zero_le h0;obtain⟨k,rfl⟩:=Int.eq_ofNat_of_zero_le i0;obtain⟨m,rfl⟩:=Int.eq_ofNat_of_zero_le j0;obtain⟨z,hz⟩:=Int.eq_ofNat_of_zero_le (show 0<=a.size-1 by omega);have hI:=tC h (.cells #[.int .i64 a.size,.slice (some ⟨a.B.gb,a.B.go,none⟩) a.B.t.len a.B.cap,a.E.val] 24) (.cells #[.int .i64 1,.int .i64 i,.int .i64 j,.int .i64 k,.int .i64 m] 98);have k0:a.val=.agg #[.int .i64 a.size,.slice (some ⟨a.B.gb,a.B.go,none⟩) a.B.t.len a.B.cap,a.E.val]:=by simp only[xA.val,Mat.val,f0]
 obtain⟨q1,q0,m0,u0,v0,w0,x0⟩:=UB g hI i j (by omega) (by omega);obtain⟨q2,y0,o0,z0,A0,B0,C0⟩:=UB g hI j i (by omega) (by omega);have d0:=hide (show a.alg.holds ⟨1,i,j,k,m⟩=((q1:Int) == (q2:Int)) by simp[Alg.holds,m0,o0]);rw[k0];clear m0 o0 p0 f g hI h k0 f0;simp only[Brk.val];go_enter Tryz.func132,Tryz.ntmps132;go_wp2_with fail
 go_quiet (fail)
 go_wp2_with fail
 go_quiet (fail)
 go_wp2;go_ret;exact⟨by rw[d0.out];rfl,below_drewN (GA w _ _ _) _⟩
theorem YO (a:xA)(g:a.alg.Good)(x:Brk)(f:a.alg.Fits x)(w:World)(h:a.In w.heap.size w)(hl:x.law=2):
 Calls Tryz.prog 132 #[a.val,x.val] w fun e w'=>e=.returned (.bool (a.alg.holds x))/\Below w.heap.size w w':=by
 have:2<=a.size:=g.lo;have:a.size<=24:=g.hi;have u0:(a.B.t.len:Int)=a.size:=g.bl;have f0:=h.B.ga (by omega);have fa:x.a<a.size:=f.a_lt g;have fb:x.b<a.size:=f.b_lt g;have fc:x.c<a.size:=f.c_lt g;have g0:=f.a0;have h0:=f.b0;have i0:=f.c0;have j0:=f.e0;obtain⟨l,xa,xb,xc,xe⟩:=x;simp only at hl fa fb fc g0 h0 i0 j0;subst hl;obtain⟨i,rfl⟩:=Int.eq_ofNat_of_zero_le g0;obtain⟨j,rfl⟩:=Int.eq_ofNat_of_zero_le h0;obtain⟨k,rfl⟩:=Int.eq_ofNat_of_zero_le i0;obtain⟨m,rfl⟩:=Int.eq_ofNat_of_zero_le j0;obtain⟨z,hz⟩:=Int.eq_ofNat_of_zero_le (show 0<=a.size-1 by omega);have hI:=tC h (.cells #[.int .i64 a.size,.slice (some ⟨a.B.gb,a.B.go,none⟩) a.B.t.len a.B.cap,a.E.val] 24) (.cells #[.int .i64 2,.int .i64 i,.int .i64 j,.int .i64 k,.int .i64 m] 98);have k0:a.val=.agg #[.int .i64 a.size,.slice (some ⟨a.B.gb,a.B.go,none⟩) a.B.t.len a.B.cap,a.E.val]:=by simp only[xA.val,Mat.val,f0]
 obtain⟨q1,v0,m0,w0,x0,y0,z0⟩:=UB g hI i j (by omega) (by omega);obtain⟨q2,A0,o0,B0,C0,D0,E0⟩:=UB g hI j k (by omega) (by omega);obtain⟨q3,F0,p0,G0,H0,I0,J0⟩:=UB g hI i q2 (by omega) (by omega);obtain⟨q4,K0,q0,L0,M0,N0,O0⟩:=UB g hI q1 k (by omega) (by omega);have d0:=hide (show a.alg.holds ⟨2,i,j,k,m⟩=((q3:Int) == (q4:Int)) by simp[Alg.holds,m0,o0,p0,q0]);rw[k0];clear m0 o0 p0 q0 u0 f g hI h k0 f0;simp only[Brk.val];go_enter Tryz.func132,Tryz.ntmps132;go_wp2_with fail
 go_quiet (fail)
 go_wp2_with fail
 go_quiet (fail)
 go_wp2;go_ret;exact⟨by rw[d0.out];rfl,below_drewN (GA w _ _ _) _⟩
theorem kN (a:xA)(g:a.alg.Good)(x:Brk)(f:a.alg.Fits x)(w:World)(h:a.In w.heap.size w)(hl:x.law=3)(hg:(a.alg.B.get x.a x.b == x.a)=true):
 Calls Tryz.prog 132 #[a.val,x.val] w fun e w'=>e=.returned (.bool (a.alg.holds x))/\Below w.heap.size w w':=by
 have:2<=a.size:=g.lo;have:a.size<=24:=g.hi;have o0:(a.B.t.len:Int)=a.size:=g.bl;have g0:=h.B.ga (by omega);have fa:x.a<a.size:=f.a_lt g;have fb:x.b<a.size:=f.b_lt g;have fc:x.c<a.size:=f.c_lt g;have h0:=f.a0;have i0:=f.b0;have j0:=f.c0;have k0:=f.e0;obtain⟨l,xa,xb,xc,xe⟩:=x;simp only at hl fa fb fc h0 i0 j0 k0 hg;subst hl;obtain⟨i,rfl⟩:=Int.eq_ofNat_of_zero_le h0;obtain⟨j,rfl⟩:=Int.eq_ofNat_of_zero_le i0;obtain⟨k,rfl⟩:=Int.eq_ofNat_of_zero_le j0;obtain⟨m,rfl⟩:=Int.eq_ofNat_of_zero_le k0;obtain⟨z,hz⟩:=Int.eq_ofNat_of_zero_le (show 0<=a.size-1 by omega);have hI:=tC h (.cells #[.int .i64 a.size,.slice (some ⟨a.B.gb,a.B.go,none⟩) a.B.t.len a.B.cap,a.E.val] 24) (.cells #[.int .i64 3,.int .i64 i,.int .i64 j,.int .i64 k,.int .i64 m] 98);have m0:a.val=.agg #[.int .i64 a.size,.slice (some ⟨a.B.gb,a.B.go,none⟩) a.B.t.len a.B.cap,a.E.val]:=by simp only[xA.val,Mat.val,g0]
 obtain⟨q1,p0,d0,q0,u0,v0,w0⟩:=UB g hI i j (by omega) (by omega);have HG:=hide (show ((q1:Int) == (i:Int))=true by rw[<-d0];exact hg);have f0:=hide (show a.alg.holds ⟨3,i,j,k,m⟩=true by simp[Alg.holds,d0];left;simpa [d0] using hg);rw[m0];clear d0 o0 f g hI h m0 g0;have:((q1:Int) == (i:Int))=true:=HG.out;clear hg HG;simp only[Brk.val];go_enter Tryz.func132,Tryz.ntmps132;go_wp2_with fail
 go_quiet (fail)
 go_wp2_with fail;go_ret;exact⟨by rw[f0.out];rfl,GA w _ _ _⟩
theorem lN (a:xA)(g:a.alg.Good)(x:Brk)(f:a.alg.Fits x)(w:World)(h:a.In w.heap.size w)(hl:x.law=3)(hg:(a.alg.B.get x.a x.b == x.a)=false):
 Calls Tryz.prog 132 #[a.val,x.val] w fun e w'=>e=.returned (.bool (a.alg.holds x))/\Below w.heap.size w w':=by
 have:2<=a.size:=g.lo;have:a.size<=24:=g.hi;have o0:(a.B.t.len:Int)=a.size:=g.bl;have g0:=h.B.ga (by omega);have fa:x.a<a.size:=f.a_lt g;have fb:x.b<a.size:=f.b_lt g;have fc:x.c<a.size:=f.c_lt g;have h0:=f.a0;have i0:=f.b0;have j0:=f.c0;have k0:=f.e0;obtain⟨l,xa,xb,xc,xe⟩:=x;simp only at hl fa fb fc h0 i0 j0 k0 hg;subst hl;obtain⟨i,rfl⟩:=Int.eq_ofNat_of_zero_le h0;obtain⟨j,rfl⟩:=Int.eq_ofNat_of_zero_le i0;obtain⟨k,rfl⟩:=Int.eq_ofNat_of_zero_le j0;obtain⟨m,rfl⟩:=Int.eq_ofNat_of_zero_le k0;obtain⟨z,hz⟩:=Int.eq_ofNat_of_zero_le (show 0<=a.size-1 by omega);have hI:=tC h (.cells #[.int .i64 a.size,.slice (some ⟨a.B.gb,a.B.go,none⟩) a.B.t.len a.B.cap,a.E.val] 24) (.cells #[.int .i64 3,.int .i64 i,.int .i64 j,.int .i64 k,.int .i64 m] 98);have m0:a.val=.agg #[.int .i64 a.size,.slice (some ⟨a.B.gb,a.B.go,none⟩) a.B.t.len a.B.cap,a.E.val]:=by simp only[xA.val,Mat.val,g0]
 obtain⟨q1,p0,f0,q0,u0,v0,w0⟩:=UB g hI i j (by omega) (by omega);have HG:=hide (show ((q1:Int) == (i:Int))=false by rw[<-f0];exact hg);have d0:=hide (show a.alg.holds ⟨3,i,j,k,m⟩=((q1:Int) == (j:Int)) by simp only[Alg.holds];rw[f0,HG.out];simp);rw[m0];clear f0 o0 f g hI h m0 g0;have:((q1:Int) == (i:Int))=false:=HG.out;clear hg HG;simp only[Brk.val];go_enter Tryz.func132,Tryz.ntmps132;go_wp2_with fail
 go_quiet (fail)
 go_wp2_with fail;go_ret;exact⟨by rw[d0.out];rfl,GA w _ _ _⟩
theorem XO (a:xA)(g:a.alg.Good)(x:Brk)(f:a.alg.Fits x)(w:World)(h:a.In w.heap.size w)(hl:x.law=4):
 Calls Tryz.prog 132 #[a.val,x.val] w fun e w'=>e=.returned (.bool (a.alg.holds x))/\Below w.heap.size w w':=by
 have:2<=a.size:=g.lo;have:a.size<=24:=g.hi;have o0:(a.B.t.len:Int)=a.size:=g.bl;have g0:=h.B.ga (by omega);have fa:x.a<a.size:=f.a_lt g;have fb:x.b<a.size:=f.b_lt g;have fc:x.c<a.size:=f.c_lt g;have h0:=f.a0;have i0:=f.b0;have j0:=f.c0;have k0:=f.e0;obtain⟨l,xa,xb,xc,xe⟩:=x;simp only at hl fa fb fc h0 i0 j0 k0;subst hl;obtain⟨i,rfl⟩:=Int.eq_ofNat_of_zero_le h0;obtain⟨j,rfl⟩:=Int.eq_ofNat_of_zero_le i0;obtain⟨k,rfl⟩:=Int.eq_ofNat_of_zero_le j0;obtain⟨m,rfl⟩:=Int.eq_ofNat_of_zero_le k0;obtain⟨z,hz⟩:=Int.eq_ofNat_of_zero_le (show 0<=a.size-1 by omega);have hI:=tC h (.cells #[.int .i64 a.size,.slice (some ⟨a.B.gb,a.B.go,none⟩) a.B.t.len a.B.cap,a.E.val] 24) (.cells #[.int .i64 4,.int .i64 i,.int .i64 j,.int .i64 k,.int .i64 m] 98);have m0:a.val=.agg #[.int .i64 a.size,.slice (some ⟨a.B.gb,a.B.go,none⟩) a.B.t.len a.B.cap,a.E.val]:=by simp only[xA.val,Mat.val,g0]
 obtain⟨q1,v0,p0,w0,x0,y0,z0⟩:=UB g hI i j (by omega) (by omega);obtain⟨q2,A0,f0,q0,B0,u0,C0⟩:=UB g hI 0 i (by omega) (by omega);simp only[Int.natCast_zero,Nat.add_zero]at u0 q0 f0;have d0:=hide (show a.alg.holds ⟨4,i,j,k,m⟩=((q2:Int) == 0) by simp[Alg.holds,f0]);rw[m0];clear p0 f0 o0 f g hI h m0 g0;simp only[Brk.val];go_enter Tryz.func132,Tryz.ntmps132;go_wp2_with fail
 go_quiet (fail)
 go_wp2_with fail
 go_quiet (fail)
 go_wp2;go_ret;exact⟨by rw[d0.out];rfl,below_drewN (GA w _ _ _) _⟩
theorem WO (a:xA)(g:a.alg.Good)(x:Brk)(f:a.alg.Fits x)(w:World)(h:a.In w.heap.size w)(hl:x.law=5):
 Calls Tryz.prog 132 #[a.val,x.val] w fun e w'=>e=.returned (.bool (a.alg.holds x))/\Below w.heap.size w w':=by
 have:2<=a.size:=g.lo;have:a.size<=24:=g.hi;have o0:(a.B.t.len:Int)=a.size:=g.bl;have f0:=h.B.ga (by omega);have fa:x.a<a.size:=f.a_lt g;have fb:x.b<a.size:=f.b_lt g;have fc:x.c<a.size:=f.c_lt g;have g0:=f.a0;have h0:=f.b0;have i0:=f.c0;have j0:=f.e0;obtain⟨l,xa,xb,xc,xe⟩:=x;simp only at hl fa fb fc g0 h0 i0 j0;subst hl;obtain⟨i,rfl⟩:=Int.eq_ofNat_of_zero_le g0;obtain⟨j,rfl⟩:=Int.eq_ofNat_of_zero_le h0;obtain⟨k,rfl⟩:=Int.eq_ofNat_of_zero_le i0;obtain⟨m,rfl⟩:=Int.eq_ofNat_of_zero_le j0;obtain⟨z,hz⟩:=Int.eq_ofNat_of_zero_le (show 0<=a.size-1 by omega);have hI:=tC h (.cells #[.int .i64 a.size,.slice (some ⟨a.B.gb,a.B.go,none⟩) a.B.t.len a.B.cap,a.E.val] 24) (.cells #[.int .i64 5,.int .i64 i,.int .i64 j,.int .i64 k,.int .i64 m] 98);have k0:a.val=.agg #[.int .i64 a.size,.slice (some ⟨a.B.gb,a.B.go,none⟩) a.B.t.len a.B.cap,a.E.val]:=by simp only[xA.val,Mat.val,f0]
 obtain⟨q1,q0,p0,u0,v0,w0,x0⟩:=UB g hI i j (by omega) (by omega);obtain⟨q2,y0,m0,z0,A0,B0,C0⟩:=UB g hI z i (by omega) (by omega);have d0:=hide (show a.alg.holds ⟨5,i,j,k,m⟩=((q2:Int) == (i:Int)) by simp only[Alg.holds];rw[show a.alg.size-1=(z:Int) from hz,m0];simp);rw[k0];clear p0 m0 o0 f g hI h k0 f0;simp only[Brk.val];go_enter Tryz.func132,Tryz.ntmps132;go_wp2_with fail
 go_quiet (fail)
 go_wp2_with fail
 go_quiet (fail)
 go_wp2;go_ret;exact⟨by rw[d0.out];rfl,below_drewN (GA w _ _ _) _⟩
theorem VO (a:xA)(g:a.alg.Good)(x:Brk)(f:a.alg.Fits x)(w:World)(h:a.In w.heap.size w)(hl:x.law=6):
 Calls Tryz.prog 132 #[a.val,x.val] w fun e w'=>e=.returned (.bool (a.alg.holds x))/\Below w.heap.size w w':=by
 have:2<=a.size:=g.lo;have:a.size<=24:=g.hi;have p0:(a.B.t.len:Int)=a.size:=g.bl;have f0:=h.B.ga (by omega);have fa:x.a<a.size:=f.a_lt g;have fb:x.b<a.size:=f.b_lt g;have fc:x.c<a.size:=f.c_lt g;have g0:=f.a0;have h0:=f.b0;have i0:=f.c0;have j0:=f.e0;have fe:x.e<a.E.t.len:=f.e_lt (by omega);have k0:=h.E.ga (by omega);obtain⟨l,xa,xb,xc,xe⟩:=x;simp only at hl fa fb fc g0 h0 i0 j0 fe;subst hl;obtain⟨i,rfl⟩:=Int.eq_ofNat_of_zero_le g0;obtain⟨j,rfl⟩:=Int.eq_ofNat_of_zero_le h0;obtain⟨k,rfl⟩:=Int.eq_ofNat_of_zero_le i0;obtain⟨m,rfl⟩:=Int.eq_ofNat_of_zero_le j0;obtain⟨z,hz⟩:=Int.eq_ofNat_of_zero_le (show 0<=a.size-1 by omega);have hI:=tC h (.cells #[.int .i64 a.size,.slice (some ⟨a.B.gb,a.B.go,none⟩) a.B.t.len a.B.cap,.slice (some ⟨a.E.gb,a.E.go,none⟩) a.E.t.len a.E.cap] 24) (.cells #[.int .i64 6,.int .i64 i,.int .i64 j,.int .i64 k,.int .i64 m] 98);have m0:a.val=.agg #[.int .i64 a.size,.slice (some ⟨a.B.gb,a.B.go,none⟩) a.B.t.len a.B.cap,.slice (some ⟨a.E.gb,a.E.go,none⟩) a.E.t.len a.E.cap]:=by simp only[xA.val,Mat.val,f0,k0]
 obtain⟨q1,u0,q0,v0,w0,x0,y0⟩:=UB g hI i j (by omega) (by omega);obtain⟨q2,z0,o0,A0,B0,C0⟩:=edge_at g hI m z (by omega) (by omega);have d0:=hide (show a.alg.holds ⟨6,i,j,k,m⟩=((q2:Int) == (z:Int)) by simp only[Alg.holds];rw[show a.alg.size-1=(z:Int) from hz,o0];simp);rw[m0];clear q0 o0 p0 f g hI h m0 f0 k0;simp only[Brk.val];go_enter Tryz.func132,Tryz.ntmps132;go_wp2_with fail
 go_quiet (fail)
 go_wp2_with fail;go_ret;exact⟨by rw[d0.out];rfl,GA w _ _ _⟩
theorem UO (a:xA)(g:a.alg.Good)(x:Brk)(f:a.alg.Fits x)(w:World)(h:a.In w.heap.size w)(hl:x.law=7):
 Calls Tryz.prog 132 #[a.val,x.val] w fun e w'=>e=.returned (.bool (a.alg.holds x))/\Below w.heap.size w w':=by
 have:2<=a.size:=g.lo;have:a.size<=24:=g.hi;have q0:(a.B.t.len:Int)=a.size:=g.bl;have f0:=h.B.ga (by omega);have fa:x.a<a.size:=f.a_lt g;have fb:x.b<a.size:=f.b_lt g;have fc:x.c<a.size:=f.c_lt g;have g0:=f.a0;have h0:=f.b0;have i0:=f.c0;have j0:=f.e0;have fe:x.e<a.E.t.len:=f.e_lt (by omega);have k0:=h.E.ga (by omega);obtain⟨l,xa,xb,xc,xe⟩:=x;simp only at hl fa fb fc g0 h0 i0 j0 fe;subst hl;obtain⟨i,rfl⟩:=Int.eq_ofNat_of_zero_le g0;obtain⟨j,rfl⟩:=Int.eq_ofNat_of_zero_le h0;obtain⟨k,rfl⟩:=Int.eq_ofNat_of_zero_le i0;obtain⟨m,rfl⟩:=Int.eq_ofNat_of_zero_le j0;obtain⟨z,hz⟩:=Int.eq_ofNat_of_zero_le (show 0<=a.size-1 by omega);have hI:=tC h (.cells #[.int .i64 a.size,.slice (some ⟨a.B.gb,a.B.go,none⟩) a.B.t.len a.B.cap,.slice (some ⟨a.E.gb,a.E.go,none⟩) a.E.t.len a.E.cap] 24) (.cells #[.int .i64 7,.int .i64 i,.int .i64 j,.int .i64 k,.int .i64 m] 98);have m0:a.val=.agg #[.int .i64 a.size,.slice (some ⟨a.B.gb,a.B.go,none⟩) a.B.t.len a.B.cap,.slice (some ⟨a.E.gb,a.E.go,none⟩) a.E.t.len a.E.cap]:=by simp only[xA.val,Mat.val,f0,k0]
 obtain⟨q1,v0,u0,w0,x0,y0,z0⟩:=UB g hI i j (by omega) (by omega);obtain⟨q2,A0,o0,B0,C0,D0⟩:=edge_at g hI m i (by omega) (by omega);obtain⟨q3,E0,p0,F0,G0,H0,I0⟩:=UB g hI i q2 (by omega) (by omega);have d0:=hide (show a.alg.holds ⟨7,i,j,k,m⟩=((q3:Int) == (i:Int)) by simp[Alg.holds,o0,p0]);rw[m0];clear u0 o0 p0 q0 f g hI h m0 f0 k0;simp only[Brk.val];go_enter Tryz.func132,Tryz.ntmps132;go_wp2_with fail
 go_quiet (fail)
 go_wp2_with fail
 go_quiet (fail)
 go_wp2;go_ret;exact⟨by rw[d0.out];rfl,below_drewN (GA w _ _ _) _⟩
theorem gN (a:xA)(g:a.alg.Good)(x:Brk)(f:a.alg.Fits x)(w:World)(h:a.In w.heap.size w)(hl:x.law=8)(hg:(x.a == a.size-1)=true):
 Calls Tryz.prog 132 #[a.val,x.val] w fun e w'=>e=.returned (.bool (a.alg.holds x))/\Below w.heap.size w w':=by
 have:2<=a.size:=g.lo;have:a.size<=24:=g.hi;have o0:(a.B.t.len:Int)=a.size:=g.bl;have f0:=h.B.ga (by omega);have fa:x.a<a.size:=f.a_lt g;have fb:x.b<a.size:=f.b_lt g;have fc:x.c<a.size:=f.c_lt g;have g0:=f.a0;have h0:=f.b0;have i0:=f.c0;have j0:=f.e0;have fe:x.e<a.E.t.len:=f.e_lt (by omega);have k0:=h.E.ga (by omega);obtain⟨l,xa,xb,xc,xe⟩:=x;simp only at hl fa fb fc g0 h0 i0 j0 fe hg;subst hl;obtain⟨i,rfl⟩:=Int.eq_ofNat_of_zero_le g0;obtain⟨j,rfl⟩:=Int.eq_ofNat_of_zero_le h0;obtain⟨k,rfl⟩:=Int.eq_ofNat_of_zero_le i0;obtain⟨m,rfl⟩:=Int.eq_ofNat_of_zero_le j0;obtain⟨z,hz⟩:=Int.eq_ofNat_of_zero_le (show 0<=a.size-1 by omega);have hI:=tC h (.cells #[.int .i64 a.size,.slice (some ⟨a.B.gb,a.B.go,none⟩) a.B.t.len a.B.cap,.slice (some ⟨a.E.gb,a.E.go,none⟩) a.E.t.len a.E.cap] 24) (.cells #[.int .i64 8,.int .i64 i,.int .i64 j,.int .i64 k,.int .i64 m] 98);have m0:a.val=.agg #[.int .i64 a.size,.slice (some ⟨a.B.gb,a.B.go,none⟩) a.B.t.len a.B.cap,.slice (some ⟨a.E.gb,a.E.go,none⟩) a.E.t.len a.E.cap]:=by simp only[xA.val,Mat.val,f0,k0]
 obtain⟨q1,u0,p0,v0,w0,x0,y0⟩:=UB g hI i j (by omega) (by omega);obtain⟨q2,z0,q0,A0,B0,C0⟩:=edge_at g hI m i (by omega) (by omega);have d0:=hide (show a.alg.holds ⟨8,i,j,k,m⟩=true by simp only[Alg.holds];rw[show a.alg.size-1=(z:Int) from hz];rw[hz]at hg;simp[hg]);rw[m0];clear p0 q0 o0 f g hI h m0 f0 k0;rw[hz]at hg;simp only[Brk.val];go_enter Tryz.func132,Tryz.ntmps132;go_wp2_with fail
 go_quiet (fail)
 go_wp2_with fail
 go_quiet (fail)
 go_wp2;go_ret;exact⟨by rw[d0.out];rfl,below_drewN (GA w _ _ _) _⟩
theorem jN (a:xA)(g:a.alg.Good)(x:Brk)(f:a.alg.Fits x)(w:World)(h:a.In w.heap.size w)(hl:x.law=8)(hg:(x.a == a.size-1)=false)(hg2:(a.alg.E.get x.e x.a != x.a)=false):
 Calls Tryz.prog 132 #[a.val,x.val] w fun e w'=>e=.returned (.bool (a.alg.holds x))/\Below w.heap.size w w':=by
 have:2<=a.size:=g.lo;have:a.size<=24:=g.hi;have p0:(a.B.t.len:Int)=a.size:=g.bl;have g0:=h.B.ga (by omega);have fa:x.a<a.size:=f.a_lt g;have fb:x.b<a.size:=f.b_lt g;have fc:x.c<a.size:=f.c_lt g;have h0:=f.a0;have i0:=f.b0;have j0:=f.c0;have k0:=f.e0;have fe:x.e<a.E.t.len:=f.e_lt (by omega);have m0:=h.E.ga (by omega);obtain⟨l,xa,xb,xc,xe⟩:=x;simp only at hl fa fb fc h0 i0 j0 k0 fe hg hg2;subst hl;obtain⟨i,rfl⟩:=Int.eq_ofNat_of_zero_le h0;obtain⟨j,rfl⟩:=Int.eq_ofNat_of_zero_le i0;obtain⟨k,rfl⟩:=Int.eq_ofNat_of_zero_le j0;obtain⟨m,rfl⟩:=Int.eq_ofNat_of_zero_le k0;obtain⟨z,hz⟩:=Int.eq_ofNat_of_zero_le (show 0<=a.size-1 by omega);have hI:=tC h (.cells #[.int .i64 a.size,.slice (some ⟨a.B.gb,a.B.go,none⟩) a.B.t.len a.B.cap,.slice (some ⟨a.E.gb,a.E.go,none⟩) a.E.t.len a.E.cap] 24) (.cells #[.int .i64 8,.int .i64 i,.int .i64 j,.int .i64 k,.int .i64 m] 98);have o0:a.val=.agg #[.int .i64 a.size,.slice (some ⟨a.B.gb,a.B.go,none⟩) a.B.t.len a.B.cap,.slice (some ⟨a.E.gb,a.E.go,none⟩) a.E.t.len a.E.cap]:=by simp only[xA.val,Mat.val,g0,m0]
 obtain⟨q1,u0,q0,v0,w0,x0,y0⟩:=UB g hI i j (by omega) (by omega);obtain⟨q2,z0,d0,A0,B0,C0⟩:=edge_at g hI m i (by omega) (by omega);have HG:=hide (show ((q2:Int) != (i:Int))=false by rw[<-d0];exact hg2);have f0:=hide (show a.alg.holds ⟨8,i,j,k,m⟩=false by simp only[Alg.holds];rw[show a.alg.size-1=(z:Int) from hz,d0];rw[hz]at hg;simp[hg];intro _;simpa [d0] using hg2);rw[o0];clear q0 d0 p0 f g hI h o0 g0 m0;rw[hz]at hg;have:=HG.out;clear hg2 HG;simp only[Brk.val];go_enter Tryz.func132,Tryz.ntmps132;go_wp2_with fail
 go_quiet (fail)
 go_wp2_with fail
 go_quiet (fail)
 go_wp2;go_ret;exact⟨by rw[f0.out];rfl,below_drewN (GA w _ _ _) _⟩
theorem iN (a:xA)(g:a.alg.Good)(x:Brk)(f:a.alg.Fits x)(w:World)(h:a.In w.heap.size w)(hl:x.law=8)(hg:(x.a == a.size-1)=false)(hg2:(a.alg.E.get x.e x.a != x.a)=true):
 Calls Tryz.prog 132 #[a.val,x.val] w fun e w'=>e=.returned (.bool (a.alg.holds x))/\Below w.heap.size w w':=by
 have:2<=a.size:=g.lo;have:a.size<=24:=g.hi;have q0:(a.B.t.len:Int)=a.size:=g.bl;have g0:=h.B.ga (by omega);have fa:x.a<a.size:=f.a_lt g;have fb:x.b<a.size:=f.b_lt g;have fc:x.c<a.size:=f.c_lt g;have h0:=f.a0;have i0:=f.b0;have j0:=f.c0;have k0:=f.e0;have fe:x.e<a.E.t.len:=f.e_lt (by omega);have m0:=h.E.ga (by omega);obtain⟨l,xa,xb,xc,xe⟩:=x;simp only at hl fa fb fc h0 i0 j0 k0 fe hg hg2;subst hl;obtain⟨i,rfl⟩:=Int.eq_ofNat_of_zero_le h0;obtain⟨j,rfl⟩:=Int.eq_ofNat_of_zero_le i0;obtain⟨k,rfl⟩:=Int.eq_ofNat_of_zero_le j0;obtain⟨m,rfl⟩:=Int.eq_ofNat_of_zero_le k0;obtain⟨z,hz⟩:=Int.eq_ofNat_of_zero_le (show 0<=a.size-1 by omega);have hI:=tC h (.cells #[.int .i64 a.size,.slice (some ⟨a.B.gb,a.B.go,none⟩) a.B.t.len a.B.cap,.slice (some ⟨a.E.gb,a.E.go,none⟩) a.E.t.len a.E.cap] 24) (.cells #[.int .i64 8,.int .i64 i,.int .i64 j,.int .i64 k,.int .i64 m] 98);have o0:a.val=.agg #[.int .i64 a.size,.slice (some ⟨a.B.gb,a.B.go,none⟩) a.B.t.len a.B.cap,.slice (some ⟨a.E.gb,a.E.go,none⟩) a.E.t.len a.E.cap]:=by simp only[xA.val,Mat.val,g0,m0]
 obtain⟨q1,v0,u0,w0,x0,y0,z0⟩:=UB g hI i j (by omega) (by omega);obtain⟨q2,A0,f0,B0,C0,D0⟩:=edge_at g hI m i (by omega) (by omega);obtain⟨q3,E0,p0,F0,G0,H0,I0⟩:=UB g hI i q2 (by omega) (by omega);have HG:=hide (show ((q2:Int) != (i:Int))=true by rw[<-f0];exact hg2);have d0:=hide (show a.alg.holds ⟨8,i,j,k,m⟩=((q3:Int) == (i:Int)) by simp only[Alg.holds];rw[show a.alg.size-1=(z:Int) from hz,f0,p0,HG.out];rw[hz]at hg;rw[hg];simp);rw[o0];clear u0 f0 p0 q0 f g hI h o0 g0 m0;rw[hz]at hg;have:=HG.out;clear hg2 HG;simp only[Brk.val];go_enter Tryz.func132,Tryz.ntmps132;go_wp2_with fail
 go_quiet (fail)
 go_wp2_with fail
 go_quiet (fail)
 go_wp2;go_ret;exact⟨by rw[d0.out];rfl,below_drewN (GA w _ _ _) _⟩
theorem QO (a:xA)(g:a.alg.Good)(x:Brk)(f:a.alg.Fits x)(w:World)(h:a.In w.heap.size w)(hl:x.law=9):
 Calls Tryz.prog 132 #[a.val,x.val] w fun e w'=>e=.returned (.bool (a.alg.holds x))/\Below w.heap.size w w':=by
 have:2<=a.size:=g.lo;have:a.size<=24:=g.hi;have w0:(a.B.t.len:Int)=a.size:=g.bl;have f0:=h.B.ga (by omega);have fa:x.a<a.size:=f.a_lt g;have fb:x.b<a.size:=f.b_lt g;have fc:x.c<a.size:=f.c_lt g;have g0:=f.a0;have h0:=f.b0;have i0:=f.c0;have j0:=f.e0;have fe:x.e<a.E.t.len:=f.e_lt (by omega);have k0:=h.E.ga (by omega);obtain⟨l,xa,xb,xc,xe⟩:=x;simp only at hl fa fb fc g0 h0 i0 j0 fe;subst hl;obtain⟨i,rfl⟩:=Int.eq_ofNat_of_zero_le g0;obtain⟨j,rfl⟩:=Int.eq_ofNat_of_zero_le h0;obtain⟨k,rfl⟩:=Int.eq_ofNat_of_zero_le i0;obtain⟨m,rfl⟩:=Int.eq_ofNat_of_zero_le j0;obtain⟨z,hz⟩:=Int.eq_ofNat_of_zero_le (show 0<=a.size-1 by omega);have hI:=tC h (.cells #[.int .i64 a.size,.slice (some ⟨a.B.gb,a.B.go,none⟩) a.B.t.len a.B.cap,.slice (some ⟨a.E.gb,a.E.go,none⟩) a.E.t.len a.E.cap] 24) (.cells #[.int .i64 9,.int .i64 i,.int .i64 j,.int .i64 k,.int .i64 m] 98);have m0:a.val=.agg #[.int .i64 a.size,.slice (some ⟨a.B.gb,a.B.go,none⟩) a.B.t.len a.B.cap,.slice (some ⟨a.E.gb,a.E.go,none⟩) a.E.t.len a.E.cap]:=by simp only[xA.val,Mat.val,f0,k0]
 obtain⟨q1,x0,o0,y0,z0,A0,B0⟩:=UB g hI i j (by omega) (by omega);obtain⟨q2,C0,p0,D0,E0,F0⟩:=edge_at g hI m q1 (by omega) (by omega);obtain⟨q3,G0,q0,H0,I0,J0⟩:=edge_at g hI m i (by omega) (by omega);obtain⟨q4,K0,u0,L0,M0,N0⟩:=edge_at g hI m j (by omega) (by omega);obtain⟨q5,O0,v0,P0,Q0,R0,S0⟩:=UB g hI q3 q4 (by omega) (by omega);have d0:=hide (show a.alg.holds ⟨9,i,j,k,m⟩=((q2:Int) == (q5:Int)) by simp[Alg.holds,o0,p0,q0,u0,v0]);rw[m0];clear o0 p0 q0 u0 v0 w0 f g hI h m0 f0 k0;simp only[Brk.val];go_enter Tryz.func132,Tryz.ntmps132;go_wp2_with fail
 go_quiet (fail)
 go_wp2_with fail
 go_quiet (fail)
 go_wp2;go_ret;exact⟨by rw[d0.out];rfl,below_drewN (GA w _ _ _) _⟩
theorem TL (a:xA)(g:a.alg.Good)(x:Brk)(f:a.alg.Fits x)(w:World)(h:a.In w.heap.size w):
 Calls Tryz.prog 132 #[a.val,x.val] w fun e w'=>e=.returned (.bool (a.alg.holds x))/\Below w.heap.size w w':=by
 have l0:=f.l0;have l1:=f.l1;have hc:x.law=1\/x.law=2\/x.law=3\/x.law=4\/x.law=5\/x.law=6\/x.law=7\/x.law=8\/x.law=9:=by omega
 rcases hc with hl | hl | hl | hl | hl | hl | hl | hl | hl
 ·exact ZO a g x f w h hl
 ·exact YO a g x f w h hl
 ·cases hg:(a.alg.B.get x.a x.b == x.a)
  ·exact lN a g x f w h hl hg
  ·exact kN a g x f w h hl hg
 ·exact XO a g x f w h hl
 ·exact WO a g x f w h hl
 ·exact VO a g x f w h hl
 ·exact UO a g x f w h hl
 ·cases hg:(x.a == a.size-1)
  ·cases hg2:(a.alg.E.get x.e x.a != x.a)
   ·exact jN a g x f w h hl hg hg2
   ·exact iN a g x f w h hl hg hg2
  ·exact gN a g x f w h hl hg
 ·exact QO a g x f w h hl
theorem xS {s many k:Nat}(hs:s<=24)(hm:many<=3)(hk:k<=many):s ^ k<=13824:=by
 have h1:s ^ k<=24 ^ k:=Nat.pow_le_pow_left hs k;have h2:24 ^ k<=24 ^ 3:=Nat.pow_le_pow_right (by omega) (by omega);omega
theorem dJ {w:World}{b i:Nat}{v:Value}(o:Obj)(h:w.cell? ⟨b,i,none⟩=some v):(w.alloc o).cell? ⟨b,i,none⟩=some v:=by
 have hb:=World.block_lt_of_cell? _ _ h;exact(((Below.refl w.heap.size w).alloc lR o).cell (p:=⟨b,i,none⟩) hb).trans h
def digits (many s n t:Nat):Array Value:=#[.int .i64 (digit many s n t 0),.int .i64 (digit many s n t 1),.int .i64 (digit many s n t 2)]
theorem JD {many s n t i:Nat}(h:i≠t):digit many s n (t+1) i=digit many s n t i:=by
 unfold digit;by_cases h1:t<=i/\i<many
 ·rw[if_pos h1,if_pos (by omega)]
 ·rw[if_neg h1,if_neg (by omega)]
theorem dR {many s n t:Nat}(ht:t<many):digit many s n t t=n / s ^ (many-(t+1)) % s:=by
 unfold digit;rw[if_pos (by omega),show many-1-t=many-(t+1) by omega]
theorem SN {many s n t:Nat}(hm:many<=3)(ht:t<many):(digits many s n (t+1)).setIfInBounds t (.int .i64 ((n / s ^ (many-(t+1)) % s:Nat):Int))=digits many s n t:=by
 have hc:t=0\/t=1\/t=2:=by omega
 rw[<-dR ht];unfold digits;rcases hc with rfl | rfl | rfl
 ·rw[JD (i:=1) (by omega),JD (i:=2) (by omega)];rfl
 ·rw[JD (i:=0) (by omega),JD (i:=2) (by omega)];rfl
 ·rw[JD (i:=0) (by omega),JD (i:=1) (by omega)];rfl
theorem iT {many s n t:Nat}(ht:t<many):n / s ^ (many-(t+1)) / s=n / s ^ (many-t):=by
 rw[Nat.div_div_eq_div_mul,show many-t=many-(t+1)+1 by omega,Nat.pow_succ]
theorem UL (a:xA)(g:a.alg.Good)(ls:List Int)(hls:∀l∈ls,1<=l/\l<=9)(hlen:ls.length<=100)(bl:Nat)(w:World)(h:a.In w.heap.size w)(hbl:bl<w.heap.size)
 (hcl:∀i,(hi:i<ls.length)->w.cell? ⟨bl,i,none⟩=some (.int .i64 ls[i])) :
 Calls Tryz.prog 102 #[a.val,.slice (some ⟨bl,0,none⟩) ls.length ls.length] w fun e w'=>e=.returned (a.alg.firstOf ls).val/\Below w.heap.size w w':=by
 have i2:a.E.t.len<=8:=g.el;have g0:2<=a.size:=g.lo;have g1:a.size<=24:=g.hi;obtain⟨s,hs⟩:=Int.eq_ofNat_of_zero_le (show 0<=a.size by omega);have HL:=hide hcl;have HG:=hide g;have HS:=hide (show a.alg.size=(s:Int) from hs);have s0:2<=s:=by omega
 have s1:s<=24:=by omega
 have z0:(2:Int)<=(s:Int):=by omega
 have z1:(s:Int)<=24:=by omega
 have z2:((s:Int) == 0)=false:=by rw[beq_eq_false_iff_ne];omega
 clear hcl g;have I0:Below w.heap.size w ((w.alloc (.cells #[.int .i64 s,.slice a.B.ga a.B.t.len a.B.cap,.slice a.E.ga a.E.t.len a.E.cap] 24)).alloc (.cells #[.int .i64 0,.int .i64 0,.int .i64 0,.int .i64 0,.int .i64 0] 98)) :=
  ((Below.refl _ w).alloc lR _).alloc (by simp) _
 have bA:Blk ((w.alloc (.cells #[.int .i64 s,.slice a.B.ga a.B.t.len a.B.cap,.slice a.E.ga a.E.t.len a.E.cap] 24)).alloc (.cells #[.int .i64 0,.int .i64 0,.int .i64 0,.int .i64 0,.int .i64 0] 98)) w.heap.size #[.int .i64 s,.slice a.B.ga a.B.t.len a.B.cap,.slice a.E.ga a.E.t.len a.E.cap] 24:=(Blk.new w _ _).alloc _;have bR:Blk ((w.alloc (.cells #[.int .i64 s,.slice a.B.ga a.B.t.len a.B.cap,.slice a.E.ga a.E.t.len a.E.cap] 24)).alloc (.cells #[.int .i64 0,.int .i64 0,.int .i64 0,.int .i64 0,.int .i64 0] 98)) (w.heap.size+1) #[.int .i64 0,.int .i64 0,.int .i64 0,.int .i64 0,.int .i64 0] 98:=by
  have:=Blk.new (w.alloc (.cells #[.int .i64 s,.slice a.B.ga a.B.t.len a.B.cap,.slice a.E.ga a.E.t.len a.E.cap] 24)) #[.int .i64 0,.int .i64 0,.int .i64 0,.int .i64 0,.int .i64 0] 98;simpa using this
 have w1:a.val=.agg #[.int .i64 s,.slice a.B.ga a.B.t.len a.B.cap,.slice a.E.ga a.E.t.len a.E.cap]:=by simp only[xA.val,Mat.val,hs]
 have HO:=hide (fun x (f:a.alg.Fits x) W (hI:a.In W.heap.size W)=>TL a HG.out x f W hI);rw[w1]at HO |-;clear w1 hs g0 g1;go_enter Tryz.func102,Tryz.ntmps102;go_wp2;generalize (w.alloc (.cells #[.int .i64 s,.slice a.B.ga a.B.t.len a.B.cap,.slice a.E.ga a.E.t.len a.E.cap] 24)).alloc (.cells #[.int .i64 0,.int .i64 0,.int .i64 0,.int .i64 0,.int .i64 0] 98)=W0 at *
 go_loopw [5] (fun i wr=>∃k:Nat,k<=ls.length/\i=.int .i64 k/\Hid (∀j,(hj:j<k)->(hj':j<ls.length)->a.alg.first (a.alg.casesOf ls[j])=Brk.none)/\Hid (Below W0.heap.size W0 wr)) (fun i _=>ls.length-(intOf i).toNat)
 case atStart=>exact⟨0,zL,rfl,hide (fun j hj=>absurd hj nZ),hide (Below.refl _ _)⟩
 case round =>
  obtain⟨p,hp,rfl,C0,HB⟩:=hrel;have A0:=I0.trans (HB.out.mono I0.size);have m0:=bR.below HB.out bR.lt;by_cases U0:p<ls.length
  ·have i0:wr.cell? ⟨bl,p,none⟩=some (.int .i64 ls[p]):=(A0.cell (p:=⟨bl,p,none⟩) hbl).trans (HL.out p U0);obtain⟨l0,l1⟩:=hls _ (List.getElem_mem U0);have h0:=bA.below HB.out bA.lt;have HN:=hide (fun W=>SL ls[p] l0 l1 W);obtain⟨many,hm⟩:=Int.eq_ofNat_of_zero_le (show 0<=IA ls[p] by rcases nE ls[p] with e | e | e | e <;> omega);have V0:many<=3:=by rcases nE ls[p] with e | e | e | e <;> omega
   obtain⟨ed,T0⟩:∃ed:Nat,ed=if mD ls[p] then a.E.t.len else 1:=⟨_,rfl⟩;have I1:ed<=8:=by rw[T0];split <;> omega
   have o0:=hide (kU (a:=a.alg) (l:=ls[p]) (s:=s) (many:=many) (ed:=ed) HS.out hm T0.symm);have J1:Hid (a.alg.first (a.alg.casesOf ls[p])≠Brk.none->a.alg.firstOf ls=a.alg.first (a.alg.casesOf ls[p])):=hide (fun hn=>UJ U0 (fun i hi=>C0.out i hi (by omega)) hn);have y1:Hid (a.alg.first (a.alg.casesOf ls[p])=Brk.none->∀j,(hj:j<p+1)->(hj':j<ls.length)->a.alg.first (a.alg.casesOf ls[j])=Brk.none):=hide (fun he j hj hj'=>by
    by_cases e:j=p
    ·subst e;exact he
    ·exact C0.out j (by omega) hj')
   have K1:Hid (∀b∈a.alg.casesOf ls[p],a.alg.Fits b/\b.law=ls[p]):=hide (fun b hb=>HG.out.fits_cases l0 l1 hb);have X0:=hide T0;have Hl:=hide l0;have L1:=hide (HL.out p U0);rw[hm]at HN;have j2:(p:Int)<(ls.length:Int):=by omega
   generalize ls[p]=l at *;generalize mD l=edge at *;clear hm T0 l0 l1 C0;have p0:=h0.cell 0;have D0:=h0.cell 2;simp at p0 D0
   go_upto_if 31 with (go_at_call 131;refine(HN.out _).mono ?_;rintro e w' ⟨rfl,rfl⟩)
   go_cut [8] from 17 to 87 (fun s8 wx=>s8=.int .i64 ed/\wx=w')
   case first =>
    cases edge
    ·obtain rfl:ed=1:=X0.out;go_wp2_with fail;go_meet;exact⟨rfl,rfl⟩
    ·obtain rfl:ed=a.E.t.len:=X0.out;go_wp2_with fail;go_meet;exact⟨rfl,rfl⟩
   case rest =>
    obtain⟨rfl,rfl⟩:=hcut;clear HN X0 D0 i0;go_wp2
    go_loopw [9,10] (fun c k wr=>∃t:Nat,t<=many/\k=.int .i64 t/\c=.int .i64 ((s ^ t:Nat):Int)/\wr=wc) (fun _ k _=>many-(intOf k).toNat)
    case atStart=>exact⟨0,zL,rfl,by simp,rfl⟩
    case round =>
     obtain⟨t,ht,rfl,rfl,rfl⟩:=hrel;by_cases H1:t<many
     ·have M1:=xS s1 V0 (show t+1<=many from H1);have R0:((s ^ (t+1):Nat):Int)=((s ^ t:Nat):Int)*(s:Int):=by rw[Nat.pow_succ];exact Int.natCast_mul _ _
      have q1:((s ^ t:Nat):Int)*(s:Int)<=13824:=by rw[<-R0];omega
      have q0:0<=((s ^ t:Nat):Int)*(s:Int):=by rw[<-R0];omega
      have N1:=hide R0;clear R0 M1;generalize ((s ^ t:Nat):Int)=C at *;go_wp2;go_roundw
      case rel=>exact⟨t+1,by omega,by go_num,by rw[N1.out],by first | rfl | trivial⟩
      case measure=>simp[intOf];omega
     ·obtain rfl:many=t:=by omega
      have hN:=xS s1 V0 (Nat.le_refl many);obtain⟨N,v1⟩:∃N,N=s ^ many:=⟨_,rfl⟩;rw[<-v1]at hN o0 |-;have k2:=hide v1;clear v1 H1;go_wp2
      go_loopw [11] (fun c wx=>∃n:Nat,n<=N/\c=.int .i64 n/\Hid (∀b∈zB l many s ed n 0,a.alg.holds b=true)/\Hid (Below W0.heap.size W0 wx)) (fun c _=>N-(intOf c).toNat)
      case atStart=>exact⟨0,zL,rfl,hide (fun b hb=>by rw[fT]at hb;simp at hb),HB⟩
      case round =>
       clear p0 h0 m0 A0 HB;obtain⟨n,hn,rfl,Hn,HB⟩:=hrel;by_cases g2:n<N
       ·have h0:=bA.below HB.out bA.lt;have J0:=h0.alloc (.cells #[.int .i64 0,.int .i64 0,.int .i64 0] 161);have S0:=HB.out.alloc HB.out.size (.cells #[.int .i64 0,.int .i64 0,.int .i64 0] 161);have l2:(n:Int)<(N:Int):=by omega
        have A1:digits many s n many=#[.int .i64 0,.int .i64 0,.int .i64 0]:=by
         unfold digits digit;rw[if_neg (by omega),if_neg (by omega),if_neg (by omega)];rfl
        have E0:Blk (wr.alloc (.cells #[.int .i64 0,.int .i64 0,.int .i64 0] 161)) wr.heap.size (digits many s n many) 161:=by rw[A1];exact Blk.new wr _ _
        clear A1;go_wp2;obtain⟨B,y0⟩:∃B,B=wr.heap.size:=⟨_,rfl⟩;have Y0:W0.heap.size<=B:=by rw[y0];exact HB.out.size
        rw[<-y0]at E0 |-;generalize wr.alloc (.cells #[.int .i64 0,.int .i64 0,.int .i64 0] 161)=W1 at *;clear y0 h0 HB
        go_loopw [13,14] (fun m k wx=>∃t:Nat,t<=many/\k=.int .i64 ((t:Int)-1)/\m=.int .i64 ((n / s ^ (many-t):Nat):Int)/\Hid (Blk wx B (digits many s n t) 161)/\Hid (Below W0.heap.size W0 wx)) (fun _ k _=>(intOf k+1).toNat)
        case atStart=>exact⟨many,lR,rfl,by simp,hide E0,hide S0⟩
        case round =>
         clear E0 J0 S0;obtain⟨t,ht,rfl,rfl,k0,HB⟩:=hrel;have h0:=bA.below HB.out bA.lt;have p0:=h0.cell 0;simp at p0;cases t with
         | zero =>
          have e0:((0:Nat):Int)-1 = -1:=rfl;rw[e0];clear p0 h0;go_wp2
          go_loopw [15,16] (fun c _ wx=>∃e:Nat,e<=ed/\c=.int .i64 e/\Hid (∀b∈zB l many s ed n e,a.alg.holds b=true)/\Hid (Blk wx B (digits many s n 0) 161)/\Hid (Below W0.heap.size W0 wx)) (fun c _ _=>ed-(intOf c).toNat)
          case atStart=>exact⟨0,zL,rfl,Hn,k0,HB⟩
          case round =>
           clear k0 HB;obtain⟨e,he,rfl,He,k0,HB⟩:=hrel;by_cases h2:e<ed
           ·have A0:=I0.trans (HB.out.mono I0.size);have i0:wr.cell? ⟨bl,p,none⟩=some (.int .i64 l):=(A0.cell (p:=⟨bl,p,none⟩) hbl).trans (L1.out);have h0:=bA.below HB.out bA.lt;have m0:=bR.below HB.out bR.lt;have p0:=h0.cell 0;have K0:=h0.cell 1;have D0:=h0.cell 2;simp at p0 K0 D0;have B1:wr.cell? ⟨B,0,none⟩=some (.int .i64 (digit many s n 0 0)):=k0.out.cell 0;have C1:wr.cell? ⟨B,1,none⟩=some (.int .i64 (digit many s n 0 1)):=k0.out.cell 1;have D1:wr.cell? ⟨B,2,none⟩=some (.int .i64 (digit many s n 0 2)):=k0.out.cell 2;have m2:(e:Int)<(ed:Int):=by omega
            have B0:=xP (l:=l) (many:=many) (s:=s) (ed:=ed) (n:=n) (e:=e+1) (N:=N) g2 h2;rw[GI,o0.out]at B0;have L0:nD l many s n e∈a.alg.casesOf l:=B0.subset (by simp);have F0:=(K1.out _ L0);have Z0:=hide B0;have h1:=hide (HO.out _ F0.1);have i1:=hide F0.2;have j0:(nD l many s n e).val=.agg #[.int .i64 l,.int .i64 (digit many s n 0 0),.int .i64 (digit many s n 0 1),.int .i64 (digit many s n 0 2),.int .i64 e]:=rfl;rw[j0]at h1;have O1:=hide j0;clear B0 L0 F0 j0;generalize ((digit many s n 0 0:Nat):Int)=x0 at *;generalize ((digit many s n 0 1:Nat):Int)=x1 at *;generalize ((digit many s n 0 2:Nat):Int)=x2 at *;have o2:B<wr.heap.size:=k0.out.lt;have P1:bl<wr.heap.size:=Nat.lt_of_lt_of_le hbl A0.size;have p2:w.heap.size<wr.heap.size:=h0.lt;have M0:∀o,(wr.alloc o).cell? ⟨bl,p,none⟩=some (.int .i64 l):=fun o=>dJ _ i0;have Q1:∀o,(wr.alloc o).cell? ⟨B,0,none⟩=some (.int .i64 x0):=fun o=>dJ _ B1;have R1:∀o,(wr.alloc o).cell? ⟨B,1,none⟩=some (.int .i64 x1):=fun o=>dJ _ C1;have S1:∀o,(wr.alloc o).cell? ⟨B,2,none⟩=some (.int .i64 x2):=fun o=>dJ _ D1;go_wp2_with fail
            go_region
            have hX:Below wr.heap.size wr ((wr.alloc (.cells #[.int .i64 l,.int .i64 x0,.int .i64 x1,.int .i64 x2,.int .i64 e] 98)).drew):=GR wr _;have bF:Blk ((wr.alloc (.cells #[.int .i64 l,.int .i64 x0,.int .i64 x1,.int .i64 x2,.int .i64 e] 98)).drew) wr.heap.size #[.int .i64 l,.int .i64 x0,.int .i64 x1,.int .i64 x2,.int .i64 e] 98:=Blk.new wr _ _;have E1:=(h.below (A0.trans (hX.mono A0.size)) lR).mono (A0.trans (hX.mono A0.size)).size;have HC:=hide (h1.out _ E1);clear B1 C1 D1 Q1 R1 S1 M0 i0 h1 E1 p0 K0 D0;have J0:=h0.below hX h0.lt;have p0:=J0.cell 0;have K0:=J0.cell 1;have D0:=J0.cell 2;simp at p0 K0 D0;have j1:=m0.below hX m0.lt;have k1:=k0.out.below hX k0.out.lt;have o1:=HB.out.trans (hX.mono HB.out.size);have q2:=hX.size;clear h0 m0 hX k0;have j0:(nD l many s n e).val=.agg #[.int .i64 l,.int .i64 x0,.int .i64 x1,.int .i64 x2,.int .i64 e]:=O1.out;have p1:=hide j0;clear j0;have N0:Hid (a.alg.holds (nD l many s n e)=true->∀b∈zB l many s ed n (e+1),a.alg.holds b=true):=hide (fun hh b hb=>by
             rw[GI]at hb;rcases List.mem_append.1 hb with hb | hb
             ·exact He.out b hb
             ·obtain rfl:b=nD l many s n e:=by simpa using hb
              exact hh)
            have t1:Hid (a.alg.holds (nD l many s n e)=false->a.alg.firstOf ls=nD l many s n e):=hide (fun hh=>by
             have e1:=zH Z0.out He.out hh;have e2:a.alg.first (a.alg.casesOf l)≠Brk.none:=by
              rw[e1];intro e3;have e4:=i1.out;rw[e3]at e4;have e5:=Hl.out;have e6:Brk.none.law=0:=rfl;omega
             rw[J1.out e2,e1])
            generalize a.alg.holds (nD l many s n e)=hh at *;go_wp2_with fail;go_at_call 132;refine HC.out.mono ?_;rintro en w4 ⟨rfl,Q0⟩;have O0:=bF.below Q0 bF.lt;have G0:=j1.below Q0 j1.lt;have T1:=k1.below Q0 k1.lt;have F1:=o1.trans (Q0.mono o1.size);clear HC Q0 bF j1 k1 o1 J0 p0 K0 D0;cases hh
            ·have H0:=hide (t1.out rfl);have f0:=O0.cell 0;have f1:=O0.cell 1;have f2:=O0.cell 2;have f3:=O0.cell 3;have f4:=O0.cell 4;have r0:=G0.cell 0;have r1:=G0.cell 1;have r2:=G0.cell 2;have r3:=G0.cell 3;have r4:=G0.cell 4;have rf:=G0.frozen;simp at f0 f1 f2 f3 f4 r0 r1 r2 r3 r4;go_wp2;have u0:=G0.set5 (.int .i64 l) (.int .i64 x0) (.int .i64 x1) (.int .i64 x2) (.int .i64 e);have d0:=u0.cell 0;have d1:=u0.cell 1;have d2:=u0.cell 2;have d3:=u0.cell 3;have d4:=u0.cell 4;unfold YtjhkadffaephmacGreat.set5 at d0 d1 d2 d3 d4;simp at d0 d1 d2 d3 d4;refine bodyPost_ret (v:=.agg #[.int .i64 l,.int .i64 x0,.int .i64 x1,.int .i64 x2,.int .i64 e]) (by simp[results,Tryz.results102,go_sem,d0,d1,d2,d3,d4]) rfl ⟨by rw[H0.out,p1.out],?_⟩;exact LF (I0.trans (F1.mono I0.size)) (by omega) _ _ _ _ _
            ·have Hk:=hide (N0.out rfl);go_wp2;go_roundw
             case rel =>
              exact⟨_,_,_,_,_,_,_,_,_,_,_,_,_,_,_,_,_,_,_,_,_,_,_,_,⟨e+1,by omega,by go_num,Hk,hide T1,hide F1⟩,rfl⟩
             case measure=>simp[intOf];omega
           ·obtain rfl:ed=e:=by omega
            have U1:=hide (show ∀b∈zB l many s ed (n+1) 0,a.alg.holds b=true by rw[<-mH];exact He.out);clear He;go_wp2;go_roundw
            case rel=>exact⟨n+1,by omega,by go_num,U1,HB⟩
            case measure=>simp[intOf];omega
         | succ t =>
          have e1:((t+1:Nat):Int)-1=(t:Int):=by omega
          rw[e1];have V1:n / s ^ (many-(t+1))<=13824:=Nat.le_trans (Nat.div_le_self _ _) (by omega);have X1:=hide (SN (many:=many) (s:=s) (n:=n) (t:=t) V0 (by omega));have Y1:=hide (iT (many:=many) (s:=s) (n:=n) (t:=t) (by omega));have t2:(t:Int)<3:=by omega
          have G1:∃v,wr.cell? ⟨B,t,none⟩=some v:=by
           rw[k0.out.cell t];have:t=0\/t=1\/t=2:=by omega
           rcases this with rfl | rfl | rfl
           ·exact⟨_,rfl⟩
           ·exact⟨_,rfl⟩
           ·exact⟨_,rfl⟩
          obtain⟨v,G1⟩:=G1;have u2:=k0.out.frozen t;have u1:=hide (fun u=>k0.out.set t u);have Z1:h0.lt=h0.lt:=rfl;have a2:w.heap.size≠B:=by have:=bA.lt;omega
          generalize hmm:n / s ^ (many-(t+1))=m at *;have P0:=hide (show (m:Int) % (s:Int)=((m % s:Nat):Int) from (Int.natCast_emod m s).symm);have v0:=hide (show (m:Int) / (s:Int)=((m / s:Nat):Int) from (Int.natCast_ediv m s).symm);have HM:=hide hmm;have v2:0<=(m:Int) / (s:Int):=by rw[v0.out];exact Int.natCast_nonneg _
          have w2:(m:Int) / (s:Int)<=13824:=by rw[v0.out];exact Int.ofNat_le.2 (Nat.le_trans (Nat.div_le_self m s) V1)
          have S0:=hide (HB.out.setCell (p:=⟨B,t,none⟩) Y0 (.int .i64 ((m:Int) % (s:Int))));clear hmm Z1;go_wp2;go_roundw
          case rel=>exact⟨t,by omega,by go_num,by rw[v0.out,Y1.out],hide (by rw[<-X1.out,<-P0.out];exact u1.out _),S0⟩
          case measure=>simp[intOf]
       ·obtain rfl:N=n:=by omega
        have w0:a.alg.first (a.alg.casesOf l)=Brk.none:=by rw[<-o0.out];exact BH Hn.out
        have b2:=hide (y1.out w0);clear Hn y1 w0;go_wp2;go_roundw
        case rel=>exact⟨p+1,by omega,by go_num,b2,HB⟩
        case measure=>simp[intOf];omega
  ·have H0:=hide (FH (a:=a.alg) (ls:=ls) (fun i hi=>C0.out i (by omega) hi));have r0:=m0.cell 0;have r1:=m0.cell 1;have r2:=m0.cell 2;have r3:=m0.cell 3;have r4:=m0.cell 4;have rf:=m0.frozen;simp at r0 r1 r2 r3 r4;go_wp2;have u0:=m0.set5 (.int .i64 0) (.int .i64 0) (.int .i64 0) (.int .i64 0) (.int .i64 0);have d0:=u0.cell 0;have d1:=u0.cell 1;have d2:=u0.cell 2;have d3:=u0.cell 3;have d4:=u0.cell 4;unfold YtjhkadffaephmacGreat.set5 at d0 d1 d2 d3 d4;simp at d0 d1 d2 d3 d4;refine bodyPost_ret (v:=Brk.none.val) (by simp[results,Tryz.results102,go_sem,d0,d1,d2,d3,d4,Brk.val,Brk.none]) rfl ⟨by rw[H0.out],?_⟩;exact LF A0 (by omega) _ _ _ _ _
end Go.Proofs.YtjhkadffaephmacGreat
