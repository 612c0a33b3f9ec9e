import Derived.Test.YtjhkadffaephmacGreatCutRestStatesAG
import Derived.Laws.EntriesVeiled
namespace Go.Proofs.YtjhkadffaephmacGreat
set_option maxHeartbeats 16000000
set_option maxRecDepth 100000
open Go.RowKit
theorem SK (args:Array Value)(W:World):(callFunc 127 args).run Tryz.prog W=.ok (.enter 127 args) W:=by rfl
theorem BR (args:Array Value)(W:World):(callFunc 91 args).run Tryz.prog W=.ok (.enter 91 args) W:=by rfl
theorem CL (args:Array Value)(W:World):(callFunc 94 args).run Tryz.prog W=.ok (.enter 94 args) W:=by rfl
theorem AR (args:Array Value)(W:World):(callFunc 95 args).run Tryz.prog W=.ok (.enter 95 args) W:=by rfl
theorem DR (args:Array Value)(W:World):(callFunc 96 args).run Tryz.prog W=.ok (.enter 96 args) W:=by rfl
theorem CR (args:Array Value)(W:World):(callFunc 98 args).run Tryz.prog W=.ok (.enter 98 args) W:=by rfl
theorem TM (a:Option Addr)(l q bx:Nat)(n:Int)(w:World)(_hl:l<=maxLen)(hx:w.cell? ⟨bx,3,none⟩=some (.int .i64 n)):
 Calls Tryz.prog 127 #[.slice a l q,.pointer (some ⟨bx,0,none⟩)] w fun e w'=>e=.returned (.bool ((l:Int) != 0 && (l:Int) != n))/\w'=w:=by
 unfold maxLen at _hl;by_cases h0:l=0
 ·have d0:((l:Int) != 0)=false:=by simp[h0]
  have Hf:Hid (((l:Int) != 0 && (l:Int) != n)=false):=hide (by rw[d0];rfl);clear h0;go_enter Tryz.func127,Tryz.ntmps127;go_wp2;go_ret;exact⟨by rw[Hf.out];rfl,rfl⟩
 ·have d0:((l:Int) != 0)=true:=by simp[h0]
  have Hf:Hid (((l:Int) != 0 && (l:Int) != n)=((l:Int) != n)):=hide (by rw[d0];rfl);clear h0;go_enter Tryz.func127,Tryz.ntmps127;go_wp2;go_ret;exact⟨by rw[Hf.out];rfl,rfl⟩
theorem FO (n:dA)(r:BB)(w:World)(h:r.In w.heap.size w):
 Calls Tryz.prog 92 #[n.val,r.val] w fun e w'=>e=.returned (.bool (r.shaped n.nodes))/\Below w.heap.size w w':=by
 obtain⟨W2,d0⟩:∃W2,W2=(w.alloc (.cells n.cells 27)).alloc (.cells r.cells 57):=⟨_,rfl⟩;have b0:Blk W2 w.heap.size n.cells 27:=by rw[d0];exact(Blk.new w _ _).alloc _
 have b1:Blk W2 (w.heap.size+1) r.cells 57:=by rw[d0];exact Blk.new' (by simp)
 have hB:Below w.heap.size w W2:=by rw[d0];exact((Below.refl _ w).alloc lR _).alloc (by simp) _
 have hT:=(h.below hB lR).T.mono hB.size;have h0:=h.ints.len;have i0:=h.T.len;unfold maxLen at h0 i0;have HC:=hide (QC 127 #[.pointer (some ⟨w.heap.size,0,none⟩)] r.T (fun k=>(r.T.t.L k:Int) != 0 && (r.T.t.L k:Int) != n.nodes) W2 hT SK (fun i W hi hBi=>by
  refine(TM (r.T.A i) (r.T.t.L i) (r.T.C i) w.heap.size n.nodes W (h.T.lens i hi) ((b0.below hBi b0.lt).cell 3)).mono ?_;rintro e w' ⟨rfl,rfl⟩;exact⟨rfl,Below.refl _ _⟩))
 have Hs:Hid (r.shaped n.nodes=(((r.rl:Int) == n.nodes) && ((r.T.t.len:Int) == n.nodes) && !((List.range r.T.t.len).any fun k=>(r.T.t.L k:Int) != 0 && (r.T.t.L k:Int) != n.nodes))):=hide (by
  unfold BB.shaped;congr 1;rw[List.all_eq_not_any_not];congr 2;funext k;rw[Bool.not_not])
 have x3:=b0.cell 3;have y0:=b1.cell 0;have y1:=b1.cell 1;simp[dA.cells,BB.cells,Mat.val]at x3 y0 y1;have HB:=hide hB;simp only[dA.val,dA.cells,BB.val,BB.cells,Mat.val]at *;generalize ((List.range r.T.t.len).any fun k=>(r.T.t.L k:Int) != 0 && (r.T.t.L k:Int) != n.nodes)=vt at *;clear h hT hB b0 b1;by_cases h1:(r.rl:Int)=n.nodes
 ·by_cases h2:(r.T.t.len:Int)=n.nodes
  ·have f0:((r.rl:Int) != n.nodes)=false:=by simp[h1]
   have j0:((r.T.t.len:Int) != n.nodes)=false:=by simp[h2]
   have Hv:Hid (r.shaped n.nodes = !vt):=hide (by rw[Hs.out];simp[h1,h2]);clear h1 h2 Hs;go_enter Tryz.func92,Tryz.ntmps92;go_wp2_with fail
   try rw[<-d0]
   go_at_call 74;refine HC.out.mono ?_;rintro e w1 ⟨rfl,g0⟩;have k0:=hide (HB.out.trans (g0.mono HB.out.size));clear g0 HB HC;go_wp2;go_ret;exact⟨by rw[Hv.out];rfl,k0.out⟩
  ·have f0:((r.rl:Int) != n.nodes)=false:=by simp[h1]
   have j0:((r.T.t.len:Int) != n.nodes)=true:=by simp[h2]
   have Hv:Hid (r.shaped n.nodes=false):=hide (by rw[Hs.out];simp[h2]);rw[d0]at HB;clear h1 h2 Hs HC d0 x3 y0 y1;go_enter Tryz.func92,Tryz.ntmps92;go_wp2;go_ret;exact⟨by rw[Hv.out];rfl,HB.out⟩
 ·have f0:((r.rl:Int) != n.nodes)=true:=by simp[h1]
  have Hv:Hid (r.shaped n.nodes=false):=hide (by rw[Hs.out];simp[h1]);rw[d0]at HB;clear h1 Hs HC d0 x3 y0 y1;go_enter Tryz.func92,Tryz.ntmps92;go_wp2;go_ret;exact⟨by rw[Hv.out];rfl,HB.out⟩
theorem mU (n:dA)(r:BB)(bx:Nat)(w:World)(h:r.In w.heap.size w)(hx:Blk w bx n.cells 27):
 Calls Tryz.prog 91 #[r.val,.pointer (some ⟨bx,0,none⟩)] w fun e w'=>e=.returned (.bool (!r.shaped n.nodes))/\Below w.heap.size w w':=by
 have hB:Below w.heap.size w (w.alloc (.cells r.cells 57)):=(Below.refl _ w).alloc lR _;have HS:=hide (FO n r (w.alloc (.cells r.cells 57)) ((h.below hB lR).mono hB.size));have HB:=hide hB;have b1:=hx.alloc (.cells r.cells 57);have x0:=b1.cell 0;have x1:=b1.cell 1;have x2:=b1.cell 2;have x3:=b1.cell 3;have x4:=b1.cell 4;generalize r.shaped n.nodes=v at *;simp only[dA.val,dA.cells,BB.val,BB.cells,Mat.val]at *;simp at x0 x1 x2 x3 x4;clear h hx hB b1;go_enter Tryz.func91,Tryz.ntmps91;go_wp2_with fail;go_at_call 92;refine HS.out.mono ?_;rintro e w1 ⟨rfl,d0⟩;have f0:=hide (HB.out.trans (d0.mono HB.out.size));clear d0 HB HS;go_wp2;go_ret;exact⟨rfl,f0.out⟩
theorem fQ (a:Option Addr)(l q b o bx:Nat)(f:Nat->Int)(s:Int)(w:World)(h:Ints a l b o f w)(hb:0<l->b<w.heap.size)(hx:w.cell? ⟨bx,0,none⟩=some (.int .i64 s)):
 Calls Tryz.prog 94 #[.slice a l q,.pointer (some ⟨bx,0,none⟩)] w fun e w'=>e=.returned (.bool (!jB l f s))/\Below w.heap.size w w':=by
 have HS:=hide (eD a l q b o f s w h hb);generalize jB l f s=v at HS |-;clear h hb;go_enter Tryz.func94,Tryz.ntmps94;go_wp2_with fail;go_at_call 73;refine HS.out.mono ?_;rintro e w1 ⟨rfl,d0⟩;have HB:=hide d0;clear d0;go_wp2;go_ret;exact⟨rfl,HB.out⟩
theorem lU (r:BB)(bx b6:Nat)(s:Int)(w:World)(h:r.In w.heap.size w)(hbx:bx<w.heap.size)(hx:w.cell? ⟨bx,0,none⟩=some (.int .i64 s))(hb6:b6<w.heap.size)
 (h6:w.cell? ⟨b6,0,none⟩=some (.func (.func 94) #[] #[.pointer (some ⟨bx,0,none⟩)])) :
 Calls Tryz.prog 95 #[r.val,.pointer (some ⟨b6,0,none⟩)] w fun e w'=>e=.returned (.bool (!r.sound s))/\Below w.heap.size w w':=by
 obtain⟨W1,f0⟩:∃W1,W1=w.alloc (.cells r.cells 57):=⟨_,rfl⟩;have hB:Below w.heap.size w W1:=by rw[f0];exact(Below.refl _ w).alloc lR _
 have b1:Blk W1 w.heap.size r.cells 57:=by rw[f0];exact Blk.new w _ _
 have hI:=(h.below hB lR).mono hB.size;have x1:W1.cell? ⟨bx,0,none⟩=some (.int .i64 s):=by rw[hB.cell (p:=⟨bx,0,none⟩) hbx];exact hx
 have y1:W1.cell? ⟨b6,0,none⟩=some (.func (.func 94) #[] #[.pointer (some ⟨bx,0,none⟩)]):=by rw[hB.cell (p:=⟨b6,0,none⟩) hb6];exact h6
 have HR:=hide (fQ r.ra r.rl r.rc r.rb r.ro bx r.R s W1 hI.ints hI.lt x1);have HC:=hide (fun W (hb:Below W1.heap.size W1 W)=>QC 94 #[.pointer (some ⟨bx,0,none⟩)] r.T (fun k=>!jB (r.T.t.L k) (r.T.t.Z k) s) W (hI.T.grown hb) CL (fun i W' hi hB'=>by
  have k0:=(hI.T.grown hb).below hB' lR;refine fQ (r.T.A i) (r.T.t.L i) (r.T.C i) (r.T.RB i) (r.T.RO i) bx (r.T.t.Z i) s W' (k0.ints hi) (fun h0=>Nat.lt_of_lt_of_le (k0.addr i hi h0).2 hB'.size) ?_;rw[(hb.trans (hB'.mono hb.size)).cell (p:=⟨bx,0,none⟩) (Nat.lt_of_lt_of_le hbx hB.size)];exact x1))
 have Hs:Hid (r.sound s=(jB r.rl r.R s && !((List.range r.T.t.len).any fun k=>!jB (r.T.t.L k) (r.T.t.Z k) s))):=hide (by
  unfold BB.sound;rw[List.all_eq_not_any_not])
 have:=CL;have HB:=hide hB;have i0:=hide b1;have Hy:=hide y1;have q0:=hide (Nat.lt_of_lt_of_le hb6 hB.size);generalize ((List.range r.T.t.len).any fun k=>!jB (r.T.t.L k) (r.T.t.Z k) s)=vt at *;generalize jB r.rl r.R s=vr at *;simp only[BB.val,BB.cells,Mat.val]at *;rw[f0]at y1 HR;have m0:=hide f0;clear h hx h6 hB b1 hI x1 f0;go_enter Tryz.func95,Tryz.ntmps95;go_wp2_with fail;refine HR.out.mono ?_;rintro e w2 ⟨rfl,d0⟩;rw[<-m0.out]at d0;have g0:=hide (HB.out.trans (d0.mono HB.out.size));have b2:=i0.out.below d0 i0.out.lt;have z1:=b2.cell 1;simp at z1;have:w2.cell? ⟨b6,0,none⟩=some (.func (.func 94) #[] #[.pointer (some ⟨bx,0,none⟩)]):=by rw[d0.cell (p:=⟨b6,0,none⟩) q0.out];exact Hy.out
 have j0:=hide (HC.out w2 d0);clear d0 HC HB i0 HR m0 b2 y1;by_cases hv:vr=true
 ·have Hv:Hid (r.sound s = !vt):=hide (by rw[Hs.out,hv];rfl);subst hv;go_wp2_with fail;go_at_call 74;refine j0.out.mono ?_;rintro e w3 ⟨rfl,p0⟩;have s0:=hide (g0.out.trans (p0.mono g0.out.size));clear p0 g0 j0;go_wp2;go_ret;exact⟨by rw[Hv.out,Bool.not_not];rfl,s0.out⟩
 ·have o0:vr=false:=by simpa using hv
  have Hv:Hid (r.sound s=false):=hide (by rw[Hs.out,o0];rfl);subst o0;clear hv j0;go_wp2;go_ret;exact⟨by rw[Hv.out];rfl,g0.out⟩
theorem pI (n:dA)(x:kC)(w:World)(h:x.In w.heap.size w):
 Calls Tryz.prog 64 #[n.val,x.val] w fun e w'=>e=.returned (.int .i64 (x.err n.net))/\Below w.heap.size w w':=by
 obtain⟨W1,f0⟩:∃W1,W1=w.alloc (.cells n.cells 27):=⟨_,rfl⟩;have hB:Below w.heap.size w W1:=by rw[f0];exact(Below.refl _ w).alloc lR _
 have b1:Blk W1 w.heap.size n.cells 27:=by rw[f0];exact Blk.new w _ _
 have o0:=h.len;unfold maxLen at o0;have HA:=hide (aF 91 #[.pointer (some ⟨w.heap.size,0,none⟩)] x (fun i=>!(x.r i).shaped n.nodes) W1 (h.grown hB) BR (fun i W hi hb=>by
  have hr:=((h.grown hB).below hb lR).r i hi;exact mU n (x.r i) w.heap.size W (hr.mono hb.size) (b1.below hb b1.lt)))
 have HC:=hide (fun (W:World) (hb:Below W1.heap.size W1 W) (b6:Nat) (g0:b6<W.heap.size) (h6:W.cell? ⟨b6,0,none⟩=some (.func (.func 94) #[] #[.pointer (some ⟨w.heap.size,0,none⟩)])) =>
  aF 95 #[.pointer (some ⟨b6,0,none⟩)] x (fun i=>!(x.r i).sound n.a.size) W ((h.grown hB).grown hb) AR (fun i W' hi hb'=>by
   have hr:=(((h.grown hB).grown hb).below hb' lR).r i hi;have x0:=Nat.lt_of_lt_of_le (Nat.lt_of_lt_of_le b1.lt hb.size) hb'.size;refine lU (x.r i) w.heap.size b6 n.a.size W' (hr.mono hb'.size) x0 (((b1.below hb b1.lt).below hb' (Nat.lt_of_lt_of_le b1.lt hb.size)).cell 0) (Nat.lt_of_lt_of_le g0 hb'.size) ?_;rw[hb'.cell (p:=⟨b6,0,none⟩) g0];exact h6))
 have d0:Hid (x.err n.net=if (x.gn:Int)≠n.nodes\/((List.range x.gn).any fun i=>!(x.r i).shaped n.nodes)=true then 1 else if ((List.range x.gn).any fun i=>!(x.r i).sound n.a.size)=true then 5 else 0):=hide rfl;generalize ((List.range x.gn).any fun i=>!(x.r i).shaped n.nodes)=v1 at *;generalize ((List.range x.gn).any fun i=>!(x.r i).sound n.a.size)=v2 at *;have HB:=hide hB;have:=hide b1;have x3:=b1.cell 3;simp[dA.cells]at x3;simp only[dA.val,dA.cells,Mat.val,kC.val]at *;have y0:=hide f0;by_cases hg:(x.gn:Int)=n.nodes
 ·have z0:((x.gn:Int) != n.nodes)=false:=by simp[hg]
  rw[f0]at HA x3;clear h hB b1 f0;go_enter Tryz.func64,Tryz.ntmps64;go_wp2_with fail;go_at_call 93;refine HA.out.mono ?_;rintro e w2 ⟨rfl,h0⟩;rw[<-y0.out]at h0;have k0:=hide (HB.out.trans (h0.mono HB.out.size));by_cases i0:v1=true
  ·have Hf:Hid (x.err n.net=1):=hide (by rw[d0.out,if_pos (Or.inr i0)]);subst i0;clear h0 HA HC d0;go_wp2;go_ret;exact⟨by rw[Hf.out];rfl,k0.out⟩
  ·have p0:v1=false:=by simpa using i0
   have m0:Hid (x.err n.net=if v2=true then 5 else 0):=hide (by rw[d0.out,if_neg (by rintro(e | e);exact e hg;exact i0 e)]);subst p0;have b6:=Blk.new w2 #[.func (.func 94) #[] #[.pointer (some ⟨w.heap.size,0,none⟩)]] 115;have g0:Below w2.heap.size w2 (w2.alloc (.cells #[.func (.func 94) #[] #[.pointer (some ⟨w.heap.size,0,none⟩)]] 115)):=(Below.refl _ _).alloc lR _;have u0:=hide (HC.out _ (h0.trans (g0.mono h0.size)) w2.heap.size b6.lt (b6.cell 0));have q0:=hide (k0.out.trans (g0.mono k0.out.size));clear h0 HA HC d0 i0 b6 g0 k0;go_wp2_with fail;go_at_call 93;refine u0.out.mono ?_;rintro e w3 ⟨rfl,w0⟩;have v0:=hide (q0.out.trans (w0.mono q0.out.size));clear w0 u0 q0;by_cases j0:v2=true
   ·have Hf:Hid (x.err n.net=5):=hide (by rw[m0.out,if_pos j0]);subst j0;clear m0;go_wp2;go_ret;exact⟨by rw[Hf.out];rfl,v0.out⟩
   ·have s0:v2=false:=by simpa using j0
    have Hf:Hid (x.err n.net=0):=hide (by rw[m0.out,if_neg j0]);subst s0;clear m0 j0;go_wp2;go_ret;exact⟨by rw[Hf.out];rfl,v0.out⟩
 ·have z0:((x.gn:Int) != n.nodes)=true:=by simp[hg]
  have Hf:Hid (x.err n.net=1):=hide (by rw[d0.out,if_pos (Or.inl hg)]);rw[f0]at HB;clear h hB b1 f0 HA HC d0 hg x3;go_enter Tryz.func64,Tryz.ntmps64;go_wp2;go_ret;exact⟨by rw[Hf.out];rfl,HB.out⟩
theorem pU (m:xB)(bx:Nat)(n:Int)(w:World)(hx:w.cell? ⟨bx,3,none⟩=some (.int .i64 n))(hbx:bx<w.heap.size):
 Calls Tryz.prog 96 #[.agg #[.int .i64 m.F,.int .i64 m.T,.string ⟨m.b.toArray⟩],.pointer (some ⟨bx,0,none⟩)] w fun e w'=>e=.returned (.bool (!(decide (0<=m.F) && decide (m.F<n)) || !(decide (0<=m.T) && decide (m.T<n))))/\Below w.heap.size w w':=by
 have HB:Hid (Below w.heap.size w (w.alloc (.cells #[.int .i64 m.F,.int .i64 m.T,.string ⟨m.b.toArray⟩] 59))):=hide ((Below.refl _ w).alloc lR _);have x3:∀o,(w.alloc o).cell? ⟨bx,3,none⟩=some (.int .i64 n):=fun o=>by rw[((Below.refl w.heap.size w).alloc lR o).cell (p:=⟨bx,3,none⟩) hbx];exact hx
 have H1:=hide (fun W=>XB m.F n W);have H2:=hide (fun W=>XB m.T n W);generalize (decide (0<=m.F) && decide (m.F<n))=v1 at *;generalize (decide (0<=m.T) && decide (m.T<n))=v2 at *;go_enter Tryz.func96,Tryz.ntmps96;go_wp2_with fail;go_at_call 90;refine(H1.out _).mono ?_;rintro e w1 ⟨rfl,rfl⟩;cases v1 with
 | true =>
  go_wp2_with fail;go_at_call 90;refine(H2.out _).mono ?_;rintro e w1 ⟨rfl,rfl⟩;go_wp2;go_ret;exact⟨rfl,HB.out⟩
 | false =>
  go_wp2;go_ret;exact⟨rfl,HB.out⟩
theorem oU (m:xB)(w:World)(hm:m.b.length<=maxLen):
 Calls Tryz.prog 98 #[.agg #[.int .i64 m.F,.int .i64 m.T,.string ⟨m.b.toArray⟩]] w fun e w'=>e=.returned (.bool (decide (60<m.b.length)))/\Below w.heap.size w w':=by
 have HB:Hid (Below w.heap.size w (w.alloc (.cells #[.int .i64 m.F,.int .i64 m.T,.string ⟨m.b.toArray⟩] 59))):=hide ((Below.refl _ w).alloc lR _);have d0:(ByteArray.mk m.b.toArray).size=m.b.length:=by simp[ByteArray.size]
 unfold maxLen at hm;generalize ByteArray.mk m.b.toArray=s at *;go_enter Tryz.func98,Tryz.ntmps98;go_wp2;go_ret;refine⟨?_,HB.out⟩;by_cases h:60<m.b.length
 ·have:(60:Int)<(m.b.length:Int):=by omega
  simp[h,this]
 ·have:¬ (60:Int)<(m.b.length:Int):=by omega
  simp[h,this]
theorem oM (n:dA)(x:TC)(w:World)(h:x.In w.heap.size w):
 Calls Tryz.prog 65 #[n.val,x.val] w fun e w'=>e=.returned (.int .i64 (x.err n.net))/\Below w.heap.size w w':=by
 obtain⟨W1,f0⟩:∃W1,W1=w.alloc (.cells n.cells 27):=⟨_,rfl⟩;have hB:Below w.heap.size w W1:=by rw[f0];exact(Below.refl _ w).alloc lR _
 have b1:Blk W1 w.heap.size n.cells 27:=by rw[f0];exact Blk.new w _ _
 have m0:=h.len;unfold maxLen at m0;have HA:=hide (tF 96 #[.pointer (some ⟨w.heap.size,0,none⟩)] x (fun i=>!(decide (0<=(x.M i).F) && decide ((x.M i).F<n.nodes)) || !(decide (0<=(x.M i).T) && decide ((x.M i).T<n.nodes))) W1 (h.grown hB) DR (fun i W hi hb =>
  pU (x.M i) w.heap.size n.nodes W ((b1.below hb b1.lt).cell 3) (Nat.lt_of_lt_of_le b1.lt hb.size)))
 have HC:=hide (fun (W:World) (hb:Below W1.heap.size W1 W)=>tF 98 #[] x (fun i=>decide (60<(x.M i).b.length)) W ((h.grown hB).grown hb) CR (fun i W' hi hb'=>oU (x.M i) W' (h.lens i hi)));have d0:Hid (x.err n.net=if 120<x.bn then 2 else if ((List.range x.bn).any fun i=>!(decide (0<=(x.M i).F) && decide ((x.M i).F<n.nodes)) || !(decide (0<=(x.M i).T) && decide ((x.M i).T<n.nodes)))=true then 5 else if ((List.range x.bn).any fun i=>decide (60<(x.M i).b.length))=true then 2 else 0):=hide rfl;generalize ((List.range x.bn).any fun i=>!(decide (0<=(x.M i).F) && decide ((x.M i).F<n.nodes)) || !(decide (0<=(x.M i).T) && decide ((x.M i).T<n.nodes)))=v1 at *;generalize ((List.range x.bn).any fun i=>decide (60<(x.M i).b.length))=v2 at *;have HB:=hide hB;simp only[dA.val,dA.cells,Mat.val,TC.val]at *;have v0:=hide f0;by_cases hg:120<x.bn
 ·have w0:(120:Int)<(x.bn:Int):=by omega
  have Hf:Hid (x.err n.net=2):=hide (by rw[d0.out,if_pos hg]);rw[f0]at HB;clear h hB b1 f0 HA HC d0 hg;go_enter Tryz.func65,Tryz.ntmps65;go_wp2;go_ret;exact⟨by rw[Hf.out];rfl,HB.out⟩
 ·have w0:¬ (120:Int)<(x.bn:Int):=by omega
  rw[f0]at HA;clear h hB b1 f0;go_enter Tryz.func65,Tryz.ntmps65;go_wp2_with fail;go_at_call 97;refine HA.out.mono ?_;rintro e w2 ⟨rfl,g0⟩;rw[<-v0.out]at g0;have j0:=hide (HB.out.trans (g0.mono HB.out.size));by_cases h0:v1=true
  ·have Hf:Hid (x.err n.net=5):=hide (by rw[d0.out,if_neg hg,if_pos h0]);subst h0;clear g0 HA HC d0;go_wp2;go_ret;exact⟨by rw[Hf.out];rfl,j0.out⟩
  ·have o0:v1=false:=by simpa using h0
   have k0:Hid (x.err n.net=if v2=true then 2 else 0):=hide (by rw[d0.out,if_neg hg,if_neg h0]);subst o0;have q0:=hide (HC.out _ g0);clear g0 HA HC d0 h0;go_wp2_with fail;go_at_call 97;refine q0.out.mono ?_;rintro e w3 ⟨rfl,u0⟩;have s0:=hide (j0.out.trans (u0.mono j0.out.size));clear u0 q0 j0;by_cases i0:v2=true
   ·have Hf:Hid (x.err n.net=2):=hide (by rw[k0.out,if_pos i0]);subst i0;clear k0;go_wp2;go_ret;exact⟨by rw[Hf.out];rfl,s0.out⟩
   ·have p0:v2=false:=by simpa using i0
    have Hf:Hid (x.err n.net=0):=hide (by rw[k0.out,if_neg i0]);subst p0;clear k0 i0;go_wp2;go_ret;exact⟨by rw[Hf.out];rfl,s0.out⟩
theorem TF (n:dA)(x:iA)(w:World)(h:n.In w.heap.size w)(hx:x.In w.heap.size w):
 Calls Tryz.prog 26 #[n.val,x.val] w fun e w'=>e=.returned (.int .i64 (x.err n.net))/\Below w.heap.size w w':=by
 obtain⟨W1,h0⟩:∃W1,W1=(w.alloc (.cells n.cells 27)).alloc (.cells x.cells 31):=⟨_,rfl⟩;have hB:Below w.heap.size w W1:=by rw[h0];exact((Below.refl _ w).alloc lR _).alloc (by simp) _
 have b1:Blk W1 w.heap.size n.cells 27:=by rw[h0];exact(Blk.new w _ _).alloc _
 have c1:Blk W1 (w.heap.size+1) x.cells 31:=by rw[h0];exact Blk.new' (by simp)
 have HA:=hide (zD n W1 (h.grown hB));have HR:=hide (fun (W:World) (hb:Below W1.heap.size W1 W)=>pI n x.rs W ((hx.rs.grown hB).grown hb));have HG:=hide (fun (W:World) (hb:Below W1.heap.size W1 W)=>oM n x.bag W ((hx.bag.grown hB).grown hb));have d0:Hid (x.err n.net=if n.net.check≠0 then n.net.check else if x.rs.err n.net≠0 then x.rs.err n.net else x.bag.err n.net):=hide rfl;generalize n.net.check=e1 at *;generalize x.rs.err n.net=e2 at *;generalize x.bag.err n.net=e3 at *;have HB:=hide hB;have j0:=hide b1;have k0:=hide c1;simp only[dA.val,dA.cells,Mat.val,iA.val,iA.cells,kC.val,TC.val]at *;rw[h0]at HA;have q0:=hide h0;clear h hx hB b1 c1 h0;go_enter Tryz.func26,Tryz.ntmps26;go_wp2_with fail;go_at_call 24;refine HA.out.mono ?_;rintro e w2 ⟨rfl,g0⟩;rw[<-q0.out]at g0;have i0:=hide (HB.out.trans (g0.mono HB.out.size));have b2:=j0.out.below g0 j0.out.lt;have c2:=k0.out.below g0 k0.out.lt;have x0:=b2.cell 0;have x1:=b2.cell 1;have x2:=b2.cell 2;have x3:=b2.cell 3;have x4:=b2.cell 4;have y0:=c2.cell 0;simp at x0 x1 x2 x3 x4 y0;by_cases h1:e1=0
 ·subst h1;have p0:=hide (HR.out w2 g0);clear HA HR b2 c2 HB q0;go_wp2_with fail;go_at_call 64;refine p0.out.mono ?_;rintro e w3 ⟨rfl,o0⟩;have m0:=hide (i0.out.trans (o0.mono i0.out.size));have f0:=g0.trans (o0.mono g0.size);have b3:=j0.out.below f0 j0.out.lt;have c3:=k0.out.below f0 k0.out.lt;have x0:=b3.cell 0;have x1:=b3.cell 1;have x2:=b3.cell 2;have x3:=b3.cell 3;have x4:=b3.cell 4;have y1:=c3.cell 1;simp at x0 x1 x2 x3 x4 y1;by_cases h2:e2=0
  ·subst h2;have Hf:Hid (x.err n.net=e3):=hide (by rw[d0.out];simp);have s0:=hide (HG.out w3 f0);clear HG p0 b3 c3 f0 o0 g0 i0 d0;go_wp2_with fail;go_at_call 65;refine s0.out.mono ?_;rintro e w4 ⟨rfl,u0⟩;have v0:=hide (m0.out.trans (u0.mono m0.out.size));clear u0 m0 s0;go_wp2;go_ret;exact⟨by rw[Hf.out];rfl,v0.out⟩
  ·have:(e2 != 0)=true:=by simpa using h2
   have Hf:Hid (x.err n.net=e2):=hide (by rw[d0.out];simp[h2]);clear HG p0 b3 c3 f0 o0 g0 i0 d0 h2;go_wp2;go_ret;exact⟨by rw[Hf.out];rfl,m0.out⟩
 ·have:(e1 != 0)=true:=by simpa using h1
  have Hf:Hid (x.err n.net=e1):=hide (by rw[d0.out];simp[h1]);clear HA HR HG d0 h1 b2 c2 g0;go_wp2;go_ret;exact⟨by rw[Hf.out];rfl,i0.out⟩
theorem Net.edge_any {n:Net}(g:n.Good)(i k:Int):((List.range n.ln).any fun l=>n.F l == i && n.T l == k)=decide (0<=n.edge i k):=by
 unfold Net.edge;cases hf:(List.range n.ln).find? fun l=>n.F l == i && n.T l == k with
 | none =>
  have:=List.find?_eq_none.1 hf;have e:((List.range n.ln).any fun l=>n.F l == i && n.T l == k)=false:=by
   rw[List.any_eq_false];exact this
  rw[e];rfl
 | some l =>
  have hm:=List.mem_of_find?_eq_some hf;have hp:=List.find?_some hf;have e:((List.range n.ln).any fun l=>n.F l == i && n.T l == k)=true:=List.any_eq_true.2 ⟨l,hm,hp⟩;rw[e];have:=(g.link l (List.mem_range.1 hm)).2.2.2.2.1;simp[this]
theorem rM (args:Array Value)(W:World):(callFunc 150 args).run Tryz.prog W=.ok (.enter 150 args) W:=by rfl
theorem rP (F T E i k:Int)(bi bk:Nat)(w:World)(hi:w.cell? ⟨bi,0,none⟩=some (.int .i64 i))(hk:w.cell? ⟨bk,0,none⟩=some (.int .i64 k))(li:bi<w.heap.size)(lk:bk<w.heap.size):
 Calls Tryz.prog 150 #[.agg #[.int .i64 F,.int .i64 T,.int .i64 E],.pointer (some ⟨bi,0,none⟩),.pointer (some ⟨bk,0,none⟩)] w fun e w'=>e=.returned (.bool (F == i && T == k))/\Below w.heap.size w w':=by
 have HB:Hid (Below w.heap.size w (w.alloc (.cells #[.int .i64 F,.int .i64 T,.int .i64 E] 81))):=hide ((Below.refl _ w).alloc lR _);have xi:∀o,(w.alloc o).cell? ⟨bi,0,none⟩=some (.int .i64 i):=fun o=>by rw[((Below.refl w.heap.size w).alloc lR o).cell (p:=⟨bi,0,none⟩) li];exact hi
 have xk:∀o,(w.alloc o).cell? ⟨bk,0,none⟩=some (.int .i64 k):=fun o=>by rw[((Below.refl w.heap.size w).alloc lR o).cell (p:=⟨bk,0,none⟩) lk];exact hk
 by_cases h:F=i
 ·have h':(F == i)=true:=by simp[h]
  have Hf:Hid ((F == i && T == k)=(T == k)):=hide (by rw[h'];rfl);clear h;go_enter Tryz.func150,Tryz.ntmps150;go_wp2;go_ret;exact⟨by rw[Hf.out];rfl,HB.out⟩
 ·have h':(F == i)=false:=by simp[h]
  have Hf:Hid ((F == i && T == k)=false):=hide (by rw[h'];rfl);clear h;go_enter Tryz.func150,Tryz.ntmps150;go_wp2;go_ret;exact⟨by rw[Hf.out];rfl,HB.out⟩
theorem wL (n:dA)(i k:Int)(w:World)(h:n.In w.heap.size w)(hck:n.net.check=0):
 Calls Tryz.prog 138 #[n.val,.int .i64 i,.int .i64 k] w fun e w'=>e=.returned (.bool (decide (0<=n.net.edge i k)))/\Below w.heap.size w w':=by
 obtain⟨W1,d0⟩:∃W1,W1=((w.alloc (.cells n.cells 27)).alloc (.cells #[.int .i64 i] 3)).alloc (.cells #[.int .i64 k] 3):=⟨_,rfl⟩;have hB:Below w.heap.size w W1:=by rw[d0];exact(((Below.refl _ w).alloc lR _).alloc (by simp) _).alloc (by simp;omega) _
 have bi:Blk W1 (w.heap.size+1) #[.int .i64 i] 3:=by rw[d0];exact(Blk.new' (by simp)).alloc _
 have bk:Blk W1 (w.heap.size+1+1) #[.int .i64 k] 3:=by rw[d0];exact Blk.new' (by simp)
 have HC:=hide (oH 150 #[.pointer (some ⟨w.heap.size+1,0,none⟩),.pointer (some ⟨w.heap.size+1+1,0,none⟩)] n (fun l=>n.F l == i && n.T l == k) W1 (h.grown hB) rM (fun l W hl hb=>by
  exact rP (n.F l) (n.T l) (n.E l) i k (w.heap.size+1) (w.heap.size+1+1) W ((bi.below hb bi.lt).cell 0) ((bk.below hb bk.lt).cell 0) (Nat.lt_of_lt_of_le bi.lt hb.size) (Nat.lt_of_lt_of_le bk.lt hb.size)))
 have he:=Net.edge_any (Net.good_of_check hck) i k;have f0:((List.range n.ln).any fun l=>n.F l == i && n.T l == k)=decide (0<=n.net.edge i k):=he;rw[f0]at HC;generalize decide (0<=n.net.edge i k)=v at *;have HB:=hide hB;rw[d0]at HC HB;simp only[dA.val,dA.cells,Mat.val]at *;clear h hck he f0 hB bi bk d0;go_enter Tryz.func138,Tryz.ntmps138;go_wp2_with fail;go_at_call 149;refine HC.out.mono ?_;rintro e w1 ⟨rfl,g0⟩;have h0:=hide (HB.out.trans (g0.mono HB.out.size));clear g0 HB HC;go_wp2;go_ret;exact⟨rfl,h0.out⟩
def Net.hearTo (n:Net) (i k:Nat):List Nat:=(List.range k).filter fun q=>decide (0<=n.edge q i)
theorem Net.hearTo_succ (n:Net)(i k:Nat):n.hearTo i (k+1)=n.hearTo i k ++ (if 0<=n.edge k i then [k] else []):=by
 unfold Net.hearTo;rw[List.range_succ,List.filter_append];congr 1;by_cases h:0<=n.edge k i
 ·simp[h]
 ·simp[h]
theorem Net.hearTo_le (n:Net)(i k:Nat):(n.hearTo i k).length<=k:=by
 have:=List.length_filter_le (fun q:Nat=>decide (0<=n.edge q i)) (List.range k);simpa [Net.hearTo] using this
def WE (l:List Nat):List Value:=l.map fun (q:Nat)=>Value.int .i64 (q:Int)
theorem EI (n:dA)(i:Nat)(w:World)(h:n.In w.heap.size w)(hck:n.net.check=0):
 Calls Tryz.prog 134 #[n.val,.int .i64 i] w fun e w'=>(∃v,e=.returned v/\w'.ownsRow w.heap.size 3 1 v (n.net.hearers i).length (WE (n.net.hearers i)))/\Below w.heap.size w w':=by
 have g:=Net.good_of_check hck;have z0:=g.hi;obtain⟨N,hN⟩:∃N:Nat,n.nodes=N:=⟨n.nodes.toNat,by have:=g.lo;have:n.net.nodes=n.nodes:=rfl;omega⟩;have u0:n.net.N=N:=by show n.nodes.toNat=N;omega
 have:N<=6:=by have:n.net.nodes=n.nodes:=rfl;omega
 obtain⟨i1,F0,G0,H0,I0⟩:=info_parts Tryz.infoInt;obtain⟨W1,j0⟩:∃W1,W1=w.alloc (.cells n.cells 27):=⟨_,rfl⟩;have hB:Below w.heap.size w W1:=by rw[j0];exact(Below.refl _ w).alloc lR _
 have b1:Blk W1 w.heap.size n.cells 27:=by rw[j0];exact Blk.new w _ _
 have HH:=hide (fun (k:Nat) (W:World) (hb:Below W1.heap.size W1 W)=>wL n k i W ((h.grown hB).grown hb) hck);have o0:Hid (n.net.hearTo i N=n.net.hearers i):=hide (by unfold Net.hearTo Net.hearers;rw[u0]);have A0:Hid (W1.heap.size=w.heap.size+1):=hide (by rw[j0];simp);have d0:n.cells=#[.int .i64 n.a.size,.slice n.a.B.ga n.a.B.t.len n.a.B.cap,.slice n.a.E.ga n.a.E.t.len n.a.E.cap,.int .i64 N,.slice n.la n.ln n.lc]:=by simp only[dA.cells,Mat.val,hN]
 simp only[dA.val,d0]at *;have HB:=hide hB;have v0:=hide b1;clear h hck g z0 hB b1 hN u0;go_enter Tryz.func134,Tryz.ntmps134;go_wp2;rw[<-j0];clear j0 d0
 go_loopw [5,6,9] (fun v _ q wr=>∃k:Nat,k<=N/\q=.int .i64 k/\Hid (wr.ownsRow W1.heap.size 3 1 v (n.net.hearTo i k).length (WE (n.net.hearTo i k)))/\Hid (Below W1.heap.size W1 wr)) (fun _ _ q _=>N-(intOf q).toNat)
 case atStart=>exact⟨0,zL,rfl,hide (World.ownsRow_nil _ _ _ _),hide (Below.refl _ _)⟩
 case round =>
  obtain⟨k,hk,rfl,HO,k0⟩:=hrel;have b2:=v0.out.below k0.out v0.out.lt;have x0:=b2.cell 0;have x1:=b2.cell 1;have x2:=b2.cell 2;have x3:=b2.cell 3;have x4:=b2.cell 4;simp at x0 x1 x2 x3 x4;by_cases J0:k<N
  ·have:(k:Int)<(N:Int):=by omega
   have HC:=hide (HH.out k wr k0.out);have:=n.net.hearTo_le i k;clear b2;go_wp2_with fail;go_at_call 138;refine HC.out.mono ?_;rintro e w2 ⟨rfl,m0⟩;have h0:=hide (k0.out.trans (m0.mono k0.out.size));have i0:=hide (ZA HO.out m0);by_cases he:0<=n.net.edge k i
   ·have hd:decide (0<=n.net.edge k i)=true:=by simp[he]
    have hs:n.net.hearTo i (k+1)=n.net.hearTo i k ++ [k]:=by rw[Net.hearTo_succ,if_pos he]
    have Hs:Hid ((n.net.hearTo i (k+1)).length=(n.net.hearTo i k).length+1/\WE (n.net.hearTo i (k+1))=WE (n.net.hearTo i k) ++ [.int .i64 (k:Int)]):=hide (by rw[hs];simp[WE]);generalize (n.net.hearTo i k).length=len at *;rw[hd];clear he hd hs HC m0 HO;go_wp2_with (at_builtin;refine wpList_append_lies _ rfl _ _ _ rfl W1.heap.size 3 i1 _ 1 8 Tryz.underlying32 F0 G0 H0 I0 rfl (by decide) _ len _ rfl (i0.out.alloc _) ⟨w2.heap.size,0,none⟩ 1 1 [.int .i64 (k:Int)] rfl rfl ?c1 ?c2 (by decide) ?c3 ?c4 ?c5 _ rfl ?_)
    all_goals try (case c1=>exact World.news_of_block (Blk.new' (by simp)))
    all_goals try (case c2=>simp[Value.oneCell'])
    all_goals try (case c3=>unfold maxLen;omega)
    all_goals try (case c4=>omega)
    all_goals try (case c5=>have:=h0.out.size;simp;omega)
    intro g' p0 w4 f0 g0 q0 s0;have w0:=hide ((h0.out.alloc h0.out.size (.cells #[.int .i64 (k:Int)] 3)).trans (nA g0 (fun g hg=>(i0.out.lt g hg).1) (by have:=h0.out.size;simp;omega)));have y0:Hid (w4.ownsRow W1.heap.size 3 1 (.slice (some ⟨g',0,none⟩) (len+1) p0) (n.net.hearTo i (k+1)).length (WE (n.net.hearTo i (k+1)))):=hide (by rw[Hs.out.1,Hs.out.2];exact f0);clear f0 g0 q0 s0 h0 i0 Hs;go_wp2;go_roundw
    case rel =>
     first
     | exact⟨k+1,by omega,by go_num,y0,w0⟩
     | ((repeat apply Exists.intro);refine⟨?_,rfl⟩;exact⟨k+1,by omega,by go_num,y0,w0⟩)
    case measure=>simp[intOf];omega
   ·have hd:decide (0<=n.net.edge k i)=false:=by simp;omega
    have hs:n.net.hearTo i (k+1)=n.net.hearTo i k:=by rw[Net.hearTo_succ,if_neg he,List.append_nil]
    rw[hd];rw[<-hs]at i0;clear he hd hs HC m0 HO;go_wp2;go_roundw
    case rel =>
     first
     | exact⟨k+1,by omega,by go_num,i0,h0⟩
     | ((repeat apply Exists.intro);refine⟨?_,rfl⟩;exact⟨k+1,by omega,by go_num,i0,h0⟩)
    case measure=>simp[intOf];omega
  ·have B0:k=N:=by omega
   subst B0;rw[o0.out]at HO;have C0:=hide (HB.out.trans (k0.out.mono HB.out.size));have D0:=A0.out;have E0:Hid (∃v,v=u5/\wr.ownsRow w.heap.size 3 1 v (n.net.hearers i).length (WE (n.net.hearers i))):=hide (by
    refine⟨_,rfl,HO.out.1,?_⟩;rcases HO.out.2 with h | ⟨g,cap,cur,h1,h2,h3⟩
    ·exact Or.inl h
    ·exact Or.inr ⟨g,cap,cur,h1,by omega,h3⟩)
   clear b2 HO D0;go_wp2;go_ret;obtain⟨v,rfl,hv⟩:=E0.out;exact⟨⟨_,rfl,hv⟩,C0.out⟩
theorem Mat.In.at {m:Mat}{n:Nat}{w:World}(h:m.In n w){r c:Nat}(hr:r<m.t.len)(hc:c<m.t.L r):
 m.ga=some ⟨m.gb,m.go,none⟩/\w.cell? ⟨m.gb,m.go+r,none⟩=some (.slice (some ⟨m.RB r,m.RO r,none⟩) (m.t.L r) (m.C r))/\w.cell? ⟨m.RB r,m.RO r+c,none⟩=some (.int .i64 (m.t.Z r c)):=by
 refine⟨h.ga (by omega),?_,h.cell r hr c hc⟩;rw[<-(h.addr r hr (by omega)).1];exact h.row r hr
theorem wQ (fid:Nat)(cap:Array Value)(n:dA)(i j:Nat)(has:Nat->Int)(w:World)(h:n.In w.heap.size w)(hck:n.net.check=0)(hr:n.net.Routes has)
 (hcf:∀ (args:Array Value) (W:World),(callFunc fid args).run Tryz.prog W=.ok (.enter fid args) W)
 (hat:∀ (v:Nat) (W:World),v<n.net.N->Below w.heap.size w W->Calls Tryz.prog fid (#[.int .i64 v,.int .i64 j] ++ cap) W fun e w'=>e=.returned (.int .i64 (has v))/\∃m,w'=W.drewN m) :
 Calls Tryz.prog 109 #[n.val,.int .i64 i,.int .i64 j,.func (.func fid) #[] cap] w fun e w'=>e=.returned (.int .i64 (n.net.route i j has))/\Below w.heap.size w w':=by
 have o0:=h.len;unfold maxLen at o0;have g:=Net.good_of_check hck;have lo:=g.law.good.lo;have p0:=g.law.good.hi;have q0:Below w.heap.size w (w.alloc (.cells n.cells 27)):=(Below.refl _ w).alloc lR _;have HO:=hide (eQ n i j (w.alloc (.cells n.cells 27)) lo p0);have HA:=hide hat;have HL:=hide (n.net.look_spec g hr i j);have s0:Hid (n.net.begin i j=n.net.look i j has 0):=hide rfl;have u0:=hide (n.net.look_route hck hr i j);have G:=hide g;have H:=hide h;have HR:=hide hr;clear hat h g hr hck;simp only[dA.val,dA.cells,Mat.val]at *;go_enter Tryz.func109,Tryz.ntmps109;go_wp2_with fail;go_at_call 60;refine HO.out.mono ?_;rintro e w1 ⟨rfl,j0⟩;have J0:=q0.trans (j0.mono q0.size);have b1:=(Blk.new w n.cells 27).below j0 (by simp);have N0:w.heap.size+1<=w1.heap.size:=by have:=j0.size;simpa using this
 have x4:=b1.cell 4;simp[dA.cells]at x4;clear HO j0 q0;go_wp2_with fail
 go_loopw [9,11,12,20] (fun b _ _ q wr=>∃k:Nat,k<=n.ln/\q=.int .i64 k/\b=.int .i64 (n.net.look i j has k)/\Hid (Below w1.heap.size w1 wr)) (fun _ _ _ q _=>n.ln-(intOf q).toNat)
 case atStart=>exact⟨0,zL,rfl,by rw[s0.out],hide (Below.refl _ _)⟩
 case round =>
  obtain⟨k,hk,rfl,rfl,HB⟩:=hrel;have g0:Below w.heap.size w wr:=J0.trans (HB.out.mono (by omega));by_cases k0:k<n.ln
  ·have hI:=H.out.below g0 lR;have E0:=H.out.la (by omega);have gl:=G.out.link k k0;obtain⟨kf,y0⟩:∃kf:Nat,n.F k=kf:=⟨(n.F k).toNat,by have:=gl.1;have e:n.net.F k=n.F k:=rfl;omega⟩;obtain⟨kt,z0⟩:∃kt:Nat,n.T k=kt:=⟨(n.T k).toNat,by have:=gl.2.2.1;have e:n.net.T k=n.T k:=rfl;omega⟩;obtain⟨ke,A0⟩:∃ke:Nat,n.E k=ke:=⟨(n.E k).toNat,by have:=gl.2.2.2.2.1;have e:n.net.E k=n.E k:=rfl;omega⟩;have c0:=hI.f k k0;have c1:=hI.t k k0;have c2:=hI.e k k0;rw[y0]at c0;rw[z0]at c1;rw[A0]at c2;have bN:=b1.below HB.out b1.lt;have F0:∀o,Below w1.heap.size w1 (wr.alloc o):=fun o=>HB.out.alloc HB.out.size o;have h0:∀o,Below w.heap.size w (wr.alloc o):=fun o=>g0.alloc g0.size o;have i0:=hide (F0 (.cells #[.int .i64 kf,.int .i64 kt,.int .i64 ke] 81));have v0:=hide (h0 (.cells #[.int .i64 kf,.int .i64 kt,.int .i64 ke] 81));clear F0 h0 g0;by_cases m0:kf=i
   ·have w0:((kf:Int) == (i:Int))=true:=by simp[m0]
    have n1:∀o q,((wr.alloc o).drewN q).cell? ⟨w.heap.size,1,none⟩=some (.slice n.a.B.ga n.a.B.t.len n.a.B.cap):=fun o q=>(bN.alloc o).cell 1;have n2:∀o q,((wr.alloc o).drewN q).cell? ⟨w.heap.size,2,none⟩=some (.slice n.a.E.ga n.a.E.t.len n.a.E.cap):=fun o q=>(bN.alloc o).cell 2;have ht:kt<n.net.N:=by have:=gl.2.2.2.1;have e:n.net.T k=n.T k:=rfl;have e2:n.net.N=n.net.nodes.toNat:=rfl;omega
    obtain⟨hv,B0⟩:∃hv:Nat,has kt=hv:=⟨(has kt).toNat,by have:=(HR.out kt ht).1;omega⟩;have f0:ke<n.a.E.t.len:=by have:=gl.2.2.2.2.2;have e:n.net.E k=n.E k:=rfl;have e2:n.net.a.E.len=n.a.E.t.len:=rfl;omega
    have G0:hv<n.a.E.t.L ke:=by
     have e1:=G.out.law.good.ew ke f0;have e2:=(HR.out kt ht).2;have e3:n.net.a.E.L ke=n.a.E.t.L ke:=rfl;omega
    have H0:=G.out.law.good.ez ke f0 hv G0;obtain⟨mv,C0⟩:∃mv:Nat,n.a.E.t.Z ke hv=mv:=⟨(n.a.E.t.Z ke hv).toNat,by have:=H0.1;have e3:n.net.a.E.Z ke hv=n.a.E.t.Z ke hv:=rfl;omega⟩;have hL:=(HL.out k hk).1;obtain⟨bv,D0⟩:∃bv:Nat,n.net.look i j has k=bv:=⟨(n.net.look i j has k).toNat,by omega⟩;have O0:n.net.a.size=n.a.size:=rfl;have I0:bv<n.a.B.t.len:=by
     have e1:=G.out.law.good.bl;have e3:n.net.a.B.len=n.a.B.t.len:=rfl;omega
    have K0:mv<n.a.B.t.L bv:=by
     have e1:=G.out.law.good.bw bv I0;have e3:n.net.a.B.L bv=n.a.B.t.L bv:=rfl;have e4:n.net.a.E.Z ke hv=n.a.E.t.Z ke hv:=rfl;omega
    have d0:n.net.look i j has (k+1)=n.a.B.t.Z bv mv:=by
     have hF:n.net.F k=(i:Int):=by show n.F k=_;rw[y0,m0]
     rw[Net.look,if_pos hF,D0];show n.a.B.t.get bv (n.a.E.t.get (n.E k) (has (n.T k).toNat))=_;rw[A0,z0,Int.toNat_natCast,B0];simp only[Tab.get,Int.toNat_natCast,C0]
    have x0:=hI.below (Below.refl w.heap.size wr |>.alloc (by have:=HB.out.size;omega) (.cells #[.int .i64 kf,.int .i64 kt,.int .i64 ke] 81)) lR;obtain⟨a1,a2,a3⟩:=x0.a.E.at f0 G0;obtain⟨d1,d2,d3⟩:=x0.a.B.at I0 K0;rw[C0]at a3;have HC:=hide (fun q=>HA.out kt (World.drewN (wr.alloc (.cells #[.int .i64 kf,.int .i64 kt,.int .i64 ke] 81)) q) ht (below_drewN v0.out q));rw[B0]at HC;have P0:(ke:Int)<(n.a.E.t.len:Int):=by omega
    have Q0:(hv:Int)<(n.a.E.t.L ke:Int):=by omega
    have R0:(bv:Int)<(n.a.B.t.len:Int):=by omega
    have S0:(mv:Int)<(n.a.B.t.L bv:Int):=by omega
    rw[D0];have Hn:=hide d0;clear d0 B0 C0 hL H0 D0 y0 A0 z0 gl hI x0 m0;go_wp2_with fail
    go_quiet ((refine Calls.quiet_of (HC.out _)))
    go_wp2;go_roundw
    case rel =>
     first
     | exact⟨k+1,by omega,by go_num,by rw[Hn.out],hide (below_drewN i0.out _)⟩
     | ((try rw[<-E0]);(try rw[<-a1]);(try rw[<-d1]);(repeat apply Exists.intro);refine⟨?_,rfl⟩;exact⟨k+1,by omega,by go_num,by rw[Hn.out],hide (below_drewN i0.out _)⟩)
    case measure=>simp[intOf];omega
   ·have w0:((kf:Int) == (i:Int))=false:=by simp;omega
    have d0:n.net.look i j has (k+1)=n.net.look i j has k:=by
     rw[Net.look,if_neg];show ¬ n.F k=_;omega
    have Hn:=hide d0;clear d0 m0;go_wp2;go_roundw
    case rel =>
     first
     | exact⟨k+1,by omega,by go_num,by rw[Hn.out],i0⟩
     | (rw[<-E0];(repeat apply Exists.intro);refine⟨?_,rfl⟩;exact⟨k+1,by omega,by go_num,by rw[Hn.out],i0⟩)
    case measure=>simp[intOf];omega
  ·have L0:k=n.ln:=by omega
   subst L0;have M0:=hide g0;have hE:=u0.out;clear g0;go_wp2;go_ret;exact⟨by rw[<-hE];rfl,M0.out⟩
end Go.Proofs.YtjhkadffaephmacGreat
