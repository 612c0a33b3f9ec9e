import Derived.Test.YtjhkadffaephmacGreatCutRestStatesAH
import Derived.Deep.RegionLaw
import Derived.Deep.AppendSrc
namespace Go.Proofs.YtjhkadffaephmacGreat
set_option maxHeartbeats 16000000
set_option maxRecDepth 100000
open Go.RowKit
def aI (g c:Nat->Nat) (p n i:Nat):Array Value:=((List.range n).map fun r=>if r<i then Value.slice (some ⟨g r,0,none⟩) p (c r) else .slice none 0 0).toArray
theorem pF {g c:Nat->Nat}{p n i r:Nat}(h:r<n):(aI g c p n i)[r]? = some (if r<i then Value.slice (some ⟨g r,0,none⟩) p (c r) else .slice none 0 0):=by
 simp[aI,h]
def QG (f:Nat->Nat) (i v:Nat):Nat->Nat:=fun r=>if r=i then v else f r
theorem qD (f:Nat->Nat)(i v:Nat):QG f i v i=v:=by simp[QG]
theorem eH (f:Nat->Nat){i r:Nat}(v:Nat)(h:r≠i):QG f i v r=f r:=by simp[QG,h]
theorem qN {g c:Nat->Nat}{p n i a b:Nat}:(aI g c p n i).setIfInBounds i (.slice (some ⟨a,0,none⟩) p b)=aI (QG g i a) (QG c i b) p n (i+1):=by
 apply Array.ext
 ·simp[aI]
 ·intro j h1 h2;have hn:j<n:=by simpa [aI] using h2
  by_cases e:i=j
  ·subst e;simp[aI,QG]
  ·rw[Array.getElem_setIfInBounds_ne (by simpa [aI] using hn) e];simp only[aI,List.getElem_toArray,List.getElem_map,List.getElem_range,eH _ _ (Ne.symm e)];by_cases h:j<i
   ·rw[if_pos h,if_pos (by omega)]
   ·rw[if_neg h,if_neg (by omega)]
theorem EQ (g c:Nat->Nat)(p n:Nat):madeCells #[.slice none 0 0] n=aI g c p n 0:=by
 apply Array.ext';rw[toList_madeCells_one];simp[aI,List.map_const']
structure YC (lo ob:Nat) (g c:Nat->Nat) (p n:Nat) (Z:Nat->Nat->Int) (i:Nat) (W:World):Prop where
 out:Blk W ob (aI g c p n i) 32
 base:lo<=ob
 rows:∀r,r<i->lo<=g r/\yB W (g r)/\g r≠ob/\∀j,j<p->W.cell? ⟨g r,j,none⟩=some (.int .i64 (Z r j))
theorem YC.start (w:World)(lo p n:Nat)(Z:Nat->Nat->Int)(h:lo<=w.heap.size):YC lo w.heap.size (fun _=>0) (fun _=>0) p n Z 0 (w.alloc (.cells (madeCells #[.slice none 0 0] n) 32)) where
 out:=by rw[EQ (fun _=>0) (fun _=>0) p n];exact Blk.new w _ _
 base:=h
 rows:=fun r hr=>absurd hr nZ
theorem YC.below {lo ob:Nat}{g c:Nat->Nat}{p n i:Nat}{Z:Nat->Nat->Int}{W W':World}(h:YC lo ob g c p n Z i W)(hb:Below W.heap.size W W'):YC lo ob g c p n Z i W' where
 out:=h.out.below hb h.out.lt
 base:=h.base
 rows:=fun r hr=>by
  obtain⟨h1,h2,h3,h4⟩:=h.rows r hr;exact⟨h1,h2.grown hb,h3,fun j hj=>by rw[hb.cell (p:=⟨g r,j,none⟩) h2.lt];exact h4 j hj⟩
theorem YC.put {lo ob:Nat}{g c:Nat->Nat}{p n i:Nat}{Z:Nat->Nat->Int}{W:World}(h:YC lo ob g c p n Z i W){a b:Nat}(ha:lo<=a)(hl:yB W a)(hne:a≠ob)(hz:∀j,j<p->W.cell? ⟨a,j,none⟩=some (.int .i64 (Z i j))):
 YC lo ob (QG g i a) (QG c i b) p n Z (i+1) (W.setCell ⟨ob,i,none⟩ (.slice (some ⟨a,0,none⟩) p b)) where
 out:=by have:=h.out.set i (.slice (some ⟨a,0,none⟩) p b);rw[qN]at this;exact this
 base:=h.base
 rows:=fun r hr=>by
  by_cases e:r=i
  ·subst e;rw[qD];exact⟨ha,hl.set _ _,hne,fun j hj=>by rw[qA hne];exact hz j hj⟩
  ·rw[eH g a e];obtain⟨h1,h2,h3,h4⟩:=h.rows r (by omega);exact⟨h1,h2.set _ _,h3,fun j hj=>by rw[qA h3];exact h4 j hj⟩
def nC (n lo:Nat) (Z:Nat->Nat->Int) (m:Mat) (W:World):Prop:=m.t=⟨n,fun _=>n,Z⟩/\m.In W.heap.size W/\m.From lo/\m.Soft W
theorem YC.mat {lo ob:Nat}{g c:Nat->Nat}{p n:Nat}{Z:Nat->Nat->Int}{W:World}(h:YC lo ob g c p n Z n W)(hn:n<=100)(hp:p<=100):
 ∃m:Mat,Value.slice (some ⟨ob,0,none⟩) n n=m.val/\m.t=⟨n,fun _=>p,Z⟩/\m.In W.heap.size W/\m.From lo/\m.Soft W:=by
 refine⟨⟨some ⟨ob,0,none⟩,ob,0,n,fun r=>some ⟨g r,0,none⟩,c,g,fun _=>0,⟨n,fun _=>p,Z⟩⟩,rfl,rfl,⟨fun _=>rfl,fun _=>h.out.lt,?_,?_,?_,?_,?_⟩,⟨fun _=>h.base,?_⟩,fun r hr _=>(h.rows r hr).2.1⟩
 ·intro r hr;have d0:r<n:=hr;show W.cell? ⟨ob,0+r,none⟩=_;rw[h.out.cell (0+r),Nat.zero_add,pF d0,if_pos d0]
 ·exact fun r hr _=>⟨rfl,(h.rows r hr).2.1.lt⟩
 ·intro r hr j hj;have f0:j<p:=hj;show W.cell? ⟨g r,0+j,none⟩=_;rw[Nat.zero_add];exact(h.rows r hr).2.2.2 j f0
 ·show n<=maxLen;unfold maxLen;omega
 ·intro r _;show p<=maxLen;unfold maxLen;omega
 ·exact fun r hr _=>(h.rows r hr).1
theorem zN (fid:Nat)(cap:Array Value)(n:dA)(i:Nat)(has:Nat->Nat->Int)(w:World)(h:n.In w.heap.size w)(hck:n.net.check=0)(hr:∀j,j<n.net.N->n.net.Routes (has j))
 (hcf:∀ (args:Array Value) (W:World),(callFunc fid args).run Tryz.prog W=.ok (.enter fid args) W)
 (hat:∀ (v j:Nat) (W:World),v<n.net.N->j<n.net.N->Below w.heap.size w W->Calls Tryz.prog fid (#[.int .i64 v,.int .i64 j] ++ cap) W fun e w'=>e=.returned (.int .i64 (has j v))/\∃m,w'=W.drewN m) :
 Calls Tryz.prog 76 #[n.val,.int .i64 i,.func (.func fid) #[] cap] w fun e w'=>e=.returned (.slice (some ⟨w.heap.size+1,0,none⟩) n.net.N n.net.N)/\Below w.heap.size w w'/\yB w' (w.heap.size+1)/\∀j,j<n.net.N->w'.cell? ⟨w.heap.size+1,j,none⟩=some (.int .i64 (n.net.route i j (has j))):=by
 have g:=Net.good_of_check hck;have lo:=g.lo;have q0:=g.hi;obtain⟨N,hN⟩:∃N:Nat,n.nodes=N:=⟨n.nodes.toNat,by have:n.net.nodes=n.nodes:=rfl;omega⟩;have m0:n.net.N=N:=by show n.nodes.toNat=N;omega
 have D0:N<=6:=by have:n.net.nodes=n.nodes:=rfl;omega
 rw[m0]at hr hat |-;obtain⟨i1,z0,A0,B0,C0⟩:=info_parts Tryz.infoInt;have s0:∀u:World,(Instr.makeSlice 32 (.int .i64 (N:Int)) (.int .i64 (N:Int))).run Tryz.prog u=.ok (.slice (some ⟨u.heap.size,0,none⟩) N N) (u.alloc (.cells (madeCells #[.int .i64 0] N) 3)):=fun u=>by
  have h:=run_make (P:=Tryz.prog) u 32 3 i1 (.int .i64 0) Tryz.underlying32 z0 A0 .i64 .i64 (N:Int) (N:Int) (by omega) (Int.le_refl _) (by rw[C0];omega) (by omega);simpa [B0,Value.cells] using h
 have u0:Below w.heap.size w (w.alloc (.cells n.cells 27)):=(Below.refl _ w).alloc lR _;have b0:=Blk.new w n.cells 27;have HA:=hide hat;have H:=hide h;have HR:=hide hr;have HK:=hide hck;have v0:=hide hcf;clear hat h g hr hck lo q0 hcf;have d0:n.cells=#[.int .i64 n.a.size,.slice n.a.B.ga n.a.B.t.len n.a.B.cap,.slice n.a.E.ga n.a.E.t.len n.a.E.cap,.int .i64 N,.slice n.la n.ln n.lc]:=by simp only[dA.cells,Mat.val,hN]
 simp only[dA.val,d0];have f0:=hide d0;clear hN d0 u0 b0;go_enter Tryz.func76,Tryz.ntmps76;go_wp2_with fail
 go_loopw [8,14] (fun _ q wr=>∃k:Nat,k<=N/\q=.int .i64 k/\Hid (Below (w.heap.size+1) (w.alloc (.cells n.cells 27)) wr)/\Hid (Blk wr (w.heap.size+1) (UC (fun j=>n.net.route i j (has j)) N k) 3)) (fun _ q _=>N-(intOf q).toNat)
 case atStart =>
  refine⟨0,zL,rfl,hide ?_,hide ?_⟩
  ·rw[f0.out];exact(Below.refl _ _).alloc (by simp) _
  ·rw[bG (fun j=>n.net.route i j (has j)) N];exact Blk.new' (by simp)
 case round =>
  obtain⟨k,hk,rfl,HB,HJ⟩:=hrel;have g0:Below w.heap.size w wr:=((Below.refl _ w).alloc lR _).trans (HB.out.mono (by omega));by_cases k0:k<N
  ·have bN:=(Blk.new w n.cells 27).below HB.out (by omega);have x0:=bN.cell 0;have x1:=bN.cell 1;have x2:=bN.cell 2;have x3:=bN.cell 3;have x4:=bN.cell 4;simp[f0.out]at x0 x1 x2 x3 x4;have HC:=hide (wQ fid cap n i k (has k) wr (H.out.grown g0) HK.out (by intro v hv;exact HR.out k k0 v hv) v0.out (fun v W hv hb=>HA.out v k W (by rw[m0]at hv;exact hv) k0 (g0.trans (hb.mono g0.size))));simp only[dA.val,f0.out]at HC;go_wp2_with fail;go_at_call 109;refine HC.out.mono ?_;rintro e w2 ⟨rfl,j0⟩;have h0:=HJ.out.below j0 HJ.out.lt;have r1:=h0.cell k;rw[FD k0,if_neg (Nat.lt_irrefl _)]at r1;have rf:=h0.frozen k;have E0:(k:Int)<(N:Int):=by omega
   have i0:=h0.set k (.int .i64 (n.net.route i k (has k)));rw[fH (Z:=fun j=>n.net.route i j (has j))]at i0;have o0:=hide i0;have p0:=hide ((HB.out.trans (j0.mono (by have:=HB.out.size;simp at this;omega))).setCell (p:=⟨w.heap.size+1,k,none⟩) lR (.int .i64 (n.net.route i k (has k))));clear h0 i0 HJ HB j0 x0 x1 x2 x3 x4 bN;go_wp2;go_roundw
   case rel =>
    first
    | exact⟨k+1,by omega,by go_num,p0,o0⟩
    | ((repeat apply Exists.intro);refine⟨?_,rfl⟩;exact⟨k+1,by omega,by go_num,p0,o0⟩)
   case measure=>simp[intOf];omega
  ·have w0:k=N:=by omega
   subst w0;have y0:=hide g0;clear g0;go_wp2;go_ret;refine⟨rfl,y0.out,⟨_,HJ.out⟩,fun j hj=>?_⟩;rw[HJ.out.cell j,FD hj,if_pos hj]
def uA (l:List xB):List Value:=l.flatMap fun m=>[.int .i64 m.F,.int .i64 m.T,.string ⟨m.b.toArray⟩]
theorem jD (l:List xB):(uA l).length=l.length*3:=by
 induction l with
 | nil=>rfl
 | cons m l ih=>simp only[uA,List.flatMap_cons,List.length_append,List.length_cons,List.length_nil]at ih |-;omega
theorem fD (l m:List xB):uA (l ++ m)=uA l ++ uA m:=by simp[uA]
structure Lay where
 G:Nat
 gc:Nat
 vs:Array Value
 rb:Nat->Nat
 rc:Nat->Nat
 Tb:Nat->Nat
 Tc:Nat->Nat
 vt:Nat->Array Value
 ta:Nat->Nat->Option Addr
 tc:Nat->Nat->Nat
 db:Nat->Nat->Nat
 dn:Nat->Nat->Nat
 lo:Nat
structure Lay.Off (y:Lay) (P N:Nat) (Bv:Value) (W:World) (b:Nat):Prop where
 p:b≠P
 g:b≠y.G
 t:∀k,k<N->b≠y.Tb k
 v:Bv.ownBlock≠some b
 lt:b<W.heap.size
 lo:y.lo<=b
structure Live (base P N:Nat) (e:Eng) (Bv:Value) (y:Lay) (W:World):Prop where
 head:Blk W P #[.slice (some ⟨y.G,0,none⟩) N y.gc,Bv] 31
 rtrs:Blk W y.G y.vs 57
 r0:∀i,i<N->y.vs[i*2]? = some (.slice (some ⟨y.rb i,0,none⟩) N (y.rc i))
 r1:∀i,i<N->y.vs[i*2+1]? = some (.slice (some ⟨y.Tb i,0,none⟩) N (y.Tc i))
 tolds:∀i,i<N->Blk W (y.Tb i) (y.vt i) 32
 t0:∀i,i<N->∀k,k<N->(y.vt i)[k]? = some (.slice (y.ta i k) (if e.told i k=true then N else 0) (y.tc i k))
 routes:∀i,i<N->y.Off P N Bv W (y.rb i)/\∀j,j<N->W.cell? ⟨y.rb i,j,none⟩=some (.int .i64 (e.R i j))
 rows:∀i,i<N->∀k,k<N->e.told i k=true->y.ta i k=some ⟨y.db i k,y.dn i k,none⟩/\y.Off P N Bv W (y.db i k)/\∀j,j<N->W.cell? ⟨y.db i k,y.dn i k+j,none⟩=some (.int .i64 (e.D i k j))
 bag:W.ownsRow base 59 3 Bv e.bag.length (uA e.bag)
 lp:base<=P
 lg:base<=y.G
 lt:∀i,i<N->base<=y.Tb i
 pg:P≠y.G
 pt:∀i,i<N->P≠y.Tb i
 gt:∀i,i<N->y.G≠y.Tb i
 tt:∀i k,i<N->k<N->i≠k->y.Tb i≠y.Tb k
 bv:∀g,Bv.ownBlock=some g->g≠P/\g≠y.G/\∀i,i<N->g≠y.Tb i
 ylo:base<=y.lo/\y.lo<=P
 sr:∀i,i<N->yB W (y.rb i)
 sd:∀i,i<N->∀k,k<N->e.told i k=true->yB W (y.db i k)
section
variable {base P N:Nat} {e:Eng} {Bv:Value} {y:Lay} {W W':World}
theorem Lay.Off.grown {b:Nat}(h:y.Off P N Bv W b)(hs:W.heap.size<=W'.heap.size):y.Off P N Bv W' b:=⟨h.p,h.g,h.t,h.v,Nat.lt_of_lt_of_le h.lt hs,h.lo⟩
theorem Live.below (h:Live base P N e Bv y W)(hb:Below W.heap.size W W'):Live base P N e Bv y W' where
 head:=h.head.below hb h.head.lt
 rtrs:=h.rtrs.below hb h.rtrs.lt
 r0:=h.r0
 r1:=h.r1
 tolds:=fun i hi=>(h.tolds i hi).below hb (h.tolds i hi).lt
 t0:=h.t0
 routes:=fun i hi=>⟨(h.routes i hi).1.grown hb.size,fun j hj=>by rw[hb.cell (p:=⟨y.rb i,j,none⟩) (h.routes i hi).1.lt];exact(h.routes i hi).2 j hj⟩
 rows:=fun i hi k hk ht=>⟨(h.rows i hi k hk ht).1,(h.rows i hi k hk ht).2.1.grown hb.size,fun j hj=>by rw[hb.cell (p:=⟨y.db i k,y.dn i k+j,none⟩) (h.rows i hi k hk ht).2.1.lt];exact(h.rows i hi k hk ht).2.2 j hj⟩
 bag:=ZA h.bag hb
 lp:=h.lp
 lg:=h.lg
 lt:=h.lt
 pg:=h.pg
 pt:=h.pt
 gt:=h.gt
 tt:=h.tt
 bv:=h.bv
 ylo:=h.ylo
 sr:=fun i hi=>(h.sr i hi).grown hb
 sd:=fun i hi k hk ht=>(h.sd i hi k hk ht).grown hb
theorem Live.setRoutes (h:Live base P N e Bv y W){i b c:Nat}(hi:i<N)(f:Nat->Int)(ho:y.Off P N Bv W b)(hs:yB W b)(hc:∀j,j<N->W.cell? ⟨b,j,none⟩=some (.int .i64 (f j))):
 Live base P N { e with R:=fun r=>if r=i then f else e.R r } Bv { y with vs:=y.vs.setIfInBounds (i*2) (.slice (some ⟨b,0,none⟩) N c),rb:=fun r=>if r=i then b else y.rb r,rc:=fun r=>if r=i then c else y.rc r } (W.setCell ⟨y.G,i*2,none⟩ (.slice (some ⟨b,0,none⟩) N c)):=by
 have g0:∀r,r<N->r*2+1<y.vs.size:=fun r hr=>(Array.getElem?_eq_some_iff.1 (h.r1 r hr)).1;have f0:(W.setCell ⟨y.G,i*2,none⟩ (.slice (some ⟨b,0,none⟩) N c)).heap.size=W.heap.size:=by simp
 have d0:∀q,y.Off P N Bv W q->(W.setCell ⟨y.G,i*2,none⟩ (.slice (some ⟨b,0,none⟩) N c)).heap.size=W.heap.size->Lay.Off { y with vs:=y.vs.setIfInBounds (i*2) (.slice (some ⟨b,0,none⟩) N c),rb:=fun r=>if r=i then b else y.rb r,rc:=fun r=>if r=i then c else y.rc r } P N Bv (W.setCell ⟨y.G,i*2,none⟩ (.slice (some ⟨b,0,none⟩) N c)) q:=fun q hq hs=>⟨hq.p,hq.g,hq.t,hq.v,by rw[hs];exact hq.lt,hq.lo⟩;refine⟨h.head.other h.pg _ _,h.rtrs.set _ _,fun r hr=>?_,fun r hr=>?_,fun r hr=>(h.tolds r hr).other (Ne.symm (h.gt r hr)) _ _,h.t0,fun r hr=>?_,fun r hr k hk ht=>?_,?_,h.lp,h.lg,h.lt,h.pg,h.pt,h.gt,h.tt,h.bv,h.ylo,fun r hr=>(by show yB _ (if r=i then b else y.rb r);split;exact hs.set _ _;exact(h.sr r hr).set _ _),fun r hr k hk ht=>(h.sd r hr k hk ht).set _ _⟩
 ·show (y.vs.setIfInBounds (i*2) _)[r*2]? = some (.slice (some ⟨if r=i then b else y.rb r,0,none⟩) N (if r=i then c else y.rc r));by_cases e1:r=i
  ·subst e1;have:=g0 r hr;rw[if_pos rfl,if_pos rfl,Array.getElem?_setIfInBounds_self_of_lt (by omega)]
  ·rw[if_neg e1,if_neg e1,Array.getElem?_setIfInBounds_ne (by omega)];exact h.r0 r hr
 ·show (y.vs.setIfInBounds (i*2) _)[r*2+1]? = _;rw[Array.getElem?_setIfInBounds_ne (by omega)];exact h.r1 r hr
 ·show Lay.Off _ P N Bv _ (if r=i then b else y.rb r)/\∀j,j<N->World.cell? _ ⟨if r=i then b else y.rb r,j,none⟩=some (.int .i64 ((if r=i then f else e.R r) j));by_cases e1:r=i
  ·rw[if_pos e1,if_pos e1];exact⟨d0 b ho f0,fun j hj=>by rw[qA ho.g];exact hc j hj⟩
  ·rw[if_neg e1,if_neg e1];exact⟨d0 _ (h.routes r hr).1 f0,fun j hj=>by rw[qA (h.routes r hr).1.g];exact(h.routes r hr).2 j hj⟩
 ·obtain⟨h1,h2,h3⟩:=h.rows r hr k hk ht;exact⟨h1,d0 _ h2 f0,fun j hj=>by rw[qA h2.g];exact h3 j hj⟩
 ·exact ownsRow_setCell_other h.bag (fun e1=>(h.bv _ e1).2.1 rfl) _
theorem Live.setTold (h:Live base P N e Bv y W){i k:Nat}(hi:i<N)(hk:k<N)(tell:Bool)(f:Nat->Int)(a:Option Addr)(c b o:Nat)
 (hrow:tell=true->a=some ⟨b,o,none⟩/\y.Off P N Bv W b/\∀j,j<N->W.cell? ⟨b,o+j,none⟩=some (.int .i64 (f j))) (hs:tell=true->yB W b) :
 Live base P N { e with told:=fun r q=>if r=i/\q=k then tell else e.told r q,D:=fun r q=>if r=i/\q=k then f else e.D r q } Bv
  { y with vt:=fun r=>if r=i then (y.vt i).setIfInBounds k (.slice a (if tell=true then N else 0) c) else y.vt r,ta:=fun r q=>if r=i/\q=k then a else y.ta r q,tc:=fun r q=>if r=i/\q=k then c else y.tc r q,db:=fun r q=>if r=i/\q=k then b else y.db r q,dn:=fun r q=>if r=i/\q=k then o else y.dn r q }
  (W.setCell ⟨y.Tb i,k,none⟩ (.slice a (if tell=true then N else 0) c)):=by
 have f0:(W.setCell ⟨y.Tb i,k,none⟩ (.slice a (if tell=true then N else 0) c)).heap.size=W.heap.size:=by simp
 have g0:k<(y.vt i).size:=(Array.getElem?_eq_some_iff.1 (h.t0 i hi k hk)).1;refine⟨h.head.other (h.pt i hi) _ _,h.rtrs.other (h.gt i hi) _ _,h.r0,h.r1,fun r hr=>?_,fun r hr q hq=>?_,fun r hr=>?_,fun r hr q hq ht=>?_,?_,h.lp,h.lg,h.lt,h.pg,h.pt,h.gt,h.tt,h.bv,h.ylo,fun r hr=>(h.sr r hr).set _ _,fun r hr q hq ht=>by
  have d0:(if r=i/\q=k then tell else e.told r q)=true:=ht;show yB _ (if r=i/\q=k then b else y.db r q);by_cases e1:r=i/\q=k
  ·rw[if_pos e1]at d0 |-;exact(hs d0).set _ _
  ·rw[if_neg e1]at d0 |-;exact(h.sd r hr q hq d0).set _ _⟩
 ·show Blk _ (y.Tb r) (if r=i then _ else y.vt r) _;by_cases e1:r=i
  ·subst e1;rw[if_pos rfl];exact(h.tolds r hr).set _ _
  ·rw[if_neg e1];exact(h.tolds r hr).other (h.tt r i hr hi e1) _ _
 ·show (if r=i then (y.vt i).setIfInBounds k _ else y.vt r)[q]? = some (.slice (if r=i/\q=k then a else y.ta r q) (if (if r=i/\q=k then tell else e.told r q)=true then N else 0) (if r=i/\q=k then c else y.tc r q));by_cases e1:r=i
  ·subst e1;rw[if_pos rfl];by_cases e2:q=k
   ·subst e2;rw[Array.getElem?_setIfInBounds_self_of_lt g0];simp
   ·rw[Array.getElem?_setIfInBounds_ne (fun c=>e2 c.symm),h.t0 r hr q hq];simp[e2]
  ·have hp:¬ (r=i/\q=k):=fun c=>e1 c.1;simp only[if_neg hp];rw[if_neg e1];exact h.t0 r hr q hq
 ·obtain⟨h1,h2⟩:=h.routes r hr;exact⟨⟨h1.p,h1.g,h1.t,h1.v,by rw[f0];exact h1.lt,h1.lo⟩,fun j hj=>by rw[qA (h1.t i hi)];exact h2 j hj⟩
 ·have d0:(if r=i/\q=k then tell else e.told r q)=true:=ht;show (if r=i/\q=k then a else y.ta r q)=some ⟨if r=i/\q=k then b else y.db r q,if r=i/\q=k then o else y.dn r q,none⟩/\Lay.Off _ P N Bv _ (if r=i/\q=k then b else y.db r q)/\∀j,j<N->World.cell? _ ⟨if r=i/\q=k then b else y.db r q,(if r=i/\q=k then o else y.dn r q)+j,none⟩=some (.int .i64 ((if r=i/\q=k then f else e.D r q) j));by_cases e1:r=i/\q=k
  ·rw[if_pos e1]at d0;simp only[if_pos e1];obtain⟨h1,h2,h3⟩:=hrow d0;exact⟨h1,⟨h2.p,h2.g,h2.t,h2.v,by rw[f0];exact h2.lt,h2.lo⟩,fun j hj=>by rw[qA (h2.t i hi)];exact h3 j hj⟩
  ·rw[if_neg e1]at d0;simp only[if_neg e1];obtain⟨h1,h2,h3⟩:=h.rows r hr q hq d0;exact⟨h1,⟨h2.p,h2.g,h2.t,h2.v,by rw[f0];exact h2.lt,h2.lo⟩,fun j hj=>by rw[qA (h2.t i hi)];exact h3 j hj⟩
 ·exact ownsRow_setCell_other h.bag (fun e1=>(h.bv _ e1).2.2 i hi rfl) _
end
section
variable {base P N:Nat} {e:Eng} {Bv:Value} {y:Lay} {W W4:World}
theorem kH {row:Option Nat}{b j:Nat}(hg:W.grownBy W4 row)(hlt:b<W.heap.size)(hne:row≠some b):W4.cell? ⟨b,j,none⟩=W.cell? ⟨b,j,none⟩ :=
 World.cell?_of_block (hg.block b hlt (fun e=>hne e.symm))
theorem Live.setBag (h:Live base P N e Bv y W){Bv':Value}{l:List xB}(hg:W.grownBy W4 Bv.ownBlock)(hown:W4.ownsRow base 59 3 Bv' l.length (uA l))(hat:∀g,Bv'.ownBlock=some g->Bv.ownBlock=some g\/W.heap.size<=g):
 Live base P N { e with bag:=l } Bv' y (W4.setCell ⟨P,1,none⟩ Bv'):=by
 have hP:Bv.ownBlock≠some P:=fun e1=>(h.bv P e1).1 rfl;have hG:Bv.ownBlock≠some y.G:=fun e1=>(h.bv _ e1).2.1 rfl;have hT:∀i,i<N->Bv.ownBlock≠some (y.Tb i):=fun i hi e1=>(h.bv _ e1).2.2 i hi rfl;have i0:=hg.size;have h0:(W4.setCell ⟨P,1,none⟩ Bv').heap.size=W4.heap.size:=by simp
 have d0:∀b,y.Off P N Bv W b->y.Off P N Bv' (W4.setCell ⟨P,1,none⟩ Bv') b:=fun b hb=>⟨hb.p,hb.g,hb.t,fun e1=>by
  rcases hat b e1 with e2 | e2
  ·exact hb.v e2
  ·have:=hb.lt;omega,by rw[h0];have:=hb.lt;omega,hb.lo⟩
 have g0:∀g,Bv'.ownBlock=some g->g≠P/\g≠y.G/\∀i,i<N->g≠y.Tb i:=fun g e1=>by
  rcases hat g e1 with e2 | e2
  ·exact h.bv g e2
  ·have h1:=h.head.lt;have h2:=h.rtrs.lt;exact⟨by omega,by omega,fun i hi=>by have:=(h.tolds i hi).lt;omega⟩
 have f0:Blk W4 P #[.slice (some ⟨y.G,0,none⟩) N y.gc,Bv] 31:=h.head.kept hg (fun e1=>hP e1.symm);refine⟨?_,(h.rtrs.kept hg (fun e1=>hG e1.symm)).other (Ne.symm h.pg) _ _,h.r0,h.r1,fun i hi=>((h.tolds i hi).kept hg (fun e1=>hT i hi e1.symm)).other (Ne.symm (h.pt i hi)) _ _,h.t0,fun i hi=>?_,fun i hi k hk ht=>?_,?_,h.lp,h.lg,h.lt,h.pg,h.pt,h.gt,h.tt,g0,h.ylo,fun i hi=>((h.sr i hi).kept hg (h.routes i hi).1.v).set _ _,fun i hi k hk ht=>((h.sd i hi k hk ht).kept hg (h.rows i hi k hk ht).2.1.v).set _ _⟩
 ·have:=f0.set 1 Bv';simpa using this
 ·obtain⟨h1,h2⟩:=h.routes i hi;exact⟨d0 _ h1,fun j hj=>by rw[qA h1.p,kH hg h1.lt h1.v];exact h2 j hj⟩
 ·obtain⟨h1,h2,h3⟩:=h.rows i hi k hk ht;exact⟨h1,d0 _ h2,fun j hj=>by rw[qA h2.p,kH hg h2.lt h2.v];exact h3 j hj⟩
 ·exact ownsRow_setCell_other hown (fun e1=>(g0 _ e1).1 rfl) _
end
def Tab.append (s t:Tab):Tab where
 len:=s.len+t.len
 L:=fun r=>if r<s.len then s.L r else t.L (r-s.len)
 Z:=fun r=>if r<s.len then s.Z r else t.Z (r-s.len)
theorem Tab.append_wide (s t:Tab)(n:Int):(s.append t).wide n=(s.wide n && t.wide n):=by
 rw[Bool.eq_iff_iff,Bool.and_eq_true,Tab.wide_iff,Tab.wide_iff,Tab.wide_iff];constructor
 ·intro h;refine⟨fun r hr=>?_,fun r hr=>?_⟩
  ·have:=h r (show r<s.len+t.len by omega);simpa [Tab.append,hr] using this
  ·have:=h (s.len+r) (show s.len+r<s.len+t.len by omega);simpa [Tab.append,show ¬ s.len+r<s.len by omega] using this
 ·rintro⟨h1,h2⟩ r hr;have f0:r<s.len+t.len:=hr;by_cases d0:r<s.len
  ·simpa [Tab.append,d0] using h1 r d0
  ·simpa [Tab.append,d0] using h2 (r-s.len) (by omega)
theorem Tab.append_routes (s t:Tab)(n:Int):(s.append t).routes n=(s.routes n && t.routes n):=by
 rw[Bool.eq_iff_iff,Bool.and_eq_true,Tab.routes_iff,Tab.routes_iff,Tab.routes_iff];constructor
 ·intro h;refine⟨fun r hr c hc=>?_,fun r hr c hc=>?_⟩
  ·have:=h r (show r<s.len+t.len by omega) c (by simpa [Tab.append,hr] using hc);simpa [Tab.append,hr] using this
  ·have:=h (s.len+r) (show s.len+r<s.len+t.len by omega) c (by simpa [Tab.append,show ¬ s.len+r<s.len by omega] using hc);simpa [Tab.append,show ¬ s.len+r<s.len by omega] using this
 ·rintro⟨h1,h2⟩ r hr c hc;have f0:r<s.len+t.len:=hr;by_cases d0:r<s.len
  ·simpa [Tab.append,d0] using h1 r d0 c (by simpa [Tab.append,d0] using hc)
  ·simpa [Tab.append,d0] using h2 (r-s.len) (by omega) c (by simpa [Tab.append,d0] using hc)
def Mat.rows (m:Mat):List Value:=(List.range m.t.len).map fun r=>.slice (m.A r) (m.t.L r) (m.C r)
theorem Mat.rows_length (m:Mat):m.rows.length=m.t.len:=by simp[Mat.rows]
theorem Mat.rows_get (m:Mat)(j:Nat):m.rows[j]? = if j<m.t.len then some (.slice (m.A j) (m.t.L j) (m.C j)) else none:=by
 by_cases h:j<m.t.len <;> simp[Mat.rows,h]
theorem Tryz.info32:(Tryz.prog.info? 32).map (fun i=>(i.zero,i.size,i.bytes))=some (some (.slice none 0 0),1,24):=by kernel_rfl
theorem rC {P:Program}{ops:Array Oper}{o:Oper}{a:Act}{w:World}{K:Act->World->Prop}{Q:Exit->Act->World->Prop}{E:Prop}
 (hg:o.guard=none) (s x:Operand) (t:TypeId) (hop:o.op=Op.call { callee:=Callee.builtin Builtin.append,args:=#[s,x],argTypes:=#[t,t] })
 (sv xv:Value) (hs:a.eval s=sv) (hx:a.eval x=xv) (v':Value) (w':World) (hrun:(Builtin.append_ #[t,t] o.type #[sv,xv]).run P w=.ok v' w') (hK:K (a.put o.dst v') w') :
 if Region.wanted o (yielded ops a.tmps)=true then Oper.wp P o a w K Q else E:=by
 have hw:Region.wanted o (yielded ops a.tmps)=true:=by simp[Region.wanted,hg]
 rw[if_pos hw];unfold Oper.wp;simp[execOp,hop,resolve,invoke,builtin,hs,hx,hrun,Result.andThen];exact hK
theorem gK (W:World)(base k g cap n:Nat)(xs:List Value)(hown:W.ownsRow base 32 1 (.slice (some ⟨g,0,none⟩) n cap) n xs)(m:Mat)(hm:m.In k W)(hb:base<=W.heap.size)(hsz:n+m.t.len<=1000)(ty:TypeId):
 ∃g' cap' W',(Builtin.append_ #[22,22] ty #[.slice (some ⟨g,0,none⟩) n cap,m.val]).run Tryz.prog W=.ok (.slice (some ⟨g',0,none⟩) (n+m.t.len) cap') W' /\
  W'.ownsRow base 32 1 (.slice (some ⟨g',0,none⟩) (n+m.t.len) cap') (n+m.t.len) (xs ++ m.rows)/\W.grownBy W' (some g):=by
 obtain⟨i0,hi,m0,o0,p0⟩:=info_parts Tryz.info32;cases hga:m.ga with
 | some a =>
  obtain⟨v',W',d0,ho,q0,j0⟩:=run_append_own (P:=Tryz.prog) W base 22 ty 32 i0 (.slice none 0 0) 1 24 Tryz.underlying22 hi m0 o0 p0 rfl (by decide) (.slice (some ⟨g,0,none⟩) n cap) n xs hown a m.t.len m.cap m.rows (by rw[m.rows_length,Nat.mul_one])
   (fun j u hju=>by
    rw[m.rows_get]at hju;split at hju
    ·next hj =>
     have e:=hm.ga (by omega);rw[hga]at e;cases e;cases hju;have:=hm.row j hj;by_cases h0:j=0
     ·subst h0;simpa [Addr.add] using this
     ·simpa [Addr.add,h0] using this
    ·cases hju)
   (fun u hu=>by
    obtain⟨r,_,rfl⟩:=List.mem_map.1 hu;rfl)
   (by unfold maxLen;omega) (by omega) hb
  have k0:∃g' cap',v'=.slice (some ⟨g',0,none⟩) (n+m.t.len) cap':=by
   rcases ho.2 with ⟨h0,_⟩ | ⟨g',cap',cur,h1,_⟩
   ·have:=(j0.1 h0).1;cases this
   ·exact⟨g',cap',h1⟩
  obtain⟨g',cap',rfl⟩:=k0;exact⟨g',cap',W',by rw[Mat.val,hga];exact d0,ho,q0⟩
 | none =>
  have h0:m.t.len=0:=by
   rcases Nat.eq_zero_or_pos m.t.len with h | h
   ·exact h
   ·have:=hm.ga h;rw[hga]at this;cases this
  have f0:m.rows=[]:=by simp[Mat.rows,h0]
  have g0:n+0<=cap:=by
   rcases hown.2 with ⟨h1,_⟩ | ⟨g',cap',cur,h1,_,_,h2,_⟩
   ·cases h1
   ·cases h1;exact h2
  have d0:=run_append_room_src (P:=Tryz.prog) W 22 22 ty 32 i0 Tryz.underlying22 hi g 0 n cap (.slice none 0 m.cap) 0 [] (Src.ofNil W Tryz.underlying22 m.cap) g0 (fun j hj=>absurd hj nZ) (fun j hj=>absurd hj nZ);refine⟨g,cap,W,?_,?_,⟨rfl,rfl,rfl,lR,fun _ _ _=>rfl⟩⟩
  ·rw[Mat.val,hga,h0];exact d0
  ·rw[h0,f0,List.append_nil];exact hown
theorem wU {W:World}{base k g cap:Nat}{B E:Mat}(hown:W.ownsRow base 32 1 (.slice (some ⟨g,0,none⟩) (B.t.len+E.t.len) cap) (B.t.len+E.t.len) (B.rows ++ E.rows))(hB:B.In k W)(hE:E.In k W)(hk:k<=W.heap.size)(hsz:B.t.len+E.t.len<=1000):
 ∃m:Mat,m.val=.slice (some ⟨g,0,none⟩) (B.t.len+E.t.len) cap/\m.In W.heap.size W/\m.t=B.t.append E.t:=by
 have g0:=(hown.lt g rfl).2;have hc:=hown.cells (g:=g) rfl;refine⟨⟨some ⟨g,0,none⟩,g,0,cap,fun r=>if r<B.t.len then B.A r else E.A (r-B.t.len),fun r=>if r<B.t.len then B.C r else E.C (r-B.t.len),fun r=>if r<B.t.len then B.RB r else E.RB (r-B.t.len),fun r=>if r<B.t.len then B.RO r else E.RO (r-B.t.len),B.t.append E.t⟩,rfl,⟨fun _=>rfl,fun _=>g0,?_,?_,?_,?_,?_⟩,rfl⟩
 ·intro r hr;have d0:r<B.t.len+E.t.len:=hr;by_cases hb:r<B.t.len
  ·have:=hc r (.slice (B.A r) (B.t.L r) (B.C r)) (by rw[List.getElem?_append_left (by rw[B.rows_length];exact hb),B.rows_get,if_pos hb]);by_cases h0:r=0
   ·subst h0;simpa [Addr.add,Tab.append,hb] using this
   ·simpa [Addr.add,h0,Tab.append,hb] using this
  ·have:=hc r (.slice (E.A (r-B.t.len)) (E.t.L (r-B.t.len)) (E.C (r-B.t.len))) (by rw[List.getElem?_append_right (by rw[B.rows_length];omega),B.rows_length,E.rows_get,if_pos (by omega)]);by_cases h0:r=0
   ·subst h0;simpa [Addr.add,Tab.append,hb] using this
   ·simpa [Addr.add,h0,Tab.append,hb] using this
 ·intro r hr h0;have d0:r<B.t.len+E.t.len:=hr;by_cases hb:r<B.t.len
  ·have:=hB.addr r hb (by simpa [Tab.append,hb] using h0);simp only[hb,if_true];exact⟨this.1,Nat.lt_of_lt_of_le this.2 hk⟩
  ·have:=hE.addr (r-B.t.len) (by omega) (by simpa [Tab.append,hb] using h0);simp only[hb,if_false];exact⟨this.1,Nat.lt_of_lt_of_le this.2 hk⟩
 ·intro r hr c f0;have d0:r<B.t.len+E.t.len:=hr;by_cases hb:r<B.t.len
  ·have:=hB.cell r hb c (by simpa [Tab.append,hb] using f0);simpa [Tab.append,hb] using this
  ·have:=hE.cell (r-B.t.len) (by omega) c (by simpa [Tab.append,hb] using f0);simpa [Tab.append,hb] using this
 ·show B.t.len+E.t.len<=maxLen;unfold maxLen;omega
 ·intro r hr;have d0:r<B.t.len+E.t.len:=hr;by_cases hb:r<B.t.len
  ·have:=hB.lens r hb;simpa [Tab.append,hb] using this
  ·have:=hE.lens (r-B.t.len) (by omega);simpa [Tab.append,hb] using this
theorem Tryz.infoMail:(Tryz.prog.info? 59).map (fun i=>(i.zero.map (fun z=>z.cells.size),i.size,i.bytes))=some (some 3,3,32):=by kernel_rfl
theorem oO (W:World)(base:Nat)(V:Value)(l:List xB)(m:xB)(ho:W.ownsRow base 59 3 V l.length (uA l))(hk:l.length<=200)(hC:base<=W.heap.size)(ty:TypeId):
 ∃g cap W4,(Builtin.append_ #[29,29] ty #[V,.slice (some ⟨W.heap.size,0,none⟩) 1 1]).run Tryz.prog (W.alloc (.cells #[.int .i64 m.F,.int .i64 m.T,.string ⟨m.b.toArray⟩] 59)).drew=.ok (.slice (some ⟨g,0,none⟩) (l.length+1) cap) W4 /\
  W4.ownsRow base 59 3 (.slice (some ⟨g,0,none⟩) (l.length+1) cap) (l ++ [m]).length (uA (l ++ [m]))/\W.grownBy W4 V.ownBlock/\(V.ownBlock=some g\/W.heap.size<=g):=by
 obtain⟨i0,h0,hq⟩:∃i,Tryz.prog.info? 59=some i/\(i.zero.map (fun z=>z.cells.size),i.size,i.bytes)=(some 3,3,32):=Option.map_eq_some_iff.1 Tryz.infoMail;obtain⟨z,hz,j0⟩:∃z,i0.zero=some z/\z.cells.size=3:=by
  have:=congrArg Prod.fst hq;simpa [Option.map_eq_some_iff] using this
 have d0:i0.size=3:=congrArg (fun x=>x.2.1) hq;have f0:i0.bytes=32:=congrArg (fun x=>x.2.2) hq;have k0:(W.alloc (.cells #[.int .i64 m.F,.int .i64 m.T,.string ⟨m.b.toArray⟩] 59)).drew.heap.size=W.heap.size+1:=by
  show (W.alloc _).heap.size=_;simp
 have g0:=(ho.alloc (.cells #[.int .i64 m.F,.int .i64 m.T,.string ⟨m.b.toArray⟩] 59)).drew;obtain⟨g,cap,w',hr,h2,h3,h4,h5⟩:=run_append_lies (P:=Tryz.prog) (W.alloc (.cells #[.int .i64 m.F,.int .i64 m.T,.string ⟨m.b.toArray⟩] 59)).drew 29 ty base 59 i0 z 3 32 Tryz.underlying29 h0 hz d0 f0 j0 (by decide) V l.length _ g0 ⟨W.heap.size,0,none⟩ 1 1 [.int .i64 m.F,.int .i64 m.T,.string ⟨m.b.toArray⟩] rfl (World.news_of_block (cs:=#[.int .i64 m.F,.int .i64 m.T,.string ⟨m.b.toArray⟩]) (show (W.alloc (.cells #[.int .i64 m.F,.int .i64 m.T,.string ⟨m.b.toArray⟩] 59)).drew.heap[W.heap.size]? = _ from heap_alloc_new W _)) (by simp[Value.oneCell']) (by decide) (by unfold maxLen;omega) (by omega) (by omega) _ rfl;refine⟨g,cap,w',hr,?_,?_,?_⟩
 ·rw[fD,List.length_append];exact h2
 ·exact⟨h3.os,h3.tape,h3.output,by have:=h3.size;omega,fun k hk' hne=>(h3.block k (by omega) hne).trans ((World.grownBy_alloc W (.cells #[.int .i64 m.F,.int .i64 m.T,.string ⟨m.b.toArray⟩] 59) none).block k hk' (by simp))⟩
 ·rcases h4 with h4 | h4
  ·exact Or.inl h4
  ·right;omega
theorem jH:∀ (l:List xB) (i:Nat),i<l.length->(uA l)[i*3]? = some (.int .i64 (l.getD i zA).F)/\(uA l)[i*3+1]? = some (.int .i64 (l.getD i zA).T)/\(uA l)[i*3+2]? = some (.string ⟨(l.getD i zA).b.toArray⟩)
 | [],i,h=>absurd h nZ
 | m :: l,0,_=>⟨rfl,rfl,rfl⟩
 | m :: l,i+1,h=>by
  have ih:=jH l i (by simpa using h);have e:uA (m :: l)=[.int .i64 m.F,.int .i64 m.T,.string ⟨m.b.toArray⟩] ++ uA l:=rfl;have g:(m :: l).getD (i+1) zA=l.getD i zA:=rfl;rw[e,g,show (i+1)*3=i*3+3 by omega];refine⟨?_,?_,?_⟩
  ·rw[List.getElem?_append_right (by simp)];exact ih.1
  ·rw[List.getElem?_append_right (by simp)];exact ih.2.1
  ·rw[List.getElem?_append_right (by simp)];exact ih.2.2
theorem Live.mail {base P N:Nat}{e:Eng}{Bv:Value}{y:Lay}{W:World}(h:Live base P N e Bv y W){i:Nat}(hi:i<e.bag.length):
 ∃g cap:Nat,Bv=.slice (some ⟨g,0,none⟩) e.bag.length cap/\W.cell? ⟨g,i*3,none⟩=some (.int .i64 (e.bag.getD i zA).F)/\W.cell? ⟨g,i*3+1,none⟩=some (.int .i64 (e.bag.getD i zA).T)/\W.cell? ⟨g,i*3+2,none⟩=some (.string ⟨(e.bag.getD i zA).b.toArray⟩):=by
 rcases Go.Joins.ownsRow_forms h.bag with ⟨_,e0⟩ | ⟨g,cap,e1⟩
 ·omega
 ·have hb:=h.bag;rw[e1]at hb;obtain⟨m0,m1,m2⟩:=jH e.bag i hi;exact⟨g,cap,e1,by rw[hb.cellAt _ (by omega)];exact m0,by rw[hb.cellAt _ (by omega)];exact m1,by rw[hb.cellAt _ (by omega)];exact m2⟩
end Go.Proofs.YtjhkadffaephmacGreat

namespace Go.Proofs.YtjhkadffaephmacGreat
set_option maxHeartbeats 16000000
set_option maxRecDepth 100000
def Net.next (n:Net) (x:Nat->Nat->Int) (i j:Nat):Int :=
 if i=j\/n.round x i j=n.a.size-1 then -1
 else (((List.range n.N).find? fun (k:Nat)=>decide (0<=n.edge i k) && (n.a.E.get (n.edge i k) (x k j) == n.round x i j)).map fun (k:Nat)=>(k:Int)).getD (-1)
section
variable {n:Net}
theorem Net.round_from (g:n.Good){x:Nat->Nat->Int}(hx:n.State x){i j:Nat}(hj:j<n.N)(hne:i≠j)(hv:n.round x i j≠n.a.size-1):∃k,k<n.N/\0<=n.edge i k/\n.round x i j=n.a.E.get (n.edge i k) (x k j):=by
 obtain⟨_,s,_,_⟩:=n.out_spec g (f:=fun k=>x k j) (fun k hk=>hx k j hk hj) i j n.N lR;rcases s with s | ⟨k,hk,s1,s2⟩
 ·exfalso;apply hv;show n.out i j _ n.N=_;rw[s,Net.out,if_neg hne]
 ·exact⟨k,hk,s1,s2⟩
theorem Net.next_none {x:Nat->Nat->Int}{i j:Nat}(h:i=j\/n.round x i j=n.a.size-1):n.next x i j = -1:=by
 unfold Net.next;rw[if_pos h]
theorem Net.next_some (g:n.Good){x:Nat->Nat->Int}(hx:n.State x){i j:Nat}(hj:j<n.N)(hne:i≠j)(hv:n.round x i j≠n.a.size-1):
 ∃k:Nat,n.next x i j=k/\k<n.N/\0<=n.edge i k/\n.a.E.get (n.edge i k) (x k j)=n.round x i j/\∀q:Nat,q<k->0<=n.edge i q->n.a.E.get (n.edge i q) (x q j)≠n.round x i j:=by
 unfold Net.next;rw[if_neg (fun h=>h.elim hne hv)];cases hf:(List.range n.N).find? fun (k:Nat)=>decide (0<=n.edge i k) && (n.a.E.get (n.edge i k) (x k j) == n.round x i j) with
 | none =>
  exfalso;obtain⟨k,hk,h1,h2⟩:=n.round_from g hx hj hne hv;have:=List.find?_eq_none.1 hf k (by simpa using hk);simp[h1,h2]at this
 | some k =>
  rw[List.find?_range_eq_some]at hf;obtain⟨h1,h2,h3⟩:=hf;simp only[Bool.and_eq_true,decide_eq_true_eq,beq_iff_eq,List.mem_range]at h1 h2;refine⟨k,rfl,h2,h1.1,h1.2,fun q hq he e=>?_⟩;have:=h3 q hq;simp[he,e]at this
end
end Go.Proofs.YtjhkadffaephmacGreat
