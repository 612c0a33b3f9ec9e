import Derived.Test.YtjhkadffaephmacGreatCutRestStatesAE
import Derived.Deep.AppendLies
import Derived.Lib.SmallJoins
import Derived.Maps.Range
import Derived.Laws.IdiomStrings
import Derived.Laws.DeepStrings4
namespace Go.Proofs.YtjhkadffaephmacGreat
set_option maxHeartbeats 16000000
set_option maxRecDepth 100000
open Go.RowKit
theorem below_grown {w w':World}(h:Below w.heap.size w w'):w.grownBy w' none:=⟨h.os,h.tape,h.output,h.size,fun i hi _=>h.block i hi⟩
theorem ZA {w w':World}{base:Nat}{e:TypeId}{size:Nat}{v:Value}{n:Nat}{xs:List Value}(h:w.ownsRow base e size v n xs)(hb:Below w.heap.size w w'):w'.ownsRow base e size v n xs :=
 h.kept (below_grown hb) (by cases v.ownBlock <;> simp)
theorem nA {w w':World}{row:Option Nat}{B:Nat}(h:w.grownBy w' row)(hr:∀g,row=some g->B<=g)(hB:B<=w.heap.size):Below B w w' where
 os:=h.os
 tape:=h.tape
 output:=h.output
 size:=h.size
 block:=fun k hk=>h.block k (by omega) (fun e=>by have:=hr k e.symm;omega)
def JA (f:Nat->Int) (n:Nat):List Value:=(List.range n).map fun j=>Value.int .i64 (f j)
theorem OA (f:Nat->Int)(n:Nat):JA f (n+1)=JA f n ++ [.int .i64 (f n)]:=by simp[JA,List.range_succ]
theorem zC (f:Nat->Int)(n:Nat):(JA f n).length=n:=by simp[JA]
theorem NB {f:Nat->Int}{n j:Nat}(h:j<n):(JA f n)[j]? = some (.int .i64 (f j)):=by simp[JA,h]
theorem lG {f g:Nat->Int}{n:Nat}(h:∀j,j<n->f j=g j):JA f n=JA g n:=by
 unfold JA;apply List.map_congr_left;intro j hj;rw[h j (by simpa using hj)]
theorem SQ {f:Nat->Int}{n j:Nat}{z:Int}:(JA f n).set j (.int .i64 z)=JA (fun i=>if i=j then z else f i) n:=by
 apply List.ext_getElem?;intro i;by_cases hi:i<n
 ·rw[NB hi];by_cases e:i=j
  ·subst e;rw[List.getElem?_set_self (by rw[zC];exact hi)];simp
  ·rw[List.getElem?_set_ne (Ne.symm e),NB hi];simp[e]
 ·rw[List.getElem?_eq_none (by rw[List.length_set,zC];omega),List.getElem?_eq_none (by rw[zC];omega)]
def oF (g c:Nat->Nat) (p n:Nat):List Value:=(List.range n).map fun r=>Value.slice (some ⟨g r,0,none⟩) p (c r)
theorem qL {g c:Nat->Nat}{p n r:Nat}(h:r<n):(oF g c p n)[r]? = some (.slice (some ⟨g r,0,none⟩) p (c r)):=by simp[oF,h]
theorem VM {g c g' c':Nat->Nat}{p n:Nat}(h:∀r,r<n->g r=g' r/\c r=c' r):oF g c p n=oF g' c' p n:=by
 unfold oF;apply List.map_congr_left;intro r hr;obtain⟨h1,h2⟩:=h r (by simpa using hr);rw[h1,h2]
theorem MO (g c:Nat->Nat)(p n:Nat):oF g c p (n+1)=oF g c p n ++ [.slice (some ⟨g n,0,none⟩) p (c n)]:=by simp[oF,List.range_succ]
def BA (lo hi:Nat) (V:Value) (n p:Nat) (Z:Nat->Nat->Int) (w:World):Prop :=
 ∃g c:Nat->Nat,w.ownsRow lo 32 1 V n (oF g c p n)/\(∀k,V.ownBlock=some k->k<hi) /\
  (∀r,r<n->w.ownsRow lo 3 1 (.slice (some ⟨g r,0,none⟩) p (c r)) p (JA (Z r) p)/\g r<hi/\V.ownBlock≠some (g r)) /\
  (∀r s,r<n->s<n->r≠s->g r≠g s)
theorem BA.nil (lo hi p:Nat)(Z:Nat->Nat->Int)(w:World):BA lo hi (.slice none 0 0) 0 p Z w :=
 ⟨fun _=>0,fun _=>0,World.ownsRow_nil w lo _ 1,fun k hk=>by simp[Value.ownBlock]at hk,fun r hr=>absurd hr nZ,fun r s hr=>absurd hr nZ⟩
theorem BA.kept {lo hi:Nat}{V:Value}{n p:Nat}{Z:Nat->Nat->Int}{w w':World}{row:Option Nat}(h:BA lo hi V n p Z w)(hg:w.grownBy w' row)(hr:∀k,row=some k->k<lo\/hi<=k):BA lo hi V n p Z w':=by
 obtain⟨g,c,h1,h2,h3,h4⟩:=h;refine⟨g,c,h1.kept hg ?_,h2,fun r hr'=>⟨(h3 r hr').1.kept hg (Or.inr ?_),(h3 r hr').2⟩,h4⟩
 ·cases hv:V.ownBlock with
  | none=>exact Or.inl rfl
  | some k =>
   refine Or.inr (fun e=>?_);have d0:=(h1.lt k hv).1;have f0:=h2 k hv;rcases hr k e.symm with h | h <;> omega
 ·intro e;have d0:=((h3 r hr').1.lt (g r) rfl).1;have f0:=(h3 r hr').2.1;rcases hr (g r) e.symm with h | h <;> omega
theorem BA.below {lo hi:Nat}{V:Value}{n p:Nat}{Z:Nat->Nat->Int}{w w':World}(h:BA lo hi V n p Z w)(hb:Below w.heap.size w w'):BA lo hi V n p Z w' :=
 h.kept (below_grown hb) (fun k hk=>by cases hk)
theorem BA.alloc {lo hi:Nat}{V:Value}{n p:Nat}{Z:Nat->Nat->Int}{w:World}(h:BA lo hi V n p Z w)(o:Obj):BA lo hi V n p Z (w.alloc o) :=
 h.kept (World.grownBy_alloc w o none) (fun k hk=>by cases hk)
theorem BA.mono {lo hi lo' hi':Nat}{V:Value}{n p:Nat}{Z:Nat->Nat->Int}{w:World}(h:BA lo hi V n p Z w)(h1:lo'<=lo)(h2:hi<=hi'):BA lo' hi' V n p Z w:=by
 obtain⟨g,c,k1,k2,k3,k4⟩:=h;exact⟨g,c,Go.Joins.ownsRow_le k1 h1,fun k hk=>Nat.lt_of_lt_of_le (k2 k hk) h2,fun r hr=>⟨Go.Joins.ownsRow_le (k3 r hr).1 h1,Nat.lt_of_lt_of_le (k3 r hr).2.1 h2,(k3 r hr).2.2⟩,k4⟩
theorem BA.congr {lo hi:Nat}{V:Value}{n p:Nat}{Z Z':Nat->Nat->Int}{w:World}(h:BA lo hi V n p Z w)(hz:∀r,r<n->∀j,j<p->Z r j=Z' r j):BA lo hi V n p Z' w:=by
 obtain⟨g,c,k1,k2,k3,k4⟩:=h;exact⟨g,c,k1,k2,fun r hr=>⟨by rw[<-lG (hz r hr)];exact(k3 r hr).1,(k3 r hr).2⟩,k4⟩
theorem BA.push {lo H0:Nat}{V:Value}{n p:Nat}{Z:Nat->Nat->Int}{w1:World}{g c:Nat->Nat}
 (k1:w1.ownsRow lo 32 1 V n (oF g c p n)) (k2:∀k,V.ownBlock=some k->k<H0)
 (k3:∀r,r<n->w1.ownsRow lo 3 1 (.slice (some ⟨g r,0,none⟩) p (c r)) p (JA (Z r) p)/\g r<H0/\V.ownBlock≠some (g r)) (k4:∀r s,r<n->s<n->r≠s->g r≠g s)
 (hlo:lo<=H0) {gn cn:Nat} (hrow:w1.ownsRow H0 3 1 (.slice (some ⟨gn,0,none⟩) p cn) p (JA (Z n) p))
 {w2:World} {g' cap':Nat} (hown:w2.ownsRow lo 32 1 (.slice (some ⟨g',0,none⟩) (n+1) cap') (n+1) (oF g c p n ++ [.slice (some ⟨gn,0,none⟩) p cn])) (hgrow:w1.grownBy w2 V.ownBlock)
 (hat:V.ownBlock=some g'\/g'=w1.heap.size):BA lo w2.heap.size (.slice (some ⟨g',0,none⟩) (n+1) cap') (n+1) p Z w2:=by
 have:=hrow.lt gn rfl;have:g'<w2.heap.size:=(hown.lt g' rfl).2;have d0:∀k,V.ownBlock=some k->k≠gn:=fun k hk e=>by have:=k2 k hk;omega
 have f0:g'≠gn:=by
  rcases hat with h | h
  ·exact d0 g' h
  ·omega
 refine⟨fun r=>if r=n then gn else g r,fun r=>if r=n then cn else c r,?_,?_,?_,?_⟩
 ·rw[MO];simp only[if_true];rw[VM (g:=fun r=>if r=n then gn else g r) (c:=fun r=>if r=n then cn else c r) (g':=g) (c':=c) (fun r hr=>by simp[show r≠n by omega])];exact hown
 ·intro k hk;have:k=g':=by simpa [Value.ownBlock] using hk.symm
  omega
 ·intro r hr;by_cases e:r=n
  ·subst e;simp only[if_true];refine⟨(Go.Joins.ownsRow_le hrow hlo).kept hgrow (Or.inr (fun e'=>?_)),by have:=hgrow.size;omega,fun e'=>?_⟩
   ·exact d0 gn (by rw[<-e'];rfl) rfl
   ·exact f0 (by simpa [Value.ownBlock] using e')
  ·simp only[if_neg e];obtain⟨q1,q2,q3⟩:=k3 r (by omega);refine⟨q1.kept hgrow (Or.inr (fun e'=>q3 (by rw[<-e'];rfl))),?_,fun e'=>?_⟩
   ·have:=(q1.lt (g r) rfl).2;have:=hgrow.size;omega
   ·have e2:g'=g r:=by simpa [Value.ownBlock] using e'
    rcases hat with h | h
    ·exact q3 (by rw[h,e2])
    ·have:=(q1.lt (g r) rfl).2;omega
 ·intro r s hr hs g0;by_cases e1:r=n
  ·subst e1;have e2:s≠r:=Ne.symm g0;simp only[if_true,if_neg e2];have:=(k3 s (by omega)).2.1;omega
  ·by_cases e2:s=n
   ·subst e2;simp only[if_true,if_neg e1];have:=(k3 r (by omega)).2.1;omega
   ·simp only[if_neg e1,if_neg e2];exact k4 r s (by omega) (by omega) g0
theorem BA.mat {lo hi:Nat}{V:Value}{n p:Nat}{Z:Nat->Nat->Int}{w:World}(h:BA lo hi V n p Z w)(hn:n<=100)(hp:p<=100):
 ∃m:Mat,V=m.val/\m.t=⟨n,fun _=>p,Z⟩/\m.In w.heap.size w/\m.From lo/\m.Soft w:=by
 obtain⟨g,c,k1,_,k3,_⟩:=h;rcases Go.Joins.ownsRow_forms k1 with ⟨rfl,rfl⟩ | ⟨gb,cap,rfl⟩
 ·refine⟨⟨none,0,0,0,fun _=>none,fun _=>0,fun _=>0,fun _=>0,⟨0,fun _=>p,Z⟩⟩,rfl,rfl,⟨?_,?_,?_,?_,?_,zL,?_⟩,⟨?_,?_⟩,fun _ h=>absurd h nZ⟩
  ·exact fun h=>absurd h nZ
  ·exact fun h=>absurd h nZ
  ·exact fun _ h=>absurd h nZ
  ·exact fun _ h=>absurd h nZ
  ·exact fun _ h=>absurd h nZ
  ·exact fun _ h=>absurd h nZ
  ·exact fun h=>absurd h nZ
  ·exact fun _ h=>absurd h nZ
 ·refine⟨⟨some ⟨gb,0,none⟩,gb,0,cap,fun r=>some ⟨g r,0,none⟩,c,g,fun _=>0,⟨n,fun _=>p,Z⟩⟩,rfl,rfl,⟨fun _=>rfl,fun _=>(k1.lt gb rfl).2,?_,?_,?_,?_,?_⟩,⟨fun _=>(k1.lt gb rfl).1,?_⟩,fun r hr _=>yB.own (k3 r hr).1⟩
  ·intro r hr;have d0:r<n:=hr;show w.cell? ⟨gb,0+r,none⟩=_;rw[Nat.zero_add,k1.cellAt r (by omega),qL d0]
  ·intro r hr _;exact⟨rfl,((k3 r hr).1.lt (g r) rfl).2⟩
  ·intro r hr j hj;have f0:j<p:=hj;show w.cell? ⟨g r,0+j,none⟩=_;rw[Nat.zero_add,(k3 r hr).1.cellAt j (by omega),NB f0]
  ·show n<=maxLen;unfold maxLen;omega
  ·intro r _;show p<=maxLen;unfold maxLen;omega
  ·intro r hr _;exact((k3 r hr).1.lt (g r) rfl).1
theorem BA.set {lo hi:Nat}{V:Value}{n p:Nat}{Z:Nat->Nat->Int}{w:World}{g c:Nat->Nat}
 (k1:w.ownsRow lo 32 1 V n (oF g c p n)) (k2:∀k,V.ownBlock=some k->k<hi)
 (k3:∀r,r<n->w.ownsRow lo 3 1 (.slice (some ⟨g r,0,none⟩) p (c r)) p (JA (Z r) p)/\g r<hi/\V.ownBlock≠some (g r)) (k4:∀r s,r<n->s<n->r≠s->g r≠g s)
 {r j:Nat} (hr:r<n) (z:Int):BA lo hi V n p (fun a b=>if a=r/\b=j then z else Z a b) (w.setCell ⟨g r,j,none⟩ (.int .i64 z)):=by
 obtain⟨q1,q2,q3⟩:=k3 r hr;obtain⟨s1,s2⟩:=q1.stored j (.int .i64 z);refine⟨g,c,k1.kept s2 ?_,k2,fun s hs=>⟨?_,(k3 s hs).2⟩,k4⟩
 ·cases hv:V.ownBlock with
  | none=>exact Or.inl rfl
  | some k=>exact Or.inr (by rw[<-hv];exact q3)
 ·by_cases e:s=r
  ·subst e;rw[SQ]at s1;have e2:JA (fun i=>if i=j then z else Z s i) p=JA (fun b=>if s=s/\b=j then z else Z s b) p:=lG (fun b _=>by simp);rw[<-e2];exact s1
  ·have e2:JA (fun b=>if s=r/\b=j then z else Z s b) p=JA (Z s) p:=lG (fun b _=>by simp[e]);show (World.setCell w _ _).ownsRow lo 3 1 _ p (JA (fun b=>if s=r/\b=j then z else Z s b) p);rw[e2];exact(k3 s hs).1.kept s2 (Or.inr (fun e'=>k4 s r hs hr e (by simpa [Value.ownBlock] using e')))
end Go.Proofs.YtjhkadffaephmacGreat

namespace Go.Proofs.YtjhkadffaephmacGreat
set_option maxHeartbeats 16000000
set_option maxRecDepth 100000
structure Pkt where
 F:Int
 T:Int
 n:Nat
 R:Nat->Int
def u8 (x:Int):UInt8:=UInt8.ofNat x.toNat
theorem xC {x:Int}(h0:0<=x)(h1:x<256):((u8 x).toNat:Int)=x:=by
 unfold u8;rw[UInt8.toNat_ofNat'];omega
theorem yU (b:UInt8):u8 (b.toNat:Int)=b:=by
 unfold u8;rw[Int.toNat_natCast];exact UInt8.ofNat_toNat
def ZI (s:Nat) (b:UInt8):Nat:=(31*s+b.toNat) % 65521
def sumOf (l:List UInt8):Nat:=l.foldl ZI 1
theorem zO (s:Nat)(b:UInt8):ZI s b<65521:=Nat.mod_lt _ (by decide)
theorem sJ:∀ (l:List UInt8) (s:Nat),s<65521->l.foldl ZI s<65521
 | [],_,h=>h
 | b :: l,s,_=>sJ l _ (zO s b)
theorem CE (l:List UInt8):sumOf l<65521:=sJ l 1 (by decide)
theorem rJ (l:List UInt8)(b:UInt8):sumOf (l ++ [b])=ZI (sumOf l) b:=by
 simp[sumOf,List.foldl_append]
def inB (x:Int):Bool:=decide (0<=x) && decide (x<=250)
def Pkt.routesIn (p:Pkt):Bool:=(List.range p.n).all fun i=>inB (p.R i)
theorem Pkt.routesIn_iff {p:Pkt}:p.routesIn=true↔∀i,i<p.n->0<=p.R i/\p.R i<=250:=by
 simp[Pkt.routesIn,inB]
theorem Pkt.routesIn_false {p:Pkt}{i:Nat}(h:i<p.n)(hn:¬ (0<=p.R i/\p.R i<=250)):p.routesIn=false:=by
 rw[Bool.eq_false_iff];intro hw;exact hn (Pkt.routesIn_iff.1 hw i h)
def Pkt.inRange (p:Pkt):Bool:=inB p.F && inB p.T && p.routesIn
def Pkt.routes (p:Pkt):List UInt8:=(List.range p.n).map fun i=>u8 (p.R i)
def Pkt.body (p:Pkt):List UInt8:=[83,u8 p.F,u8 p.T,u8 p.n] ++ p.routes
def TH (s:Nat):List UInt8:=[UInt8.ofNat (s / 256),UInt8.ofNat (s % 256)]
def Pkt.bytes (p:Pkt):List UInt8:=p.body ++ TH (sumOf p.body)
def Pkt.err (p:Pkt):Int:=if p.inRange=false then 3 else if 60<p.n+6 then 2 else 0
def Pkt.text (p:Pkt):List UInt8:=if p.err=0 then p.bytes else []
theorem Pkt.routes_length (p:Pkt):p.routes.length=p.n:=by simp[Pkt.routes]
theorem Pkt.body_length (p:Pkt):p.body.length=p.n+4:=by simp[Pkt.body,Pkt.routes_length]
theorem Pkt.bytes_length (p:Pkt):p.bytes.length=p.n+6:=by simp[Pkt.bytes,Pkt.body_length,TH]
theorem Pkt.err_ok {p:Pkt}(h:p.err=0):p.inRange=true/\p.n+6<=60:=by
 unfold Pkt.err at h;split at h
 ·cases h
 ·next h1 =>
  split at h
  ·cases h
  ·next h2=>exact⟨by simpa using h1,by omega⟩
theorem Pkt.err_of {p:Pkt}(h:p.inRange=true)(h2:p.n+6<=60):p.err=0:=by
 unfold Pkt.err;rw[if_neg (by simp[h]),if_neg (by omega)]
def Pkt.same (p q:Pkt):Prop:=p.F=q.F/\p.T=q.T/\p.n=q.n/\∀i,i<p.n->p.R i=q.R i
theorem Pkt.same_inRange {p q:Pkt}(h:p.same q):p.inRange=q.inRange:=by
 have e:p.routesIn=q.routesIn:=by
  rw[Bool.eq_iff_iff,Pkt.routesIn_iff,Pkt.routesIn_iff];constructor
  ·intro k i hi;have:=h.2.2.1;rw[<-h.2.2.2 i (by omega)];exact k i (by omega)
  ·intro k i hi;have:=h.2.2.1;rw[h.2.2.2 i hi];exact k i (by omega)
 unfold Pkt.inRange;rw[h.1,h.2.1,e]
theorem Pkt.same_routes {p q:Pkt}(h:p.same q):p.routes=q.routes:=by
 unfold Pkt.routes;rw[h.2.2.1];apply List.map_congr_left;intro i hi;rw[h.2.2.2 i (by rw[h.2.2.1];simpa using hi)]
theorem Pkt.same_bytes {p q:Pkt}(h:p.same q):p.bytes=q.bytes:=by
 unfold Pkt.bytes Pkt.body;rw[Pkt.same_routes h,h.1,h.2.1,h.2.2.1]
theorem Pkt.same_err {p q:Pkt}(h:p.same q):p.err=q.err:=by
 unfold Pkt.err;rw[Pkt.same_inRange h,h.2.2.1]
theorem Pkt.same_text {p q:Pkt}(h:p.same q):p.text=q.text:=by
 unfold Pkt.text;rw[Pkt.same_err h,Pkt.same_bytes h]
def LA (l:List UInt8):Pkt:=⟨((l.getD 1 0).toNat:Int),((l.getD 2 0).toNat:Int),l.length-6,fun i=>((l.getD (4+i) 0).toNat:Int)⟩
def UA (l:List UInt8):Int:=if 60<l.length then 2 else if l.length<6 then 1 else if (LA l).err=0/\(LA l).bytes=l then 0 else 1
def XH (l:List UInt8):Pkt:=if UA l=0 then LA l else ⟨0,0,0,fun _=>0⟩
theorem oJ {s:Nat}(h:s<65521)(x y:UInt8):TH s=[x,y]↔s=256*x.toNat+y.toNat:=by
 have hx:=x.toNat_lt;have hy:=y.toNat_lt;unfold TH;constructor
 ·intro e;injection e with e1 e2;injection e2 with e2 _;have h1:=congrArg UInt8.toNat e1;have h2:=congrArg UInt8.toNat e2;rw[UInt8.toNat_ofNat']at h1 h2;omega
 ·intro e;have h1:UInt8.ofNat (s / 256)=x:=by
   apply UInt8.toNat_inj.1;rw[UInt8.toNat_ofNat'];omega
  have h2:UInt8.ofNat (s % 256)=y:=by
   apply UInt8.toNat_inj.1;rw[UInt8.toNat_ofNat'];omega
  rw[h1,h2]
theorem aS:∀ (l:List UInt8),6<=l.length->∃a b c d r x y,l=[a,b,c,d] ++ r ++ [x,y]:=by
 intro l h
 match l,h with
 | a :: b :: c :: d :: m,h =>
  have hm:2<=m.length:=by simp at h;omega
  refine⟨a,b,c,d,m.take (m.length-2),m[m.length-2],m[m.length-1],?_⟩;have:m.drop (m.length-2)=[m[m.length-2],m[m.length-1]]:=by
   apply List.ext_getElem
   ·simp;omega
   ·intro i h1 h2;simp at h2
    match i,h2 with
    | 0,_=>simp
    | 1,_=>simp;congr 1;omega
  rw[List.append_assoc,<-this,List.take_append_drop];rfl
theorem XC (a b c d:UInt8)(r:List UInt8)(x y:UInt8):(LA ([a,b,c,d] ++ r ++ [x,y])).same ⟨(b.toNat:Int),(c.toNat:Int),r.length,fun i=>((r.getD i 0).toNat:Int)⟩:=by
 refine⟨by simp[LA],by simp[LA],by simp[LA],?_⟩;intro i hi;simp[LA]at hi;have h2:([a,b,c,d] ++ r ++ [x,y]).getD (4+i) 0=r.getD i 0:=by
  have e:[a,b,c,d] ++ r ++ [x,y]=[a,b,c,d] ++ (r ++ [x,y]):=by simp
  rw[e,List.getD_eq_getElem?_getD,List.getElem?_append_right (by simp),List.getElem?_append_left (by simpa using hi),List.getD_eq_getElem?_getD];simp
 show (((([a,b,c,d] ++ r ++ [x,y]).getD (4+i) 0).toNat:Nat):Int)=_;rw[h2]
theorem XM (r:List UInt8)(F T:Int):(Pkt.mk F T r.length fun i=>((r.getD i 0).toNat:Int)).routes=r:=by
 apply List.ext_getElem
 ·simp[Pkt.routes]
 ·intro i h1 h2;simp only[Pkt.routes,List.getElem_map,List.getElem_range,yU];rw[List.getD_eq_getElem?_getD,List.getElem?_eq_getElem h2];rfl
theorem ER {a b c d:UInt8}{r:List UInt8}{x y:UInt8}(h:r.length<=54):
 (LA ([a,b,c,d] ++ r ++ [x,y])).bytes=[a,b,c,d] ++ r ++ [x,y]↔a=83/\d.toNat=r.length/\sumOf ([a,b,c,d] ++ r)=256*x.toNat+y.toNat:=by
 rw[Pkt.same_bytes (XC a b c d r x y)];unfold Pkt.bytes Pkt.body;rw[XM];simp only[yU];have d0:(u8 (r.length:Int)).toNat=r.length:=by
  have:=xC (x:=(r.length:Int)) (by omega) (by omega);omega
 constructor
 ·intro e;obtain⟨e1,e2⟩:=List.append_inj' e (by simp[TH]);simp only[List.cons_append,List.nil_append,List.cons.injEq]at e1;obtain⟨rfl,_,_,rfl,_⟩:=e1;exact⟨rfl,d0,(oJ (CE _) x y).1 e2⟩
 ·rintro⟨rfl,e,hs⟩;have hd:u8 (r.length:Int)=d:=UInt8.toNat_inj.1 (by rw[d0,e]);rw[hd,(oJ (CE _) x y).2 hs]
end Go.Proofs.YtjhkadffaephmacGreat

namespace Go.Proofs.YtjhkadffaephmacGreat
set_option maxHeartbeats 16000000
set_option maxRecDepth 100000
open Go.RowKit
structure Bytes (a:Option Addr) (l:List UInt8) (b o:Nat) (w:World):Prop where
 addr:0<l.length->a=some ⟨b,o,none⟩
 cell:∀ (i:Nat) (h:i<l.length),w.cell? ⟨b,o+i,none⟩=some (.int .u8 (l[i].toNat:Int))
def DC (l:List UInt8):List Value:=l.map fun b=>Value.int .u8 (b.toNat:Int)
theorem cK (l:List UInt8):(DC l).length=l.length:=by simp[DC]
theorem VG (l m:List UInt8):DC (l ++ m)=DC l ++ DC m:=by simp[DC]
theorem dK {l:List UInt8}{i:Nat}(h:i<l.length):(DC l)[i]? = some (.int .u8 (l[i].toNat:Int)):=by simp[DC,h]
def txt (l:List UInt8):Value:=.string ⟨l.toArray⟩
theorem TT (a:Option Addr)(l:List UInt8)(c b o:Nat)(w:World)(h:Bytes a l b o w)(hl:l.length<=100):
 Calls Tryz.prog 148 #[.slice a l.length c] w fun e w'=>e=.returned (.int .i64 ((sumOf l:Nat):Int))/\w'=w:=by
 have H:=hide h;have HE:Hid (sumOf (l.take l.length)=sumOf l):=hide (by rw[List.take_length]);clear h;go_enter Tryz.func148,Tryz.ntmps148;go_wp2
 go_loop [3,5,8] (fun s _ i=>∃k:Nat,k<=l.length/\i=.int .i64 k/\s=.int .i64 ((sumOf (l.take k):Nat):Int)) (fun _ _ i=>l.length-(intOf i).toNat)
 case atStart=>exact⟨0,zL,rfl,rfl⟩
 case round =>
  obtain⟨k,hk,rfl,rfl⟩:=hrel;by_cases d0:k<l.length
  ·have:=H.out.addr (by omega);have:=H.out.cell k d0;have:=CE (l.take k);have:=(l[k]).toNat_lt;have Hn:Hid (sumOf (l.take (k+1))=(31*sumOf (l.take k)+(l[k]).toNat) % 65521):=hide (by rw[List.take_succ_eq_append_getElem d0,rJ];rfl);generalize sumOf (l.take k)=s at *;generalize (l[k]).toNat=bv at *;have:(k:Int)<(l.length:Int):=by omega
   go_wp2
   go_round
   case rel=>exact⟨k+1,by omega,by go_num,by rw[Hn.out];go_num⟩
   case measure=>simp[intOf];omega
  ·have f0:k=l.length:=by omega
   subst f0;rw[HE.out];go_wp2;go_ret;exact⟨rfl,rfl⟩
theorem MH (args:Array Value)(W:World):(callFunc 147 args).run Tryz.prog W=.ok (.enter 147 args) W:=by rfl
theorem dH (x:Int)(w:World):
 Calls Tryz.prog 147 #[.int .i64 x] w fun e w'=>e=.returned (.bool (!inB x))/\w'=w:=by
 by_cases h:x<0
 ·have Hv:Hid (inB x=false):=hide (by unfold inB;simp;omega);go_enter Tryz.func147,Tryz.ntmps147;go_wp2;go_ret;exact⟨by rw[Hv.out];rfl,rfl⟩
 ·by_cases h2:250<x
  ·have Hv:Hid (inB x=false):=hide (by unfold inB;simp;omega);go_enter Tryz.func147,Tryz.ntmps147;go_wp2;go_ret;exact⟨by rw[Hv.out];simp,rfl⟩
  ·have Hv:Hid (inB x=true):=hide (by unfold inB;simp;omega);go_enter Tryz.func147,Tryz.ntmps147;go_wp2;go_ret;exact⟨by rw[Hv.out];simp,rfl⟩
structure lC where
 F:Int
 T:Int
 ra:Option Addr
 n:Nat
 rc:Nat
 rb:Nat
 ro:Nat
 R:Nat->Int
def lC.cells (p:lC):Array Value:=#[.int .i64 p.F,.int .i64 p.T,.slice p.ra p.n p.rc]
def lC.val (p:lC):Value:=.agg p.cells
def lC.pkt (p:lC):Pkt:=⟨p.F,p.T,p.n,p.R⟩
structure lC.In (p:lC) (N:Nat) (w:World):Prop where
 ints:Ints p.ra p.n p.rb p.ro p.R w
 lt:0<p.n->p.rb<N
 small:p.n<=17592186044416
theorem lC.In.below {p:lC}{N k:Nat}{w w':World}(h:p.In N w)(hb:Below k w w')(hk:N<=k):p.In N w':=⟨h.ints.below hb (fun h0=>Nat.lt_of_lt_of_le (h.lt h0) hk),h.lt,h.small⟩
theorem lC.In.grown {p:lC}{w w':World}(h:p.In w.heap.size w)(hb:Below w.heap.size w w'):p.In w'.heap.size w':=⟨(h.below hb lR).ints,fun h0=>Nat.lt_of_lt_of_le (h.lt h0) hb.size,h.small⟩
theorem Pkt.routes_any (p:Pkt):((List.range p.n).any fun i=>!inB (p.R i)) = !p.routesIn:=by
 unfold Pkt.routesIn;rw[List.all_eq_not_any_not,Bool.not_not]
theorem Tryz.infoByte:(Tryz.prog.info? 5).map (fun i=>(i.zero,i.size,i.bytes))=some (some (.int .u8 0),1,1):=by kernel_rfl
theorem wrap_u8 {x:Int}(h0:0<=x)(h1:x<256):IntKind.u8.wrap x=x:=by
 simp[IntKind.wrap,IntKind.bits,IntKind.signed];omega
end Go.Proofs.YtjhkadffaephmacGreat

namespace Go.Proofs.YtjhkadffaephmacGreat
set_option maxHeartbeats 16000000
set_option maxRecDepth 100000
structure XU where
 tn:Nat
 al:Nat->Nat
 act:Nat->Nat->Bool
 ages:Nat->Tab
section
variable {n:Net} {s:XU}
end
structure xB where
 F:Int
 T:Int
 b:List UInt8
structure Eng where
 R:Nat->Nat->Int
 told:Nat->Nat->Bool
 D:Nat->Nat->Nat->Int
 bag:List xB
structure Ev where
 kind:Int
 loc:Int
 b:Int
 c:Int
 n:Nat
 R:Nat->Int
def Eng.has (n:Net) (e:Eng) (i k j:Nat):Int:=if e.told i k=true then e.D i k j else n.a.size-1
def Eng.look (n:Net) (e:Eng) (i:Nat):Eng:={ e with R:=fun r j=>if r=i then n.route i j (fun k=>e.has n i k j) else e.R r j }
def Net.hearers (n:Net) (i:Nat):List Nat:=(List.range n.N).filter fun k=>decide (0<=n.edge k i)
def Eng.mail (n:Net) (e:Eng) (i k:Nat):xB:=⟨i,k,(Pkt.mk i k n.N (e.R i)).text⟩
def Eng.tick (n:Net) (e:Eng) (i:Nat):Eng:={ e.look n i with bag:=e.bag ++ (n.hearers i).map fun k=>(e.look n i).mail n i k }
def Eng.without (e:Eng) (k:Nat):Eng:={ e with bag:=e.bag.eraseIdx k }
def Eng.tell (e:Eng) (i k:Nat) (f:Nat->Int):Eng :=
 { e with told:=fun a b=>if a=i/\b=k then true else e.told a b,D:=fun a b=>if a=i/\b=k then f else e.D a b }
def Net.row (n:Net) (l:Nat) (f:Nat->Int):Int:=if (l:Int)≠n.nodes then 1 else if ((List.range l).all fun j=>decide (0<=f j) && decide (f j<n.a.size))=false then 5 else 0
def Net.heeds (n:Net) (m:xB):Prop:=UA m.b=0/\(LA m.b).F=m.F/\(LA m.b).T=m.T/\n.row (LA m.b).n (LA m.b).R=0/\0<=n.edge m.T m.F
abbrev Net.hD (n:Net) (m:xB):Decidable (n.heeds m):=by unfold Net.heeds;exact inferInstance
def Eng.take (n:Net) (e:Eng) (m:xB):Eng:=@ite Eng (n.heeds m) (n.hD m) ((e.tell m.T.toNat m.F.toNat (LA m.b).R).look n m.T.toNat) e
def zA:xB:=⟨0,0,[]⟩
def Eng.deliver (n:Net) (e:Eng) (k:Nat):Eng:=(e.without k).take n (e.bag.getD k zA)
def Eng.twice (e:Eng) (k:Nat):Eng:={ e with bag:=e.bag ++ [e.bag.getD k zA] }
def xB.spoil (m:xB) (i:Nat) (c:UInt8):xB:={ m with b:=m.b.set i (m.b.getD i 0 ^^^ c) }
def Eng.spoil (e:Eng) (k i:Nat) (c:UInt8):Eng:={ e with bag:=e.bag.set k ((e.bag.getD k zA).spoil i c) }
def Eng.expire (n:Net) (e:Eng) (i k:Nat):Eng:=Eng.look n { e with told:=fun a b=>if a=i/\b=k then false else e.told a b } i
def Eng.restart (e:Eng) (i:Nat) (f:Nat->Int):Eng :=
 { e with R:=fun r=>if r=i then f else e.R r,told:=fun a b=>if a=i then false else e.told a b }
def Eng.stepErr (n:Net) (e:Eng) (v:Ev):Int :=
 if v.kind<1\/7<v.kind then 7
 else if 2<=v.kind/\v.kind<=5 then
  if v.loc<0\/(e.bag.length:Int)<=v.loc then 5
  else if v.kind=3 then (if 120<=e.bag.length then 2 else 0)
  else if v.kind=5 then (if (v.b<0\/((e.bag.getD v.loc.toNat zA).b.length:Int)<=v.b)\/(v.c<1\/255<v.c) then 3 else 0)
  else 0
 else if v.loc<0\/n.nodes<=v.loc then 5
 else if v.kind=1 then (if 120<e.bag.length+(n.hearers v.loc.toNat).length then 2 else 0)
 else if v.kind=6 then (if v.b<0\/n.nodes<=v.b then 5 else 0)
 else n.row v.n v.R
def Eng.step (n:Net) (e:Eng) (v:Ev):Eng :=
 if v.kind=1 then e.tick n v.loc.toNat
 else if v.kind=2 then e.deliver n v.loc.toNat
 else if v.kind=3 then e.twice v.loc.toNat
 else if v.kind=4 then e.without v.loc.toNat
 else if v.kind=5 then e.spoil v.loc.toNat v.b.toNat (u8 v.c)
 else if v.kind=6 then e.expire n v.loc.toNat v.b.toNat
 else e.restart v.loc.toNat v.R
theorem Net.row_zero {n:Net}{l:Nat}{f:Nat->Int}:n.row l f=0↔(l:Int)=n.nodes/\∀j,j<l->0<=f j/\f j<n.a.size:=by
 unfold Net.row;split
 ·next h=>exact⟨fun e=>absurd e (by decide),fun e=>absurd e.1 h⟩
 ·next h =>
  have h':(l:Int)=n.nodes:=by omega
  split
  ·next h2 =>
   refine⟨fun e=>absurd e (by decide),fun e=>?_⟩;have:((List.range l).all fun j=>decide (0<=f j) && decide (f j<n.a.size))=true:=by simp;exact e.2
   rw[this]at h2;cases h2
  ·next h2 =>
   refine⟨fun _=>⟨h',?_⟩,fun _=>rfl⟩;simpa using h2
structure Eng.Fit (n:Net) (e:Eng):Prop where
 R:n.State e.R
 D:∀i k j,i<n.N->k<n.N->j<n.N->e.told i k=true->0<=e.D i k j/\e.D i k j<n.a.size
 many:e.bag.length<=120
 mail:∀m∈e.bag,(0<=m.F/\m.F<n.nodes)/\(0<=m.T/\m.T<n.nodes)/\m.b.length<=60
section
variable {n:Net}
theorem Eng.Fit.has (g:n.Good){e:Eng}(h:e.Fit n){i j:Nat}(hi:i<n.N)(hj:j<n.N):n.Routes (fun k=>e.has n i k j):=fun k hk=>by
 have lo:=g.law.good.lo;show 0<=e.has n i k j/\e.has n i k j<n.a.size;unfold Eng.has;split
 ·next ht=>exact h.D i k j hi hk hj ht
 ·omega
theorem Eng.Fit.look (g:n.Good){e:Eng}(h:e.Fit n){i:Nat}(hi:i<n.N):(e.look n i).Fit n :=
 ⟨fun r j hr hj=>by
  show 0<=(if r=i then _ else _)/\(if r=i then _ else _)<_;split
  ·exact n.route_in g (h.has g hi hj) i j
  ·exact h.R r j hr hj,h.D,h.many,h.mail⟩
theorem Eng.Fit.without {e:Eng}(h:e.Fit n)(k:Nat):(e.without k).Fit n :=
 ⟨h.R,h.D,by have:=h.many;have:=List.length_eraseIdx_le e.bag k;show (e.bag.eraseIdx k).length<=120;omega,fun m hm=>h.mail m (List.mem_of_mem_eraseIdx hm)⟩
theorem Net.nodes_N (g:n.Good):(n.N:Int)=n.nodes:=by
 have:=g.lo;unfold Net.N;omega
theorem Eng.Fit.tell {e:Eng}(h:e.Fit n){i k:Nat}{f:Nat->Int}(hf:∀j,j<n.N->0<=f j/\f j<n.a.size):(e.tell i k f).Fit n :=
 ⟨h.R,fun a b j ha hb hj ht=>by
  show 0<=(if a=i/\b=k then f else e.D a b) j/\(if a=i/\b=k then f else e.D a b) j<_;by_cases he:a=i/\b=k
  ·rw[if_pos he];exact hf j hj
  ·rw[if_neg he];have ht':(if a=i/\b=k then true else e.told a b)=true:=ht;rw[if_neg he]at ht';exact h.D a b j ha hb hj ht',h.many,h.mail⟩
theorem Net.edge_node (g:n.Good){i k:Int}(h:0<=n.edge i k):(0<=i/\i<n.nodes)/\(0<=k/\k<n.nodes):=by
 obtain⟨l,hl,e1,e2,_⟩:=Net.link_edge h;have:=g.link l hl;omega
theorem Eng.Fit.take (g:n.Good){e:Eng}(h:e.Fit n)(m:xB):(e.take n m).Fit n:=by
 unfold Eng.take;split
 ·next hm =>
  have hn:=n.nodes_N g;have hr:=Net.row_zero.1 hm.2.2.2.1;have he:=n.edge_node g hm.2.2.2.2;exact(h.tell fun j hj=>hr.2 j (by omega)).look g (by omega)
 ·exact h
theorem Eng.Fit.deliver (g:n.Good){e:Eng}(h:e.Fit n)(k:Nat):(e.deliver n k).Fit n:=(h.without k).take g _
theorem Net.hearers_le (i:Nat):(n.hearers i).length<=n.N:=by
 have:=List.length_filter_le (fun k:Nat=>decide (0<=n.edge k i)) (List.range n.N);simpa [Net.hearers] using this
theorem Net.mem_hearers {i k:Nat}:k∈n.hearers i↔k<n.N/\0<=n.edge k i:=by simp[Net.hearers]
theorem Eng.mail_err (g:n.Good){e:Eng}(h:e.Fit n){i k:Nat}(hi:i<n.N)(hk:k<n.N):(Pkt.mk i k n.N (e.R i)).err=0:=by
 have:=n.nodes_N g;have:=g.hi;have:=g.law.good.hi;apply Pkt.err_of
 ·unfold Pkt.inRange inB;simp only[Bool.and_eq_true,decide_eq_true_eq];exact⟨⟨⟨by omega,by omega⟩,⟨by omega,by omega⟩⟩,Pkt.routesIn_iff.2 fun j hj=>by have:=h.R i j hi hj;show 0<=e.R i j/\e.R i j<=250;omega⟩
 ·show n.N+6<=60;omega
theorem Eng.mail_text (g:n.Good){e:Eng}(h:e.Fit n){i k:Nat}(hi:i<n.N)(hk:k<n.N):(e.mail n i k).b=(Pkt.mk i k n.N (e.R i)).bytes:=by
 show (Pkt.mk i k n.N (e.R i)).text=_;unfold Pkt.text;rw[if_pos (Eng.mail_err g h hi hk)]
theorem Eng.Fit.tick (g:n.Good){e:Eng}(h:e.Fit n){i:Nat}(hi:i<n.N)(hb:e.bag.length+(n.hearers i).length<=120):(e.tick n i).Fit n:=by
 have hl:=h.look g hi;have:=n.nodes_N g;refine⟨hl.R,hl.D,?_,?_⟩
 ·show (e.bag ++ (n.hearers i).map fun k=>(e.look n i).mail n i k).length<=120;simp;exact hb
 ·intro m hm;have d0:m∈e.bag ++ (n.hearers i).map fun k=>(e.look n i).mail n i k:=hm;rcases List.mem_append.1 d0 with h1 | h1
  ·exact h.mail m h1
  ·obtain⟨k,hk,rfl⟩:=List.mem_map.1 h1;have f0:=Net.mem_hearers.1 hk;refine⟨⟨by show 0<=(i:Int);omega,by show (i:Int)<_;omega⟩,⟨by show 0<=(k:Int);omega,by show (k:Int)<_;omega⟩,?_⟩;rw[Eng.mail_text g hl hi f0.1,Pkt.bytes_length];show n.N+6<=60;have:=g.hi;omega
theorem UD {α:Type}{l:List α}{k:Nat}{d:α}(h:k<l.length):l.getD k d∈l:=by
 rw[List.getD_eq_getElem?_getD,List.getElem?_eq_getElem h];exact List.getElem_mem h
theorem Eng.Fit.step (g:n.Good){e:Eng}(h:e.Fit n){v:Ev}(hv:e.stepErr n v=0):(e.step n v).Fit n:=by
 have hn:=n.nodes_N g;unfold Eng.stepErr at hv;split at hv
 ·cases hv
 ·next hk =>
  unfold Eng.step;split at hv
  ·next hm =>
   split at hv
   ·cases hv
   ·next hl =>
    have d0:v.loc.toNat<e.bag.length:=by omega
    rw[if_neg (by omega)];split
    ·exact h.deliver g _
    ·split
     ·next h3 =>
      rw[if_pos h3]at hv;split at hv
      ·cases hv
      ·refine⟨h.R,h.D,?_,?_⟩
       ·show (e.bag ++ [_]).length<=120;simp;omega
       ·intro m g0;rcases List.mem_append.1 (show m∈e.bag ++ [_] from g0) with h1 | h1
        ·exact h.mail m h1
        ·rw[List.mem_singleton.1 h1];exact h.mail _ (UD d0)
     ·next h3 =>
      rw[if_neg h3]at hv;split
      ·exact h.without _
      ·have h5:v.kind=5:=by omega
       rw[if_pos h5];refine⟨h.R,h.D,?_,?_⟩
       ·show (e.bag.set _ _).length<=120;rw[List.length_set];exact h.many
       ·intro m g0;rcases List.mem_or_eq_of_mem_set (show m∈e.bag.set _ _ from g0) with h1 | h1
        ·exact h.mail m h1
        ·subst h1;have:=h.mail _ (UD (d:=zA) d0);refine⟨this.1,this.2.1,?_⟩;show (List.set _ _ _).length<=60;rw[List.length_set];exact this.2.2
  ·next hm =>
   split at hv
   ·cases hv
   ·next hl =>
    have d0:v.loc.toNat<n.N:=by omega
    split
    ·next h1 =>
     rw[if_pos h1]at hv;split at hv
     ·cases hv
     ·exact h.tick g d0 (by omega)
    ·next h1 =>
     rw[if_neg h1]at hv;rw[if_neg (by omega),if_neg (by omega),if_neg (by omega),if_neg (by omega)];split
     ·next h6 =>
      refine Eng.Fit.look g (e:={ e with told:=fun a b=>if a=v.loc.toNat/\b=v.b.toNat then false else e.told a b }) ⟨h.R,fun a b j ha hb hj ht=>?_,h.many,h.mail⟩ d0;have f0:(if a=v.loc.toNat/\b=v.b.toNat then false else e.told a b)=true:=ht;split at f0
      ·cases f0
      ·exact h.D a b j ha hb hj f0
     ·next h6 =>
      rw[if_neg h6]at hv;have hr:=Net.row_zero.1 hv;refine⟨fun r j hr' hj=>?_,fun a b j ha hb hj ht=>?_,h.many,h.mail⟩
      ·show 0<=(if r=v.loc.toNat then v.R else e.R r) j/\(if r=v.loc.toNat then v.R else e.R r) j<_;split
       ·exact hr.2 j (by omega)
       ·exact h.R r j hr' hj
      ·have f0:(if a=v.loc.toNat then false else e.told a b)=true:=ht;split at f0
       ·cases f0
       ·exact h.D a b j ha hb hj f0
end
end Go.Proofs.YtjhkadffaephmacGreat

namespace Go.Proofs.YtjhkadffaephmacGreat
set_option maxHeartbeats 16000000
set_option maxRecDepth 100000
open Go.RowKit
structure BB where
 ra:Option Addr
 rl:Nat
 rc:Nat
 rb:Nat
 ro:Nat
 R:Nat->Int
 T:Mat
def BB.cells (r:BB):Array Value:=#[.slice r.ra r.rl r.rc,r.T.val]
def BB.val (r:BB):Value:=.agg r.cells
structure BB.In (r:BB) (N:Nat) (w:World):Prop where
 ints:Ints r.ra r.rl r.rb r.ro r.R w
 lt:0<r.rl->r.rb<N
 T:r.T.In N w
theorem BB.In.below {r:BB}{N k:Nat}{w w':World}(h:r.In N w)(hb:Below k w w')(hk:N<=k):r.In N w' :=
 ⟨h.ints.below hb (fun h0=>Nat.lt_of_lt_of_le (h.lt h0) hk),h.lt,h.T.below hb hk⟩
theorem BB.In.mono {r:BB}{N k:Nat}{w:World}(h:r.In N w)(hk:N<=k):r.In k w:=⟨h.ints,fun h0=>Nat.lt_of_lt_of_le (h.lt h0) hk,h.T.mono hk⟩
structure kC where
 ga:Option Addr
 gn:Nat
 gc:Nat
 gb:Nat
 go:Nat
 r:Nat->BB
def kC.val (x:kC):Value:=.slice x.ga x.gn x.gc
structure kC.In (x:kC) (N:Nat) (w:World):Prop where
 ga:0<x.gn->x.ga=some ⟨x.gb,x.go,none⟩
 gb:0<x.gn->x.gb<N
 c0:∀i,i<x.gn->w.cell? ⟨x.gb,x.go+i*2,none⟩=some (.slice (x.r i).ra (x.r i).rl (x.r i).rc)
 c1:∀i,i<x.gn->w.cell? ⟨x.gb,x.go+i*2+1,none⟩=some (.slice (x.r i).T.ga (x.r i).T.t.len (x.r i).T.cap)
 r:∀i,i<x.gn->(x.r i).In N w
 len:x.gn<=maxLen
theorem kC.In.below {x:kC}{N k:Nat}{w w':World}(h:x.In N w)(hb:Below k w w')(hk:N<=k):x.In N w' where
 ga:=h.ga
 gb:=h.gb
 c0:=fun i hi=>by rw[hb.cell (p:=⟨x.gb,x.go+i*2,none⟩) (Nat.lt_of_lt_of_le (h.gb (by omega)) hk)];exact h.c0 i hi
 c1:=fun i hi=>by rw[hb.cell (p:=⟨x.gb,x.go+i*2+1,none⟩) (Nat.lt_of_lt_of_le (h.gb (by omega)) hk)];exact h.c1 i hi
 r:=fun i hi=>(h.r i hi).below hb hk
 len:=h.len
theorem kC.In.mono {x:kC}{N k:Nat}{w:World}(h:x.In N w)(hk:N<=k):x.In k w :=
 ⟨h.ga,fun h0=>Nat.lt_of_lt_of_le (h.gb h0) hk,h.c0,h.c1,fun i hi=>(h.r i hi).mono hk,h.len⟩
theorem kC.In.grown {x:kC}{w w':World}(h:x.In w.heap.size w)(hb:Below w.heap.size w w'):x.In w'.heap.size w':=(h.below hb lR).mono hb.size
structure TC where
 ba:Option Addr
 bn:Nat
 bc:Nat
 bb:Nat
 bo:Nat
 M:Nat->xB
def TC.val (x:TC):Value:=.slice x.ba x.bn x.bc
structure TC.In (x:TC) (N:Nat) (w:World):Prop where
 ba:0<x.bn->x.ba=some ⟨x.bb,x.bo,none⟩
 bb:0<x.bn->x.bb<N
 c0:∀i,i<x.bn->w.cell? ⟨x.bb,x.bo+i*3,none⟩=some (.int .i64 (x.M i).F)
 c1:∀i,i<x.bn->w.cell? ⟨x.bb,x.bo+i*3+1,none⟩=some (.int .i64 (x.M i).T)
 c2:∀i,i<x.bn->w.cell? ⟨x.bb,x.bo+i*3+2,none⟩=some (.string ⟨(x.M i).b.toArray⟩)
 len:x.bn<=maxLen
 lens:∀i,i<x.bn->(x.M i).b.length<=maxLen
theorem TC.In.below {x:TC}{N k:Nat}{w w':World}(h:x.In N w)(hb:Below k w w')(hk:N<=k):x.In N w' where
 ba:=h.ba
 bb:=h.bb
 c0:=fun i hi=>by rw[hb.cell (p:=⟨x.bb,x.bo+i*3,none⟩) (Nat.lt_of_lt_of_le (h.bb (by omega)) hk)];exact h.c0 i hi
 c1:=fun i hi=>by rw[hb.cell (p:=⟨x.bb,x.bo+i*3+1,none⟩) (Nat.lt_of_lt_of_le (h.bb (by omega)) hk)];exact h.c1 i hi
 c2:=fun i hi=>by rw[hb.cell (p:=⟨x.bb,x.bo+i*3+2,none⟩) (Nat.lt_of_lt_of_le (h.bb (by omega)) hk)];exact h.c2 i hi
 len:=h.len
 lens:=h.lens
theorem TC.In.mono {x:TC}{N k:Nat}{w:World}(h:x.In N w)(hk:N<=k):x.In k w:=⟨h.ba,fun h0=>Nat.lt_of_lt_of_le (h.bb h0) hk,h.c0,h.c1,h.c2,h.len,h.lens⟩
theorem TC.In.grown {x:TC}{w w':World}(h:x.In w.heap.size w)(hb:Below w.heap.size w w'):x.In w'.heap.size w':=(h.below hb lR).mono hb.size
structure iA where
 rs:kC
 bag:TC
def iA.cells (e:iA):Array Value:=#[.slice e.rs.ga e.rs.gn e.rs.gc,.slice e.bag.ba e.bag.bn e.bag.bc]
def iA.val (e:iA):Value:=.agg e.cells
structure iA.In (e:iA) (N:Nat) (w:World):Prop where
 rs:e.rs.In N w
 bag:e.bag.In N w
theorem iA.In.below {e:iA}{N k:Nat}{w w':World}(h:e.In N w)(hb:Below k w w')(hk:N<=k):e.In N w':=⟨h.rs.below hb hk,h.bag.below hb hk⟩
theorem iA.In.grown {e:iA}{w w':World}(h:e.In w.heap.size w)(hb:Below w.heap.size w w'):e.In w'.heap.size w':=⟨h.rs.grown hb,h.bag.grown hb⟩
def BB.shaped (r:BB) (n:Int):Bool:=((r.rl:Int) == n) && ((r.T.t.len:Int) == n) && (List.range r.T.t.len).all fun k=>!((r.T.t.L k:Int) != 0 && (r.T.t.L k:Int) != n)
def BB.sound (r:BB) (s:Int):Bool:=jB r.rl r.R s && (List.range r.T.t.len).all fun k=>jB (r.T.t.L k) (r.T.t.Z k) s
def kC.err (x:kC) (n:Net):Int :=
 if (x.gn:Int)≠n.nodes\/((List.range x.gn).any fun i=>!(x.r i).shaped n.nodes)=true then 1
 else if ((List.range x.gn).any fun i=>!(x.r i).sound n.a.size)=true then 5 else 0
def TC.err (x:TC) (n:Net):Int :=
 if 120<x.bn then 2
 else if ((List.range x.bn).any fun i=>!(decide (0<=(x.M i).F) && decide ((x.M i).F<n.nodes)) || !(decide (0<=(x.M i).T) && decide ((x.M i).T<n.nodes)))=true then 5
 else if ((List.range x.bn).any fun i=>decide (60<(x.M i).b.length))=true then 2 else 0
def iA.err (e:iA) (n:Net):Int:=if n.check≠0 then n.check else if e.rs.err n≠0 then e.rs.err n else e.bag.err n
def iA.eng (e:iA):Eng:=⟨fun i=>(e.rs.r i).R,fun i k=>decide ((e.rs.r i).T.t.L k≠0),fun i k=>(e.rs.r i).T.t.Z k,(List.range e.bag.bn).map e.bag.M⟩
end Go.Proofs.YtjhkadffaephmacGreat
